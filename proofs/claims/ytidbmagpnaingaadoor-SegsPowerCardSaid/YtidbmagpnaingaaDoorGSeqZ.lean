/- A range over a function whose iterator makes new memory alone between the rounds, and says which element comes behind which; the body is never left early. It speaks of no program. -/
import Derived.RangeFuncNested
import Derived.RangeFuncCalls
import Derived.RangeFuncLeaves
namespace Tide
open Go Go.RowKit

/-- The iterator's word: it hands over the elements, behind those of pre only an x of Z pre x, in the end a list of S, to whatever rounds; between them it makes new memory alone; each round keeps Kp. -/
def SeqZ {α : Type} (F : Fence) (n : Nat) (P : Program) (g : Nat) (lb : Array Value) (encs : α → Array Value) (Kp : World → World → Prop) (S : List α → Prop) (Z : List α → α → Prop) (w : World) : Prop :=
  ∀ (l : Nat) (J : List α → World → Prop) (W : World), Below w.heap.size w W → (∀ s A B, J s A → A.grownBy B none → J s B) →
    (∀ pre x A, J pre A → Z pre x → YieldAt F (n - 1) P l (encs x) A fun e B => e = .returned (.bool true) ∧ J (pre ++ [x]) B ∧ Kp A B) →
    J [] W → CallsIn F n P g (#[.func (.yield l) #[] #[]] ++ lb) W fun e W' => (∃ v, e = .returned v) ∧ ∃ xs, S xs ∧ J xs W'

variable {F : Fence} {n : Nat} {P : Program}

theorem range_z {α : Type} {g : Operand} {ps : Array Tmp} {assign body : Code} {Q : Exit → Act → World → Prop} {a : Act} {w : World}
    (hro : F.round = none) (h1 : 1 ≤ n) {gf : Nat} {lb : Array Value} (hg : a.eval g = .func (.func gf) #[] lb) (hF : F.fn gf) (eg : ∀ args w, (callFunc gf args).run P w = .ok (.enter gf args) w)
    {encs : α → Array Value} (hps : ∀ x, (encs x).size = ps.size) {Kp : World → World → Prop} {S : List α → Prop} {Z : List α → α → Prop} (hseq : SeqZ F (n - 1) P gf lb encs Kp S Z w)
    (hKt : ∀ {A B C : World}, Kp A B → Kp B C → Kp A C) (hKb : ∀ (W : World) (l : Nat) (o : Obj), w.heap.size ≤ l → Kp W (W.putObj l o))
    (I : List α → World → Prop) (hI : ∀ s A B, I s A → A.grownBy B none → I s B) (hIo : ∀ s A l o o', I s A → w.heap.size ≤ l → A.heap[l]? = some o → o.isCells = false → I s (A.putObj l o')) (h0 : I [] w)
    (a₁ : α → Act)
    (hassign : ∀ (l : Nat) (x : α) (W : World) (K : Act → World → Prop), K (a₁ x) W →
      assign.wpIn (F.inRound l) (n - 1 - 1) P (Exit.then K (fun _ _ _ => False)) { tmps := (ps.zip (encs x)).foldl (fun t (p, v) => t.setIfInBounds p v) a.tmps, defers := [] } W)
    (hbody : ∀ (l : Nat) (pre : List α) (x : α) (W : World), I pre W → Z pre x →
      body.wpIn (F.inRound l) (n - 1 - 1) P (fun e _ W' => e = .normal ∧ KeepsOthers W W' ∧ Kp W W' ∧ I (pre ++ [x]) W') (a₁ x) W)
    (hdone : ∀ (D : Nat) (xs : List α) (W : World), w.heap.size ≤ D → S xs → I xs W → W.heap[D]? = some (.deferred (some [])) → Q .normal { a with defers := { target := .collected D, args := #[] } :: a.defers } W) :
    (Code.rangeFunc g ps assign body).wpIn F n P Q a w := by
  refine wpIn_rangeFunc fun fn hfn => ?_
  rw [hro]
  -- the loop's record, at rest, at work, and behind the last round
  generalize hr : (fun st => ({ state := st, pending := none, fn, tmps := a.tmps, params := ps, assign, body, defers := w.heap.size } : Loop)) = r
  have hst : ∀ st, (r st).state = st := fun st => by rw [← hr]
  have hpe : ∀ st, (r st).pending = none := fun st => by rw [← hr]
  have hbusy : { r .ready with state := .busy } = r .busy := by rw [← hr]
  have hback : { r .busy with state := (if (none : Option Code).isNone then .ready else .done), pending := (none : Option Code) } = r .ready := by rw [← hr]; rfl
  -- what holds between two rounds
  let J : List α → World → Prop := fun pre W => I pre W ∧ W.heap[w.heap.size + 1]? = some (.loop (r .ready)) ∧ W.heap[w.heap.size]? = some (.deferred (some []))
  have hA : ∀ o, w.grownBy (w.alloc o) none := fun o => World.grownBy_alloc w o none
  let W1 := (w.alloc (.deferred (some []))).alloc (.loop (r .ready))
  have hJ1 : J [] W1 := by
    refine ⟨hI _ _ _ (hI _ _ _ h0 (hA _)) (World.grownBy_alloc _ _ none), ?_, ?_⟩
    · have := World.alloc_heap_new (w.alloc (.deferred (some []))) (.loop (r .ready))
      rwa [World.size_alloc] at this
    · exact (Below.heap_alloc _ _ _ (by simp)).trans (World.alloc_heap_new w _)
  have hJk : ∀ s A B, J s A → A.grownBy B none → J s B := fun s A B h hg => by
    have keep : ∀ (k : Nat) (o : Obj), w.heap.size ≤ k → A.heap[k]? = some o → B.heap[k]? = some o := fun k o hk ho =>
      (hg.block k (Array.getElem?_eq_some_iff.1 ho).1 (by simp)).trans ho
    exact ⟨hI _ _ _ h.1 hg, keep _ _ (by omega) h.2.1, keep _ _ (Nat.le_refl _) h.2.2⟩
  refine ⟨w.heap.size + 1, [{ target := .collected w.heap.size, args := #[] }], W1, { target := .fn (.func gf) lb, args := #[.func (.yield (w.heap.size + 1)) #[] #[]] }, W1, gf,
    #[.func (.yield (w.heap.size + 1)) #[] #[]] ++ lb, W1, ?_, ?_, ?_, ?_, fun _ => h1, ?_⟩
  · have := run_enterLoop_outer (P := P) (w := w) fn a.tmps ps assign body
    rw [this]
    show _ = Result.ok _ ((w.alloc (.deferred (some []))).alloc (.loop (r .ready)))
    rw [← hr]
  · simp only [resolve, hg]
    simp [go_sem]
  · intro f' h
    simp [Target.leads] at h
    exact h ▸ hF
  · simp [invoke, go_sem, eg]
  refine (hseq (w.heap.size + 1) J W1 ?_ hJk ?_ hJ1).mono ?_
  · exact ((Below.refl _ w).alloc (Nat.le_refl _) _).alloc (by simp) _
  · -- one round
    rintro pre x A ⟨hi, hl, hd⟩ hN
    have hlt : w.heap.size + 1 < A.heap.size := (Array.getElem?_eq_some_iff.1 hl).1
    have hy := run_yield (P := P) (args := encs x) hl (by rw [← hr]; exact hps x)
    have hbg := run_beginRound (P := P) hl (hst _)
    rw [hbusy] at hbg
    refine ⟨fn, _, assign, body, by rw [hy, ← hr], roundIn_of_wpIn hfn (hassign _ x A _ ⟨_, hbg, ?_⟩)⟩
    refine wpIn_mono (hbody _ pre x _ (hIo _ _ _ _ _ hi (by omega) hl rfl) hN) ?_
    rintro e a' B ⟨rfl, hk, hkp, hi'⟩
    have hl2 : B.heap[w.heap.size + 1]? = some (.loop (r .busy)) := hk.same _ _ (World.putObj_heap_same hlt) rfl
    have hd2 : B.heap[w.heap.size]? = some (.deferred (some [])) := hk.same _ _ ((World.putObj_heap_other (by omega)).trans hd) rfl
    have hend := run_endRound (P := P) none hl2
    rw [hback] at hend
    refine ⟨_, _, hend, rfl, ⟨hIo _ _ _ _ _ hi' (by omega) hl2 rfl, World.putObj_heap_same (Array.getElem?_eq_some_iff.1 hl2).1, (World.putObj_heap_other (by omega)).trans hd2⟩, ?_⟩
    exact hKt (hKt (hKb _ _ _ (by omega)) hkp) (hKb _ _ _ (by omega))
  · rintro e W2 ⟨⟨v, rfl⟩, xs, hS, hi, hl, hd⟩
    have hend := run_endLoop (P := P) hl (by rw [hst]; simp)
    rw [hpe] at hend
    exact ⟨none, _, hend, hdone _ xs _ (Nat.le_refl _) hS (hIo _ _ _ _ _ hi (by omega) hl rfl) ((World.putObj_heap_other (by omega)).trans hd)⟩
end Tide
