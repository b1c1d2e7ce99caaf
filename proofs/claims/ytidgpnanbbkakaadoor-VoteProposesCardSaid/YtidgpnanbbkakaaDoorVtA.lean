/- The document's own proposer in memory: rows of answers; firsts, Asks, Decided, Accepted. -/
import Derived.Test.YtidgpnanbbkakaaDoorVtQ
import Derived.Test.YtidgpnanbbkakaaDoorLaw
import Derived.Test.YtidgpnanbbkakaaDoorKeep
import Derived.Test.YtidgpnanbbkakaaDoorApp
import Derived.Deep.AppendLies
import Derived.WalkKit
import Derived.WalkSpells
import Derived.Deep.QuietTactic
import Derived.BigQuiet
namespace Go.Proofs.YtidgpnanbbkakaaDoor
open Go Go.RowKit Tide

/-- An answer's cells. -/
def ansC (a : AnsV) : List Value := [.int .i64 a.frm, .bool a.yes, .int .i64 a.ballot, .string a.text]
theorem infoAns : (Tryd.prog.info? 43).map (fun i => (i.zero, i.size, i.bytes)) = some (some (.agg #[.int .i64 0, .bool false, .int .i64 0, .string ⟨#[]⟩]), 4, 40) := by kernel_rfl
theorem ans_len (l : List AnsV) : (l.flatMap ansC).length = l.length * 4 := by
  induction l with
  | nil => rfl
  | cons t l ih => rw [List.flatMap_cons, List.length_append, ih, List.length_cons]; simp [ansC]; omega
theorem ans_at : ∀ (l : List AnsV) (i j : Nat) (h : i < l.length), j < 4 → (l.flatMap ansC)[i * 4 + j]? = (ansC l[i])[j]?
  | [], _, _, h, _ => by simp at h
  | t :: l, 0, j, _, hj => by
    rw [List.flatMap_cons, List.getElem?_append_left (by simp [ansC]; omega)]
    simp
  | t :: l, i + 1, j, h, hj => by
    have hl : (ansC t).length = 4 := rfl
    rw [List.flatMap_cons, List.getElem?_append_right (by omega), hl, show (i + 1) * 4 + j - 4 = i * 4 + j by omega]
    exact ans_at l i j (by simpa using h) hj
/-- A row of answers of the call's own. -/
def OwnA (W : World) (base : Nat) (v : Value) (l : List AnsV) : Prop := W.ownsRow base 43 4 v l.length (l.flatMap ansC)
section
variable {W W' : World} {base : Nat} {v : Value} {l : List AnsV}
theorem OwnA.below (h : OwnA W base v l) (hb : Below W.heap.size W W') : OwnA W' base v l := own_below h hb
theorem OwnA.kept {F : Nat → Prop} (h : OwnA W base v l) (hk : Kept F W W') (hF : ∀ k, v.ownBlock = some k → ¬ F k) : OwnA W' base v l := hk.own h hF
theorem OwnA.form (h : OwnA W base v l) : ∃ A c, v = .slice A l.length c := by
  rcases h.2 with ⟨h1, h0⟩ | ⟨g, cap, cur, h1, _, _, h2, h3, _⟩
  · exact ⟨none, 0, by rw [h1, h0]⟩
  · exact ⟨_, cap, h1⟩
theorem OwnA.cells (h : OwnA W base v l) {i : Nat} (hi : i < l.length) : ∃ g c, v = .slice (some ⟨g, 0, none⟩) l.length c ∧ g < W.heap.size ∧ W.cell? ⟨g, i * 4, none⟩ = some (.int .i64 l[i].frm) ∧ W.cell? ⟨g, i * 4 + 1, none⟩ = some (.bool l[i].yes) ∧ W.cell? ⟨g, i * 4 + 2, none⟩ = some (.int .i64 l[i].ballot) ∧ W.cell? ⟨g, i * 4 + 3, none⟩ = some (.string l[i].text) := by
  obtain ⟨b, c, hv, _, hlt⟩ := World.ownsRow.form (show W.ownsRow base 43 4 v l.length (l.flatMap ansC) from h) (by omega)
  have hat : ∀ j u, (ansC l[i])[j]? = some u → j < 4 → W.cell? ⟨b, i * 4 + j, none⟩ = some u := fun j u hu hj => by
    have h1 := World.ownsRow.cells (show W.ownsRow base 43 4 v l.length (l.flatMap ansC) from h) (g := b) (by rw [hv]; rfl) (i * 4 + j) u (by rw [ans_at l i j hi hj]; exact hu)
    rwa [show (⟨b, 0, none⟩ : Addr).add (i * 4 + j) = ⟨b, i * 4 + j, none⟩ from by unfold Addr.add; split <;> simp_all] at h1
  exact ⟨b, c, hv, hlt, hat 0 _ rfl (by omega), hat 1 _ rfl (by omega), hat 2 _ rfl (by omega), hat 3 _ rfl (by omega)⟩
theorem OwnA.nil (W : World) (base : Nat) : OwnA W base (.slice none 0 0) [] := World.ownsRow_nil W base _ 4
theorem OwnA.later {base' : Nat} (h : OwnA W base' v l) (hb : base ≤ base') : OwnA W base v l := own_later h hb
theorem OwnA.new (W : World) (base : Nat) (hb : base ≤ W.heap.size) (g : Nat) (hg : g = W.heap.size) : OwnA (W.alloc (.cells #[] 43)) base (.slice (some ⟨g, 0, none⟩) 0 0) [] :=
  ⟨rfl, .inr ⟨g, 0, #[], rfl, by omega, by rw [hg]; exact heap_alloc_new W _, Nat.le_refl _, by simp [maxLen], rfl, rfl⟩⟩
end
/-- append of one answer. -/
theorem wpList_pushA {ops : Array Oper} {rest : List Oper} {o : Oper} {a : Act} {Q : Exit → Act → World → Prop} (hgd : o.guard = none) (s y : Operand) (ho : o.op = .call { callee := .builtin .append, args := #[s, y], argTypes := #[31, 31] })
    {W : World} {base : Nat} {v : Value} {l : List AnsV} (x : AnsV) (hs : a.eval s = v) (hy : a.eval y = .slice (some ⟨W.heap.size, 0, none⟩) 1 1) (hown : OwnA W base v l) (hl : l.length ≤ 1000000) (hb : base ≤ W.heap.size)
    (h : ∀ g cap w', OwnA w' base (.slice (some ⟨g, 0, none⟩) (l.length + 1) cap) (l ++ [x]) → Kept (fun k => v.ownBlock = some k) W w' → (v.ownBlock = some g ∨ W.heap.size ≤ g) → Below base W w' → wpList Tryd.prog ops Q rest (a.put o.dst (.slice (some ⟨g, 0, none⟩) (l.length + 1) cap)) w') : wpList Tryd.prog ops Q (o :: rest) a (W.alloc (.cells (ansC x).toArray 43)) := by
  obtain ⟨i0, hi, hz0, hz1, hz2⟩ := info_parts infoAns
  refine wpList_append_lies (W.alloc (.cells (ansC x).toArray 43)) hgd s y _ ho base 43 i0 _ 4 40 Tryd.underlying31 hi hz0 hz1 hz2 rfl (by omega) v l.length (l.flatMap ansC) hs (own_below hown ((Below.refl _ _).alloc (Nat.le_refl _) _)) ⟨W.heap.size, 0, none⟩ 1 1 (ansC x) hy rfl ?_ ?_ (by omega) (by simp [maxLen]; omega) (by omega) (by simp; omega) _ rfl ?_
  · exact fun j u hu => World.news_of_block (heap_alloc_new W _) j u (by simpa using hu)
  · intro u hu
    simp only [ansC, List.mem_cons, List.not_mem_nil, or_false] at hu
    rcases hu with rfl | rfl | rfl | rfl <;> rfl
  · intro g cap w' h1 h2 h3 _
    refine h g cap w' ?_ (Kept.grown ((Kept.refl (fun k => v.ownBlock = some k) W).alloc _) h2 (fun k hk => .inl hk)) (h3.imp id (fun e => by rw [World.size_alloc] at e; omega)) ?_
    · unfold OwnA
      rw [List.flatMap_append, List.length_append]
      simpa using h1
    · exact ((Below.refl base W).alloc hb _).grown h2 (by simp; omega) (fun k hk => (hown.lt k hk).1)
/-- append of one answer, as a step of a region that draws. -/
theorem step_pushA {w : World} {ops : Array Oper} {o : Oper} {a : Act} {K : Act → World → Prop} {Q : Exit → Act → World → Prop} {E : Prop} (hgd : o.guard = none) (s y : Operand)
    (ho : o.op = .call { callee := .builtin .append, args := #[s, y], argTypes := #[31, 31] }) (base g : Nat) (v : Value) (l : List AnsV) (x : AnsV) (hs : a.eval s = v) (hy : a.eval y = .slice (some ⟨g, 0, none⟩) 1 1)
    (hg : w.heap[g]? = some (.cells (ansC x).toArray 43 (0, 0))) (hown : OwnA w base v l) (hl : l.length ≤ 1000000) (hb : base ≤ w.heap.size)
    (h : ∀ g' cap w', OwnA w' base (.slice (some ⟨g', 0, none⟩) (l.length + 1) cap) (l ++ [x]) → Kept (fun k => v.ownBlock = some k) w w' → (v.ownBlock = some g' ∨ w.heap.size ≤ g') → K (a.put o.dst (.slice (some ⟨g', 0, none⟩) (l.length + 1) cap)) w') :
    if Region.wanted o (yielded ops a.tmps) = true then Oper.wp Tryd.prog o a w K Q else E := by
  obtain ⟨i0, hi, hz0, hz1, hz2⟩ := info_parts infoAns
  refine step_append_lies w hgd s y _ ho base 43 i0 _ 4 40 Tryd.underlying31 hi hz0 hz1 hz2 rfl (by omega) v l.length (l.flatMap ansC) hs hown ⟨g, 0, none⟩ 1 1 (ansC x) hy rfl ?_ ?_ (by omega) (by simp [maxLen]; omega) (by omega) hb _ rfl ?_
  · exact fun j u hu => World.news_of_block hg j u (by simpa using hu)
  · intro u hu
    simp only [ansC, List.mem_cons, List.not_mem_nil, or_false] at hu
    rcases hu with rfl | rfl | rfl | rfl <;> rfl
  · intro g' cap w' h1 h2 h3 _
    refine h g' cap w' ?_ ((Kept.refl (fun k => v.ownBlock = some k) w).grown h2 (fun k hk => .inl hk)) (h3.imp id (fun e => by omega))
    unfold OwnA
    rw [List.flatMap_append, List.length_append]
    simpa using h1
end Go.Proofs.YtidgpnanbbkakaaDoor
