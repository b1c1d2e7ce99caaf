/- The law of who proposes: New of what is wrong; what came in; the state of the law. -/
import Derived.Test.YtidgpnanbbkakaaDoorVtD
import Derived.Test.YtidgpnanbbkakaaDoorVtL
import Derived.Test.YtidgpnanbbkakaaDoorVtR
import Derived.Test.YtidgpnanbbkakaaDoorRecs
import Derived.Test.YtidgpnanbbkakaaDoorErr
import Derived.Test.YtidgpnanbbkakaaDoorNumA
import Derived.Test.YtidgpnanbbkakaaDoorLaidE
namespace Go.Proofs.YtidgpnanbbkakaaDoor
open Go Go.RowKit Tide

section
variable {W : World} {a : Nat → Addr}
set_option maxRecDepth 100000 in
theorem vnew_range (hE : Errs W a) (v mt b : Int) (hv : v < 1 ∨ 5 < v) (t : ByteArray) : Calls Tryd.prog 6 #[.int .i64 v, .int .i64 mt, .int .i64 b, .string t] W fun e w' => e = .returned (.tuple #[.pointer none, errAt (a 0)]) ∧ Below W.heap.size W w' := by
  have h0 := hE.var 0 (by omega)
  simp only [evars, List.getD_cons_zero] at h0
  have hb := fun n => (show Below W.heap.size W (W.drewN n) from ⟨rfl, rfl, rfl, Nat.le_refl _, fun _ _ => rfl⟩)
  have HB := Lib.hid hb
  clear hE hb
  cases q1 : decide (v < 1) with
  | true =>
    clear hv
    go_enter Tryd.func6, Tryd.ntmps6
    go_wp2_with fail
    go_quiet (fail)
    go_wp2_with fail
    go_ret2
    exact ⟨rfl, HB.out _⟩
  | false =>
    have q2 : decide (5 < v) = true := by simp at q1 ⊢; omega
    clear hv
    go_enter Tryd.func6, Tryd.ntmps6
    go_wp2_with fail
    go_quiet (fail)
    go_wp2_with fail
    go_ret2
    exact ⟨rfl, HB.out _⟩
set_option maxRecDepth 100000 in
theorem vnew_form (hE : Errs W a) (v mt b : Int) (h1 : 1 ≤ v) (h5 : v ≤ 5) (hb : b < 0) (t : ByteArray) : Calls Tryd.prog 6 #[.int .i64 v, .int .i64 mt, .int .i64 b, .string t] W fun e w' => e = .returned (.tuple #[.pointer none, errAt (a 3)]) ∧ Below W.heap.size W w' := by
  have h0 := hE.var 3 (by omega)
  simp only [evars, List.getD_cons_zero, List.getD_cons_succ] at h0
  have HB := Lib.hid (fun n => (show Below W.heap.size W (W.drewN n) from ⟨rfl, rfl, rfl, Nat.le_refl _, fun _ _ => rfl⟩))
  have q1 : decide (v < 1) = false := decide_eq_false (by omega)
  have q2 : decide (5 < v) = false := decide_eq_false (by omega)
  have q3 : decide (b < 0) = true := decide_eq_true hb
  clear hE h1 h5 hb
  go_enter Tryd.func6, Tryd.ntmps6
  go_wp2_with fail
  go_quiet (fail)
  go_wp2_with fail
  go_ret2
  exact ⟨rfl, HB.out _⟩
end
/-- What who proposes hears. -/
structure HearV where
  ans : AnsV
  accepts : Bool
  took : Bool
def HearV.cells (m : HearV) : Array Value := #[.int .i64 m.ans.frm, .bool m.ans.yes, .int .i64 m.ans.ballot, .string m.ans.text, .bool m.accepts, .bool m.took]
def HearsV (w : World) (B : Nat) (v : Value) (ms : List HearV) : Prop := Recs w B v 6 (ms.map fun m => m.cells.toList) ∧ ∀ m ∈ ms, fitsI m.ans.frm
theorem HearsV.form {w : World} {B : Nat} {v : Value} {ks : List HearV} (h : HearsV w B v ks) : ∃ A c, v = .slice A ks.length c ∧ ks.length ≤ 9223372036854775807 ∧ ∀ i (hi : i < ks.length), ∃ b o, A = some ⟨b, o, none⟩ ∧ b < B ∧
    w.cell? ⟨b, o + i * 6, none⟩ = some (.int .i64 ks[i].ans.frm) ∧ w.cell? ⟨b, o + i * 6 + 1, none⟩ = some (.bool ks[i].ans.yes) ∧ w.cell? ⟨b, o + i * 6 + 2, none⟩ = some (.int .i64 ks[i].ans.ballot) ∧ w.cell? ⟨b, o + i * 6 + 3, none⟩ = some (.string ks[i].ans.text) ∧ w.cell? ⟨b, o + i * 6 + 4, none⟩ = some (.bool ks[i].accepts) ∧ w.cell? ⟨b, o + i * 6 + 5, none⟩ = some (.bool ks[i].took) := by
  obtain ⟨⟨hn, A, c, rfl, hc⟩, _⟩ := h
  refine ⟨A, c, by rw [List.length_map], by simpa using hn, fun i hi => ?_⟩
  obtain ⟨b, o, rfl, hb, hcell⟩ := hc (by
    intro e
    have h9 : (ks.map fun k => k.cells.toList).length = 0 := by rw [e]; rfl
    rw [List.length_map] at h9
    omega)
  have he : (ks.map fun k => k.cells.toList)[i]? = some (ks[i]).cells.toList := by simp [hi]
  have e : ∀ j, o + i * 6 + j = o + (i * 6 + j) := fun j => Nat.add_assoc _ _ _
  exact ⟨b, o, rfl, hb, hcell i 0 _ _ he rfl, by rw [e]; exact hcell i 1 _ _ he rfl, by rw [e]; exact hcell i 2 _ _ he rfl, by rw [e]; exact hcell i 3 _ _ he rfl, by rw [e]; exact hcell i 4 _ _ he rfl, by rw [e]; exact hcell i 5 _ _ he rfl⟩
theorem box6 {w : World} {b : Nat} {x y z u s r : Value} {t : TypeId} (h : w.heap[b]? = some (.cells #[x, y, z, u, s, r] t (0, 0))) : b < w.heap.size ∧ w.cell? ⟨b, 0, none⟩ = some x ∧ w.cell? ⟨b, 1, none⟩ = some y ∧ w.cell? ⟨b, 2, none⟩ = some z ∧ w.cell? ⟨b, 3, none⟩ = some u ∧ w.cell? ⟨b, 4, none⟩ = some s ∧ w.cell? ⟨b, 5, none⟩ = some r := by
  have h0 : w.cell? ⟨b, 0, none⟩ = some x := by rw [cell_of_row _ _ 0 _ _ _ h]; rfl
  exact ⟨World.block_lt_of_cell? _ _ h0, h0, by rw [cell_of_row _ _ 1 _ _ _ h]; rfl, by rw [cell_of_row _ _ 2 _ _ _ h]; rfl, by rw [cell_of_row _ _ 3 _ _ _ h]; rfl, by rw [cell_of_row _ _ 4 _ _ _ h]; rfl, by rw [cell_of_row _ _ 5 _ _ _ h]; rfl⟩
section
variable {w W W' : World} {pq bp ba N q n : Nat} {own : ByteArray} {va vc : Value} {p : PropV} {ans accs : List AnsV}
/-- A block of cells that aren't who proposes isn't of its blocks. -/
theorem ProW.off (H : ProW W pq bp ba N p) {r : Nat} {cs : Array Value} {t : TypeId} (ht : t ≠ 67) (hc : W.heap[r]? = some (.cells cs t (0, 0))) : ¬ FPro pq bp ba r := fun e => by
  rcases e with e | e | e
  · have h1 := H.cells
    rw [← e, hc] at h1
    injection h1 with h1
    injection h1 with _ h1
    exact ht h1
  · exact H.prom.ne_cells hc e.symm
  · exact H.acc.ne_cells hc e.symm
/-- Both side by side: one that counts, and the document's own. -/
structure BothP (w W : World) (pq bp ba N q n : Nat) (p : PropV) (ans accs : List AnsV) (va vc : Value) : Prop where
  since : Below w.heap.size w W
  pro : ProW W pq bp ba N p
  ok : OkPr p
  ref : RefP W w.heap.size q n ⟨#[111, 119, 110]⟩ va vc ans accs
  late : w.heap.size ≤ q ∧ ∀ k, FPro pq bp ba k → w.heap.size ≤ k
theorem BothP.below (h : BothP w W pq bp ba N q n p ans accs va vc) (hb : Below W.heap.size W W') : BothP w W' pq bp ba N q n p ans accs va vc :=
  { h with since := h.since.trans (hb.mono h.since.size), pro := h.pro.below hb, ref := h.ref.below hb }
/-- A call of the one that counts. -/
theorem BothP.proStep (h : BothP w W pq bp ba N q n p ans accs va vc) {p' : PropV} {M : Nat} (hp : ProB W pq bp ba M p' W') (ho : OkPr p') : BothP w W' pq bp ba M q n p' ans accs va vc := by
  refine ⟨Tide.Below.kept h.since hp.2 h.since.size (fun k hk => h.late.2 k hk), hp.1, ho, h.ref.kept hp.2 (h.pro.off (by decide) h.ref.cells) (fun k hk => ?_) (fun k hk => ?_), h.late⟩
  · obtain ⟨_, _, cur, hc⟩ := h.ref.ans.block hk
    exact h.pro.off (by decide) hc
  · obtain ⟨_, _, cur, hc⟩ := h.ref.accs.block hk
    exact h.pro.off (by decide) hc
/-- A call of the document's own. -/
theorem BothP.refStep (h : BothP w W pq bp ba N q n p ans accs va vc) {F : Nat → Prop} {va' vc' : Value} {ans' accs' : List AnsV} (hr : RefP W' w.heap.size q n ⟨#[111, 119, 110]⟩ va' vc' ans' accs') (hk : Kept F W W') (hF : ∀ k, F k → k = q ∨ va.ownBlock = some k ∨ vc.ownBlock = some k) : BothP w W' pq bp ba N q n p ans' accs' va' vc' := by
  refine ⟨Tide.Below.kept h.since hk h.since.size (fun k e => ?_), h.pro.kept hk (fun k e e' => ?_), h.ok, hr, h.late⟩
  · rcases hF k e with rfl | e | e
    · exact h.late.1
    · exact (h.ref.ans.block e).1
    · exact (h.ref.accs.block e).1
  · rcases hF k e' with rfl | e1 | e1
    · exact h.pro.off (by decide) h.ref.cells e
    · obtain ⟨_, _, cur, hc⟩ := h.ref.ans.block e1
      exact h.pro.off (by decide) hc e
    · obtain ⟨_, _, cur, hc⟩ := h.ref.accs.block e1
      exact h.pro.off (by decide) hc e
theorem BothP.start (hb : Below w.heap.size w W) (hp : ProW W pq bp ba 0 (newV n ⟨#[111, 119, 110]⟩)) (hn : n ≤ 5) (hf : ∀ k, FPro pq bp ba k → w.heap.size ≤ k) :
    BothP w (W.alloc (.cells #[.int .i64 (n : Int), .string ⟨#[111, 119, 110]⟩, .slice none 0 0, .slice none 0 0] 33)) pq bp ba 0 W.heap.size n (newV n ⟨#[111, 119, 110]⟩) [] [] (.slice none 0 0) (.slice none 0 0) where
  since := hb.alloc hb.size _
  pro := hp.below ((Below.refl _ _).alloc (Nat.le_refl _) _)
  ok := OkPr.new hn _
  ref := ⟨heap_alloc_new W _, OwnA.nil _ _, OwnA.nil _ _, fun k h => by cases h⟩
  late := ⟨hb.size, hf⟩
end
end Go.Proofs.YtidgpnanbbkakaaDoor
