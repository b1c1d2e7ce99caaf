/- The token laws' alive. -/
import Derived.Test.YtfgpjelnijeoaaaDoorTkO
import Derived.Test.YtfgpjelnijeoaaaDoorTkM
namespace Go.Proofs.YtfgpjelnijeoaaaDoor
open Go Go.RowKit Tide

section
variable {a : Nat → Addr} {w w' : World} {g : Nat} {s : SeqD}
theorem newOk_nil (nx : Int) : newOk nx [] := ⟨by simp, by decide⟩
set_option maxRecDepth 100000 in
set_option maxHeartbeats 1000000 in
theorem talive_any (hE : E5 a w) : Calls Tryd.prog 6 #[] w fun e w' => e = .returned (.bool true) ∧ Below w.heap.size w w' := by
  have CN := Lib.hid (new_tok 0 0 [] (.slice none 0 0) w.heap.size w hE (Backs.nil _ _) (Nat.le_refl _) (by simp) (by omega) (by omega) (by omega))
  go_enter Tryd.func6, Tryd.ntmps6
  go_wp2_with fail
  refine CN.out.mono ?_
  rintro en w1 ⟨hb1, (⟨_, g, hg0, rfl, hT⟩ | ⟨hno, _⟩)⟩
  case inr => exact absurd (newOk_nil _) hno
  obtain ⟨w2, hw2⟩ : ∃ w2, w1.alloc (.cells #[.int .i64 1] 3) = w2 := ⟨_, rfl⟩
  have B2 := Lib.hid (show Below w1.heap.size w1 w2 from by rw [← hw2]; exact (Below.refl _ _).alloc (Nat.le_refl _) _)
  have hat : w2.heap[w1.heap.size]? = some (.cells #[.int .i64 1] 3) := by rw [← hw2]; exact heap_alloc_new w1 _
  have hE2 := hE.below (hb1.trans (B2.out.mono hb1.size))
  have hnil := tnil_iface
  have HW := Lib.hid (hb1.trans (B2.out.mono hb1.size))
  have hT2 := hT.below B2.out
  have hgl := hT.lt
  have CT := Lib.hid (taket_ok [1] (.slice (some ⟨w1.heap.size, 0, none⟩) 1 1) (w1.heap.size + 1) hT2 hE2 (fun W hk => by
    have hat2 := hk.heap hat (by omega)
    exact ⟨by simp [int64s], _, 1, rfl, by simp [int64s], by omega, fun _ => ⟨_, 0, rfl, by omega, fun j u hu => by
      rw [cell_of_row _ _ (0 + j) _ _ _ hat2]
      match j, hu with
      | 0, hu => exact hu
      | j + 1, hu => simp [int64s] at hu⟩⟩) (by simp) (by simp) (by decide) (by simp))
  have HTL := Lib.hid (show (takeL 0 (fillL []) [1]).1 = [((1 : Int), ([] : List Int))] from by decide)
  have HG := Lib.hid hg0
  simp only [] at CT
  clear hb1 CN hT hT2 hE2 hat hgl hE hg0
  go_wp2_with fail
  refine CT.out.mono ?_
  rintro en w3 ⟨vb, rfl, hO, _, hk⟩
  rw [HTL.out] at hO
  obtain ⟨_, A, c, rfl, hcell⟩ := hO.backs.form
  obtain ⟨b, o, u, rfl, _, _, d1, hr⟩ := hcell 0 (by simp)
  obtain ⟨_, Au, cu, rfl, _⟩ := row_ints hr
  have d1 : w3.cell? ⟨b, o + 1, none⟩ = some (.slice Au 0 cu) := by simpa using d1
  have B3 := Lib.hid (Tide.Below.kept HW.out hk HW.out.size (fun i h => by have := HG.out; omega))
  clear hO hcell hr hk CT
  go_wp2_with fail
  go_ret
  exact ⟨rfl, B3.out⟩
end
end Go.Proofs.YtfgpjelnijeoaaaDoor
