/- What the project's Compare answers of texts that aren't right. -/
import Derived.Test.YtlblappalhofmaaDoorCompW
namespace Go.Proofs.YtlblappalhofmaaDoor
open Go.RowKit Go.Shelf Tide Utf
attribute [local go_sem] Oper.semAt_some

theorem comp_bad {s t : ByteArray} (w : World) (hs : s.size ≤ 65536) (ht : t.size ≤ 65536) (hT : Tabs w) (h : runes s 0 = none ∨ runes t 0 = none) :
    Calls Tryd.prog 26 #[.string s, .string t] w fun e w' => e = .returned (.int .i64 0) ∧ Below w.heap.size w w' := by
  have HT := Lib.hid hT
  clear hT
  cases hr : runes s 0 with
  | none =>
    have HR := Lib.hid hr
    clear hr h
    go_enter Tryd.func26, Tryd.ntmps26
    go_wp2_with fail
    refine (right_neg _ (by omega) (HT.out.alloc _) HR.out).mono ?_
    rintro e w1 ⟨rfl, hb⟩
    have c1 := boxed_below (Boxed.new w 3 (.int .i64 0)) hb (by simp)
    have HB1 := Lib.hid (((Below.refl w.heap.size w).alloc (Nat.le_refl _) (.cells #[.int .i64 0] 3)).trans (hb.mono (by simp)))
    have hc := c1.cell
    have hf := c1.frozen
    have hc2 := (c1.set (.int .i64 0)).cell
    clear hb c1
    go_wp2_with fail
    exact bodyPost_ret (v := .int .i64 0) (by simp [results, Tryd.results26, go_sem, hc2]) rfl ⟨rfl, HB1.out.setCell (p := ⟨w.heap.size, 0, none⟩) (Nat.le_refl _) _⟩
  | some l =>
    have hr2 : runes t 0 = none := h.resolve_left (by rw [hr]; simp)
    have HR := Lib.hid hr
    have HR2 := Lib.hid hr2
    clear hr hr2 h
    go_enter Tryd.func26, Tryd.ntmps26
    go_wp2_with fail
    refine (right_pos _ (by omega) (HT.out.alloc _) HR.out).mono ?_
    rintro e w1 ⟨rfl, hb⟩
    have c1 := boxed_below (Boxed.new w 3 (.int .i64 0)) hb (by simp)
    have HB1 := Lib.hid (((Below.refl w.heap.size w).alloc (Nat.le_refl _) (.cells #[.int .i64 0] 3)).trans (hb.mono (by simp)))
    have C1 := Lib.hid c1
    clear hb c1
    go_wp2_with fail
    refine (right_neg w1 (by omega) (HT.out.below HB1.out) HR2.out).mono ?_
    rintro e w2 ⟨rfl, hb⟩
    have c2 := boxed_below C1.out hb C1.out.lt
    have HB2 := Lib.hid (HB1.out.trans (hb.mono HB1.out.size))
    have hc := c2.cell
    have hf := c2.frozen
    have hc2 := (c2.set (.int .i64 0)).cell
    clear hb c2 C1
    go_wp2_with fail
    exact bodyPost_ret (v := .int .i64 0) (by simp [results, Tryd.results26, go_sem, hc2]) rfl ⟨rfl, HB2.out.setCell (p := ⟨w.heap.size, 0, none⟩) (Nat.le_refl _) _⟩
end Go.Proofs.YtlblappalhofmaaDoor
