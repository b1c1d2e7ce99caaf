/- The chapter's example of spans holds; how long a span's texts are. -/
import Derived.Test.YtlblappalhofmaaDoorCutSW
namespace Go.Proofs.YtlblappalhofmaaDoor
open Go.RowKit Go.Shelf Tide Utf

theorem m_runes : runes ⟨#[109]⟩ 0 = some [109] := by decide +kernel
theorem m_key : keyNum ⟨#[109]⟩ = 0 := by unfold keyNum; rw [m_runes]; decide
theorem m_less : lts ⟨#[109]⟩ mt = false := by
  unfold lts
  rw [Lib.toList_data, Lib.toList_data]
  rfl
theorem all_span : spanB mt mt = true := rfl
theorem m_cut : cutNum mt mt ⟨#[109]⟩ = 0 := by
  unfold cutNum
  rw [if_pos all_span, if_pos m_key]
  unfold inB
  rw [m_less]
  rfl

set_option maxHeartbeats 1000000 in
/-- The chapter's example holds. -/
theorem alive_any (a : Nat → Addr) (w : World) (hT : Tabs w) (hE : Errs w a) : Calls Tryd.prog 5 #[] w fun e w' => e = .returned (.bool true) ∧ Below w.heap.size w w' := by
  have c1 : Calls Tryd.prog 7 #[spanV mt mt, .string ⟨#[109]⟩] w _ := cut_any a mt mt ⟨#[109]⟩ w (by decide) (by decide) (by decide) hT hE
  clear hT hE
  go_enter Tryd.func5, Tryd.ntmps5
  go_wp2_with fail
  refine c1.mono ?_
  rintro e w1 ⟨x, rfl, hx, hb⟩
  rw [m_cut] at hx ⊢
  simp only [pick0]
  rcases hx with ⟨_, rfl⟩ | ⟨m, _, h0, _⟩
  rotate_left
  · cases h0
  have HB := Lib.hid hb
  clear hb c1
  go_wp2_with fail
  go_ret
  exact ⟨rfl, (HB.out.alloc HB.out.size _).alloc (by have := HB.out.size; simp; omega) _⟩

/-- A span is longer than is asked. -/
def longB (lo hi : ByteArray) : Bool := decide (300 < lo.size) || decide (300 < hi.size)
theorem long_is (lo hi : ByteArray) (w : World) (b : Bool) (hb : longB lo hi = b) :
    Calls Tryd.prog 6 #[spanV lo hi] w fun e w' => e = .returned (.bool b) ∧ Below w.heap.size w w' := by
  have B0 := Lib.hid ((Below.refl w.heap.size w).alloc (Nat.le_refl _) (.cells #[.string lo, .string hi] 23))
  by_cases h1 : 300 < lo.size
  · obtain rfl : b = true := by rw [← hb]; unfold longB; rw [decide_eq_true h1]; rfl
    clear hb
    go_enter Tryd.func6, Tryd.ntmps6
    go_wp2_with fail
    go_ret
    exact ⟨rfl, B0.out⟩
  · have hq : decide ((300 : Int) < (hi.size : Int)) = b := by rw [← hb]; unfold longB; rw [decide_eq_false h1, Bool.eq_iff_iff]; simp; omega
    have hq1 : decide ((300 : Int) < (lo.size : Int)) = false := by simp; omega
    clear hb h1
    go_enter Tryd.func6, Tryd.ntmps6
    go_wp2_with fail
    go_ret
    exact ⟨rfl, B0.out⟩
end Go.Proofs.YtlblappalhofmaaDoor
