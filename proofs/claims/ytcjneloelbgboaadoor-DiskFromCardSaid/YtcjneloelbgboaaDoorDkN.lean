/- What a device's small functions answer: how many sectors, whether there is one, whether it is down (never, here), what is pending, a sector of an image. -/
import Derived.Test.YtcjneloelbgboaaDoorDkR
import Derived.Test.YtcjneloelbgboaaDoorCut
import Derived.WalkKit
import Derived.WalkSpells
import Derived.Deep.QuietTactic
import Derived.BigQuiet
namespace Go.Proofs.YtcjneloelbgboaaDoor
open Go.RowKit Tide

theorem cut_at (b n c lo hi : Nat) (li ui : Int) (el : li = lo) (eu : ui = hi) (hlo : lo ≤ hi) (hhi : hi ≤ n) (hn : n ≤ c) (hc : lo < c) (W : World) :
    (Instr.slice 22 (.slice (some ⟨b, 0, none⟩) n c) (some (.int .i64 li)) (some (.int .i64 ui)) none).run Tryd.prog W = .ok (.slice (some ⟨b, lo, none⟩) (hi - lo) (c - lo)) W := by
  subst el eu
  rw [run_slice_lh _ _ _ _ _ elemB _ _ _ _ (by omega) (by omega) (by omega), sizeB]
  simp only [Result.andThen, Int.toNat_natCast]
  have ha : (⟨b, 0, none⟩ : Addr).add lo = ⟨b, 0 + lo, none⟩ := add_none b 0 lo
  have hne : c ≠ lo := by omega
  simp [sliced, hne, ha]
theorem cut_to (b n c hi : Nat) (ui : Int) (eu : ui = hi) (hhi : hi ≤ n) (hn : n ≤ c) (hc : 0 < c) (W : World) :
    (Instr.slice 22 (.slice (some ⟨b, 0, none⟩) n c) none (some (.int .i64 ui)) none).run Tryd.prog W = .ok (.slice (some ⟨b, 0, none⟩) hi c) W := by
  subst eu
  rw [run_slice_h _ _ _ _ _ elemB _ _ (by omega) (by omega), sizeB]
  simp only [Result.andThen, Int.toNat_natCast]
  have ha : (⟨b, 0, none⟩ : Addr).add 0 = ⟨b, 0 + 0, none⟩ := add_none b 0 0
  have hne : c ≠ 0 := by omega
  simp [sliced, hne, ha]

theorem sector_any (g L cap i : Nat) (h : 64 * i + 64 ≤ L) (hL : L ≤ 3000) (hc : L ≤ cap) (w : World) :
    Calls Tryd.prog 23 #[sl g L cap, .int .i64 (i : Nat)] w fun e w' => e = .returned (.slice (some ⟨g, 64 * i, none⟩) 64 (cap - 64 * i)) ∧ w = w' := by
  have hcut := fun W => cut_at g L cap (64 * i) (64 * i + 64) ((i : Int) * 64) (((i : Int) + 1) * 64) (by omega) (by omega) (by omega) h hc (by omega) W
  have e64 : 64 * i + 64 - 64 * i = 64 := by omega
  rw [e64] at hcut
  have hw1 : wrap64 ((i : Int) * 64) = (i : Int) * 64 := by unfold wrap64; omega
  have hw2 : wrap64 ((i : Int) + 1) = (i : Int) + 1 := by unfold wrap64; omega
  have hw3 : wrap64 (((i : Int) + 1) * 64) = ((i : Int) + 1) * 64 := by unfold wrap64; omega
  have hv1 : IntKind.i64.wrap ((i : Int) * 64) = (i : Int) * 64 := by simp [IntKind.wrap, IntKind.signed, IntKind.bits]; omega
  have hv2 : IntKind.i64.wrap ((i : Int) + 1) = (i : Int) + 1 := by simp [IntKind.wrap, IntKind.signed, IntKind.bits]; omega
  have hv3 : IntKind.i64.wrap (((i : Int) + 1) * 64) = ((i : Int) + 1) * 64 := by simp [IntKind.wrap, IntKind.signed, IntKind.bits]; omega
  clear h hL hc e64
  go_enter Tryd.func23, Tryd.ntmps23
  go_wp2_with fail
  go_ret
  exact ⟨rfl, rfl⟩

section
variable {W : World} {F : Nat → Prop} {p : Nat} {img now : List UInt8} {ts : List Wr} {bd cd bn cn : Nat} {vp : Value}
theorem len_any (h : DevB W F p img now ts bd cd bn cn vp) (hL : img.length ≤ 3000) : Calls Tryd.prog 13 #[.pointer (some ⟨p, 0, none⟩)] W fun e w' => e = .returned (.int .i64 ((img.length / 64 : Nat))) ∧ W = w' := by
  obtain ⟨c0, _, _, _, _, _⟩ := h.facts
  clear h
  generalize img.length = L at *
  obtain ⟨m, hm⟩ : ∃ m, L / 64 = m := ⟨_, rfl⟩
  rw [hm]
  have q1 : (L : Int).tdiv 64 = (m : Int) := by rw [Int.tdiv_eq_ediv_of_nonneg (by omega)]; omega
  have q2 : (L : Int) / 64 = (m : Int) := by omega
  have q3 : wrap64 (m : Int) = (m : Int) := by unfold wrap64; omega
  have q4 : IntKind.i64.wrap (m : Int) = (m : Int) := by simp [IntKind.wrap, IntKind.signed, IntKind.bits]; omega
  clear hL hm
  go_enter Tryd.func13, Tryd.ntmps13
  go_wp2_with fail
  go_ret
  exact ⟨rfl, rfl⟩
theorem has_any (h : DevB W F p img now ts bd cd bn cn vp) (hL : img.length ≤ 3000) (i : Int) : Calls Tryd.prog 22 #[.pointer (some ⟨p, 0, none⟩), .int .i64 i] W fun e w' => e = .returned (.bool (decide (0 ≤ i) && decide (i < ((img.length / 64 : Nat) : Int)))) ∧ W = w' := by
  have CL := len_any h hL
  generalize ((img.length / 64 : Nat) : Int) = m at *
  clear h hL
  cases h0 : decide (0 ≤ i) <;> cases h1 : decide (i < m)
  all_goals
    go_enter Tryd.func22, Tryd.ntmps22
    go_wp2_with fail
    first
      | (refine CL.mono ?_
         rintro en w1 ⟨rfl, rfl⟩
         go_wp2_with fail)
      | skip
    go_ret
    exact ⟨rfl, rfl⟩
theorem down_any (h : DevB W F p img now ts bd cd bn cn vp) : Calls Tryd.prog 18 #[.pointer (some ⟨p, 0, none⟩)] W fun e w' => e = .returned (.bool false) ∧ W = w' := by
  obtain ⟨_, _, _, c3, _, _⟩ := h.facts
  clear h
  go_enter Tryd.func18, Tryd.ntmps18
  go_wp2_with fail
  go_ret
  exact ⟨rfl, rfl⟩
theorem power_any (h : DevB W F p img now ts bd cd bn cn vp) : Calls Tryd.prog 24 #[.pointer (some ⟨p, 0, none⟩)] W fun e w' => e = .returned .nilIface ∧ W = w' := by
  have CD := down_any h
  obtain ⟨_, _, _, c3, _, _⟩ := h.facts
  clear h
  go_enter Tryd.func24, Tryd.ntmps24
  go_wp2_with fail
  refine CD.mono ?_
  rintro en w1 ⟨rfl, rfl⟩
  go_wp2_with fail
  go_ret
  exact ⟨rfl, rfl⟩
theorem vp_form (h : DevB W F p img now ts bd cd bn cn vp) : ∃ A c, vp = .slice A ts.length c ∧ ts.length ≤ c ∧ c ≤ 9223372036854775807 := by
  rcases h.pend.2 with ⟨h1, h0⟩ | ⟨g, cap, cur, h1, _, _, h2, h3, _⟩
  · exact ⟨none, 0, by rw [h1, h0], by omega, by omega⟩
  · exact ⟨_, cap, h1, h2, h3⟩
theorem pending_any (h : DevB W F p img now ts bd cd bn cn vp) : Calls Tryd.prog 12 #[.pointer (some ⟨p, 0, none⟩)] W fun e w' => e = .returned (.int .i64 (ts.length : Nat)) ∧ W = w' := by
  obtain ⟨_, _, c2, _, _, _⟩ := h.facts
  obtain ⟨A, c, rfl, h1, h2⟩ := vp_form h
  clear h
  go_enter Tryd.func12, Tryd.ntmps12
  go_wp2_with fail
  go_ret
  exact ⟨rfl, rfl⟩
end
end Go.Proofs.YtcjneloelbgboaaDoor
