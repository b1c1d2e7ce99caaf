/- Package plan's Place, Address and Tail. -/
import Derived.Test.YtiafamacjpgjoaaGreatDoorGPlR
import Derived.Test.YtiafamacjpgjoaaGreatDoorGKeep
import Derived.Test.YtiafamacjpgjoaaGreatDoorGErr
import Derived.Test.YtiafamacjpgjoaaGreatDoorGBits7
import Derived.Deep.QuietTactic
import Derived.BigQuiet
namespace Go.Proofs.YtiafamacjpgjoaaGreatDoor
open Go.RowKit Tide

def Er2 (w : World) (a : Nat → Addr) : Prop := w.cell? ⟨2, 0, none⟩ = some (errAt (a 0)) ∧ w.cell? ⟨1, 0, none⟩ = some (errAt (a 3)) ∧ 2 < w.heap.size ∧ 1 < w.heap.size
theorem Er2.below {w w' : World} {a : Nat → Addr} (h : Er2 w a) (hb : Below w.heap.size w w') : Er2 w' a :=
  ⟨(hb.cell (p := ⟨2, 0, none⟩) h.2.2.1).trans h.1, (hb.cell (p := ⟨1, 0, none⟩) h.2.2.2).trans h.2.1, by have := h.2.2.1; have := hb.size; omega, by have := h.2.2.2; have := hb.size; omega⟩

theorem addr_any (ep : Int) (cs : List (List Int)) (v : Value) (ch at' : Int) (B : Nat) (w : World) (hv : Grid w B v cs) (hB : B ≤ w.heap.size) :
    Calls Tryz.prog 74 #[planV ep v, .int .i64 ch, .int .i64 at'] w fun e w' => e = .returned (.int .i64 (addrI ep cs ch at')) ∧ Below w.heap.size w w' := by
  obtain ⟨hlen, A, c, rfl, hcl⟩ := hv.form
  clear hcl
  have B0 := Lib.hid ((Below.refl w.heap.size w).alloc (Nat.le_refl _) (.cells #[.int .i64 ep, .slice A cs.length c] 24))
  have P0 := Lib.hid (Two.new w 24 (.int .i64 ep) (.slice A cs.length c))
  have CR := Lib.hid (fun W (h : Below w.heap.size w W) => right_any ep cs _ B W (hv.below (h.mono hB)) (Nat.le_trans hB h.size))
  have HA := Lib.hid (show addrI ep cs ch at' = if rightB ep cs = true ∧ 0 ≤ ch ∧ ch < cs.length ∧ 0 ≤ at' ∧ at' ≤ 4096 then at' * cs.length + ch else -1 from rfl)
  have HP := Lib.hid (fun h => @right_parts ep cs h)
  generalize addrI ep cs ch at' = r at *
  clear hv hB
  cases hr : rightB ep cs with
  | false =>
    rw [hr] at CR HA
    have HR := Lib.hid (show r = -1 from by rw [HA.out, if_neg (by simp)])
    clear hr
    go_enter Tryz.func74, Tryz.ntmps74
    go_wp2_with fail
    refine (CR.out _ B0.out).mono ?_
    rintro e w1 ⟨rfl, hb⟩
    have HB := Lib.hid (B0.out.trans (hb.mono B0.out.size))
    clear hb
    go_wp2_with fail
    go_ret
    exact ⟨by rw [HR.out] <;> rfl, HB.out⟩
  | true =>
    rw [hr] at CR HA HP
    have hn := HP.out rfl
    have n1 := hn.2.2.1
    have n3 := hn.2.2.2.1
    clear hn HP hr
    have HP := P0
    generalize cs.length = n at *
    cases q0 : decide (ch < 0) with
    | true =>
      have HR := Lib.hid (show r = -1 from by rw [HA.out, if_neg (by simp at q0; omega)])
      go_enter Tryz.func74, Tryz.ntmps74
      go_wp2_with fail
      refine (CR.out _ B0.out).mono ?_
      rintro e w1 ⟨rfl, hb⟩
      have HB := Lib.hid (B0.out.trans (hb.mono B0.out.size))
      clear hb
      go_wp2_with fail
      go_ret
      exact ⟨by rw [HR.out] <;> rfl, HB.out⟩
    | false =>
    cases q1 : decide ((n : Int) ≤ ch) with
    | true =>
      have HR := Lib.hid (show r = -1 from by rw [HA.out, if_neg (by simp at q1; omega)])
      go_enter Tryz.func74, Tryz.ntmps74
      go_wp2_with fail
      refine (CR.out _ B0.out).mono ?_
      rintro e w1 ⟨rfl, hb⟩
      have HB := Lib.hid (B0.out.trans (hb.mono B0.out.size))
      obtain ⟨_, hc0, hc1, _⟩ := (P0.out.below hb P0.out.lt).facts
      clear hb
      go_wp2_with fail
      go_ret
      exact ⟨by rw [HR.out] <;> rfl, HB.out⟩
    | false =>
    cases q2 : decide (at' < 0) with
    | true =>
      have HR := Lib.hid (show r = -1 from by rw [HA.out, if_neg (by simp at q2; omega)])
      go_enter Tryz.func74, Tryz.ntmps74
      go_wp2_with fail
      refine (CR.out _ B0.out).mono ?_
      rintro e w1 ⟨rfl, hb⟩
      have HB := Lib.hid (B0.out.trans (hb.mono B0.out.size))
      obtain ⟨_, hc0, hc1, _⟩ := (P0.out.below hb P0.out.lt).facts
      clear hb
      go_wp2_with fail
      go_ret
      exact ⟨by rw [HR.out] <;> rfl, HB.out⟩
    | false =>
    cases q3 : decide (4096 < at') with
    | true =>
      have HR := Lib.hid (show r = -1 from by rw [HA.out, if_neg (by simp at q3; omega)])
      go_enter Tryz.func74, Tryz.ntmps74
      go_wp2_with fail
      refine (CR.out _ B0.out).mono ?_
      rintro e w1 ⟨rfl, hb⟩
      have HB := Lib.hid (B0.out.trans (hb.mono B0.out.size))
      obtain ⟨_, hc0, hc1, _⟩ := (P0.out.below hb P0.out.lt).facts
      clear hb
      go_wp2_with fail
      go_ret
      exact ⟨by rw [HR.out] <;> rfl, HB.out⟩
    | false =>
      have i0 : 0 ≤ ch := by simp at q0; omega
      have i1 : ch < (n : Int) := by simp at q1; omega
      have i2 : 0 ≤ at' := by simp at q2; omega
      have i3 : at' ≤ 4096 := by simp at q3; omega
      have HR := Lib.hid (show r = at' * n + ch from by rw [HA.out, if_pos ⟨rfl, i0, i1, i2, i3⟩])
      have hn : n = 1 ∨ n = 2 ∨ n = 3 := by omega
      clear HA
      rcases hn with rfl | hn
      · have HR1 := Lib.hid (show r = at' + ch from by rw [HR.out]; omega)
        go_enter Tryz.func74, Tryz.ntmps74
        go_wp2_with fail
        refine (CR.out _ B0.out).mono ?_
        rintro e w1 ⟨rfl, hb⟩
        have HB := Lib.hid (B0.out.trans (hb.mono B0.out.size))
        obtain ⟨_, hc0, hc1, _⟩ := (P0.out.below hb P0.out.lt).facts
        clear hb
        go_wp2_with fail
        go_ret
        exact ⟨by rw [HR1.out] <;> rfl, HB.out⟩
      rcases hn with rfl | rfl
      all_goals
        go_enter Tryz.func74, Tryz.ntmps74
        go_wp2_with fail
        refine (CR.out _ B0.out).mono ?_
        rintro e w1 ⟨rfl, hb⟩
        have HB := Lib.hid (B0.out.trans (hb.mono B0.out.size))
        obtain ⟨_, hc0, hc1, _⟩ := (P0.out.below hb P0.out.lt).facts
        clear hb
        go_wp2_with fail
        go_ret
        exact ⟨by rw [HR.out] <;> rfl, HB.out⟩

theorem pl_drawn {B : Nat} {a w : World} (h : Below B a w) (n : Nat) : Below B a (w.drewN n) := ⟨h.os, h.tape, h.output, h.size, h.block⟩
def PlaceIs (E : Nat → Addr) (ep : Int) (cs : List (List Int)) (a : Int) (v : Value) : Prop :=
  (rightB ep cs = false ∧ v = .tuple #[.int .i64 0, .int .i64 0, errAt (E 3)]) ∨ (rightB ep cs = true ∧ ¬ (0 ≤ a ∧ a ≤ 4095) ∧ v = .tuple #[.int .i64 0, .int .i64 0, errAt (E 0)]) ∨
    (rightB ep cs = true ∧ 0 ≤ a ∧ a ≤ 4095 ∧ v = .tuple #[.int .i64 (a % cs.length), .int .i64 (a / cs.length), .nilIface])

set_option maxHeartbeats 1000000 in
theorem place_any (E : Nat → Addr) (ep : Int) (cs : List (List Int)) (v : Value) (a : Int) (B : Nat) (w : World) (hv : Grid w B v cs) (hB : B ≤ w.heap.size) (hE : Er2 w E) :
    Calls Tryz.prog 68 #[planV ep v, .int .i64 a] w fun e w' => ∃ x, e = .returned x ∧ PlaceIs E ep cs a x ∧ Below w.heap.size w w' := by
  obtain ⟨hlen, A, c, rfl, hcl⟩ := hv.form
  clear hcl
  have B0 := Lib.hid ((Below.refl w.heap.size w).alloc (Nat.le_refl _) (.cells #[.int .i64 ep, .slice A cs.length c] 24))
  have P0 := Lib.hid (Two.new w 24 (.int .i64 ep) (.slice A cs.length c))
  have CR := Lib.hid (fun W (h : Below w.heap.size w W) => right_any ep cs _ B W (hv.below (h.mono hB)) (Nat.le_trans hB h.size))
  have HE := Lib.hid hE
  have HP := Lib.hid (fun h => @right_parts ep cs h)
  clear hv hB hE
  cases hr : rightB ep cs with
  | false =>
    rw [hr] at CR
    have HR := Lib.hid hr
    clear hr
    go_enter Tryz.func68, Tryz.ntmps68
    go_wp2_with fail
    refine (CR.out _ B0.out).mono ?_
    rintro e w1 ⟨rfl, hb⟩
    have HB := Lib.hid (B0.out.trans (hb.mono B0.out.size))
    obtain ⟨e0, e3, _, _⟩ := HE.out.below HB.out
    clear hb
    go_wp2_with fail
    go_quiet (fail)
    go_wp2_with fail
    go_ret3
    exact ⟨_, rfl, .inl ⟨HR.out, rfl⟩, pl_drawn HB.out _⟩
  | true =>
    rw [hr] at CR HP
    have hn := HP.out rfl
    have n1 := hn.2.2.1
    have n3 := hn.2.2.2.1
    have HR := Lib.hid hr
    clear hn HP hr
    cases q0 : decide (a < 0) with
    | true =>
      go_enter Tryz.func68, Tryz.ntmps68
      go_wp2_with fail
      refine (CR.out _ B0.out).mono ?_
      rintro e w1 ⟨rfl, hb⟩
      have HB := Lib.hid (B0.out.trans (hb.mono B0.out.size))
      obtain ⟨e0, e3, _, _⟩ := HE.out.below HB.out
      clear hb
      go_wp2_with fail
      go_quiet (fail)
      go_wp2_with fail
      go_ret3
      exact ⟨_, rfl, .inr (.inl ⟨HR.out, by simp at q0; omega, rfl⟩), pl_drawn HB.out _⟩
    | false =>
    cases q1 : decide (4096 ≤ a) with
    | true =>
      go_enter Tryz.func68, Tryz.ntmps68
      go_wp2_with fail
      refine (CR.out _ B0.out).mono ?_
      rintro e w1 ⟨rfl, hb⟩
      have HB := Lib.hid (B0.out.trans (hb.mono B0.out.size))
      obtain ⟨e0, e3, _, _⟩ := HE.out.below HB.out
      clear hb
      go_wp2_with fail
      go_quiet (fail)
      go_wp2_with fail
      go_ret3
      exact ⟨_, rfl, .inr (.inl ⟨HR.out, by simp at q1; omega, rfl⟩), pl_drawn HB.out _⟩
    | false =>
      have i0 : 0 ≤ a := by simp at q0; omega
      have i1 : a < 4096 := by simp at q1; omega
      have HX := Lib.hid (fun (x : Value) (h : x = .tuple #[.int .i64 (a % cs.length), .int .i64 (a / cs.length), .nilIface]) => (show PlaceIs E ep cs a x from .inr (.inr ⟨HR.out, i0, by omega, h⟩)))
      generalize cs.length = n at *
      have nz : (0 : Int) ≤ (n : Int) := by omega
      have nq : ((n : Int) == 0) = false := by simp; omega
      go_enter Tryz.func68, Tryz.ntmps68
      go_wp2_with fail
      refine (CR.out _ B0.out).mono ?_
      rintro e w1 ⟨rfl, hb⟩
      have HB := Lib.hid (B0.out.trans (hb.mono B0.out.size))
      obtain ⟨_, hc0, hc1, _⟩ := (P0.out.below hb P0.out.lt).facts
      clear hb
      go_wp2_with fail
      go_quiet (fail)
      go_wp2_with fail
      go_ret3
      exact ⟨_, rfl, HX.out _ rfl, pl_drawn HB.out _⟩
end Go.Proofs.YtiafamacjpgjoaaGreatDoor

/- Package plan's Tail. -/
namespace Go.Proofs.YtiafamacjpgjoaaGreatDoor
open Go.RowKit Tide

end Go.Proofs.YtiafamacjpgjoaaGreatDoor
