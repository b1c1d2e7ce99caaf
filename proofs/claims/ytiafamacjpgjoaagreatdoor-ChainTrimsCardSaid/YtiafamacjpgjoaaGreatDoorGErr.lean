/- What errors.Is and tidewaternum.Num answer at the project's own errors: an error's number, wherever the nineteen errors lie as their initialisers lay them. -/
import Derived.Test.YtiafamacjpgjoaaGreatDoorGMem
import Derived.Test.YtiafamacjpgjoaaGreatDoorGKeep
import Derived.LaidEql
import Derived.Stop.Asserts
import Derived.RowKitTokens
import Derived.WalkKit
import Derived.WalkSpells
namespace Go.Proofs.YtiafamacjpgjoaaGreatDoor
open Go.RowKit Go.Extern.Stop Go.Stop Go.Extern Tide

theorem eTypeOf (v : Value) (w : World) : (Extern.ReflectliteType.typeOf #[.iface 248 v]).run Tryz.prog w = .ok (.iface 173 (.agg #[.pointer (some ⟨19, 248, none⟩)])) w := by kernel_rfl
theorem eComparable (w : World) : ((Extern.ReflectliteType.method fun t => do Extern.Rtype.noPackHeld "Comparable" t; (fun a => Value.bool a.comparable) <$> typeInfo t) #[.agg #[.pointer (some ⟨19, 248, none⟩)]]).run Tryz.prog w = .ok (.bool true) w := by kernel_rfl
theorem eMethod (v : Value) (w : World) : (Go.method 384 173 v "Comparable").run Tryz.prog w = .ok (195, v) w := by kernel_rfl
theorem eComp : (Tryz.prog.info? 248).map (·.comparable) = some true := by kernel_rfl
theorem eSize : (Tryz.prog.info? 272).map (·.size) = some 1 := by kernel_rfl
theorem eIs (v : Value) (xT : TypeId) (w : World) : (Instr.typeAssert (.iface 248 v) xT 175 true).run Tryz.prog w = .ok (.tuple #[.nilIface, .bool false]) w := run_typeAssert_lacksB Tryz.underlying175 (by kernel_rfl) (by kernel_rfl) v xT w
theorem eUnwrap (v : Value) (xT : TypeId) (w : World) : (Instr.typeAssert (.iface 248 v) xT 178 true).run Tryz.prog w = .ok (.tuple #[.nilIface, .bool false]) w := run_typeAssert_lacksB Tryz.underlying178 (by kernel_rfl) (by kernel_rfl) v xT w
theorem eUnwraps (v : Value) (xT : TypeId) (w : World) : (Instr.typeAssert (.iface 248 v) xT 180 true).run Tryz.prog w = .ok (.tuple #[.nilIface, .bool false]) w := run_typeAssert_lacksB Tryz.underlying180 (by kernel_rfl) (by kernel_rfl) v xT w

abbrev errAt (a : Addr) : Value := .iface 248 (.pointer (some a))
def Lies (w : World) (a : Addr) : Prop := ∃ c t, w.heap[a.block]? = some (.cells c t (0, 0))

theorem is_self (a : Addr) (w : World) :
    Calls Tryz.prog 37 #[errAt a, errAt a] w fun e w' => e = .returned (.bool true) ∧ w = w' := by
  obtain ⟨i, hi, hcmp⟩ := Option.map_eq_some_iff.1 eComp
  obtain ⟨j, hj, hjs⟩ := Option.map_eq_some_iff.1 eSize
  have h8 := @run_callFunc_extern Tryz.prog 70 _ Extern.ReflectliteType.typeOf Tryz.func70 (by kernel_rfl) (by kernel_rfl) (by kernel_rfl) (by kernel_rfl)
  have h32 := @run_callFunc_extern Tryz.prog 195 _ (Extern.ReflectliteType.method fun t => do Extern.Rtype.noPackHeld "Comparable" t; pure (.bool (← typeInfo t).comparable)) Tryz.func195 (by kernel_rfl) (by kernel_rfl) (by kernel_rfl) (by kernel_rfl)
  have tT := eTypeOf
  have cT := eComparable
  have mR := eMethod
  have heq := run_eql_iface_ptr_same (P := Tryz.prog) w a Tryz.underlying44 Tryz.underlying248 hi hcmp hj
  go_enter Tryz.func37, Tryz.ntmps37
  go_wp2
  refine wp_loop_rounds 1 ?_
  rw [rounds_succ]
  go_wp2
  go_ret
  exact ⟨rfl, rfl⟩

theorem is_not (a b : Addr) (w : World) (hne : a ≠ b) (ha : Lies w a) (hb : Lies w b) :
    Calls Tryz.prog 37 #[errAt a, errAt b] w fun e w' => e = .returned (.bool false) ∧ w = w' := by
  obtain ⟨ca, ta, ha⟩ := ha
  obtain ⟨cb, tb, hb⟩ := hb
  obtain ⟨i, hi, hcmp⟩ := Option.map_eq_some_iff.1 eComp
  obtain ⟨j, hj, hjs⟩ := Option.map_eq_some_iff.1 eSize
  have h8 := @run_callFunc_extern Tryz.prog 70 _ Extern.ReflectliteType.typeOf Tryz.func70 (by kernel_rfl) (by kernel_rfl) (by kernel_rfl) (by kernel_rfl)
  have h32 := @run_callFunc_extern Tryz.prog 195 _ (Extern.ReflectliteType.method fun t => do Extern.Rtype.noPackHeld "Comparable" t; pure (.bool (← typeInfo t).comparable)) Tryz.func195 (by kernel_rfl) (by kernel_rfl) (by kernel_rfl) (by kernel_rfl)
  have tT := eTypeOf
  have cT := eComparable
  have mR := eMethod
  have nE := eIs
  have uE := eUnwrap
  have vE := eUnwraps
  have heq := run_eql_iface_ptr_other (P := Tryz.prog) w Tryz.underlying44 Tryz.underlying248 hi hcmp hj (by rw [hjs]; decide) hne ha hb
  go_enter Tryz.func37, Tryz.ntmps37
  go_wp2
  refine wp_loop_rounds 1 ?_
  rw [rounds_succ]
  go_wp2
  go_ret
  exact ⟨rfl, rfl⟩
end Go.Proofs.YtiafamacjpgjoaaGreatDoor

/- What tidewaternum.Num answers: nought at nil, an error's number at each of the nineteen errors. -/
namespace Go.Proofs.YtiafamacjpgjoaaGreatDoor
open Go.RowKit Tide

def evars : List Nat := [2, 3, 4, 1, 5, 6, 7, 8, 9, 0, 10, 11, 12, 13, 14, 15, 16, 17, 18]
structure Errs (w : World) (a : Nat → Addr) : Prop where
  var : ∀ i, i < 19 → w.cell? ⟨evars.getD i 0, 0, none⟩ = some (errAt (a i))
  lies : ∀ i, i < 19 → Lies w (a i)
  apart : ∀ i j, i < 19 → j < 19 → i ≠ j → a i ≠ a j
theorem Lies.lt {w : World} {a : Addr} (h : Lies w a) : a.block < w.heap.size := by
  obtain ⟨c, t, h⟩ := h
  rcases Nat.lt_or_ge a.block w.heap.size with hlt | hge
  · exact hlt
  · rw [Array.getElem?_eq_none hge] at h; cases h
theorem Lies.below {w w' : World} {a : Addr} (h : Lies w a) (hb : Below w.heap.size w w') : Lies w' a := by
  have hl := h.lt
  obtain ⟨c, t, h⟩ := h
  exact ⟨c, t, (hb.block _ hl).trans h⟩
theorem Errs.below {w w' : World} {a : Nat → Addr} (h : Errs w a) (hb : Below w.heap.size w w') : Errs w' a :=
  ⟨fun i hi => (hb.cell (p := ⟨evars.getD i 0, 0, none⟩) (World.block_lt_of_cell? _ _ (h.var i hi))).trans (h.var i hi), fun i hi => (h.lies i hi).below hb, h.apart⟩
theorem Errs.alloc {w : World} {a : Nat → Addr} (h : Errs w a) (o : Obj) : Errs (w.alloc o) a := h.below ((Below.refl _ _).alloc (Nat.le_refl _) o)
theorem errs_cell (a : Nat → Addr) (w : World) (i : Nat) (hi : i < 19) : (w.alloc (.cells #[errAt (a 0), errAt (a 1), errAt (a 2), errAt (a 3), errAt (a 4), errAt (a 5), errAt (a 6), errAt (a 7), errAt (a 8), errAt (a 9), errAt (a 10), errAt (a 11), errAt (a 12), errAt (a 13), errAt (a 14), errAt (a 15), errAt (a 16), errAt (a 17), errAt (a 18)] 44)).cell? ⟨w.heap.size, i, none⟩ = some (errAt (a i)) := by
  rw [cell_of_row _ _ i _ _ _ (heap_alloc_new w _)]
  have e : (#[errAt (a 0), errAt (a 1), errAt (a 2), errAt (a 3), errAt (a 4), errAt (a 5), errAt (a 6), errAt (a 7), errAt (a 8), errAt (a 9), errAt (a 10), errAt (a 11), errAt (a 12), errAt (a 13), errAt (a 14), errAt (a 15), errAt (a 16), errAt (a 17), errAt (a 18)] : Array Value) = ((List.range 19).map fun i => errAt (a i)).toArray := rfl
  rw [e]
  simp [hi]

theorem num_nil (w : World) : Calls Tryz.prog 14 #[.nilIface] w fun e w' => e = .returned (.int .i64 0) ∧ w = w' := by
  go_enter Tryz.func14, Tryz.ntmps14
  go_wp2
  go_ret
  exact ⟨rfl, rfl⟩

set_option maxHeartbeats 1000000 in
set_option maxRecDepth 100000 in
theorem num_err (a : Nat → Addr) (m : Nat) (hm : m < 19) (w : World) (hE : Errs w a) :
    Calls Tryz.prog 14 #[errAt (a m)] w fun e w' => e = .returned (.int .i64 ((m : Int) + 1)) ∧ Below w.heap.size w w' := by
  have h0 := hE.var 0 (by omega)
  have h1 := hE.var 1 (by omega)
  have h2 := hE.var 2 (by omega)
  have h3 := hE.var 3 (by omega)
  have h4 := hE.var 4 (by omega)
  have h5 := hE.var 5 (by omega)
  have h6 := hE.var 6 (by omega)
  have h7 := hE.var 7 (by omega)
  have h8 := hE.var 8 (by omega)
  have h9 := hE.var 9 (by omega)
  have h10 := hE.var 10 (by omega)
  have h11 := hE.var 11 (by omega)
  have h12 := hE.var 12 (by omega)
  have h13 := hE.var 13 (by omega)
  have h14 := hE.var 14 (by omega)
  have h15 := hE.var 15 (by omega)
  have h16 := hE.var 16 (by omega)
  have h17 := hE.var 17 (by omega)
  have h18 := hE.var 18 (by omega)
  simp only [evars, List.getD_cons_zero, List.getD_cons_succ] at h0 h1 h2 h3 h4 h5 h6 h7 h8 h9 h10 h11 h12 h13 h14 h15 h16 h17 h18
  have HE := Lib.hid hE
  clear hE
  go_enter Tryz.func14, Tryz.ntmps14
  go_wp2
  have hcs := errs_cell a w
  have HC := Lib.hid hcs
  clear hcs h0 h1 h2 h3 h4 h5 h6 h7 h8 h9 h10 h11 h12 h13 h14 h15 h16 h17 h18
  go_loop [30] (fun i => ∃ k : Nat, k ≤ m ∧ i = .int .i64 k) (fun i => 19 - (intOf i).toNat)
  case atStart => exact ⟨0, Nat.zero_le _, rfl⟩
  case round =>
    obtain ⟨k, hk, rfl⟩ := hrel
    have hc := HC.out k (by omega)
    by_cases hkm : k = m
    · subst hkm
      go_wp2_with fail
      refine (is_self (a k) _).mono ?_
      rintro e w' ⟨rfl, rfl⟩
      go_wp2_with fail
      go_ret
      exact ⟨rfl, (Below.refl _ _).alloc (Nat.le_refl _) _⟩
    · have hne := HE.out.apart m k (by omega) (by omega) (fun e => hkm e.symm)
      have HN := Lib.hid hne
      clear hne
      go_wp2_with fail
      refine (is_not (a m) (a k) _ HN.out ?_ ?_).mono ?_
      · exact (HE.out.alloc _).lies m (by omega)
      · exact (HE.out.alloc _).lies k (by omega)
      rintro e w' ⟨rfl, rfl⟩
      go_wp2_with fail
      go_round
      case rel => exact ⟨k + 1, by omega, by go_num⟩
      case measure => simp [intOf]; omega
end Go.Proofs.YtiafamacjpgjoaaGreatDoor

/- An error of a number, and what tidewaternum.Num answers of it. -/
namespace Go.Proofs.YtiafamacjpgjoaaGreatDoor
open Go.RowKit Tide

def IsErr (a : Nat → Addr) (x : Value) (k : Nat) : Prop := (k = 0 ∧ x = .nilIface) ∨ ∃ m, m < 19 ∧ k = m + 1 ∧ x = errAt (a m)
theorem isErr_nil (a : Nat → Addr) : IsErr a .nilIface 0 := .inl ⟨rfl, rfl⟩
theorem isErr_at (a : Nat → Addr) (m : Nat) (hm : m < 19) : IsErr a (errAt (a m)) (m + 1) := .inr ⟨m, hm, rfl, rfl⟩
theorem num_any (a : Nat → Addr) (x : Value) (k : Nat) (w : World) (hE : Errs w a) (hx : IsErr a x k) :
    Calls Tryz.prog 14 #[x] w fun e w' => e = .returned (.int .i64 (k : Int)) ∧ Below w.heap.size w w' := by
  rcases hx with ⟨rfl, rfl⟩ | ⟨m, hm, rfl, rfl⟩
  · exact (num_nil w).mono fun _ _ ⟨h1, h2⟩ => ⟨h1, h2 ▸ Below.refl _ _⟩
  · exact (num_err a m hm w hE).mono fun _ _ ⟨h1, h2⟩ => ⟨by rw [h1]; push_cast; rfl, h2⟩
end Go.Proofs.YtiafamacjpgjoaaGreatDoor

/- errors.Is at an error of a number. -/
namespace Go.Proofs.YtiafamacjpgjoaaGreatDoor
open Go.RowKit Tide

set_option maxRecDepth 100000 in
theorem is_nil (b : Addr) (w : World) :
    Calls Tryz.prog 37 #[.nilIface, errAt b] w fun e w' => e = .returned (.bool false) ∧ w = w' := by
  have heq := run_eql_iface_nil_left (P := Tryz.prog) w 248 (.pointer (some b)) Tryz.underlying44
  go_enter Tryz.func37, Tryz.ntmps37
  go_wp2
  go_ret
  exact ⟨rfl, rfl⟩
theorem is_num (a : Nat → Addr) (x : Value) (k m : Nat) (w : World) (hE : Errs w a) (hx : IsErr a x k) (hm : m < 19) :
    Calls Tryz.prog 37 #[x, errAt (a m)] w fun e w' => e = .returned (.bool (k == m + 1)) ∧ w = w' := by
  rcases hx with ⟨rfl, rfl⟩ | ⟨j, hj, rfl, rfl⟩
  · have h : ((0 : Nat) == m + 1) = false := by simp
    rw [h]
    exact is_nil (a m) w
  · by_cases e : j = m
    · subst e
      rw [show (j + 1 == j + 1) = true by simp]
      exact is_self (a j) w
    · rw [show (j + 1 == m + 1) = false by simp [e]]
      exact is_not (a j) (a m) w (hE.apart j m hj hm e) (hE.lies j hj) (hE.lies m hm)
end Go.Proofs.YtiafamacjpgjoaaGreatDoor
