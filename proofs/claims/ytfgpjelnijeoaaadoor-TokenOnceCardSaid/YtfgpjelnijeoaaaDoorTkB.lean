/- Rows of backs (a stream and addresses) in memory, and the document's SameBacks. Not tied to package token's code. -/
import Derived.Test.YtfgpjelnijeoaaaDoorPlN
import Derived.Test.YtfgpjelnijeoaaaDoorTkA
import Derived.Deep.QuietTactic
import Derived.BigQuiet
namespace Go.Proofs.YtfgpjelnijeoaaaDoor
open Go Go.RowKit Tide

/-- The slice value v reads as backs. -/
def Backs (w : World) (B : Nat) (v : Value) (bs : List (Int × List Int)) : Prop :=
  ∃ es, Recs w B v 2 es ∧ es.length = bs.length ∧ ∀ (i : Nat) (h : i < bs.length), ∃ u, es[i]? = some [.int .i64 bs[i].1, u] ∧ Row w B u (int64s bs[i].2)
section
variable {w w' : World} {B B' : Nat} {v : Value} {bs : List (Int × List Int)}
theorem Backs.keep (h : Backs w B v bs) (hk : ∀ b o, b < B → w'.cell? ⟨b, o, none⟩ = w.cell? ⟨b, o, none⟩) : Backs w' B v bs := by
  obtain ⟨es, h1, h2, h3⟩ := h
  refine ⟨es, h1.keep hk, h2, fun i hi => ?_⟩
  obtain ⟨u, h4, h5⟩ := h3 i hi
  exact ⟨u, h4, h5.keep hk⟩
theorem Backs.below (h : Backs w B v bs) (hb : Below B w w') : Backs w' B v bs := h.keep (below_cells hb)
theorem Backs.form (h : Backs w B v bs) : bs.length ≤ 9223372036854775807 ∧ ∃ A c, v = .slice A bs.length c ∧ ∀ i (hi : i < bs.length), ∃ b o u, A = some ⟨b, o, none⟩ ∧ b < B ∧
    w.cell? ⟨b, o + i * 2, none⟩ = some (.int .i64 bs[i].1) ∧ w.cell? ⟨b, o + i * 2 + 1, none⟩ = some u ∧ Row w B u (int64s bs[i].2) := by
  obtain ⟨es, ⟨hn, A, c, rfl, hc⟩, hl, h3⟩ := h
  refine ⟨by omega, A, c, by rw [hl], fun i hi => ?_⟩
  obtain ⟨u, h4, h5⟩ := h3 i hi
  obtain ⟨b, o, e, hb, hcell⟩ := hc (by intro e; subst e; simp at hl; omega)
  exact ⟨b, o, u, e, hb, by simpa using hcell i 0 _ _ h4 rfl, hcell i 1 _ _ h4 rfl, h5⟩
theorem Backs.nil (w : World) (B : Nat) : Backs w B (.slice none 0 0) [] := ⟨[], ⟨by simp, none, 0, by simp, fun h => absurd rfl h⟩, rfl, fun i h => by simp at h⟩
end

theorem below_drewN {B : Nat} {w w' : World} (h : Below B w w') (n : Nat) : Below B w (w'.drewN n) := ⟨h.os, h.tape, h.output, h.size, h.block⟩
set_option maxHeartbeats 1000000 in
/-- It draws, and that is all. -/
theorem sameIq_any (u v : Value) (l m : List Int) (B B' : Nat) (w : World) (hx : Row w B u (int64s l)) (hy : Row w B' v (int64s m)) :
    Calls Tryd.prog 16 #[u, v] w fun e w' => e = .returned (.bool (decide (l = m))) ∧ ∃ n, w' = w.drewN n := by
  obtain ⟨hl, A, c, rfl, hcx⟩ := row_ints hx
  obtain ⟨hl', A', c', rfl, hcy⟩ := row_ints hy
  have HX := Lib.hid hcx
  have HY := Lib.hid hcy
  clear hx hy hcx hcy
  by_cases hne : l.length = m.length
  · have q0 : ((l.length : Int) == (m.length : Int)) = true := by rw [hne]; simp
    have q1 : ((l.length : Int) != (m.length : Int)) = false := by rw [hne]; simp
    have HNE := Lib.hid hne
    clear hne
    go_enter Tryd.func16, Tryd.ntmps16
    go_wp2_with fail
    clear q0 q1
    go_loopw [13] (fun z wr => ∃ i : Nat, z = .int .i64 i ∧ i ≤ l.length ∧ Hid (l.take i = m.take i) ∧ Hid (∃ n, wr = w.drewN n)) (fun z _ => l.length - (intOf z).toNat)
    case atStart => exact ⟨0, rfl, Nat.zero_le _, Lib.hid (by simp), Lib.hid ⟨0, rfl⟩⟩
    case round =>
      obtain ⟨i, rfl, h1, hS, hw⟩ := hrel
      obtain ⟨n, rfl⟩ := hw.out
      by_cases hlt : i < l.length
      · have hlt2 : i < m.length := by have := HNE.out; omega
        obtain ⟨b, o, rfl, _, ha⟩ := HX.out i hlt
        obtain ⟨b', o', rfl, _, hb⟩ := HY.out i hlt2
        have i1 : (i : Int) < (l.length : Int) := by omega
        have i2 : (i : Int) < (m.length : Int) := by omega
        have HS1 := Lib.hid (show (l[i] = m[i] → l.take (i + 1) = m.take (i + 1)) from fun h => by rw [take_one l i hlt, take_one m i hlt2, hS.out, h])
        have HS2 := Lib.hid (show (¬ l[i] = m[i] → ¬ l = m) from fun h e => h (by subst e; rfl))
        generalize l[i] = p at *
        generalize m[i] = q at *
        by_cases he : p = q
        · have HR := Lib.hid (HS1.out he)
          have q0 : (p == q) = true := by simp [he]
          have q1 : (p != q) = false := by simp [he]
          clear he
          go_wp2_with fail
          go_quiet (fail)
          go_wp2_with fail
          go_roundw
          case rel => exact ⟨i + 1, by go_num, by omega, HR, Lib.hid ⟨_, rfl⟩⟩
          case measure => simp [intOf]; omega
        · have HR := Lib.hid (show decide (l = m) = false from decide_eq_false (HS2.out he))
          have q0 : (p == q) = false := by simp [he]
          have q1 : (p != q) = true := by simp [he]
          clear he
          go_wp2_with fail
          go_quiet (fail)
          go_wp2_with fail
          go_ret
          exact ⟨by rw [HR.out] <;> rfl, ⟨_, by first | rfl | exact World.drewN_drewN _ _ _⟩⟩
      · have HR := Lib.hid (show decide (l = m) = true from decide_eq_true (by
          have := hS.out; rwa [List.take_of_length_le (by omega), List.take_of_length_le (by have := HNE.out; omega)] at this))
        go_wp2_with fail
        go_ret
        exact ⟨by rw [HR.out] <;> rfl, ⟨_, by first | rfl | exact World.drewN_drewN _ _ _⟩⟩
  · have q0 : ((l.length : Int) == (m.length : Int)) = false := by simp; omega
    have q1 : ((l.length : Int) != (m.length : Int)) = true := by simp; omega
    have HR := Lib.hid (show decide (l = m) = false from decide_eq_false (fun e => hne (by rw [e])))
    clear hne
    go_enter Tryd.func16, Tryd.ntmps16
    go_wp2_with fail
    go_ret
    exact ⟨by rw [HR.out] <;> rfl, ⟨0, rfl⟩⟩

set_option maxRecDepth 100000 in
set_option maxHeartbeats 2000000 in
theorem sameBacks_any (u v : Value) (x y : List (Int × List Int)) (B B' : Nat) (w : World) (hx : Backs w B u x) (hy : Backs w B' v y) (hB : B ≤ w.heap.size) (hB' : B' ≤ w.heap.size) :
    Calls Tryd.prog 14 #[u, v] w fun e w' => e = .returned (.bool (decide (x = y))) ∧ Below w.heap.size w w' := by
  have HX := Lib.hid (fun W (h : Below w.heap.size w W) => (hx.below (h.mono hB)))
  have HY := Lib.hid (fun W (h : Below w.heap.size w W) => (hy.below (h.mono hB')))
  obtain ⟨hl, A, c, rfl, _⟩ := hx.form
  obtain ⟨hl', A', c', rfl, _⟩ := hy.form
  have HB1 := Lib.hid hB
  have HB2 := Lib.hid hB'
  clear hx hy hB hB'
  by_cases hne : x.length = y.length
  · have q0 : ((x.length : Int) == (y.length : Int)) = true := by rw [hne]; simp
    have q1 : ((x.length : Int) != (y.length : Int)) = false := by rw [hne]; simp
    have HNE := Lib.hid hne
    clear hne
    go_enter Tryd.func14, Tryd.ntmps14
    go_wp2_with fail
    clear q0 q1
    go_loopw [13] (fun z wr => ∃ i : Nat, z = .int .i64 i ∧ i ≤ x.length ∧ Hid (x.take i = y.take i) ∧ Hid (Below w.heap.size w wr)) (fun z _ => x.length - (intOf z).toNat)
    case atStart => exact ⟨0, rfl, Nat.zero_le _, Lib.hid (by simp), Lib.hid (Below.refl _ _)⟩
    case round =>
      obtain ⟨i, rfl, h1, hS, hBr⟩ := hrel
      by_cases hlt : i < x.length
      · have hlt2 : i < y.length := by have := HNE.out; omega
        obtain ⟨_, A1, c1, e1, hcA⟩ := (HX.out wr hBr.out).form
        obtain ⟨_, A2, c2, e2, hcB⟩ := (HY.out wr hBr.out).form
        injection e1 with e1 _ e1c
        injection e2 with e2 _ e2c
        subst e1 e2 e1c e2c
        obtain ⟨b, o, ux, rfl, hb1, hx0, hx1, hr1⟩ := hcA i hlt
        obtain ⟨b2, o2, uy, rfl, hb2, hy0, hy1, hr2⟩ := hcB i hlt2
        have CS := Lib.hid (fun n => sameIq_any ux uy x[i].2 y[i].2 B B' (wr.drewN n) (Row.keep hr1 fun _ _ _ => rfl) (Row.keep hr2 fun _ _ _ => rfl))
        obtain ⟨_, Au, cu, rfl, _⟩ := row_ints hr1
        obtain ⟨_, Av, cv, rfl, _⟩ := row_ints hr2
        have i1 : (i : Int) < (x.length : Int) := by omega
        have i2 : (i : Int) < (y.length : Int) := by omega
        have HS1 := Lib.hid (show (x[i].1 = y[i].1 → x[i].2 = y[i].2 → x.take (i + 1) = y.take (i + 1)) from fun h h' => by
          rw [List.take_succ_eq_append_getElem hlt, List.take_succ_eq_append_getElem hlt2, hS.out, Prod.ext h h'])
        have HS2 := Lib.hid (show (¬ x[i].1 = y[i].1 → ¬ x = y) from fun h e => h (by subst e; rfl))
        have HS3 := Lib.hid (show (¬ x[i].2 = y[i].2 → ¬ x = y) from fun h e => h (by subst e; rfl))
        clear hr1 hr2 hcA hcB
        generalize x[i].1 = p at *
        generalize y[i].1 = q at *
        generalize x[i].2 = l at *
        generalize y[i].2 = m at *
        by_cases he : p = q
        · have q0 : (p == q) = true := by simp [he]
          have q1 : (p != q) = false := by simp [he]
          have HE := Lib.hid he
          clear he
          by_cases hm : l = m
          · rw [decide_eq_true hm] at CS
            have HR := Lib.hid (HS1.out HE.out hm)
            clear hm
            go_wp2_with fail
            go_quiet ((go_at_call 16; (with_reducible refine Calls.quiet_of (CS.out _))))
            all_goals
              have B2 := Lib.hid (fun n => below_drewN hBr.out n)
              go_wp2_with fail
              go_roundw
              case rel => exact ⟨i + 1, by go_num, by omega, HR, Lib.hid (B2.out _)⟩
              case measure => simp [intOf]; omega
          · rw [decide_eq_false hm] at CS
            have HR := Lib.hid (show decide (x = y) = false from decide_eq_false (HS3.out hm))
            clear hm
            go_wp2_with fail
            go_quiet ((go_at_call 16; (with_reducible refine Calls.quiet_of (CS.out _))))
            all_goals
              have B2 := Lib.hid (fun n => below_drewN hBr.out n)
              go_wp2_with fail
              go_ret
              exact ⟨by rw [HR.out] <;> rfl, B2.out _⟩
        · have HR := Lib.hid (show decide (x = y) = false from decide_eq_false (HS2.out he))
          have q0 : (p == q) = false := by simp [he]
          have q1 : (p != q) = true := by simp [he]
          clear he CS
          go_wp2_with fail
          go_quiet (fail)
          all_goals
            go_wp2_with fail
            go_ret
            exact ⟨by rw [HR.out] <;> rfl, below_drewN hBr.out _⟩
      · have HR := Lib.hid (show decide (x = y) = true from decide_eq_true (by
          have := hS.out; rwa [List.take_of_length_le (by omega), List.take_of_length_le (by have := HNE.out; omega)] at this))
        go_wp2_with fail
        go_ret
        exact ⟨by rw [HR.out] <;> rfl, hBr.out⟩
  · have q0 : ((x.length : Int) == (y.length : Int)) = false := by simp; omega
    have q1 : ((x.length : Int) != (y.length : Int)) = true := by simp; omega
    have HR := Lib.hid (show decide (x = y) = false from decide_eq_false (fun e => hne (by rw [e])))
    clear hne
    go_enter Tryd.func14, Tryd.ntmps14
    go_wp2_with fail
    go_ret
    exact ⟨by rw [HR.out] <;> rfl, Below.refl _ _⟩
end Go.Proofs.YtfgpjelnijeoaaaDoor
