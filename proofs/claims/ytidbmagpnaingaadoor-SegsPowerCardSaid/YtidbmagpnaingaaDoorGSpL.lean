/- What tidewaternum.SameLists and SameInts answer of any two lists. -/
import Derived.Test.YtidbmagpnaingaaDoorGRecs
import Derived.Test.YtidbmagpnaingaaDoorGConv
import Derived.WalkKit
import Derived.WalkSpells
import Derived.Deep.QuietTactic
import Derived.BigQuiet
import Derived.Lib.Strings
namespace Go.Proofs.YtidbmagpnaingaaDoor
open Go.RowKit Tide

theorem drewN_more (w : World) (a b : Nat) : (w.drewN a).drewN b = w.drewN (a + b) := by
  unfold World.drewN
  simp [Nat.add_assoc]
theorem text_same {l m : List UInt8} : ((text l).toList == (text m).toList) = decide (l = m) := by
  rw [Bool.eq_iff_iff, beq_iff_eq, decide_eq_true_eq]
  refine ⟨fun h => ?_, fun h => by rw [h]⟩
  rw [Lib.toList_data, Lib.toList_data] at h
  exact h
theorem take_same {α : Type} {l m : List α} (hl : l.length = m.length) {i : Nat} (hi : i < l.length) (h : l.take i = m.take i) (he : l[i] = m[i]'(by omega)) : l.take (i + 1) = m.take (i + 1) := by
  rw [List.take_succ_eq_append_getElem hi, List.take_succ_eq_append_getElem (by omega), h, he]
set_option maxHeartbeats 1000000 in
theorem same_lists (u v : Value) (l m : List (List UInt8)) (B B' : Nat) (w : World) (hx : Parts w B u l) (hy : Parts w B' v m) :
    Calls Tryd.prog 24 #[u, v] w fun e w' => e = .returned (.bool (decide (l = m))) ∧ ∃ n, w' = w.drewN n := by
  obtain ⟨hxn, A, c, rfl, hcx⟩ := hx.form
  obtain ⟨hyn, A', c', rfl, hcy⟩ := hy.form
  have HX := Lib.hid hcx
  have HY := Lib.hid hcy
  clear hx hy hcx hcy
  by_cases hlen : l.length = m.length
  · have q0 : ((l.length : Int) != (m.length : Int)) = false := by rw [hlen]; simp
    have HL := Lib.hid hlen
    go_enter Tryd.func24, Tryd.ntmps24
    obtain ⟨L, hLl⟩ : ∃ L, l.length = L := ⟨_, rfl⟩
    obtain ⟨M, hMl⟩ : ∃ M, m.length = M := ⟨_, rfl⟩
    have HLl := Lib.hid hLl
    have HMl := Lib.hid hMl
    rw [hLl, hMl] at q0
    rw [hLl] at hxn ⊢
    rw [hMl] at hyn ⊢
    clear hlen hLl hMl
    go_wp2_with fail
    go_loopw [13] (fun z wr => ∃ (i n : Nat), z = .int .i64 i ∧ i ≤ L ∧ Hid (l.take i = m.take i) ∧ Hid (wr = w.drewN n)) (fun z _ => L - (intOf z).toNat)
    case atStart => exact ⟨0, 0, rfl, Nat.zero_le _, Lib.hid rfl, Lib.hid rfl⟩
    case round =>
      obtain ⟨i, n, rfl, h1, ht, hw⟩ := hrel
      by_cases hlt : i < L
      · have hil : i < l.length := by rw [HLl.out]; exact hlt
        have him : i < m.length := by rw [← HL.out]; exact hil
        obtain ⟨b, o, u1, rfl, ha, hba⟩ := HX.out i hil
        obtain ⟨b', o', u2, rfl, hb, hbb⟩ := HY.out i him
        have hw' := hw.out
        replace ha : wr.cell? _ = _ := (show wr.cell? _ = w.cell? _ by rw [hw']; rfl).trans ha
        replace hb : wr.cell? _ = _ := (show wr.cell? _ = w.cell? _ by rw [hw']; rfl).trans hb
        have cv1 : ∀ k, (convert 52 9 u1).run Tryd.prog (wr.drewN k) = .ok (.string (text l[i])) (wr.drewN k) := fun k => by rw [hw']; exact conv_bytes ((hba.drewN n).drewN k)
        have cv2 : ∀ k, (convert 52 9 u2).run Tryd.prog (wr.drewN k) = .ok (.string (text m[i])) (wr.drewN k) := fun k => by rw [hw']; exact conv_bytes ((hbb.drewN n).drewN k)
        clear hw'
        obtain ⟨A1, c1, rfl, -⟩ := hba.form
        obtain ⟨A2, c2, rfl, -⟩ := hbb.form
        have i1 : (i : Int) < (L : Int) := by omega
        have i2 : (i : Int) < (M : Int) := by have := HMl.out; omega
        obtain ⟨x, hx⟩ : ∃ x, l[i] = x := ⟨_, rfl⟩
        obtain ⟨y, hy⟩ : ∃ y, m[i] = y := ⟨_, rfl⟩
        simp only [hx] at cv1
        simp only [hy] at cv2
        have hqe := text_same (l := x) (m := y)
        obtain ⟨X, hX⟩ : ∃ X, (text x) = X := ⟨_, rfl⟩
        obtain ⟨Y, hY⟩ : ∃ Y, (text y) = Y := ⟨_, rfl⟩
        simp only [hX] at cv1
        simp only [hY] at cv2
        rw [hX, hY] at hqe
        cases hxy : decide (x = y) with
        | true =>
          have HE := Lib.hid (take_same HL.out hil ht.out (by rw [hx, hy]; exact of_decide_eq_true hxy))
          rw [hxy] at hqe
          have q2 : (X.toList != Y.toList) = false := by unfold bne; rw [hqe]; rfl
          simp only [hx] at ha
          simp only [hy] at hb
          clear hba hbb hx hy hX hY hxy hil him
          go_wp2_with fail
          go_quiet (fail)
          go_wp2_with fail
          go_roundw
          case rel => exact ⟨i + 1, n + nq, by go_num, by omega, HE, Lib.hid (by rw [hw.out]; exact drewN_more _ _ _)⟩
          case measure => simp [intOf]; omega
        | false =>
          have hne : decide (l = m) = false := decide_eq_false (fun e => by
            have := of_decide_eq_false hxy
            subst e
            exact this (hx.symm.trans hy))
          rw [hxy] at hqe
          have q2 : (X.toList != Y.toList) = true := by unfold bne; rw [hqe]; rfl
          have HNe := Lib.hid hne
          simp only [hx] at ha
          simp only [hy] at hb
          clear hba hbb hx hy hX hY hxy hil him hne
          go_wp2_with fail
          go_quiet (fail)
          go_wp2_with fail
          go_ret
          exact ⟨by rw [HNe.out]; rfl, n + nq, by rw [hw.out]; exact drewN_more _ _ _⟩
      · have hE := Lib.hid (show decide (l = m) = true from decide_eq_true (by
          have h2 := ht.out
          have h3 := HLl.out
          have h4 := HL.out
          rwa [List.take_of_length_le (by omega), List.take_of_length_le (by omega)] at h2))
        go_wp2_with fail
        go_ret
        exact ⟨by rw [hE.out]; rfl, _, hw.out⟩
  · have hne : decide (l = m) = false := decide_eq_false (fun e => hlen (by rw [e]))
    obtain ⟨L, hLl⟩ : ∃ L, l.length = L := ⟨_, rfl⟩
    obtain ⟨M, hMl⟩ : ∃ M, m.length = M := ⟨_, rfl⟩
    rw [hLl, hMl] at hlen
    rw [hLl] at hxn ⊢
    rw [hMl] at hyn ⊢
    rw [hne]
    have q0 : ((L : Int) != (M : Int)) = true := by rw [bne_iff_ne]; omega
    clear hne hLl hMl hlen
    go_enter Tryd.func24, Tryd.ntmps24
    go_wp2_with fail
    go_ret
    exact ⟨rfl, 0, rfl⟩
theorem ints_form {w : World} {B : Nat} {v : Value} {l : List Int} (h : Row w B v (int64s l)) : l.length ≤ 9223372036854775807 ∧ ∃ A c, v = .slice A l.length c ∧ ∀ j (hj : j < l.length), ∃ b o, A = some ⟨b, o, none⟩ ∧ w.cell? ⟨b, o + j, none⟩ = some (.int .i64 l[j]) := by
  obtain ⟨hn, A, c, rfl, _, _, hc⟩ := h
  refine ⟨by rw [int64s_length] at hn; exact hn, A, c, by rw [int64s_length], fun j hj => ?_⟩
  obtain ⟨b, o, e, _, hcell⟩ := hc (by intro e; have := int64s_length l; rw [e] at this; simp at this; omega)
  refine ⟨b, o, e, hcell j _ ?_⟩
  simp [int64s, hj]
set_option maxHeartbeats 1000000 in
theorem same_intsB (u v : Value) (l m : List Int) (B B' : Nat) (w : World) (hx : Row w B u (int64s l)) (hy : Row w B' v (int64s m)) :
    Calls Tryd.prog 25 #[u, v] w fun e w' => e = .returned (.bool (decide (l = m))) ∧ ∃ n, w' = w.drewN n := by
  obtain ⟨hxn, A, c, rfl, hcx⟩ := ints_form hx
  obtain ⟨hyn, A', c', rfl, hcy⟩ := ints_form hy
  have HX := Lib.hid hcx
  have HY := Lib.hid hcy
  clear hx hy hcx hcy
  by_cases hlen : l.length = m.length
  · have q0 : ((l.length : Int) != (m.length : Int)) = false := by rw [hlen]; simp
    have HL := Lib.hid hlen
    go_enter Tryd.func25, Tryd.ntmps25
    obtain ⟨L, hLl⟩ : ∃ L, l.length = L := ⟨_, rfl⟩
    obtain ⟨M, hMl⟩ : ∃ M, m.length = M := ⟨_, rfl⟩
    have HLl := Lib.hid hLl
    have HMl := Lib.hid hMl
    rw [hLl, hMl] at q0
    rw [hLl] at hxn ⊢
    rw [hMl] at hyn ⊢
    clear hlen hLl hMl
    go_wp2_with fail
    go_loopw [13] (fun z wr => ∃ (i n : Nat), z = .int .i64 i ∧ i ≤ L ∧ Hid (l.take i = m.take i) ∧ Hid (wr = w.drewN n)) (fun z _ => L - (intOf z).toNat)
    case atStart => exact ⟨0, 0, rfl, Nat.zero_le _, Lib.hid rfl, Lib.hid rfl⟩
    case round =>
      obtain ⟨i, n, rfl, h1, ht, hw⟩ := hrel
      obtain rfl := hw.out
      by_cases hlt : i < L
      · have hil : i < l.length := by rw [HLl.out]; exact hlt
        have him : i < m.length := by rw [← HL.out]; exact hil
        obtain ⟨b, o, rfl, ha⟩ := HX.out i hil
        obtain ⟨b', o', rfl, hb⟩ := HY.out i him
        have i1 : (i : Int) < (L : Int) := by omega
        have i2 : (i : Int) < (M : Int) := by have := HMl.out; omega
        obtain ⟨x, hx⟩ : ∃ x, l[i] = x := ⟨_, rfl⟩
        obtain ⟨y, hy⟩ : ∃ y, m[i] = y := ⟨_, rfl⟩
        rw [hx] at ha
        rw [hy] at hb
        cases hxy : decide (x = y) with
        | true =>
          have HE := Lib.hid (take_same HL.out hil ht.out (by rw [hx, hy]; exact of_decide_eq_true hxy))
          have q2 : (x != y) = false := by rw [of_decide_eq_true hxy]; simp
          clear hx hy hxy hil him
          go_wp2_with fail
          go_quiet (fail)
          go_wp2_with fail
          go_roundw
          case rel => exact ⟨i + 1, _, by go_num, by omega, HE, Lib.hid rfl⟩
          case measure => simp [intOf]; omega
        | false =>
          have hne : decide (l = m) = false := decide_eq_false (fun e => by
            have := of_decide_eq_false hxy
            subst e
            exact this (hx.symm.trans hy))
          have q2 : (x != y) = true := by rw [bne_iff_ne]; exact of_decide_eq_false hxy
          have HNe := Lib.hid hne
          clear hx hy hxy hil him hne
          go_wp2_with fail
          go_quiet (fail)
          go_wp2_with fail
          go_ret
          exact ⟨by rw [HNe.out]; rfl, n + nq, drewN_more _ _ _⟩
      · have hE := Lib.hid (show decide (l = m) = true from decide_eq_true (by
          have h2 := ht.out
          have h3 := HLl.out
          have h4 := HL.out
          rwa [List.take_of_length_le (by omega), List.take_of_length_le (by omega)] at h2))
        go_wp2_with fail
        go_ret
        exact ⟨by rw [hE.out]; rfl, _, rfl⟩
  · have hne : decide (l = m) = false := decide_eq_false (fun e => hlen (by rw [e]))
    obtain ⟨L, hLl⟩ : ∃ L, l.length = L := ⟨_, rfl⟩
    obtain ⟨M, hMl⟩ : ∃ M, m.length = M := ⟨_, rfl⟩
    rw [hLl, hMl] at hlen
    rw [hLl] at hxn ⊢
    rw [hMl] at hyn ⊢
    rw [hne]
    have q0 : ((L : Int) != (M : Int)) = true := by rw [bne_iff_ne]; omega
    clear hne hLl hMl hlen
    go_enter Tryd.func25, Tryd.ntmps25
    go_wp2_with fail
    go_ret
    exact ⟨rfl, 0, rfl⟩
end Go.Proofs.YtidbmagpnaingaaDoor
