/- Package book: has, Set, Up, Known. -/
import Derived.Test.YtefcbofjndnpkaaDoorGBoK
import Derived.Test.YtefcbofjndnpkaaDoorGPush
import Derived.Deep.QuietTactic
import Derived.BigQuiet
namespace Go.Proofs.YtefcbofjndnpkaaDoor
open Go Go.RowKit Tide

section
variable {W W' : World} {base q bv bk n N : Nat} {T : Nat → Nat} {os : Nat → Option Nat} {up : Nat → Bool} {V : BookV} {lat : Int} {P : List (List (List Int))}
/-- Is there such a voter? -/
def hasB (n : Nat) (i : Int) : Bool := decide (0 ≤ i) && decide (i < (n : Int))
set_option maxRecDepth 100000 in
theorem bhas_any (H : BookW W base T q bv bk n N os up V lat P) (i : Int) : Calls Tryd.prog 30 #[.pointer (some ⟨q, 0, none⟩), .int .i64 i] W fun e w' => e = .returned (.bool (hasB n i)) ∧ w' = W := by
  obtain ⟨hq, c0, c1, c2, f⟩ := H.facts
  clear H c1 c2 f
  cases q0 : decide (0 ≤ i) with
  | false =>
    have hr : hasB n i = false := by unfold hasB; rw [q0]; rfl
    rw [hr]
    go_enter Tryd.func30, Tryd.ntmps30
    go_wp2_with fail
    go_ret
    exact ⟨rfl, rfl⟩
  | true =>
    cases q1 : decide (i < (n : Int)) with
    | false =>
      have hr : hasB n i = false := by unfold hasB; rw [q0, q1]; rfl
      rw [hr]
      go_enter Tryd.func30, Tryd.ntmps30
      go_wp2_with fail
      go_ret
      exact ⟨rfl, rfl⟩
    | true =>
      have hr : hasB n i = true := by unfold hasB; rw [q0, q1]; rfl
      rw [hr]
      go_enter Tryd.func30, Tryd.ntmps30
      go_wp2_with fail
      go_ret
      exact ⟨rfl, rfl⟩
/-- Who is up behind Set. -/
def setUpV (n : Nat) (up : Nat → Bool) (i : Int) (u : Bool) : Nat → Bool := if hasB n i then upd up i.toNat u else up
set_option maxRecDepth 100000 in
theorem bset_any (H : BookW W base T q bv bk n N os up V lat P) (i : Int) (u : Bool) : Calls Tryd.prog 13 #[.pointer (some ⟨q, 0, none⟩), .int .i64 i, .bool u] W fun e w' => e = .returned (.tuple #[]) ∧ BookW w' base T q bv bk n N os (setUpV n up i u) V lat P ∧ KeptS base W w' := by
  obtain ⟨hq, c0, c1, c2, f⟩ := H.facts
  have CH := Lib.hid (bhas_any H i)
  obtain ⟨hb, hhb⟩ : ∃ hb, hasB n i = hb := ⟨_, rfl⟩
  have HH := Lib.hid hhb
  rw [hhb] at CH
  have HS := Lib.hid (show setUpV n up i u = if hb then upd up i.toNat u else up from by unfold setUpV; rw [hhb])
  have HB := Lib.hid H
  clear H hhb c1 c2 f
  cases hb with
  | false =>
    have HR := Lib.hid (show BookW W base T q bv bk n N os (setUpV n up i u) V lat P from by rw [HS.out]; exact HB.out)
    go_enter Tryd.func13, Tryd.ntmps13
    go_wp2_with fail
    refine CH.out.mono ?_
    rintro e w1 ⟨rfl, rfl⟩
    clear CH
    go_wp2_with fail
    go_end0
    exact ⟨rfl, HR.out, KeptS.refl _ _⟩
  | true =>
    have hh := HH.out
    unfold hasB at hh
    simp only [Bool.and_eq_true, decide_eq_true_eq] at hh
    obtain ⟨j, rfl⟩ : ∃ j : Nat, i = (j : Int) := ⟨i.toNat, by omega⟩
    have hj : j < n := by omega
    obtain ⟨hl, d0, ff⟩ := HB.out.upAt hj
    have HR := Lib.hid (show BookW (W.setCell ⟨bv, j * 2 + 1, none⟩ (.bool u)) base T q bv bk n N os (setUpV n up j u) V lat P ∧ KeptS base W (W.setCell ⟨bv, j * 2 + 1, none⟩ (.bool u)) from by
      have e : setUpV n up j u = upd up j u := by rw [HS.out, if_pos rfl, Int.toNat_natCast]
      rw [e]
      exact HB.out.setUp hj u)
    have i1 : (j : Int) < (n : Int) := by omega
    clear hh HS HH
    generalize setUpV n up j u = up' at *
    go_enter Tryd.func13, Tryd.ntmps13
    go_wp2_with fail
    refine CH.out.mono ?_
    rintro e w1 ⟨rfl, rfl⟩
    clear CH
    go_wp2_with fail
    go_end0
    exact ⟨rfl, HR.out⟩
/-- How many are up. -/
def upN (n : Nat) (up : Nat → Bool) : Nat := (List.range n).countP up
theorem upN_succ (n : Nat) (up : Nat → Bool) : upN (n + 1) up = upN n up + if up n then 1 else 0 := by
  unfold upN
  rw [List.range_succ, List.countP_append, List.countP_singleton]
theorem upN_le (n : Nat) (up : Nat → Bool) : upN n up ≤ n := by
  have := List.countP_le_length (p := up) (l := List.range n)
  rw [List.length_range] at this
  exact this
set_option maxRecDepth 100000 in
theorem bup_any (H : BookW W base T q bv bk n N os up V lat P) (hn : n ≤ 5) : Calls Tryd.prog 17 #[.pointer (some ⟨q, 0, none⟩)] W fun e w' => e = .returned (.int .i64 (upN n up : Int)) ∧ w' = W := by
  obtain ⟨hq, c0, c1, c2, f⟩ := H.facts
  have HB := Lib.hid H
  clear H c1 c2 f
  go_enter Tryd.func17, Tryd.ntmps17
  go_wp2_with fail
  go_loopw [10, 3] (fun x y wr => ∃ i c : Nat, x = .int .i64 i ∧ y = .int .i64 c ∧ i ≤ n ∧ c ≤ i ∧ Hid (c = upN i up) ∧ wr = W) (fun x _ _ => n - (intOf x).toNat)
  case atStart => exact ⟨0, 0, rfl, rfl, by omega, by omega, Lib.hid rfl, rfl⟩
  case round =>
    obtain ⟨i, c, rfl, rfl, hi, hc, hE, rfl⟩ := hrel
    by_cases hlt : i < n
    · have i1 : (i : Int) < (n : Int) := by omega
      obtain ⟨hl, d0, ff⟩ := HB.out.upAt hlt
      have HE := Lib.hid (upN_succ i up)
      clear ff
      obtain ⟨u, hu⟩ : ∃ u, up i = u := ⟨_, rfl⟩
      rw [hu] at d0 HE
      clear hu
      cases u with
      | true =>
        go_wp2_with fail
        go_roundw
        case rel => exact ⟨i + 1, c + 1, by go_num, by go_num, by omega, by omega, Lib.hid (by rw [HE.out, hE.out]; rfl), trivial⟩
        case measure => simp [intOf]; omega
      | false =>
        go_wp2_with fail
        go_roundw
        case rel => exact ⟨i + 1, c, by go_num, rfl, by omega, by omega, Lib.hid (by rw [HE.out, hE.out]; rfl), trivial⟩
        case measure => simp [intOf]; omega
    · have HE2 := Lib.hid (show c = upN n up from by rw [hE.out, show i = n by omega])
      clear hE
      go_wp2_with fail
      go_ret
      exact ⟨by rw [HE2.out] <;> rfl, rfl⟩
set_option maxRecDepth 100000 in
theorem bknown_any (H : BookW W base T q bv bk n N os up V lat P) : Calls Tryd.prog 15 #[.pointer (some ⟨q, 0, none⟩)] W fun e w' => e = .returned (.int .i64 (P.length : Int)) ∧ w' = W := by
  obtain ⟨hq, c0, c1, c2, f⟩ := H.facts
  obtain ⟨g, hM, _⟩ := H.known
  have HM := Lib.hid hM
  obtain ⟨m, hm⟩ : ∃ m, P.length = m := ⟨_, rfl⟩
  rw [hm] at HM ⊢
  clear H hM hm c0 c2 f
  go_enter Tryd.func15, Tryd.ntmps15
  go_wp2_with (at_len; refine wpList_ime_len _ Tryd.underlying52 HM.out rfl _ rfl rfl ?_)
  go_ret
  exact ⟨rfl, rfl⟩
end
end Go.Proofs.YtefcbofjndnpkaaDoor

/- Package book: reached. -/
namespace Go.Proofs.YtefcbofjndnpkaaDoor
open Go Go.RowKit Tide

/-- Those asked that there are and that are up. -/
def reachI (n : Nat) (up : Nat → Bool) (l : List Int) : List Nat := (l.filter fun i => hasB n i && up i.toNat).map Int.toNat
theorem reach_snoc (n : Nat) (up : Nat → Bool) (l : List Int) (k : Nat) (h : k < l.length) : reachI n up (l.take (k + 1)) = reachI n up (l.take k) ++ if hasB n l[k] && up l[k].toNat then [l[k].toNat] else [] := by
  unfold reachI
  rw [List.take_succ_eq_append_getElem h, List.filter_append, List.map_append]
  congr 1
  generalize l[k] = x
  cases e : (hasB n x && up x.toNat)
  · rw [List.filter_cons, if_neg (by simp [e]), if_neg (by decide)]; rfl
  · rw [List.filter_cons, if_pos (by simp [e]), if_pos rfl]; rfl
theorem own_sl {w : World} {base : Nat} {v : Value} {l : List Int} (h : Own w base v l) : ∃ m A c, v = .slice A m c ∧ m = l.length := by
  rcases h.2 with ⟨rfl, h0⟩ | ⟨g, cap, cur, rfl, _⟩
  · exact ⟨0, _, _, rfl, h0.symm⟩
  · exact ⟨_, _, _, rfl, rfl⟩
theorem reach_lt {n : Nat} {up : Nat → Bool} {l : List Int} : ∀ k ∈ reachI n up l, k < n := fun k hk => by
  unfold reachI at hk
  obtain ⟨i, hi, rfl⟩ := List.mem_map.1 hk
  have := (List.mem_filter.1 hi).2
  unfold hasB at this
  simp only [Bool.and_eq_true, decide_eq_true_eq] at this
  omega
theorem reach_len (n : Nat) (up : Nat → Bool) (l : List Int) : (reachI n up l).length ≤ l.length := by
  unfold reachI
  rw [List.length_map]
  exact List.length_filter_le _ _
section
variable {W W' : World} {base q bv bk n N : Nat} {T : Nat → Nat} {os : Nat → Option Nat} {up : Nat → Bool} {V : BookV} {lat : Int} {P : List (List (List Int))}
set_option maxRecDepth 100000 in
set_option maxHeartbeats 1000000 in
theorem breached_any (H : BookW W base T q bv bk n N os up V lat P) {v : Value} {l : List Int} {B : Nat} (hv : Row W B v (int64s l)) (hB : B ≤ W.heap.size) (hl : l.length ≤ 1000) :
    Calls Tryd.prog 25 #[.pointer (some ⟨q, 0, none⟩), v] W fun e w' => ∃ u, e = .returned u ∧ Own w' W.heap.size u ((reachI n up l).map Int.ofNat) ∧ Below W.heap.size W w' := by
  obtain ⟨hlen, A, c, rfl, hcell⟩ := row_ints hv
  have HB := Lib.hid H
  have HC := Lib.hid hcell
  have HBB := Lib.hid hB
  have HL := Lib.hid hl
  have hq := H.lt.1
  clear hv hcell hB hl H
  go_enter Tryd.func25, Tryd.ntmps25
  go_wp2_with fail
  go_loopw [10, 5] (fun x y wr => ∃ (k : Nat) (u : Value), x = .int .i64 k ∧ y = u ∧ k ≤ l.length ∧ Hid (Own wr W.heap.size u ((reachI n up (l.take k)).map Int.ofNat)) ∧ Hid (Below W.heap.size W wr)) (fun x _ _ => l.length - (intOf x).toNat)
  case atStart => exact ⟨0, _, rfl, rfl, Nat.zero_le _, Lib.hid ⟨by rfl, .inl ⟨rfl, rfl⟩⟩, Lib.hid (Below.refl _ _)⟩
  case round =>
    obtain ⟨k, u, rfl, rfl, hk, hO, hb⟩ := hrel
    by_cases hlt : k < l.length
    · have i1 : (k : Int) < (l.length : Int) := by omega
      have hlb : l.length ≤ 1000 := HL.out
      obtain ⟨b, o, rfl, hbB, h0⟩ := HC.out k hlt
      have h1 := (hb.out.cell (p := ⟨b, o + k, none⟩) (Nat.lt_of_lt_of_le hbB HBB.out)).trans h0
      have HB1 := Lib.hid (HB.out.below hb.out)
      have CH := Lib.hid (bhas_any HB1.out l[k])
      have HS := Lib.hid (reach_snoc n up l k hlt)
      have HLn := Lib.hid (show ((reachI n up (l.take k)).map Int.ofNat).length ≤ 1000000 from by
        rw [List.length_map]
        have := reach_len n up (l.take k)
        rw [List.length_take] at this
        omega)
      obtain ⟨_, c0, _, _, _⟩ := HB1.out.facts
      obtain ⟨i, hi⟩ : ∃ i, l[k] = i := ⟨_, rfl⟩
      rw [hi] at CH HS h1
      obtain ⟨hb1, hhb⟩ : ∃ hb1, hasB n i = hb1 := ⟨_, rfl⟩
      have HH := Lib.hid hhb
      rw [hhb] at CH HS
      obtain ⟨m, Au, cu, rfl, hm⟩ := own_sl hO.out
      have HM := Lib.hid hm
      clear hm
      generalize hrl : reachI n up (l.take k) = r at *
      clear h0 hhb hi hrl
      cases hb1 with
      | false =>
        have HO2 := Lib.hid (show Own wr W.heap.size (.slice Au m cu) ((reachI n up (l.take (k + 1))).map Int.ofNat) from by rw [HS.out, Bool.false_and, if_neg (by decide), List.append_nil]; exact hO.out)
        go_wp2_with fail
        refine CH.out.mono ?_
        rintro e w1 ⟨rfl, rfl⟩
        clear CH
        go_wp2_with fail
        go_roundw
        case rel => exact ⟨k + 1, _, by go_num, rfl, by omega, HO2, hb⟩
        case measure => simp [intOf]; omega
      | true =>
        have hh := HH.out
        unfold hasB at hh
        simp only [Bool.and_eq_true, decide_eq_true_eq] at hh
        obtain ⟨j, rfl⟩ : ∃ j : Nat, i = (j : Int) := ⟨i.toNat, by omega⟩
        have hj : j < n := by omega
        have i2 : (j : Int) < (n : Int) := by omega
        obtain ⟨hl0, d0, _⟩ := HB1.out.upAt hj
        rw [Bool.true_and, Int.toNat_natCast] at HS
        obtain ⟨uj, huj⟩ : ∃ uj, up j = uj := ⟨_, rfl⟩
        rw [huj] at d0 HS
        clear huj hh HH
        cases uj with
        | false =>
          have HO2 := Lib.hid (show Own wr W.heap.size (.slice Au m cu) ((reachI n up (l.take (k + 1))).map Int.ofNat) from by rw [HS.out, if_neg (by decide), List.append_nil]; exact hO.out)
          go_wp2_with fail
          refine CH.out.mono ?_
          rintro e w1 ⟨rfl, rfl⟩
          clear CH
          go_wp2_with fail
          go_roundw
          case rel => exact ⟨k + 1, _, by go_num, rfl, by omega, HO2, hb⟩
          case measure => simp [intOf]; omega
        | true =>
          have HS2 := Lib.hid (show (reachI n up (l.take (k + 1))).map Int.ofNat = r.map Int.ofNat ++ [(j : Int)] from by rw [HS.out, if_pos rfl, List.map_append]; rfl)
          generalize r.map Int.ofNat = rr at *
          go_wp2_with fail
          refine CH.out.mono ?_
          rintro e w1 ⟨rfl, rfl⟩
          clear CH
          go_wp2_with (at_builtin; refine wpList_push rfl (.tmp 27) (.tmp 29) rfl (j : Int) rfl rfl hO.out HLn.out hb.out.size ?_; intro v' w' g1 g2 g3)
          have HO2 := Lib.hid (show Own w' W.heap.size v' ((reachI n up (l.take (k + 1))).map Int.ofNat) from by rw [HS2.out]; exact g1)
          have HB2 := Lib.hid (hb.out.trans g3)
          go_wp2_with fail
          go_roundw
          case rel => exact ⟨k + 1, _, by go_num, rfl, by omega, HO2, HB2⟩
          case measure => simp [intOf]; omega
    · have HR := Lib.hid (show Own wr W.heap.size u5 ((reachI n up l).map Int.ofNat) from by
        have := hO.out
        rwa [List.take_of_length_le (by omega)] at this)
      clear hO
      go_wp2_with fail
      go_ret
      exact ⟨_, rfl, HR.out, hb.out⟩
end
end Go.Proofs.YtefcbofjndnpkaaDoor
