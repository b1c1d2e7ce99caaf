/- The document's own unit: Write. -/
import Derived.Test.YtcpanaokfbojnaaGreatDoorGUrS
import Derived.Deep.DeepCutAuto
import Derived.Deep.CutBlock
import Derived.IntWalk
namespace Go.Proofs.YtcpanaokfbojnaaGreatDoor
open Go Go.RowKit Tide

section
variable {W : World} {F S G : Nat → Prop} {q p : Nat} {va vp vi : Value} {rs : List Value} {u : UnitD}
set_option maxRecDepth 100000 in
set_option maxHeartbeats 60000000 in
theorem rwrite_any (h : RefU W F S q p va vp vi rs u) (hs : Small u.store) (hr : u.rows.length ≤ 5000) (ep a : Int) {v : Value} {b : List UInt8} (hv : Bytes W W.heap.size v b) (hap : ∀ k, v.ownBlock = some k → ¬ (F k ∨ MineU q va vp vi k)) : Calls Tryz.prog 15 #[.pointer (some ⟨q, 0, none⟩), .int .i64 ep, .int .i64 a, v] W (StepU W (fun k => F k ∨ MineU q va vp vi k) S q (writeD u ep a b)) := by
  obtain ⟨hq, c0, c1, c2, c3, c4, c5, c6, _⟩ := h.facts
  obtain ⟨A, c, rfl, _, _, _⟩ := hv.form
  have CC := Lib.hid (rcheck_any h ep a 4095)
  have CH := Lib.hid (rhas_any h a)
  have H := Lib.hid h
  have HV := Lib.hid hv
  obtain ⟨K, hK⟩ : ∃ K, checkD u.epoch ep a 4095 = K := ⟨_, rfl⟩
  rw [hK] at CC
  by_cases h1 : K = 0
  rotate_left
  · have HR := Lib.hid (show writeD u ep a b = (u, K) from by unfold writeD; rw [hK, if_pos h1])
    have q1 : ((K : Int) != 0) = true := by simp; omega
    clear h hv hK h1 hap CH
    go_enter Tryz.func15, Tryz.ntmps15
    go_wp2_with fail
    refine CC.out.mono ?_
    rintro e w1 ⟨rfl, rfl⟩
    go_wp2_with fail
    go_ret
    rw [HR.out]
    exact step_same H.out (Below.refl _ _)
  subst h1
  have HN0 := Lib.hid (show ¬ checkD u.epoch ep a 4095 ≠ 0 from by rw [hK]; simp)
  have hchk := chk_zero hK
  clear hK
  obtain ⟨n, rfl⟩ : ∃ n : Nat, a = n := ⟨a.toNat, by omega⟩
  have hn4 : n ≤ 4095 := by omega
  cases q1 : decide ((b.length : Int) < 1) with
  | true =>
    have HR := Lib.hid (show writeD u ep n b = (u, 3) from by unfold writeD; rw [if_neg HN0.out, if_pos (.inl (by have := of_decide_eq_true q1; omega))])
    go_enter Tryz.func15, Tryz.ntmps15
    go_wp2_with fail
    refine CC.out.mono ?_
    rintro e w1 ⟨rfl, rfl⟩
    go_wp2_with fail
    go_ret
    rw [HR.out]
    exact step_same H.out (Below.refl _ _)
  | false =>
  cases q2 : decide ((2048 : Int) < (b.length : Int)) with
  | true =>
    have HR := Lib.hid (show writeD u ep n b = (u, 3) from by unfold writeD; rw [if_neg HN0.out, if_pos (.inr (by have := of_decide_eq_true q2; omega))])
    go_enter Tryz.func15, Tryz.ntmps15
    go_wp2_with fail
    refine CC.out.mono ?_
    rintro e w1 ⟨rfl, rfl⟩
    go_wp2_with fail
    go_ret
    rw [HR.out]
    exact step_same H.out (Below.refl _ _)
  | false =>
  have HN1 := Lib.hid (show ¬ (b.length < 1 ∨ 2048 < b.length) from by
    have e1 := of_decide_eq_false q1
    have e2 := of_decide_eq_false q2
    omega)
  cases q3 : decide ((n : Int) < (u.trimmed : Int)) with
  | true =>
    have HR := Lib.hid (show writeD u ep n b = (u, 11) from by unfold writeD; rw [if_neg HN0.out, if_neg HN1.out, if_pos (of_decide_eq_true q3)])
    have q3' := of_decide_eq_true q3
    clear q3
    go_enter Tryz.func15, Tryz.ntmps15
    go_wp2_with fail
    refine CC.out.mono ?_
    rintro e w1 ⟨rfl, rfl⟩
    go_wp2_with fail
    go_ret
    rw [HR.out]
    exact step_same H.out (Below.refl _ _)
  | false =>
  have HN2 := Lib.hid (show ¬ (n : Int) < (u.trimmed : Int) from of_decide_eq_false q3)
  have q3' := of_decide_eq_false q3
  clear q3
  cases hh : hasD u n with
  | true =>
    have HR := Lib.hid (show writeD u ep n b = (u, 9) from by unfold writeD; rw [if_neg HN0.out, if_neg HN1.out, if_neg HN2.out, if_pos hh])
    rw [hh] at CH
    clear hh
    go_enter Tryz.func15, Tryz.ntmps15
    go_wp2_with fail
    refine CC.out.mono ?_
    rintro e w1 ⟨rfl, rfl⟩
    go_wp2_with fail
    refine CH.out.mono ?_
    rintro e w1 ⟨rfl, rfl⟩
    go_wp2_with fail
    go_ret
    rw [HR.out]
    exact step_same H.out (Below.refl _ _)
  | false =>
  rw [hh] at CH
  have cv := conv_bytes hv
  have HW := Lib.hid (show writeD u ep n b = if (putRec u ⟨1, n, 0, b⟩).2.2 ≠ 0 then ({ u with store := (putRec u ⟨1, n, 0, b⟩).1 }, (putRec u ⟨1, n, 0, b⟩).2.2.toNat)
    else ({ u with store := (putRec u ⟨1, n, 0, b⟩).1, rows := u.rows ++ [⟨n, b, (putRec u ⟨1, n, 0, b⟩).2.1.toNat⟩], top := max u.top (n + 1) }, 0) from by unfold writeD; rw [if_neg HN0.out, if_neg HN1.out, if_neg HN2.out, if_neg (by rw [hh]; simp), Int.toNat_natCast])
  clear hh
  go_enter Tryz.func15, Tryz.ntmps15
  go_wp2_with fail
  refine CC.out.mono ?_
  rintro e w1 ⟨rfl, rfl⟩
  go_wp2_with fail
  refine CH.out.mono ?_
  rintro e w1 ⟨rfl, rfl⟩
  have HS := Lib.hid (fun (W' : World) (hb : Below W.heap.size W W') => show W'.cell? ⟨q, 0, none⟩ = some (.pointer (some ⟨p, 0, none⟩)) ∧ (convert 45 9 (.slice A b.length c)).run Tryz.prog W' = .ok (.string (text b)) W' from ⟨(hb.cell (p := ⟨q, 0, none⟩) hq).trans c0, conv_bytes (hv.below hb)⟩)
  have CN1 := Lib.hid (fun (W' : World) => show Calls Tryz.prog 47 #[.int .i64 1] W' (OwnR (num7 1) W') from rnum7_any 1 W' (by omega))
  have CN2 := Lib.hid (fun (W' : World) => rnum7_any n W' (by omega))
  have CT := Lib.hid (fun (W' : World) => rtext7_any (text b) W' (by have := HN1.out; show b.length ≤ 65536; omega))
  have CR := Lib.hid (fun (W' : World) (v1 v2 v3 : Value) (h1 : Bytes W' W'.heap.size v1 (num7 1)) (h2 : Bytes W' W'.heap.size v2 (num7 n)) (h3 : Bytes W' W'.heap.size v3 (text7 (text b))) => show Calls Tryz.prog 46 #[.slice (some ⟨W'.heap.size, 0, none⟩) 3 3] (W'.alloc (.cells #[v1, v2, v3] 45)) (OwnR (encR ⟨1, n, 0, b⟩) (W'.alloc (.cells #[v1, v2, v3] 45))) from by
    have := row_any (by rw [World.size_alloc]; omega) (Parts.new3 45 W'.heap.size rfl (Nat.le_refl _) h1 h2 h3) (by simp) (by
      have e1 := num7_len9 (n := 1) (by omega)
      have e2 := num7_len9 (n := n) (by omega)
      have e3 : (text7 (text b)).length ≤ 9 + b.length := by
        have := num7_len9 (n := b.length) (by have := HN1.out; omega)
        show (num7 b.length ++ b).length ≤ _
        rw [List.length_append]; omega
      have := HN1.out
      intro x hx
      simp only [List.mem_cons, List.not_mem_nil, or_false] at hx
      rcases hx with rfl | rfl | rfl <;> omega)
    have e : encR ⟨1, n, 0, b⟩ = [num7 1, num7 n, text7 (text b)].flatten := by
      unfold encR
      rw [if_pos rfl]
      show num7 1 ++ num7 n ++ (num7 b.length ++ b) = _
      simp [text7, text]
      rfl
    rw [e]
    exact this)
  have CA := Lib.hid (fun (W' : World) (hb : Below W.heap.size W W') (v4 : Value) (h4 : W'.ownsRow W.heap.size 5 1 v4 (encR ⟨1, n, 0, b⟩).length (u8s (encR ⟨1, n, 0, b⟩))) => rappend2 (h.store.below hb) hs (Bytes.of_own h4) (Nat.le_refl _) (fun k e hf => by
    have h5 := (h4.lt k e).1
    have h6 := h.lt k (.inl hf)
    omega))
  have HK0 := Lib.hid (fun (W' : World) (hb : Below W.heap.size W W') (w'' : World) (hk : Kept F W' w'') => show w''.cell? ⟨q, 0, none⟩ = some (.pointer (some ⟨p, 0, none⟩)) ∧ (convert 45 9 (.slice A b.length c)).run Tryz.prog w'' = .ok (.string (text b)) w'' from ⟨(hk.cell (p := ⟨q, 0, none⟩) (Nat.lt_of_lt_of_le hq hb.size) (fun hf => (h.mine q (.inl rfl)).1 hf)).trans ((hb.cell (p := ⟨q, 0, none⟩) hq).trans c0), conv_bytes (bytes_move (hv.below hb) hb.size hk (fun k e hf => hap k e (.inl hf)))⟩)
  have HQ := Lib.hid hq
  have HAp := Lib.hid hap
  clear CC CH h hs hv hap hq cv
  have HP := Lib.hid (show putRec u ⟨1, n, 0, b⟩ = appendD u.store (encR ⟨1, n, 0, b⟩) from rfl)
  have HPc := Lib.hid (app_cases u.store (encR ⟨1, n, 0, b⟩))
  generalize encR ⟨1, n, 0, b⟩ = E at *
  generalize num7 1 = l1 at *
  generalize num7 n = l2 at *
  generalize text7 (text b) = l3 at *
  go_wp2_with fail
  have D0 := Lib.hid (HS.out _ ((below_refl' W).drew))
  go_region_held3 (fun W' => W'.cell? ⟨q, 0, none⟩ = some (.pointer (some ⟨p, 0, none⟩)) ∧ (convert 45 9 (.slice A b.length c)).run Tryz.prog W' = .ok (.string (text b)) W')
    (first | exact D0.out | exact D1.out | exact D2.out | exact D3.out | exact D4.out | exact D5.out | exact D6.out | assumption)
    (first
      | (go_at_call 47; (with_reducible refine (CN1.out _).mono ?_); rintro en w1 ⟨v1, rfl, ho1, hb1⟩; obtain ⟨A1, k1, rfl, _, _⟩ := own_form ho1; have HB1 := Lib.hid (((Below.refl W.heap.size W).drew).trans (hb1.mono (Nat.le_refl _))); have D1 := Lib.hid (HS.out _ HB1.out); have V1 := Lib.hid (Bytes.of_own ho1); clear ho1 hb1)
      | (go_at_call 47; (with_reducible refine (CN2.out _).mono ?_); rintro en w2 ⟨v2, rfl, ho2, hb2⟩; obtain ⟨A2, k2, rfl, _, _⟩ := own_form ho2; have HB2 := Lib.hid (HB1.out.trans (hb2.mono HB1.out.size)); have D2 := Lib.hid (HS.out _ HB2.out); have V2 := Lib.hid (And.intro ((V1.out.below hb2).more hb2.size) (Bytes.of_own ho2)); clear ho2 hb2)
      | (go_at_call 48; (with_reducible refine (CT.out _).mono ?_); rintro en w3 ⟨v3, rfl, ho3, hb3⟩; obtain ⟨A3, k3, rfl, _, _⟩ := own_form ho3; have HB3 := Lib.hid (HB2.out.trans (hb3.mono HB2.out.size)); have D3 := Lib.hid (HS.out _ HB3.out); have V3 := Lib.hid (And.intro ((V2.out.1.below hb3).more hb3.size) (And.intro ((V2.out.2.below hb3).more hb3.size) (Bytes.of_own ho3))); have D4 := Lib.hid (HS.out (w3.alloc (.cells #[.slice A1 l1.length k1, .slice A2 l2.length k2, .slice A3 l3.length k3] 45)) (HB3.out.alloc HB3.out.size _)); clear ho3 hb3)
      | (go_at_call 46; (with_reducible refine (CR.out w3 _ _ _ V3.out.1 V3.out.2.1 V3.out.2.2).mono ?_); rintro en w4 ⟨v4, rfl, ho4, hb4⟩; obtain ⟨A4, k4, rfl, _, _⟩ := own_form ho4; have HB4 := Lib.hid ((HB3.out.alloc HB3.out.size _).trans (hb4.mono (Nat.le_trans HB3.out.size (by rw [World.size_alloc]; omega)))); have D5 := Lib.hid (HS.out _ HB4.out); have V4 := Lib.hid (own_later ho4 (Nat.le_trans HB3.out.size (by rw [World.size_alloc]; omega))); clear ho4 hb4)
      | (go_at_call 45; (with_reducible refine (CA.out w4 HB4.out _ V4.out).mono ?_); rintro en w5 ⟨rfl, F', S', g1, g2, g3, g4⟩; have D6 := Lib.hid (HK0.out w4 HB4.out w5 g4); have G5 := Lib.hid (And.intro g1 (And.intro g2 (And.intro g3 g4))); clear g1 g2 g3 g4))
  have HW2 := HW.out
  rw [HP.out] at HW2
  have HG5 := G5.out
  have HPc2 := HPc.out
  have hNo := fun h => app_no (s := u.store) (b := E) h
  clear HP HPc HW CA G5
  generalize appendD u.store E = X at *
  obtain ⟨m, no, r⟩ := X
  dsimp only at HPc2 HW2 HG5 hNo ⊢
  have HPc := Lib.hid HPc2
  have G5 := Lib.hid HG5
  have HNo1 := Lib.hid hNo
  clear HG5 HPc2 hNo
  obtain ⟨F2, S2, r1, r2, r3⟩ := (H.out.below HB4.out).restore G5.out.1 G5.out.2.1 G5.out.2.2.1 G5.out.2.2.2
  have hz4 := HB4.out.size
  have HR5 := Lib.hid r1
  have HF5 := Lib.hid (show (∀ k, F2 k → F k ∨ W.heap.size ≤ k) ∧ (∀ k, S2 k → S k ∨ W.heap.size ≤ k) from ⟨fun k hk => (r2 k hk).imp id (fun h => Nat.le_trans hz4 h), fun k hk => (r3 k hk).imp id (fun h => Nat.le_trans hz4 h)⟩)
  have HK5 := Lib.hid ((Kept.of_below (F := F) HB4.out).trans G5.out.2.2.2 (fun k h => .inl h))
  have HV5 := Lib.hid (bytes_move (HV.out.below HB4.out) hz4 G5.out.2.2.2 (fun k e hf => HAp.out k e (.inl hf)))
  have HW5 := Lib.hid HW2
  clear hz4 r1 r2 r3 G5 HW2 D0 D1 D2 D3 D4 D5 D6 V1 V2 V3 V4 HB1 HB2 HB3 HK0 HS CN1 CN2 CT CR c0 c1 c2 c3 c4 c5 c6
  by_cases hr0 : r = 0
  rotate_left
  · have HR := Lib.hid (show writeD u ep n b = ({ u with store := m }, r.toNat) from by rw [HW5.out, if_pos hr0])
    have q4 : (r != 0) = true := by simpa using hr0
    have HRn := Lib.hid (show ((r.toNat : Nat) : Int) = r by have := HPc.out; omega)
    clear hr0
    go_wp2_with fail
    go_ret
    rw [HR.out]
    refine ⟨by rw [HRn.out]; rfl, _, S2, HR5.out.ru, fun k hk => ?_, HF5.out.2, HK5.out.mono (fun k _ hk => .inl hk)⟩
    rcases hk with hk | hk
    · exact (HF5.out.1 k hk).imp .inl id
    · exact .inl (.inr hk)
  subst hr0
  have HR := Lib.hid (show writeD u ep n b = ({ u with store := m, rows := u.rows ++ [⟨n, b, no.toNat⟩], top := max u.top (n + 1) }, 0) from by rw [HW5.out, if_neg (by simp)])
  clear HW5 HPc
  have HT := Lib.hid (fun (W' : World) (hk : Kept (RowsU va vp vi) w5 W') => show W'.cell? ⟨q, 1, none⟩ = some va ∧ W'.cell? ⟨q, 2, none⟩ = some vp ∧ W'.cell? ⟨q, 3, none⟩ = some vi from by
    obtain ⟨hq5, c0, c1, c2, c3, c4, c5, c6, fz⟩ := HR5.out.facts
    have hnq := HR5.out.rows_q
    exact ⟨(hk.cell (p := ⟨q, 1, none⟩) hq5 hnq).trans c1, (hk.cell (p := ⟨q, 2, none⟩) hq5 hnq).trans c2, (hk.cell (p := ⟨q, 3, none⟩) hq5 hnq).trans c3⟩)
  obtain ⟨la, hla⟩ : ∃ la, int64s (adrsU u) = la := ⟨_, rfl⟩
  obtain ⟨li, hli⟩ : ∃ li, int64s (insU u) = li := ⟨_, rfl⟩
  have HP0 := Lib.hid (show PutW w5 (RowsU va vp vi) va vp vi la rs li [] [] [] w5.drew from by rw [← hla, ← hli]; exact HR5.out.putw.drew)
  have HL := Lib.hid (show la.length ≤ 100000 ∧ rs.length ≤ 100000 ∧ li.length ≤ 100000 from by
    have h2 := HR5.out.pages.1
    rw [← hla, ← hli, int64s_len, int64s_len]
    unfold adrsU insU
    rw [List.length_map, List.length_map]
    dsimp only at h2
    exact ⟨by omega, by omega, by omega⟩)
  have HLa := Lib.hid (And.intro hla hli)
  clear hla hli
  have HLb := Lib.hid (show b.length ≤ 100000 from by have := HN1.out; omega)
  have HV9 := Lib.hid (fun (W' : World) (hk : Kept (RowsU va vp vi) w5 W') => show Bytes W' W.heap.size (.slice A b.length c) b from bytes_move HV5.out HK5.out.size hk (fun k e hr => HAp.out k e (.inr (.inr hr))))
  have HNo := Lib.hid (show ((no.toNat : Nat) : Int) = no from HNo1.out rfl)
  have HQ9 := Lib.hid (fun (W' : World) (hk : Kept (RowsU va vp vi) w5 W') => show CellsQ q (.pointer (some ⟨p, 0, none⟩)) va vp vi (.int .i64 (u.trimmed : Int)) (.int .i64 (u.epoch : Int)) (.int .i64 (u.top : Int)) W' from hk.heap HR5.out.cells HR5.out.rows_q)
  have HFL := Lib.hid (fun (xa xp xi x : Value) (sm : List (Nat × Value)) (em : List Nat) (w8 w9 : World) (hp : PutW w5 (RowsU va vp vi) xa xp xi (la ++ [.int .i64 (n : Int)]) (rs ++ [x]) (li ++ [.int .i64 no]) [(x, b)] sm em w8) (hk : Kept (fun k => k = q) w8 w9) (hc : CellsQ q (.pointer (some ⟨p, 0, none⟩)) xa xp xi (.int .i64 (u.trimmed : Int)) (.int .i64 (u.epoch : Int)) (.int .i64 (u.top : Int)) w9) => show EndW w5 F2 S2 q p va vp vi { u with store := m, rows := u.rows ++ [⟨n, b, no.toNat⟩] } w9 from by
    rw [← HNo.out] at hp
    obtain ⟨e1, e2⟩ := HLa.out
    subst e1 e2
    exact putw_end (no := no.toNat) HR5.out hp hk hc)
  go_upto_region 13 with fail
  go_cut [] from 55 to 86 (fun wx => EndW w5 F2 S2 q p va vp vi { u with store := m, rows := u.rows ++ [⟨n, b, no.toNat⟩] } wx)
  case first =>
    refine wp_region_any (by kernel_rfl) ?_
    change wpAny _ _ _ _ 35 #[false, false, false, false, false, false, false, false, false, false, false, false, false, false, false, false, false, false, false, false, false, false, false, false, false, false, false, false, false, false, false, false, false, false, false] _ (World.drew _)
    refine takeP 0 55 (v := ?v1) rfl rfl (by kernel_rfl) (by kernel_rfl) (by kernel_rfl) (fun _ _ _ h => h) (Or.inl ⟨by rfl, ?h1⟩) ?r1
    case h1 =>
      intro w
      go_simp
      try with_reducible rfl
    simp only [List.setIfInBounds_toArray, List.set_cons_zero, List.set_cons_succ]
    refine takeP 1 56 (v := ?v2) rfl rfl (by kernel_rfl) (by kernel_rfl) (by kernel_rfl) (fun _ _ _ h => h) (Or.inl ⟨by rfl, ?h2⟩) ?r2
    case h2 =>
      intro w
      go_simp
      try with_reducible rfl
    simp only [List.setIfInBounds_toArray, List.set_cons_zero, List.set_cons_succ]
    refine takeP 2 57 (v := ?v3) rfl rfl (by kernel_rfl) (by kernel_rfl) (by kernel_rfl) (fun _ _ _ h => h) (Or.inl ⟨by rfl, ?h3⟩) ?r3
    case h3 =>
      intro w
      go_simp
      try with_reducible rfl
    simp only [List.setIfInBounds_toArray, List.set_cons_zero, List.set_cons_succ]
    refine takeP 3 58 (v := ?v4) rfl rfl (by kernel_rfl) (by kernel_rfl) (by kernel_rfl) (fun _ _ _ h => h) (Or.inl ⟨by rfl, ?h4⟩) ?r4
    case h4 =>
      intro w
      go_simp
      try with_reducible rfl
    simp only [List.setIfInBounds_toArray, List.set_cons_zero, List.set_cons_succ]
    refine takeP 4 59 (v := ?v5) rfl rfl (by kernel_rfl) (by kernel_rfl) (by kernel_rfl) (fun _ _ _ h => h) (Or.inl ⟨by rfl, ?h5⟩) ?r5
    case h5 =>
      intro w
      go_simp
      try with_reducible rfl
    simp only [List.setIfInBounds_toArray, List.set_cons_zero, List.set_cons_succ]
    refine takeP 5 60 (v := ?v6) rfl rfl (by kernel_rfl) (by kernel_rfl) (by kernel_rfl) (fun _ _ _ h => h) (Or.inl ⟨by rfl, ?h6⟩) ?r6
    case h6 =>
      intro w
      go_simp
      try with_reducible rfl
    simp only [List.setIfInBounds_toArray, List.set_cons_zero, List.set_cons_succ]
    refine takeP 7 62 (v := ?v7) rfl rfl (by kernel_rfl) (by kernel_rfl) (by kernel_rfl) (fun _ _ _ h => h) (Or.inl ⟨by rfl, ?h7⟩) ?r7
    case h7 =>
      intro w
      go_simp
      try with_reducible rfl
    simp only [List.setIfInBounds_toArray, List.set_cons_zero, List.set_cons_succ]
    refine takeP 10 65 (v := ?v8) rfl rfl (by kernel_rfl) (by kernel_rfl) (by kernel_rfl) (fun _ _ _ h => h) (Or.inl ⟨by rfl, ?h8⟩) ?r8
    case h8 =>
      intro w
      go_simp
      try with_reducible rfl
    simp only [List.setIfInBounds_toArray, List.set_cons_zero, List.set_cons_succ]
    refine takeP 11 66 (v := ?v9) rfl rfl (by kernel_rfl) (by kernel_rfl) (by kernel_rfl) (fun _ _ _ h => h) (Or.inl ⟨by rfl, ?h9⟩) ?r9
    case h9 =>
      intro w
      go_simp
      try with_reducible rfl
    simp only [List.setIfInBounds_toArray, List.set_cons_zero, List.set_cons_succ]
    refine takeP 12 67 (v := ?v10) rfl rfl (by kernel_rfl) (by kernel_rfl) (by kernel_rfl) (fun _ _ _ h => h) (Or.inl ⟨by rfl, ?h10⟩) ?r10
    case h10 =>
      intro w
      go_simp
      try with_reducible rfl
    simp only [List.setIfInBounds_toArray, List.set_cons_zero, List.set_cons_succ]
    refine takeP 15 70 (v := ?v11) rfl rfl (by kernel_rfl) (by kernel_rfl) (by kernel_rfl) (fun _ _ _ h => h) (Or.inl ⟨by rfl, ?h11⟩) ?r11
    case h11 =>
      intro w
      go_simp
      try with_reducible rfl
    simp only [List.setIfInBounds_toArray, List.set_cons_zero, List.set_cons_succ]
    refine takeP 19 74 (v := ?v12) rfl rfl (by kernel_rfl) (by kernel_rfl) (by kernel_rfl) (fun _ _ _ h => h) (Or.inl ⟨by rfl, ?h12⟩) ?r12
    case h12 =>
      intro w
      go_simp
      try with_reducible rfl
    simp only [List.setIfInBounds_toArray, List.set_cons_zero, List.set_cons_succ]
    refine takeP 20 75 (v := ?v13) rfl rfl (by kernel_rfl) (by kernel_rfl) (by kernel_rfl) (fun _ _ _ h => h) (Or.inl ⟨by rfl, ?h13⟩) ?r13
    case h13 =>
      intro w
      go_simp
      try with_reducible rfl
    simp only [List.setIfInBounds_toArray, List.set_cons_zero, List.set_cons_succ]
    refine takeP 21 76 (v := ?v14) rfl rfl (by kernel_rfl) (by kernel_rfl) (by kernel_rfl) (fun _ _ _ h => h) (Or.inl ⟨by rfl, ?h14⟩) ?r14
    case h14 =>
      intro w
      go_simp
      try with_reducible rfl
    simp only [List.setIfInBounds_toArray, List.set_cons_zero, List.set_cons_succ]
    refine takeP 23 78 (v := ?v15) rfl rfl (by kernel_rfl) (by kernel_rfl) (by kernel_rfl) (fun _ _ _ h => h) (Or.inl ⟨by rfl, ?h15⟩) ?r15
    case h15 =>
      intro w
      go_simp
      try with_reducible rfl
    simp only [List.setIfInBounds_toArray, List.set_cons_zero, List.set_cons_succ]
    refine any_of_T (T := fun W' => W'.cell? ⟨q, 1, none⟩ = some va ∧ W'.cell? ⟨q, 2, none⟩ = some vp ∧ W'.cell? ⟨q, 3, none⟩ = some vi) (st := 28) _ _ _ _ ?_
    have hT0 := HT.out _ HP0.out.kept
    refine takeT 6 61 (v := va) rfl rfl (by kernel_rfl) (by kernel_rfl) (by kernel_rfl) (by decide) (by kernel_rfl) (fun _ _ _ h => h) (Or.inl ⟨by rfl, ?h16⟩) hT0 (by kernel_rfl) ?r16
    case h16 =>
      intro w hSw
      obtain ⟨t1, t2, t3⟩ := hSw
      go_simp
      try with_reducible rfl
    simp only [List.setIfInBounds_toArray, List.set_cons_zero, List.set_cons_succ]
    refine takeT 13 68 (v := vp) rfl rfl (by kernel_rfl) (by kernel_rfl) (by kernel_rfl) (by decide) (by kernel_rfl) (fun _ _ _ h => h) (Or.inl ⟨by rfl, ?h17⟩) hT0 (by kernel_rfl) ?r17
    case h17 =>
      intro w hSw
      obtain ⟨t1, t2, t3⟩ := hSw
      go_simp
      try with_reducible rfl
    simp only [List.setIfInBounds_toArray, List.set_cons_zero, List.set_cons_succ]
    refine takeT 22 77 (v := vi) rfl rfl (by kernel_rfl) (by kernel_rfl) (by kernel_rfl) (by decide) (by kernel_rfl) (fun _ _ _ h => h) (Or.inl ⟨by rfl, ?h18⟩) hT0 (by kernel_rfl) ?r18
    case h18 =>
      intro w hSw
      obtain ⟨t1, t2, t3⟩ := hSw
      go_simp
      try with_reducible rfl
    simp only [List.setIfInBounds_toArray, List.set_cons_zero, List.set_cons_succ]
    refine readyT (rs := [8, 14, 24]) (by kernel_rfl) (by simp) ?_
    refine AllT.cons rfl (fun K hK => ?_) (AllT.cons rfl (fun K hK => ?_) (AllT.cons rfl (fun K hK => ?_) AllT.nil))
    refine PutW.stepB1 HP0.out ?z1a (.tmp 62) ?z1b (n : Int) ?z1c ?_
    case z1a => exact rfl
    case z1b => exact rfl
    case z1c => exact rfl
    intro g8 w8 hp8
    refine hK.out _ _ (HT.out _ hp8.kept) ?_
    have P8 := Lib.hid hp8
    clear hp8 hK K
    change anyT _ _ _ _ _ _ _ _ ⟨Array.setIfInBounds _ 63 _, _⟩ _
    simp only [List.setIfInBounds_toArray, List.set_cons_zero, List.set_cons_succ]
    refine readyT (rs := [9, 14, 24]) (by kernel_rfl) (by simp) ?_
    refine AllT.cons rfl (fun K hK => ?_) (AllT.cons rfl (fun K hK => ?_) (AllT.cons rfl (fun K hK => ?_) AllT.nil))
    refine PutW.stepA P8.out (fun k e => .inl e) HL.out.1 ?z2a (.tmp 61) (.tmp 63) ?z2b g8 (n : Int) (by simp) ?z2c ?z2d ?_
    case z2a => exact rfl
    case z2b => exact rfl
    case z2c => exact rfl
    case z2d => exact rfl
    intro g9 c9 w9 hp9
    refine hK.out _ _ (HT.out _ hp9.kept) ?_
    have P9 := Lib.hid hp9
    clear hp9 hK K P8
    change anyT _ _ _ _ _ _ _ _ ⟨Array.setIfInBounds _ 64 _, _⟩ _
    simp only [List.setIfInBounds_toArray, List.set_cons_zero, List.set_cons_succ]
    refine readyT (rs := [14, 24]) (by kernel_rfl) (by simp) ?_
    refine AllT.cons rfl (fun K hK => ?_) (AllT.cons rfl (fun K hK => ?_) AllT.nil)
    refine PutW.stepB0 P9.out ?z3a ?z3b ?_
    case z3a => exact rfl
    case z3b => exact rfl
    intro g14 w14 hp14
    refine hK.out _ _ (HT.out _ hp14.kept) ?_
    have P14 := Lib.hid hp14
    clear hp14 hK K P9
    change anyT _ _ _ _ _ _ _ _ ⟨Array.setIfInBounds _ 69 _, _⟩ _
    simp only [List.setIfInBounds_toArray, List.set_cons_zero, List.set_cons_succ]
    refine readyT (rs := [16, 24]) (by kernel_rfl) (by simp) ?_
    refine AllT.cons rfl (fun K hK => ?_) (AllT.cons rfl (fun K hK => ?_) AllT.nil)
    refine PutW.stepN P14.out (HV9.out _ P14.out.kept) HLb.out ?z4a (.tmp 69) (.tmp 70) ?z4b ?z4c ?z4d ?_
    case z4a => exact rfl
    case z4b => exact rfl
    case z4c => exact rfl
    case z4d => exact rfl
    intro A16 c16 w16 hp16
    refine hK.out _ _ (HT.out _ hp16.kept) ?_
    have P16 := Lib.hid hp16
    clear hp16 hK K P14
    change anyT _ _ _ _ _ _ _ _ ⟨Array.setIfInBounds _ 71 _, _⟩ _
    simp only [List.setIfInBounds_toArray, List.set_cons_zero, List.set_cons_succ]
    refine readyT (rs := [17, 24]) (by kernel_rfl) (by simp) ?_
    refine AllT.cons rfl (fun K hK => ?_) (AllT.cons rfl (fun K hK => ?_) AllT.nil)
    refine PutW.stepB2 P16.out ?z5a (.tmp 71) ?z5b A16 b.length c16 ?z5c ?_
    case z5a => exact rfl
    case z5b => exact rfl
    case z5c => exact rfl
    intro g17 w17 hp17
    refine hK.out _ _ (HT.out _ hp17.kept) ?_
    have P17 := Lib.hid hp17
    clear hp17 hK K P16
    change anyT _ _ _ _ _ _ _ _ ⟨Array.setIfInBounds _ 72 _, _⟩ _
    simp only [List.setIfInBounds_toArray, List.set_cons_zero, List.set_cons_succ]
    refine readyT (rs := [18, 24]) (by kernel_rfl) (by simp) ?_
    refine AllT.cons rfl (fun K hK => ?_) (AllT.cons rfl (fun K hK => ?_) AllT.nil)
    refine PutW.stepP P17.out (fun k e => .inr (.inl e)) HL.out.2.1 ?z6a (.tmp 68) (.tmp 72) ?z6b g17 (.slice A16 b.length c16) rfl (by simp) ?z6c ?z6d ?_
    case z6a => exact rfl
    case z6b => exact rfl
    case z6c => exact rfl
    case z6d => exact rfl
    intro g18 c18 w18 hp18
    refine hK.out _ _ (HT.out _ hp18.kept) ?_
    have P18 := Lib.hid hp18
    clear hp18 hK K P17
    change anyT _ _ _ _ _ _ _ _ ⟨Array.setIfInBounds _ 73 _, _⟩ _
    simp only [List.setIfInBounds_toArray, List.set_cons_zero, List.set_cons_succ]
    refine readyT (rs := [24]) (by kernel_rfl) (by simp) ?_
    refine AllT.cons rfl (fun K hK => ?_) AllT.nil
    refine PutW.stepB1 P18.out ?z7a (.tmp 78) ?z7b no ?z7c ?_
    case z7a => exact rfl
    case z7b => exact rfl
    case z7c => exact rfl
    intro g24 w24 hp24
    refine hK.out _ _ (HT.out _ hp24.kept) ?_
    have P24 := Lib.hid hp24
    clear hp24 hK K P18
    change anyT _ _ _ _ _ _ _ _ ⟨Array.setIfInBounds _ 79 _, _⟩ _
    simp only [List.setIfInBounds_toArray, List.set_cons_zero, List.set_cons_succ]
    refine readyT (rs := [25]) (by kernel_rfl) (by simp) ?_
    refine AllT.cons rfl (fun K hK => ?_) AllT.nil
    refine PutW.stepI P24.out (fun k e => .inr (.inr e)) HL.out.2.2 ?z8a (.tmp 77) (.tmp 79) ?z8b g24 no (by simp) ?z8c ?z8d ?_
    case z8a => exact rfl
    case z8b => exact rfl
    case z8c => exact rfl
    case z8d => exact rfl
    intro g25 c25 w25 hp25
    refine hK.out _ _ (HT.out _ hp25.kept) ?_
    have P25 := Lib.hid hp25
    clear hp25 hK K P24
    change anyT _ _ _ _ _ _ _ _ ⟨Array.setIfInBounds _ 80 _, _⟩ _
    simp only [List.setIfInBounds_toArray, List.set_cons_zero, List.set_cons_succ]
    rotate_left
    refine PutW.stepB1 P17.out ?z9a (.tmp 78) ?z9b no ?z9c ?_
    case z9a => exact rfl
    case z9b => exact rfl
    case z9c => exact rfl
    intro g24 w24 hp24
    refine hK.out _ _ (HT.out _ hp24.kept) ?_
    have P24 := Lib.hid hp24
    clear hp24 hK K P17
    change anyT _ _ _ _ _ _ _ _ ⟨Array.setIfInBounds _ 79 _, _⟩ _
    simp only [List.setIfInBounds_toArray, List.set_cons_zero, List.set_cons_succ]
    refine readyT (rs := [18]) (by kernel_rfl) (by simp) ?_
    refine AllT.cons rfl (fun K hK => ?_) AllT.nil
    refine PutW.stepP P24.out (fun k e => .inr (.inl e)) HL.out.2.1 ?z10a (.tmp 68) (.tmp 72) ?z10b g17 (.slice A16 b.length c16) rfl (by simp) ?z10c ?z10d ?_
    case z10a => exact rfl
    case z10b => exact rfl
    case z10c => exact rfl
    case z10d => exact rfl
    intro g18 c18 w18 hp18
    refine hK.out _ _ (HT.out _ hp18.kept) ?_
    have P18 := Lib.hid hp18
    clear hp18 hK K P24
    change anyT _ _ _ _ _ _ _ _ ⟨Array.setIfInBounds _ 73 _, _⟩ _
    simp only [List.setIfInBounds_toArray, List.set_cons_zero, List.set_cons_succ]
    refine readyT (rs := [25]) (by kernel_rfl) (by simp) ?_
    refine AllT.cons rfl (fun K hK => ?_) AllT.nil
    refine PutW.stepI P18.out (fun k e => .inr (.inr e)) HL.out.2.2 ?z11a (.tmp 77) (.tmp 79) ?z11b g24 no (by simp) ?z11c ?z11d ?_
    case z11a => exact rfl
    case z11b => exact rfl
    case z11c => exact rfl
    case z11d => exact rfl
    intro g25 c25 w25 hp25
    refine hK.out _ _ (HT.out _ hp25.kept) ?_
    have P25 := Lib.hid hp25
    clear hp25 hK K P18
    change anyT _ _ _ _ _ _ _ _ ⟨Array.setIfInBounds _ 80 _, _⟩ _
    simp only [List.setIfInBounds_toArray, List.set_cons_zero, List.set_cons_succ]
    rotate_left
    refine PutW.stepB1 P16.out ?z12a (.tmp 78) ?z12b no ?z12c ?_
    case z12a => exact rfl
    case z12b => exact rfl
    case z12c => exact rfl
    intro g24 w24 hp24
    refine hK.out _ _ (HT.out _ hp24.kept) ?_
    have P24 := Lib.hid hp24
    clear hp24 hK K P16
    change anyT _ _ _ _ _ _ _ _ ⟨Array.setIfInBounds _ 79 _, _⟩ _
    simp only [List.setIfInBounds_toArray, List.set_cons_zero, List.set_cons_succ]
    refine readyT (rs := [17]) (by kernel_rfl) (by simp) ?_
    refine AllT.cons rfl (fun K hK => ?_) AllT.nil
    refine PutW.stepB2 P24.out ?z13a (.tmp 71) ?z13b A16 b.length c16 ?z13c ?_
    case z13a => exact rfl
    case z13b => exact rfl
    case z13c => exact rfl
    intro g17 w17 hp17
    refine hK.out _ _ (HT.out _ hp17.kept) ?_
    have P17 := Lib.hid hp17
    clear hp17 hK K P24
    change anyT _ _ _ _ _ _ _ _ ⟨Array.setIfInBounds _ 72 _, _⟩ _
    simp only [List.setIfInBounds_toArray, List.set_cons_zero, List.set_cons_succ]
    refine readyT (rs := [18]) (by kernel_rfl) (by simp) ?_
    refine AllT.cons rfl (fun K hK => ?_) AllT.nil
    refine PutW.stepP P17.out (fun k e => .inr (.inl e)) HL.out.2.1 ?z14a (.tmp 68) (.tmp 72) ?z14b g17 (.slice A16 b.length c16) rfl (by simp) ?z14c ?z14d ?_
    case z14a => exact rfl
    case z14b => exact rfl
    case z14c => exact rfl
    case z14d => exact rfl
    intro g18 c18 w18 hp18
    refine hK.out _ _ (HT.out _ hp18.kept) ?_
    have P18 := Lib.hid hp18
    clear hp18 hK K P17
    change anyT _ _ _ _ _ _ _ _ ⟨Array.setIfInBounds _ 73 _, _⟩ _
    simp only [List.setIfInBounds_toArray, List.set_cons_zero, List.set_cons_succ]
    refine readyT (rs := [25]) (by kernel_rfl) (by simp) ?_
    refine AllT.cons rfl (fun K hK => ?_) AllT.nil
    refine PutW.stepI P18.out (fun k e => .inr (.inr e)) HL.out.2.2 ?z15a (.tmp 77) (.tmp 79) ?z15b g24 no (by simp) ?z15c ?z15d ?_
    case z15a => exact rfl
    case z15b => exact rfl
    case z15c => exact rfl
    case z15d => exact rfl
    intro g25 c25 w25 hp25
    refine hK.out _ _ (HT.out _ hp25.kept) ?_
    have P25 := Lib.hid hp25
    clear hp25 hK K P18
    change anyT _ _ _ _ _ _ _ _ ⟨Array.setIfInBounds _ 80 _, _⟩ _
    simp only [List.setIfInBounds_toArray, List.set_cons_zero, List.set_cons_succ]
    rotate_left
    refine PutW.stepB1 P14.out ?z16a (.tmp 78) ?z16b no ?z16c ?_
    case z16a => exact rfl
    case z16b => exact rfl
    case z16c => exact rfl
    intro g24 w24 hp24
    refine hK.out _ _ (HT.out _ hp24.kept) ?_
    have P24 := Lib.hid hp24
    clear hp24 hK K P14
    change anyT _ _ _ _ _ _ _ _ ⟨Array.setIfInBounds _ 79 _, _⟩ _
    simp only [List.setIfInBounds_toArray, List.set_cons_zero, List.set_cons_succ]
    refine readyT (rs := [16]) (by kernel_rfl) (by simp) ?_
    refine AllT.cons rfl (fun K hK => ?_) AllT.nil
    refine PutW.stepN P24.out (HV9.out _ P24.out.kept) HLb.out ?z17a (.tmp 69) (.tmp 70) ?z17b ?z17c ?z17d ?_
    case z17a => exact rfl
    case z17b => exact rfl
    case z17c => exact rfl
    case z17d => exact rfl
    intro A16 c16 w16 hp16
    refine hK.out _ _ (HT.out _ hp16.kept) ?_
    have P16 := Lib.hid hp16
    clear hp16 hK K P24
    change anyT _ _ _ _ _ _ _ _ ⟨Array.setIfInBounds _ 71 _, _⟩ _
    simp only [List.setIfInBounds_toArray, List.set_cons_zero, List.set_cons_succ]
    refine readyT (rs := [17]) (by kernel_rfl) (by simp) ?_
    refine AllT.cons rfl (fun K hK => ?_) AllT.nil
    refine PutW.stepB2 P16.out ?z18a (.tmp 71) ?z18b A16 b.length c16 ?z18c ?_
    case z18a => exact rfl
    case z18b => exact rfl
    case z18c => exact rfl
    intro g17 w17 hp17
    refine hK.out _ _ (HT.out _ hp17.kept) ?_
    have P17 := Lib.hid hp17
    clear hp17 hK K P16
    change anyT _ _ _ _ _ _ _ _ ⟨Array.setIfInBounds _ 72 _, _⟩ _
    simp only [List.setIfInBounds_toArray, List.set_cons_zero, List.set_cons_succ]
    refine readyT (rs := [18]) (by kernel_rfl) (by simp) ?_
    refine AllT.cons rfl (fun K hK => ?_) AllT.nil
    refine PutW.stepP P17.out (fun k e => .inr (.inl e)) HL.out.2.1 ?z19a (.tmp 68) (.tmp 72) ?z19b g17 (.slice A16 b.length c16) rfl (by simp) ?z19c ?z19d ?_
    case z19a => exact rfl
    case z19b => exact rfl
    case z19c => exact rfl
    case z19d => exact rfl
    intro g18 c18 w18 hp18
    refine hK.out _ _ (HT.out _ hp18.kept) ?_
    have P18 := Lib.hid hp18
    clear hp18 hK K P17
    change anyT _ _ _ _ _ _ _ _ ⟨Array.setIfInBounds _ 73 _, _⟩ _
    simp only [List.setIfInBounds_toArray, List.set_cons_zero, List.set_cons_succ]
    refine readyT (rs := [25]) (by kernel_rfl) (by simp) ?_
    refine AllT.cons rfl (fun K hK => ?_) AllT.nil
    refine PutW.stepI P18.out (fun k e => .inr (.inr e)) HL.out.2.2 ?z20a (.tmp 77) (.tmp 79) ?z20b g24 no (by simp) ?z20c ?z20d ?_
    case z20a => exact rfl
    case z20b => exact rfl
    case z20c => exact rfl
    case z20d => exact rfl
    intro g25 c25 w25 hp25
    refine hK.out _ _ (HT.out _ hp25.kept) ?_
    have P25 := Lib.hid hp25
    clear hp25 hK K P18
    change anyT _ _ _ _ _ _ _ _ ⟨Array.setIfInBounds _ 80 _, _⟩ _
    simp only [List.setIfInBounds_toArray, List.set_cons_zero, List.set_cons_succ]
    rotate_left
    refine PutW.stepB1 P9.out ?z21a (.tmp 78) ?z21b no ?z21c ?_
    case z21a => exact rfl
    case z21b => exact rfl
    case z21c => exact rfl
    intro g24 w24 hp24
    refine hK.out _ _ (HT.out _ hp24.kept) ?_
    have P24 := Lib.hid hp24
    clear hp24 hK K P9
    change anyT _ _ _ _ _ _ _ _ ⟨Array.setIfInBounds _ 79 _, _⟩ _
    simp only [List.setIfInBounds_toArray, List.set_cons_zero, List.set_cons_succ]
    refine readyT (rs := [14]) (by kernel_rfl) (by simp) ?_
    refine AllT.cons rfl (fun K hK => ?_) AllT.nil
    refine PutW.stepB0 P24.out ?z22a ?z22b ?_
    case z22a => exact rfl
    case z22b => exact rfl
    intro g14 w14 hp14
    refine hK.out _ _ (HT.out _ hp14.kept) ?_
    have P14 := Lib.hid hp14
    clear hp14 hK K P24
    change anyT _ _ _ _ _ _ _ _ ⟨Array.setIfInBounds _ 69 _, _⟩ _
    simp only [List.setIfInBounds_toArray, List.set_cons_zero, List.set_cons_succ]
    refine readyT (rs := [16]) (by kernel_rfl) (by simp) ?_
    refine AllT.cons rfl (fun K hK => ?_) AllT.nil
    refine PutW.stepN P14.out (HV9.out _ P14.out.kept) HLb.out ?z23a (.tmp 69) (.tmp 70) ?z23b ?z23c ?z23d ?_
    case z23a => exact rfl
    case z23b => exact rfl
    case z23c => exact rfl
    case z23d => exact rfl
    intro A16 c16 w16 hp16
    refine hK.out _ _ (HT.out _ hp16.kept) ?_
    have P16 := Lib.hid hp16
    clear hp16 hK K P14
    change anyT _ _ _ _ _ _ _ _ ⟨Array.setIfInBounds _ 71 _, _⟩ _
    simp only [List.setIfInBounds_toArray, List.set_cons_zero, List.set_cons_succ]
    refine readyT (rs := [17]) (by kernel_rfl) (by simp) ?_
    refine AllT.cons rfl (fun K hK => ?_) AllT.nil
    refine PutW.stepB2 P16.out ?z24a (.tmp 71) ?z24b A16 b.length c16 ?z24c ?_
    case z24a => exact rfl
    case z24b => exact rfl
    case z24c => exact rfl
    intro g17 w17 hp17
    refine hK.out _ _ (HT.out _ hp17.kept) ?_
    have P17 := Lib.hid hp17
    clear hp17 hK K P16
    change anyT _ _ _ _ _ _ _ _ ⟨Array.setIfInBounds _ 72 _, _⟩ _
    simp only [List.setIfInBounds_toArray, List.set_cons_zero, List.set_cons_succ]
    refine readyT (rs := [18]) (by kernel_rfl) (by simp) ?_
    refine AllT.cons rfl (fun K hK => ?_) AllT.nil
    refine PutW.stepP P17.out (fun k e => .inr (.inl e)) HL.out.2.1 ?z25a (.tmp 68) (.tmp 72) ?z25b g17 (.slice A16 b.length c16) rfl (by simp) ?z25c ?z25d ?_
    case z25a => exact rfl
    case z25b => exact rfl
    case z25c => exact rfl
    case z25d => exact rfl
    intro g18 c18 w18 hp18
    refine hK.out _ _ (HT.out _ hp18.kept) ?_
    have P18 := Lib.hid hp18
    clear hp18 hK K P17
    change anyT _ _ _ _ _ _ _ _ ⟨Array.setIfInBounds _ 73 _, _⟩ _
    simp only [List.setIfInBounds_toArray, List.set_cons_zero, List.set_cons_succ]
    refine readyT (rs := [25]) (by kernel_rfl) (by simp) ?_
    refine AllT.cons rfl (fun K hK => ?_) AllT.nil
    refine PutW.stepI P18.out (fun k e => .inr (.inr e)) HL.out.2.2 ?z26a (.tmp 77) (.tmp 79) ?z26b g24 no (by simp) ?z26c ?z26d ?_
    case z26a => exact rfl
    case z26b => exact rfl
    case z26c => exact rfl
    case z26d => exact rfl
    intro g25 c25 w25 hp25
    refine hK.out _ _ (HT.out _ hp25.kept) ?_
    have P25 := Lib.hid hp25
    clear hp25 hK K P18
    change anyT _ _ _ _ _ _ _ _ ⟨Array.setIfInBounds _ 80 _, _⟩ _
    simp only [List.setIfInBounds_toArray, List.set_cons_zero, List.set_cons_succ]
    rotate_left
    refine PutW.stepB0 P8.out ?z27a ?z27b ?_
    case z27a => exact rfl
    case z27b => exact rfl
    intro g14 w14 hp14
    refine hK.out _ _ (HT.out _ hp14.kept) ?_
    have P14 := Lib.hid hp14
    clear hp14 hK K P8
    change anyT _ _ _ _ _ _ _ _ ⟨Array.setIfInBounds _ 69 _, _⟩ _
    simp only [List.setIfInBounds_toArray, List.set_cons_zero, List.set_cons_succ]
    refine readyT (rs := [9, 24]) (by kernel_rfl) (by simp) ?_
    refine AllT.cons rfl (fun K hK => ?_) (AllT.cons rfl (fun K hK => ?_) AllT.nil)
    refine PutW.stepA P14.out (fun k e => .inl e) HL.out.1 ?z28a (.tmp 61) (.tmp 63) ?z28b g8 (n : Int) (by simp) ?z28c ?z28d ?_
    case z28a => exact rfl
    case z28b => exact rfl
    case z28c => exact rfl
    case z28d => exact rfl
    intro g9 c9 w9 hp9
    refine hK.out _ _ (HT.out _ hp9.kept) ?_
    have P9 := Lib.hid hp9
    clear hp9 hK K P14
    change anyT _ _ _ _ _ _ _ _ ⟨Array.setIfInBounds _ 64 _, _⟩ _
    simp only [List.setIfInBounds_toArray, List.set_cons_zero, List.set_cons_succ]
    refine readyT (rs := [16, 24]) (by kernel_rfl) (by simp) ?_
    refine AllT.cons rfl (fun K hK => ?_) (AllT.cons rfl (fun K hK => ?_) AllT.nil)
    refine PutW.stepN P9.out (HV9.out _ P9.out.kept) HLb.out ?z29a (.tmp 69) (.tmp 70) ?z29b ?z29c ?z29d ?_
    case z29a => exact rfl
    case z29b => exact rfl
    case z29c => exact rfl
    case z29d => exact rfl
    intro A16 c16 w16 hp16
    refine hK.out _ _ (HT.out _ hp16.kept) ?_
    have P16 := Lib.hid hp16
    clear hp16 hK K P9
    change anyT _ _ _ _ _ _ _ _ ⟨Array.setIfInBounds _ 71 _, _⟩ _
    simp only [List.setIfInBounds_toArray, List.set_cons_zero, List.set_cons_succ]
    refine readyT (rs := [17, 24]) (by kernel_rfl) (by simp) ?_
    refine AllT.cons rfl (fun K hK => ?_) (AllT.cons rfl (fun K hK => ?_) AllT.nil)
    refine PutW.stepB2 P16.out ?z30a (.tmp 71) ?z30b A16 b.length c16 ?z30c ?_
    case z30a => exact rfl
    case z30b => exact rfl
    case z30c => exact rfl
    intro g17 w17 hp17
    refine hK.out _ _ (HT.out _ hp17.kept) ?_
    have P17 := Lib.hid hp17
    clear hp17 hK K P16
    change anyT _ _ _ _ _ _ _ _ ⟨Array.setIfInBounds _ 72 _, _⟩ _
    simp only [List.setIfInBounds_toArray, List.set_cons_zero, List.set_cons_succ]
    refine readyT (rs := [18, 24]) (by kernel_rfl) (by simp) ?_
    refine AllT.cons rfl (fun K hK => ?_) (AllT.cons rfl (fun K hK => ?_) AllT.nil)
    refine PutW.stepP P17.out (fun k e => .inr (.inl e)) HL.out.2.1 ?z31a (.tmp 68) (.tmp 72) ?z31b g17 (.slice A16 b.length c16) rfl (by simp) ?z31c ?z31d ?_
    case z31a => exact rfl
    case z31b => exact rfl
    case z31c => exact rfl
    case z31d => exact rfl
    intro g18 c18 w18 hp18
    refine hK.out _ _ (HT.out _ hp18.kept) ?_
    have P18 := Lib.hid hp18
    clear hp18 hK K P17
    change anyT _ _ _ _ _ _ _ _ ⟨Array.setIfInBounds _ 73 _, _⟩ _
    simp only [List.setIfInBounds_toArray, List.set_cons_zero, List.set_cons_succ]
    refine readyT (rs := [24]) (by kernel_rfl) (by simp) ?_
    refine AllT.cons rfl (fun K hK => ?_) AllT.nil
    refine PutW.stepB1 P18.out ?z32a (.tmp 78) ?z32b no ?z32c ?_
    case z32a => exact rfl
    case z32b => exact rfl
    case z32c => exact rfl
    intro g24 w24 hp24
    refine hK.out _ _ (HT.out _ hp24.kept) ?_
    have P24 := Lib.hid hp24
    clear hp24 hK K P18
    change anyT _ _ _ _ _ _ _ _ ⟨Array.setIfInBounds _ 79 _, _⟩ _
    simp only [List.setIfInBounds_toArray, List.set_cons_zero, List.set_cons_succ]
    refine readyT (rs := [25]) (by kernel_rfl) (by simp) ?_
    refine AllT.cons rfl (fun K hK => ?_) AllT.nil
    refine PutW.stepI P24.out (fun k e => .inr (.inr e)) HL.out.2.2 ?z33a (.tmp 77) (.tmp 79) ?z33b g24 no (by simp) ?z33c ?z33d ?_
    case z33a => exact rfl
    case z33b => exact rfl
    case z33c => exact rfl
    case z33d => exact rfl
    intro g25 c25 w25 hp25
    refine hK.out _ _ (HT.out _ hp25.kept) ?_
    have P25 := Lib.hid hp25
    clear hp25 hK K P24
    change anyT _ _ _ _ _ _ _ _ ⟨Array.setIfInBounds _ 80 _, _⟩ _
    simp only [List.setIfInBounds_toArray, List.set_cons_zero, List.set_cons_succ]
    rotate_left
    refine PutW.stepB1 P17.out ?z34a (.tmp 78) ?z34b no ?z34c ?_
    case z34a => exact rfl
    case z34b => exact rfl
    case z34c => exact rfl
    intro g24 w24 hp24
    refine hK.out _ _ (HT.out _ hp24.kept) ?_
    have P24 := Lib.hid hp24
    clear hp24 hK K P17
    change anyT _ _ _ _ _ _ _ _ ⟨Array.setIfInBounds _ 79 _, _⟩ _
    simp only [List.setIfInBounds_toArray, List.set_cons_zero, List.set_cons_succ]
    refine readyT (rs := [18]) (by kernel_rfl) (by simp) ?_
    refine AllT.cons rfl (fun K hK => ?_) AllT.nil
    refine PutW.stepP P24.out (fun k e => .inr (.inl e)) HL.out.2.1 ?z35a (.tmp 68) (.tmp 72) ?z35b g17 (.slice A16 b.length c16) rfl (by simp) ?z35c ?z35d ?_
    case z35a => exact rfl
    case z35b => exact rfl
    case z35c => exact rfl
    case z35d => exact rfl
    intro g18 c18 w18 hp18
    refine hK.out _ _ (HT.out _ hp18.kept) ?_
    have P18 := Lib.hid hp18
    clear hp18 hK K P24
    change anyT _ _ _ _ _ _ _ _ ⟨Array.setIfInBounds _ 73 _, _⟩ _
    simp only [List.setIfInBounds_toArray, List.set_cons_zero, List.set_cons_succ]
    refine readyT (rs := [25]) (by kernel_rfl) (by simp) ?_
    refine AllT.cons rfl (fun K hK => ?_) AllT.nil
    refine PutW.stepI P18.out (fun k e => .inr (.inr e)) HL.out.2.2 ?z36a (.tmp 77) (.tmp 79) ?z36b g24 no (by simp) ?z36c ?z36d ?_
    case z36a => exact rfl
    case z36b => exact rfl
    case z36c => exact rfl
    case z36d => exact rfl
    intro g25 c25 w25 hp25
    refine hK.out _ _ (HT.out _ hp25.kept) ?_
    have P25 := Lib.hid hp25
    clear hp25 hK K P18
    change anyT _ _ _ _ _ _ _ _ ⟨Array.setIfInBounds _ 80 _, _⟩ _
    simp only [List.setIfInBounds_toArray, List.set_cons_zero, List.set_cons_succ]
    rotate_left
    refine PutW.stepB1 P16.out ?z37a (.tmp 78) ?z37b no ?z37c ?_
    case z37a => exact rfl
    case z37b => exact rfl
    case z37c => exact rfl
    intro g24 w24 hp24
    refine hK.out _ _ (HT.out _ hp24.kept) ?_
    have P24 := Lib.hid hp24
    clear hp24 hK K P16
    change anyT _ _ _ _ _ _ _ _ ⟨Array.setIfInBounds _ 79 _, _⟩ _
    simp only [List.setIfInBounds_toArray, List.set_cons_zero, List.set_cons_succ]
    refine readyT (rs := [17]) (by kernel_rfl) (by simp) ?_
    refine AllT.cons rfl (fun K hK => ?_) AllT.nil
    refine PutW.stepB2 P24.out ?z38a (.tmp 71) ?z38b A16 b.length c16 ?z38c ?_
    case z38a => exact rfl
    case z38b => exact rfl
    case z38c => exact rfl
    intro g17 w17 hp17
    refine hK.out _ _ (HT.out _ hp17.kept) ?_
    have P17 := Lib.hid hp17
    clear hp17 hK K P24
    change anyT _ _ _ _ _ _ _ _ ⟨Array.setIfInBounds _ 72 _, _⟩ _
    simp only [List.setIfInBounds_toArray, List.set_cons_zero, List.set_cons_succ]
    refine readyT (rs := [18]) (by kernel_rfl) (by simp) ?_
    refine AllT.cons rfl (fun K hK => ?_) AllT.nil
    refine PutW.stepP P17.out (fun k e => .inr (.inl e)) HL.out.2.1 ?z39a (.tmp 68) (.tmp 72) ?z39b g17 (.slice A16 b.length c16) rfl (by simp) ?z39c ?z39d ?_
    case z39a => exact rfl
    case z39b => exact rfl
    case z39c => exact rfl
    case z39d => exact rfl
    intro g18 c18 w18 hp18
    refine hK.out _ _ (HT.out _ hp18.kept) ?_
    have P18 := Lib.hid hp18
    clear hp18 hK K P17
    change anyT _ _ _ _ _ _ _ _ ⟨Array.setIfInBounds _ 73 _, _⟩ _
    simp only [List.setIfInBounds_toArray, List.set_cons_zero, List.set_cons_succ]
    refine readyT (rs := [25]) (by kernel_rfl) (by simp) ?_
    refine AllT.cons rfl (fun K hK => ?_) AllT.nil
    refine PutW.stepI P18.out (fun k e => .inr (.inr e)) HL.out.2.2 ?z40a (.tmp 77) (.tmp 79) ?z40b g24 no (by simp) ?z40c ?z40d ?_
    case z40a => exact rfl
    case z40b => exact rfl
    case z40c => exact rfl
    case z40d => exact rfl
    intro g25 c25 w25 hp25
    refine hK.out _ _ (HT.out _ hp25.kept) ?_
    have P25 := Lib.hid hp25
    clear hp25 hK K P18
    change anyT _ _ _ _ _ _ _ _ ⟨Array.setIfInBounds _ 80 _, _⟩ _
    simp only [List.setIfInBounds_toArray, List.set_cons_zero, List.set_cons_succ]
    rotate_left
    refine PutW.stepB1 P9.out ?z41a (.tmp 78) ?z41b no ?z41c ?_
    case z41a => exact rfl
    case z41b => exact rfl
    case z41c => exact rfl
    intro g24 w24 hp24
    refine hK.out _ _ (HT.out _ hp24.kept) ?_
    have P24 := Lib.hid hp24
    clear hp24 hK K P9
    change anyT _ _ _ _ _ _ _ _ ⟨Array.setIfInBounds _ 79 _, _⟩ _
    simp only [List.setIfInBounds_toArray, List.set_cons_zero, List.set_cons_succ]
    refine readyT (rs := [16]) (by kernel_rfl) (by simp) ?_
    refine AllT.cons rfl (fun K hK => ?_) AllT.nil
    refine PutW.stepN P24.out (HV9.out _ P24.out.kept) HLb.out ?z42a (.tmp 69) (.tmp 70) ?z42b ?z42c ?z42d ?_
    case z42a => exact rfl
    case z42b => exact rfl
    case z42c => exact rfl
    case z42d => exact rfl
    intro A16 c16 w16 hp16
    refine hK.out _ _ (HT.out _ hp16.kept) ?_
    have P16 := Lib.hid hp16
    clear hp16 hK K P24
    change anyT _ _ _ _ _ _ _ _ ⟨Array.setIfInBounds _ 71 _, _⟩ _
    simp only [List.setIfInBounds_toArray, List.set_cons_zero, List.set_cons_succ]
    refine readyT (rs := [17]) (by kernel_rfl) (by simp) ?_
    refine AllT.cons rfl (fun K hK => ?_) AllT.nil
    refine PutW.stepB2 P16.out ?z43a (.tmp 71) ?z43b A16 b.length c16 ?z43c ?_
    case z43a => exact rfl
    case z43b => exact rfl
    case z43c => exact rfl
    intro g17 w17 hp17
    refine hK.out _ _ (HT.out _ hp17.kept) ?_
    have P17 := Lib.hid hp17
    clear hp17 hK K P16
    change anyT _ _ _ _ _ _ _ _ ⟨Array.setIfInBounds _ 72 _, _⟩ _
    simp only [List.setIfInBounds_toArray, List.set_cons_zero, List.set_cons_succ]
    refine readyT (rs := [18]) (by kernel_rfl) (by simp) ?_
    refine AllT.cons rfl (fun K hK => ?_) AllT.nil
    refine PutW.stepP P17.out (fun k e => .inr (.inl e)) HL.out.2.1 ?z44a (.tmp 68) (.tmp 72) ?z44b g17 (.slice A16 b.length c16) rfl (by simp) ?z44c ?z44d ?_
    case z44a => exact rfl
    case z44b => exact rfl
    case z44c => exact rfl
    case z44d => exact rfl
    intro g18 c18 w18 hp18
    refine hK.out _ _ (HT.out _ hp18.kept) ?_
    have P18 := Lib.hid hp18
    clear hp18 hK K P17
    change anyT _ _ _ _ _ _ _ _ ⟨Array.setIfInBounds _ 73 _, _⟩ _
    simp only [List.setIfInBounds_toArray, List.set_cons_zero, List.set_cons_succ]
    refine readyT (rs := [25]) (by kernel_rfl) (by simp) ?_
    refine AllT.cons rfl (fun K hK => ?_) AllT.nil
    refine PutW.stepI P18.out (fun k e => .inr (.inr e)) HL.out.2.2 ?z45a (.tmp 77) (.tmp 79) ?z45b g24 no (by simp) ?z45c ?z45d ?_
    case z45a => exact rfl
    case z45b => exact rfl
    case z45c => exact rfl
    case z45d => exact rfl
    intro g25 c25 w25 hp25
    refine hK.out _ _ (HT.out _ hp25.kept) ?_
    have P25 := Lib.hid hp25
    clear hp25 hK K P18
    change anyT _ _ _ _ _ _ _ _ ⟨Array.setIfInBounds _ 80 _, _⟩ _
    simp only [List.setIfInBounds_toArray, List.set_cons_zero, List.set_cons_succ]
    rotate_left
    refine PutW.stepB1 P14.out ?z46a (.tmp 78) ?z46b no ?z46c ?_
    case z46a => exact rfl
    case z46b => exact rfl
    case z46c => exact rfl
    intro g24 w24 hp24
    refine hK.out _ _ (HT.out _ hp24.kept) ?_
    have P24 := Lib.hid hp24
    clear hp24 hK K P14
    change anyT _ _ _ _ _ _ _ _ ⟨Array.setIfInBounds _ 79 _, _⟩ _
    simp only [List.setIfInBounds_toArray, List.set_cons_zero, List.set_cons_succ]
    refine readyT (rs := [9]) (by kernel_rfl) (by simp) ?_
    refine AllT.cons rfl (fun K hK => ?_) AllT.nil
    refine PutW.stepA P24.out (fun k e => .inl e) HL.out.1 ?z47a (.tmp 61) (.tmp 63) ?z47b g8 (n : Int) (by simp) ?z47c ?z47d ?_
    case z47a => exact rfl
    case z47b => exact rfl
    case z47c => exact rfl
    case z47d => exact rfl
    intro g9 c9 w9 hp9
    refine hK.out _ _ (HT.out _ hp9.kept) ?_
    have P9 := Lib.hid hp9
    clear hp9 hK K P24
    change anyT _ _ _ _ _ _ _ _ ⟨Array.setIfInBounds _ 64 _, _⟩ _
    simp only [List.setIfInBounds_toArray, List.set_cons_zero, List.set_cons_succ]
    refine readyT (rs := [16]) (by kernel_rfl) (by simp) ?_
    refine AllT.cons rfl (fun K hK => ?_) AllT.nil
    refine PutW.stepN P9.out (HV9.out _ P9.out.kept) HLb.out ?z48a (.tmp 69) (.tmp 70) ?z48b ?z48c ?z48d ?_
    case z48a => exact rfl
    case z48b => exact rfl
    case z48c => exact rfl
    case z48d => exact rfl
    intro A16 c16 w16 hp16
    refine hK.out _ _ (HT.out _ hp16.kept) ?_
    have P16 := Lib.hid hp16
    clear hp16 hK K P9
    change anyT _ _ _ _ _ _ _ _ ⟨Array.setIfInBounds _ 71 _, _⟩ _
    simp only [List.setIfInBounds_toArray, List.set_cons_zero, List.set_cons_succ]
    refine readyT (rs := [17]) (by kernel_rfl) (by simp) ?_
    refine AllT.cons rfl (fun K hK => ?_) AllT.nil
    refine PutW.stepB2 P16.out ?z49a (.tmp 71) ?z49b A16 b.length c16 ?z49c ?_
    case z49a => exact rfl
    case z49b => exact rfl
    case z49c => exact rfl
    intro g17 w17 hp17
    refine hK.out _ _ (HT.out _ hp17.kept) ?_
    have P17 := Lib.hid hp17
    clear hp17 hK K P16
    change anyT _ _ _ _ _ _ _ _ ⟨Array.setIfInBounds _ 72 _, _⟩ _
    simp only [List.setIfInBounds_toArray, List.set_cons_zero, List.set_cons_succ]
    refine readyT (rs := [18]) (by kernel_rfl) (by simp) ?_
    refine AllT.cons rfl (fun K hK => ?_) AllT.nil
    refine PutW.stepP P17.out (fun k e => .inr (.inl e)) HL.out.2.1 ?z50a (.tmp 68) (.tmp 72) ?z50b g17 (.slice A16 b.length c16) rfl (by simp) ?z50c ?z50d ?_
    case z50a => exact rfl
    case z50b => exact rfl
    case z50c => exact rfl
    case z50d => exact rfl
    intro g18 c18 w18 hp18
    refine hK.out _ _ (HT.out _ hp18.kept) ?_
    have P18 := Lib.hid hp18
    clear hp18 hK K P17
    change anyT _ _ _ _ _ _ _ _ ⟨Array.setIfInBounds _ 73 _, _⟩ _
    simp only [List.setIfInBounds_toArray, List.set_cons_zero, List.set_cons_succ]
    refine readyT (rs := [25]) (by kernel_rfl) (by simp) ?_
    refine AllT.cons rfl (fun K hK => ?_) AllT.nil
    refine PutW.stepI P18.out (fun k e => .inr (.inr e)) HL.out.2.2 ?z51a (.tmp 77) (.tmp 79) ?z51b g24 no (by simp) ?z51c ?z51d ?_
    case z51a => exact rfl
    case z51b => exact rfl
    case z51c => exact rfl
    case z51d => exact rfl
    intro g25 c25 w25 hp25
    refine hK.out _ _ (HT.out _ hp25.kept) ?_
    have P25 := Lib.hid hp25
    clear hp25 hK K P18
    change anyT _ _ _ _ _ _ _ _ ⟨Array.setIfInBounds _ 80 _, _⟩ _
    simp only [List.setIfInBounds_toArray, List.set_cons_zero, List.set_cons_succ]
    rotate_left
    refine PutW.stepB1 P8.out ?z52a (.tmp 78) ?z52b no ?z52c ?_
    case z52a => exact rfl
    case z52b => exact rfl
    case z52c => exact rfl
    intro g24 w24 hp24
    refine hK.out _ _ (HT.out _ hp24.kept) ?_
    have P24 := Lib.hid hp24
    clear hp24 hK K P8
    change anyT _ _ _ _ _ _ _ _ ⟨Array.setIfInBounds _ 79 _, _⟩ _
    simp only [List.setIfInBounds_toArray, List.set_cons_zero, List.set_cons_succ]
    refine readyT (rs := [9, 14]) (by kernel_rfl) (by simp) ?_
    refine AllT.cons rfl (fun K hK => ?_) (AllT.cons rfl (fun K hK => ?_) AllT.nil)
    refine PutW.stepA P24.out (fun k e => .inl e) HL.out.1 ?z53a (.tmp 61) (.tmp 63) ?z53b g8 (n : Int) (by simp) ?z53c ?z53d ?_
    case z53a => exact rfl
    case z53b => exact rfl
    case z53c => exact rfl
    case z53d => exact rfl
    intro g9 c9 w9 hp9
    refine hK.out _ _ (HT.out _ hp9.kept) ?_
    have P9 := Lib.hid hp9
    clear hp9 hK K P24
    change anyT _ _ _ _ _ _ _ _ ⟨Array.setIfInBounds _ 64 _, _⟩ _
    simp only [List.setIfInBounds_toArray, List.set_cons_zero, List.set_cons_succ]
    refine readyT (rs := [14]) (by kernel_rfl) (by simp) ?_
    refine AllT.cons rfl (fun K hK => ?_) AllT.nil
    refine PutW.stepB0 P9.out ?z54a ?z54b ?_
    case z54a => exact rfl
    case z54b => exact rfl
    intro g14 w14 hp14
    refine hK.out _ _ (HT.out _ hp14.kept) ?_
    have P14 := Lib.hid hp14
    clear hp14 hK K P9
    change anyT _ _ _ _ _ _ _ _ ⟨Array.setIfInBounds _ 69 _, _⟩ _
    simp only [List.setIfInBounds_toArray, List.set_cons_zero, List.set_cons_succ]
    refine readyT (rs := [16]) (by kernel_rfl) (by simp) ?_
    refine AllT.cons rfl (fun K hK => ?_) AllT.nil
    refine PutW.stepN P14.out (HV9.out _ P14.out.kept) HLb.out ?z55a (.tmp 69) (.tmp 70) ?z55b ?z55c ?z55d ?_
    case z55a => exact rfl
    case z55b => exact rfl
    case z55c => exact rfl
    case z55d => exact rfl
    intro A16 c16 w16 hp16
    refine hK.out _ _ (HT.out _ hp16.kept) ?_
    have P16 := Lib.hid hp16
    clear hp16 hK K P14
    change anyT _ _ _ _ _ _ _ _ ⟨Array.setIfInBounds _ 71 _, _⟩ _
    simp only [List.setIfInBounds_toArray, List.set_cons_zero, List.set_cons_succ]
    refine readyT (rs := [17]) (by kernel_rfl) (by simp) ?_
    refine AllT.cons rfl (fun K hK => ?_) AllT.nil
    refine PutW.stepB2 P16.out ?z56a (.tmp 71) ?z56b A16 b.length c16 ?z56c ?_
    case z56a => exact rfl
    case z56b => exact rfl
    case z56c => exact rfl
    intro g17 w17 hp17
    refine hK.out _ _ (HT.out _ hp17.kept) ?_
    have P17 := Lib.hid hp17
    clear hp17 hK K P16
    change anyT _ _ _ _ _ _ _ _ ⟨Array.setIfInBounds _ 72 _, _⟩ _
    simp only [List.setIfInBounds_toArray, List.set_cons_zero, List.set_cons_succ]
    refine readyT (rs := [18]) (by kernel_rfl) (by simp) ?_
    refine AllT.cons rfl (fun K hK => ?_) AllT.nil
    refine PutW.stepP P17.out (fun k e => .inr (.inl e)) HL.out.2.1 ?z57a (.tmp 68) (.tmp 72) ?z57b g17 (.slice A16 b.length c16) rfl (by simp) ?z57c ?z57d ?_
    case z57a => exact rfl
    case z57b => exact rfl
    case z57c => exact rfl
    case z57d => exact rfl
    intro g18 c18 w18 hp18
    refine hK.out _ _ (HT.out _ hp18.kept) ?_
    have P18 := Lib.hid hp18
    clear hp18 hK K P17
    change anyT _ _ _ _ _ _ _ _ ⟨Array.setIfInBounds _ 73 _, _⟩ _
    simp only [List.setIfInBounds_toArray, List.set_cons_zero, List.set_cons_succ]
    refine readyT (rs := [25]) (by kernel_rfl) (by simp) ?_
    refine AllT.cons rfl (fun K hK => ?_) AllT.nil
    refine PutW.stepI P18.out (fun k e => .inr (.inr e)) HL.out.2.2 ?z58a (.tmp 77) (.tmp 79) ?z58b g24 no (by simp) ?z58c ?z58d ?_
    case z58a => exact rfl
    case z58b => exact rfl
    case z58c => exact rfl
    case z58d => exact rfl
    intro g25 c25 w25 hp25
    refine hK.out _ _ (HT.out _ hp25.kept) ?_
    have P25 := Lib.hid hp25
    clear hp25 hK K P18
    change anyT _ _ _ _ _ _ _ _ ⟨Array.setIfInBounds _ 80 _, _⟩ _
    simp only [List.setIfInBounds_toArray, List.set_cons_zero, List.set_cons_succ]
    rotate_left
    refine PutW.stepB0 P24.out ?z59a ?z59b ?_
    case z59a => exact rfl
    case z59b => exact rfl
    intro g14 w14 hp14
    refine hK.out _ _ (HT.out _ hp14.kept) ?_
    have P14 := Lib.hid hp14
    clear hp14 hK K P24
    change anyT _ _ _ _ _ _ _ _ ⟨Array.setIfInBounds _ 69 _, _⟩ _
    simp only [List.setIfInBounds_toArray, List.set_cons_zero, List.set_cons_succ]
    refine readyT (rs := [9]) (by kernel_rfl) (by simp) ?_
    refine AllT.cons rfl (fun K hK => ?_) AllT.nil
    refine PutW.stepA P14.out (fun k e => .inl e) HL.out.1 ?z60a (.tmp 61) (.tmp 63) ?z60b g8 (n : Int) (by simp) ?z60c ?z60d ?_
    case z60a => exact rfl
    case z60b => exact rfl
    case z60c => exact rfl
    case z60d => exact rfl
    intro g9 c9 w9 hp9
    refine hK.out _ _ (HT.out _ hp9.kept) ?_
    have P9 := Lib.hid hp9
    clear hp9 hK K P14
    change anyT _ _ _ _ _ _ _ _ ⟨Array.setIfInBounds _ 64 _, _⟩ _
    simp only [List.setIfInBounds_toArray, List.set_cons_zero, List.set_cons_succ]
    refine readyT (rs := [16]) (by kernel_rfl) (by simp) ?_
    refine AllT.cons rfl (fun K hK => ?_) AllT.nil
    refine PutW.stepN P9.out (HV9.out _ P9.out.kept) HLb.out ?z61a (.tmp 69) (.tmp 70) ?z61b ?z61c ?z61d ?_
    case z61a => exact rfl
    case z61b => exact rfl
    case z61c => exact rfl
    case z61d => exact rfl
    intro A16 c16 w16 hp16
    refine hK.out _ _ (HT.out _ hp16.kept) ?_
    have P16 := Lib.hid hp16
    clear hp16 hK K P9
    change anyT _ _ _ _ _ _ _ _ ⟨Array.setIfInBounds _ 71 _, _⟩ _
    simp only [List.setIfInBounds_toArray, List.set_cons_zero, List.set_cons_succ]
    refine readyT (rs := [17]) (by kernel_rfl) (by simp) ?_
    refine AllT.cons rfl (fun K hK => ?_) AllT.nil
    refine PutW.stepB2 P16.out ?z62a (.tmp 71) ?z62b A16 b.length c16 ?z62c ?_
    case z62a => exact rfl
    case z62b => exact rfl
    case z62c => exact rfl
    intro g17 w17 hp17
    refine hK.out _ _ (HT.out _ hp17.kept) ?_
    have P17 := Lib.hid hp17
    clear hp17 hK K P16
    change anyT _ _ _ _ _ _ _ _ ⟨Array.setIfInBounds _ 72 _, _⟩ _
    simp only [List.setIfInBounds_toArray, List.set_cons_zero, List.set_cons_succ]
    refine readyT (rs := [18]) (by kernel_rfl) (by simp) ?_
    refine AllT.cons rfl (fun K hK => ?_) AllT.nil
    refine PutW.stepP P17.out (fun k e => .inr (.inl e)) HL.out.2.1 ?z63a (.tmp 68) (.tmp 72) ?z63b g17 (.slice A16 b.length c16) rfl (by simp) ?z63c ?z63d ?_
    case z63a => exact rfl
    case z63b => exact rfl
    case z63c => exact rfl
    case z63d => exact rfl
    intro g18 c18 w18 hp18
    refine hK.out _ _ (HT.out _ hp18.kept) ?_
    have P18 := Lib.hid hp18
    clear hp18 hK K P17
    change anyT _ _ _ _ _ _ _ _ ⟨Array.setIfInBounds _ 73 _, _⟩ _
    simp only [List.setIfInBounds_toArray, List.set_cons_zero, List.set_cons_succ]
    refine readyT (rs := [25]) (by kernel_rfl) (by simp) ?_
    refine AllT.cons rfl (fun K hK => ?_) AllT.nil
    refine PutW.stepI P18.out (fun k e => .inr (.inr e)) HL.out.2.2 ?z64a (.tmp 77) (.tmp 79) ?z64b g24 no (by simp) ?z64c ?z64d ?_
    case z64a => exact rfl
    case z64b => exact rfl
    case z64c => exact rfl
    case z64d => exact rfl
    intro g25 c25 w25 hp25
    refine hK.out _ _ (HT.out _ hp25.kept) ?_
    have P25 := Lib.hid hp25
    clear hp25 hK K P18
    change anyT _ _ _ _ _ _ _ _ ⟨Array.setIfInBounds _ 80 _, _⟩ _
    simp only [List.setIfInBounds_toArray, List.set_cons_zero, List.set_cons_succ]
    rotate_left
    refine PutW.stepB0 HP0.out ?z65a ?z65b ?_
    case z65a => exact rfl
    case z65b => exact rfl
    intro g14 w14 hp14
    refine hK.out _ _ (HT.out _ hp14.kept) ?_
    have P14 := Lib.hid hp14
    clear hp14 hK K
    change anyT _ _ _ _ _ _ _ _ ⟨Array.setIfInBounds _ 69 _, _⟩ _
    simp only [List.setIfInBounds_toArray, List.set_cons_zero, List.set_cons_succ]
    refine readyT (rs := [8, 24]) (by kernel_rfl) (by simp) ?_
    refine AllT.cons rfl (fun K hK => ?_) (AllT.cons rfl (fun K hK => ?_) AllT.nil)
    refine PutW.stepB1 P14.out ?z66a (.tmp 62) ?z66b (n : Int) ?z66c ?_
    case z66a => exact rfl
    case z66b => exact rfl
    case z66c => exact rfl
    intro g8 w8 hp8
    refine hK.out _ _ (HT.out _ hp8.kept) ?_
    have P8 := Lib.hid hp8
    clear hp8 hK K P14
    change anyT _ _ _ _ _ _ _ _ ⟨Array.setIfInBounds _ 63 _, _⟩ _
    simp only [List.setIfInBounds_toArray, List.set_cons_zero, List.set_cons_succ]
    refine readyT (rs := [9, 24]) (by kernel_rfl) (by simp) ?_
    refine AllT.cons rfl (fun K hK => ?_) (AllT.cons rfl (fun K hK => ?_) AllT.nil)
    refine PutW.stepA P8.out (fun k e => .inl e) HL.out.1 ?z67a (.tmp 61) (.tmp 63) ?z67b g8 (n : Int) (by simp) ?z67c ?z67d ?_
    case z67a => exact rfl
    case z67b => exact rfl
    case z67c => exact rfl
    case z67d => exact rfl
    intro g9 c9 w9 hp9
    refine hK.out _ _ (HT.out _ hp9.kept) ?_
    have P9 := Lib.hid hp9
    clear hp9 hK K P8
    change anyT _ _ _ _ _ _ _ _ ⟨Array.setIfInBounds _ 64 _, _⟩ _
    simp only [List.setIfInBounds_toArray, List.set_cons_zero, List.set_cons_succ]
    refine readyT (rs := [16, 24]) (by kernel_rfl) (by simp) ?_
    refine AllT.cons rfl (fun K hK => ?_) (AllT.cons rfl (fun K hK => ?_) AllT.nil)
    refine PutW.stepN P9.out (HV9.out _ P9.out.kept) HLb.out ?z68a (.tmp 69) (.tmp 70) ?z68b ?z68c ?z68d ?_
    case z68a => exact rfl
    case z68b => exact rfl
    case z68c => exact rfl
    case z68d => exact rfl
    intro A16 c16 w16 hp16
    refine hK.out _ _ (HT.out _ hp16.kept) ?_
    have P16 := Lib.hid hp16
    clear hp16 hK K P9
    change anyT _ _ _ _ _ _ _ _ ⟨Array.setIfInBounds _ 71 _, _⟩ _
    simp only [List.setIfInBounds_toArray, List.set_cons_zero, List.set_cons_succ]
    refine readyT (rs := [17, 24]) (by kernel_rfl) (by simp) ?_
    refine AllT.cons rfl (fun K hK => ?_) (AllT.cons rfl (fun K hK => ?_) AllT.nil)
    refine PutW.stepB2 P16.out ?z69a (.tmp 71) ?z69b A16 b.length c16 ?z69c ?_
    case z69a => exact rfl
    case z69b => exact rfl
    case z69c => exact rfl
    intro g17 w17 hp17
    refine hK.out _ _ (HT.out _ hp17.kept) ?_
    have P17 := Lib.hid hp17
    clear hp17 hK K P16
    change anyT _ _ _ _ _ _ _ _ ⟨Array.setIfInBounds _ 72 _, _⟩ _
    simp only [List.setIfInBounds_toArray, List.set_cons_zero, List.set_cons_succ]
    refine readyT (rs := [18, 24]) (by kernel_rfl) (by simp) ?_
    refine AllT.cons rfl (fun K hK => ?_) (AllT.cons rfl (fun K hK => ?_) AllT.nil)
    refine PutW.stepP P17.out (fun k e => .inr (.inl e)) HL.out.2.1 ?z70a (.tmp 68) (.tmp 72) ?z70b g17 (.slice A16 b.length c16) rfl (by simp) ?z70c ?z70d ?_
    case z70a => exact rfl
    case z70b => exact rfl
    case z70c => exact rfl
    case z70d => exact rfl
    intro g18 c18 w18 hp18
    refine hK.out _ _ (HT.out _ hp18.kept) ?_
    have P18 := Lib.hid hp18
    clear hp18 hK K P17
    change anyT _ _ _ _ _ _ _ _ ⟨Array.setIfInBounds _ 73 _, _⟩ _
    simp only [List.setIfInBounds_toArray, List.set_cons_zero, List.set_cons_succ]
    refine readyT (rs := [24]) (by kernel_rfl) (by simp) ?_
    refine AllT.cons rfl (fun K hK => ?_) AllT.nil
    refine PutW.stepB1 P18.out ?z71a (.tmp 78) ?z71b no ?z71c ?_
    case z71a => exact rfl
    case z71b => exact rfl
    case z71c => exact rfl
    intro g24 w24 hp24
    refine hK.out _ _ (HT.out _ hp24.kept) ?_
    have P24 := Lib.hid hp24
    clear hp24 hK K P18
    change anyT _ _ _ _ _ _ _ _ ⟨Array.setIfInBounds _ 79 _, _⟩ _
    simp only [List.setIfInBounds_toArray, List.set_cons_zero, List.set_cons_succ]
    refine readyT (rs := [25]) (by kernel_rfl) (by simp) ?_
    refine AllT.cons rfl (fun K hK => ?_) AllT.nil
    refine PutW.stepI P24.out (fun k e => .inr (.inr e)) HL.out.2.2 ?z72a (.tmp 77) (.tmp 79) ?z72b g24 no (by simp) ?z72c ?z72d ?_
    case z72a => exact rfl
    case z72b => exact rfl
    case z72c => exact rfl
    case z72d => exact rfl
    intro g25 c25 w25 hp25
    refine hK.out _ _ (HT.out _ hp25.kept) ?_
    have P25 := Lib.hid hp25
    clear hp25 hK K P24
    change anyT _ _ _ _ _ _ _ _ ⟨Array.setIfInBounds _ 80 _, _⟩ _
    simp only [List.setIfInBounds_toArray, List.set_cons_zero, List.set_cons_succ]
    rotate_left
    refine PutW.stepB1 P17.out ?z73a (.tmp 78) ?z73b no ?z73c ?_
    case z73a => exact rfl
    case z73b => exact rfl
    case z73c => exact rfl
    intro g24 w24 hp24
    refine hK.out _ _ (HT.out _ hp24.kept) ?_
    have P24 := Lib.hid hp24
    clear hp24 hK K P17
    change anyT _ _ _ _ _ _ _ _ ⟨Array.setIfInBounds _ 79 _, _⟩ _
    simp only [List.setIfInBounds_toArray, List.set_cons_zero, List.set_cons_succ]
    refine readyT (rs := [18]) (by kernel_rfl) (by simp) ?_
    refine AllT.cons rfl (fun K hK => ?_) AllT.nil
    refine PutW.stepP P24.out (fun k e => .inr (.inl e)) HL.out.2.1 ?z74a (.tmp 68) (.tmp 72) ?z74b g17 (.slice A16 b.length c16) rfl (by simp) ?z74c ?z74d ?_
    case z74a => exact rfl
    case z74b => exact rfl
    case z74c => exact rfl
    case z74d => exact rfl
    intro g18 c18 w18 hp18
    refine hK.out _ _ (HT.out _ hp18.kept) ?_
    have P18 := Lib.hid hp18
    clear hp18 hK K P24
    change anyT _ _ _ _ _ _ _ _ ⟨Array.setIfInBounds _ 73 _, _⟩ _
    simp only [List.setIfInBounds_toArray, List.set_cons_zero, List.set_cons_succ]
    refine readyT (rs := [25]) (by kernel_rfl) (by simp) ?_
    refine AllT.cons rfl (fun K hK => ?_) AllT.nil
    refine PutW.stepI P18.out (fun k e => .inr (.inr e)) HL.out.2.2 ?z75a (.tmp 77) (.tmp 79) ?z75b g24 no (by simp) ?z75c ?z75d ?_
    case z75a => exact rfl
    case z75b => exact rfl
    case z75c => exact rfl
    case z75d => exact rfl
    intro g25 c25 w25 hp25
    refine hK.out _ _ (HT.out _ hp25.kept) ?_
    have P25 := Lib.hid hp25
    clear hp25 hK K P18
    change anyT _ _ _ _ _ _ _ _ ⟨Array.setIfInBounds _ 80 _, _⟩ _
    simp only [List.setIfInBounds_toArray, List.set_cons_zero, List.set_cons_succ]
    rotate_left
    refine PutW.stepB1 P16.out ?z76a (.tmp 78) ?z76b no ?z76c ?_
    case z76a => exact rfl
    case z76b => exact rfl
    case z76c => exact rfl
    intro g24 w24 hp24
    refine hK.out _ _ (HT.out _ hp24.kept) ?_
    have P24 := Lib.hid hp24
    clear hp24 hK K P16
    change anyT _ _ _ _ _ _ _ _ ⟨Array.setIfInBounds _ 79 _, _⟩ _
    simp only [List.setIfInBounds_toArray, List.set_cons_zero, List.set_cons_succ]
    refine readyT (rs := [17]) (by kernel_rfl) (by simp) ?_
    refine AllT.cons rfl (fun K hK => ?_) AllT.nil
    refine PutW.stepB2 P24.out ?z77a (.tmp 71) ?z77b A16 b.length c16 ?z77c ?_
    case z77a => exact rfl
    case z77b => exact rfl
    case z77c => exact rfl
    intro g17 w17 hp17
    refine hK.out _ _ (HT.out _ hp17.kept) ?_
    have P17 := Lib.hid hp17
    clear hp17 hK K P24
    change anyT _ _ _ _ _ _ _ _ ⟨Array.setIfInBounds _ 72 _, _⟩ _
    simp only [List.setIfInBounds_toArray, List.set_cons_zero, List.set_cons_succ]
    refine readyT (rs := [18]) (by kernel_rfl) (by simp) ?_
    refine AllT.cons rfl (fun K hK => ?_) AllT.nil
    refine PutW.stepP P17.out (fun k e => .inr (.inl e)) HL.out.2.1 ?z78a (.tmp 68) (.tmp 72) ?z78b g17 (.slice A16 b.length c16) rfl (by simp) ?z78c ?z78d ?_
    case z78a => exact rfl
    case z78b => exact rfl
    case z78c => exact rfl
    case z78d => exact rfl
    intro g18 c18 w18 hp18
    refine hK.out _ _ (HT.out _ hp18.kept) ?_
    have P18 := Lib.hid hp18
    clear hp18 hK K P17
    change anyT _ _ _ _ _ _ _ _ ⟨Array.setIfInBounds _ 73 _, _⟩ _
    simp only [List.setIfInBounds_toArray, List.set_cons_zero, List.set_cons_succ]
    refine readyT (rs := [25]) (by kernel_rfl) (by simp) ?_
    refine AllT.cons rfl (fun K hK => ?_) AllT.nil
    refine PutW.stepI P18.out (fun k e => .inr (.inr e)) HL.out.2.2 ?z79a (.tmp 77) (.tmp 79) ?z79b g24 no (by simp) ?z79c ?z79d ?_
    case z79a => exact rfl
    case z79b => exact rfl
    case z79c => exact rfl
    case z79d => exact rfl
    intro g25 c25 w25 hp25
    refine hK.out _ _ (HT.out _ hp25.kept) ?_
    have P25 := Lib.hid hp25
    clear hp25 hK K P18
    change anyT _ _ _ _ _ _ _ _ ⟨Array.setIfInBounds _ 80 _, _⟩ _
    simp only [List.setIfInBounds_toArray, List.set_cons_zero, List.set_cons_succ]
    rotate_left
    refine PutW.stepB1 P9.out ?z80a (.tmp 78) ?z80b no ?z80c ?_
    case z80a => exact rfl
    case z80b => exact rfl
    case z80c => exact rfl
    intro g24 w24 hp24
    refine hK.out _ _ (HT.out _ hp24.kept) ?_
    have P24 := Lib.hid hp24
    clear hp24 hK K P9
    change anyT _ _ _ _ _ _ _ _ ⟨Array.setIfInBounds _ 79 _, _⟩ _
    simp only [List.setIfInBounds_toArray, List.set_cons_zero, List.set_cons_succ]
    refine readyT (rs := [16]) (by kernel_rfl) (by simp) ?_
    refine AllT.cons rfl (fun K hK => ?_) AllT.nil
    refine PutW.stepN P24.out (HV9.out _ P24.out.kept) HLb.out ?z81a (.tmp 69) (.tmp 70) ?z81b ?z81c ?z81d ?_
    case z81a => exact rfl
    case z81b => exact rfl
    case z81c => exact rfl
    case z81d => exact rfl
    intro A16 c16 w16 hp16
    refine hK.out _ _ (HT.out _ hp16.kept) ?_
    have P16 := Lib.hid hp16
    clear hp16 hK K P24
    change anyT _ _ _ _ _ _ _ _ ⟨Array.setIfInBounds _ 71 _, _⟩ _
    simp only [List.setIfInBounds_toArray, List.set_cons_zero, List.set_cons_succ]
    refine readyT (rs := [17]) (by kernel_rfl) (by simp) ?_
    refine AllT.cons rfl (fun K hK => ?_) AllT.nil
    refine PutW.stepB2 P16.out ?z82a (.tmp 71) ?z82b A16 b.length c16 ?z82c ?_
    case z82a => exact rfl
    case z82b => exact rfl
    case z82c => exact rfl
    intro g17 w17 hp17
    refine hK.out _ _ (HT.out _ hp17.kept) ?_
    have P17 := Lib.hid hp17
    clear hp17 hK K P16
    change anyT _ _ _ _ _ _ _ _ ⟨Array.setIfInBounds _ 72 _, _⟩ _
    simp only [List.setIfInBounds_toArray, List.set_cons_zero, List.set_cons_succ]
    refine readyT (rs := [18]) (by kernel_rfl) (by simp) ?_
    refine AllT.cons rfl (fun K hK => ?_) AllT.nil
    refine PutW.stepP P17.out (fun k e => .inr (.inl e)) HL.out.2.1 ?z83a (.tmp 68) (.tmp 72) ?z83b g17 (.slice A16 b.length c16) rfl (by simp) ?z83c ?z83d ?_
    case z83a => exact rfl
    case z83b => exact rfl
    case z83c => exact rfl
    case z83d => exact rfl
    intro g18 c18 w18 hp18
    refine hK.out _ _ (HT.out _ hp18.kept) ?_
    have P18 := Lib.hid hp18
    clear hp18 hK K P17
    change anyT _ _ _ _ _ _ _ _ ⟨Array.setIfInBounds _ 73 _, _⟩ _
    simp only [List.setIfInBounds_toArray, List.set_cons_zero, List.set_cons_succ]
    refine readyT (rs := [25]) (by kernel_rfl) (by simp) ?_
    refine AllT.cons rfl (fun K hK => ?_) AllT.nil
    refine PutW.stepI P18.out (fun k e => .inr (.inr e)) HL.out.2.2 ?z84a (.tmp 77) (.tmp 79) ?z84b g24 no (by simp) ?z84c ?z84d ?_
    case z84a => exact rfl
    case z84b => exact rfl
    case z84c => exact rfl
    case z84d => exact rfl
    intro g25 c25 w25 hp25
    refine hK.out _ _ (HT.out _ hp25.kept) ?_
    have P25 := Lib.hid hp25
    clear hp25 hK K P18
    change anyT _ _ _ _ _ _ _ _ ⟨Array.setIfInBounds _ 80 _, _⟩ _
    simp only [List.setIfInBounds_toArray, List.set_cons_zero, List.set_cons_succ]
    rotate_left
    refine PutW.stepB1 P8.out ?z85a (.tmp 78) ?z85b no ?z85c ?_
    case z85a => exact rfl
    case z85b => exact rfl
    case z85c => exact rfl
    intro g24 w24 hp24
    refine hK.out _ _ (HT.out _ hp24.kept) ?_
    have P24 := Lib.hid hp24
    clear hp24 hK K P8
    change anyT _ _ _ _ _ _ _ _ ⟨Array.setIfInBounds _ 79 _, _⟩ _
    simp only [List.setIfInBounds_toArray, List.set_cons_zero, List.set_cons_succ]
    refine readyT (rs := [9]) (by kernel_rfl) (by simp) ?_
    refine AllT.cons rfl (fun K hK => ?_) AllT.nil
    refine PutW.stepA P24.out (fun k e => .inl e) HL.out.1 ?z86a (.tmp 61) (.tmp 63) ?z86b g8 (n : Int) (by simp) ?z86c ?z86d ?_
    case z86a => exact rfl
    case z86b => exact rfl
    case z86c => exact rfl
    case z86d => exact rfl
    intro g9 c9 w9 hp9
    refine hK.out _ _ (HT.out _ hp9.kept) ?_
    have P9 := Lib.hid hp9
    clear hp9 hK K P24
    change anyT _ _ _ _ _ _ _ _ ⟨Array.setIfInBounds _ 64 _, _⟩ _
    simp only [List.setIfInBounds_toArray, List.set_cons_zero, List.set_cons_succ]
    refine readyT (rs := [16]) (by kernel_rfl) (by simp) ?_
    refine AllT.cons rfl (fun K hK => ?_) AllT.nil
    refine PutW.stepN P9.out (HV9.out _ P9.out.kept) HLb.out ?z87a (.tmp 69) (.tmp 70) ?z87b ?z87c ?z87d ?_
    case z87a => exact rfl
    case z87b => exact rfl
    case z87c => exact rfl
    case z87d => exact rfl
    intro A16 c16 w16 hp16
    refine hK.out _ _ (HT.out _ hp16.kept) ?_
    have P16 := Lib.hid hp16
    clear hp16 hK K P9
    change anyT _ _ _ _ _ _ _ _ ⟨Array.setIfInBounds _ 71 _, _⟩ _
    simp only [List.setIfInBounds_toArray, List.set_cons_zero, List.set_cons_succ]
    refine readyT (rs := [17]) (by kernel_rfl) (by simp) ?_
    refine AllT.cons rfl (fun K hK => ?_) AllT.nil
    refine PutW.stepB2 P16.out ?z88a (.tmp 71) ?z88b A16 b.length c16 ?z88c ?_
    case z88a => exact rfl
    case z88b => exact rfl
    case z88c => exact rfl
    intro g17 w17 hp17
    refine hK.out _ _ (HT.out _ hp17.kept) ?_
    have P17 := Lib.hid hp17
    clear hp17 hK K P16
    change anyT _ _ _ _ _ _ _ _ ⟨Array.setIfInBounds _ 72 _, _⟩ _
    simp only [List.setIfInBounds_toArray, List.set_cons_zero, List.set_cons_succ]
    refine readyT (rs := [18]) (by kernel_rfl) (by simp) ?_
    refine AllT.cons rfl (fun K hK => ?_) AllT.nil
    refine PutW.stepP P17.out (fun k e => .inr (.inl e)) HL.out.2.1 ?z89a (.tmp 68) (.tmp 72) ?z89b g17 (.slice A16 b.length c16) rfl (by simp) ?z89c ?z89d ?_
    case z89a => exact rfl
    case z89b => exact rfl
    case z89c => exact rfl
    case z89d => exact rfl
    intro g18 c18 w18 hp18
    refine hK.out _ _ (HT.out _ hp18.kept) ?_
    have P18 := Lib.hid hp18
    clear hp18 hK K P17
    change anyT _ _ _ _ _ _ _ _ ⟨Array.setIfInBounds _ 73 _, _⟩ _
    simp only [List.setIfInBounds_toArray, List.set_cons_zero, List.set_cons_succ]
    refine readyT (rs := [25]) (by kernel_rfl) (by simp) ?_
    refine AllT.cons rfl (fun K hK => ?_) AllT.nil
    refine PutW.stepI P18.out (fun k e => .inr (.inr e)) HL.out.2.2 ?z90a (.tmp 77) (.tmp 79) ?z90b g24 no (by simp) ?z90c ?z90d ?_
    case z90a => exact rfl
    case z90b => exact rfl
    case z90c => exact rfl
    case z90d => exact rfl
    intro g25 c25 w25 hp25
    refine hK.out _ _ (HT.out _ hp25.kept) ?_
    have P25 := Lib.hid hp25
    clear hp25 hK K P18
    change anyT _ _ _ _ _ _ _ _ ⟨Array.setIfInBounds _ 80 _, _⟩ _
    simp only [List.setIfInBounds_toArray, List.set_cons_zero, List.set_cons_succ]
    rotate_left
    refine PutW.stepB1 P14.out ?z91a (.tmp 78) ?z91b no ?z91c ?_
    case z91a => exact rfl
    case z91b => exact rfl
    case z91c => exact rfl
    intro g24 w24 hp24
    refine hK.out _ _ (HT.out _ hp24.kept) ?_
    have P24 := Lib.hid hp24
    clear hp24 hK K P14
    change anyT _ _ _ _ _ _ _ _ ⟨Array.setIfInBounds _ 79 _, _⟩ _
    simp only [List.setIfInBounds_toArray, List.set_cons_zero, List.set_cons_succ]
    refine readyT (rs := [8]) (by kernel_rfl) (by simp) ?_
    refine AllT.cons rfl (fun K hK => ?_) AllT.nil
    refine PutW.stepB1 P24.out ?z92a (.tmp 62) ?z92b (n : Int) ?z92c ?_
    case z92a => exact rfl
    case z92b => exact rfl
    case z92c => exact rfl
    intro g8 w8 hp8
    refine hK.out _ _ (HT.out _ hp8.kept) ?_
    have P8 := Lib.hid hp8
    clear hp8 hK K P24
    change anyT _ _ _ _ _ _ _ _ ⟨Array.setIfInBounds _ 63 _, _⟩ _
    simp only [List.setIfInBounds_toArray, List.set_cons_zero, List.set_cons_succ]
    refine readyT (rs := [9]) (by kernel_rfl) (by simp) ?_
    refine AllT.cons rfl (fun K hK => ?_) AllT.nil
    refine PutW.stepA P8.out (fun k e => .inl e) HL.out.1 ?z93a (.tmp 61) (.tmp 63) ?z93b g8 (n : Int) (by simp) ?z93c ?z93d ?_
    case z93a => exact rfl
    case z93b => exact rfl
    case z93c => exact rfl
    case z93d => exact rfl
    intro g9 c9 w9 hp9
    refine hK.out _ _ (HT.out _ hp9.kept) ?_
    have P9 := Lib.hid hp9
    clear hp9 hK K P8
    change anyT _ _ _ _ _ _ _ _ ⟨Array.setIfInBounds _ 64 _, _⟩ _
    simp only [List.setIfInBounds_toArray, List.set_cons_zero, List.set_cons_succ]
    refine readyT (rs := [16]) (by kernel_rfl) (by simp) ?_
    refine AllT.cons rfl (fun K hK => ?_) AllT.nil
    refine PutW.stepN P9.out (HV9.out _ P9.out.kept) HLb.out ?z94a (.tmp 69) (.tmp 70) ?z94b ?z94c ?z94d ?_
    case z94a => exact rfl
    case z94b => exact rfl
    case z94c => exact rfl
    case z94d => exact rfl
    intro A16 c16 w16 hp16
    refine hK.out _ _ (HT.out _ hp16.kept) ?_
    have P16 := Lib.hid hp16
    clear hp16 hK K P9
    change anyT _ _ _ _ _ _ _ _ ⟨Array.setIfInBounds _ 71 _, _⟩ _
    simp only [List.setIfInBounds_toArray, List.set_cons_zero, List.set_cons_succ]
    refine readyT (rs := [17]) (by kernel_rfl) (by simp) ?_
    refine AllT.cons rfl (fun K hK => ?_) AllT.nil
    refine PutW.stepB2 P16.out ?z95a (.tmp 71) ?z95b A16 b.length c16 ?z95c ?_
    case z95a => exact rfl
    case z95b => exact rfl
    case z95c => exact rfl
    intro g17 w17 hp17
    refine hK.out _ _ (HT.out _ hp17.kept) ?_
    have P17 := Lib.hid hp17
    clear hp17 hK K P16
    change anyT _ _ _ _ _ _ _ _ ⟨Array.setIfInBounds _ 72 _, _⟩ _
    simp only [List.setIfInBounds_toArray, List.set_cons_zero, List.set_cons_succ]
    refine readyT (rs := [18]) (by kernel_rfl) (by simp) ?_
    refine AllT.cons rfl (fun K hK => ?_) AllT.nil
    refine PutW.stepP P17.out (fun k e => .inr (.inl e)) HL.out.2.1 ?z96a (.tmp 68) (.tmp 72) ?z96b g17 (.slice A16 b.length c16) rfl (by simp) ?z96c ?z96d ?_
    case z96a => exact rfl
    case z96b => exact rfl
    case z96c => exact rfl
    case z96d => exact rfl
    intro g18 c18 w18 hp18
    refine hK.out _ _ (HT.out _ hp18.kept) ?_
    have P18 := Lib.hid hp18
    clear hp18 hK K P17
    change anyT _ _ _ _ _ _ _ _ ⟨Array.setIfInBounds _ 73 _, _⟩ _
    simp only [List.setIfInBounds_toArray, List.set_cons_zero, List.set_cons_succ]
    refine readyT (rs := [25]) (by kernel_rfl) (by simp) ?_
    refine AllT.cons rfl (fun K hK => ?_) AllT.nil
    refine PutW.stepI P18.out (fun k e => .inr (.inr e)) HL.out.2.2 ?z97a (.tmp 77) (.tmp 79) ?z97b g24 no (by simp) ?z97c ?z97d ?_
    case z97a => exact rfl
    case z97b => exact rfl
    case z97c => exact rfl
    case z97d => exact rfl
    intro g25 c25 w25 hp25
    refine hK.out _ _ (HT.out _ hp25.kept) ?_
    have P25 := Lib.hid hp25
    clear hp25 hK K P18
    change anyT _ _ _ _ _ _ _ _ ⟨Array.setIfInBounds _ 80 _, _⟩ _
    simp only [List.setIfInBounds_toArray, List.set_cons_zero, List.set_cons_succ]
    rotate_left
    refine PutW.stepB1 HP0.out ?z98a (.tmp 78) ?z98b no ?z98c ?_
    case z98a => exact rfl
    case z98b => exact rfl
    case z98c => exact rfl
    intro g24 w24 hp24
    refine hK.out _ _ (HT.out _ hp24.kept) ?_
    have P24 := Lib.hid hp24
    clear hp24 hK K
    change anyT _ _ _ _ _ _ _ _ ⟨Array.setIfInBounds _ 79 _, _⟩ _
    simp only [List.setIfInBounds_toArray, List.set_cons_zero, List.set_cons_succ]
    refine readyT (rs := [8, 14]) (by kernel_rfl) (by simp) ?_
    refine AllT.cons rfl (fun K hK => ?_) (AllT.cons rfl (fun K hK => ?_) AllT.nil)
    refine PutW.stepB1 P24.out ?z99a (.tmp 62) ?z99b (n : Int) ?z99c ?_
    case z99a => exact rfl
    case z99b => exact rfl
    case z99c => exact rfl
    intro g8 w8 hp8
    refine hK.out _ _ (HT.out _ hp8.kept) ?_
    have P8 := Lib.hid hp8
    clear hp8 hK K P24
    change anyT _ _ _ _ _ _ _ _ ⟨Array.setIfInBounds _ 63 _, _⟩ _
    simp only [List.setIfInBounds_toArray, List.set_cons_zero, List.set_cons_succ]
    refine readyT (rs := [9, 14]) (by kernel_rfl) (by simp) ?_
    refine AllT.cons rfl (fun K hK => ?_) (AllT.cons rfl (fun K hK => ?_) AllT.nil)
    refine PutW.stepA P8.out (fun k e => .inl e) HL.out.1 ?z100a (.tmp 61) (.tmp 63) ?z100b g8 (n : Int) (by simp) ?z100c ?z100d ?_
    case z100a => exact rfl
    case z100b => exact rfl
    case z100c => exact rfl
    case z100d => exact rfl
    intro g9 c9 w9 hp9
    refine hK.out _ _ (HT.out _ hp9.kept) ?_
    have P9 := Lib.hid hp9
    clear hp9 hK K P8
    change anyT _ _ _ _ _ _ _ _ ⟨Array.setIfInBounds _ 64 _, _⟩ _
    simp only [List.setIfInBounds_toArray, List.set_cons_zero, List.set_cons_succ]
    refine readyT (rs := [14]) (by kernel_rfl) (by simp) ?_
    refine AllT.cons rfl (fun K hK => ?_) AllT.nil
    refine PutW.stepB0 P9.out ?z101a ?z101b ?_
    case z101a => exact rfl
    case z101b => exact rfl
    intro g14 w14 hp14
    refine hK.out _ _ (HT.out _ hp14.kept) ?_
    have P14 := Lib.hid hp14
    clear hp14 hK K P9
    change anyT _ _ _ _ _ _ _ _ ⟨Array.setIfInBounds _ 69 _, _⟩ _
    simp only [List.setIfInBounds_toArray, List.set_cons_zero, List.set_cons_succ]
    refine readyT (rs := [16]) (by kernel_rfl) (by simp) ?_
    refine AllT.cons rfl (fun K hK => ?_) AllT.nil
    refine PutW.stepN P14.out (HV9.out _ P14.out.kept) HLb.out ?z102a (.tmp 69) (.tmp 70) ?z102b ?z102c ?z102d ?_
    case z102a => exact rfl
    case z102b => exact rfl
    case z102c => exact rfl
    case z102d => exact rfl
    intro A16 c16 w16 hp16
    refine hK.out _ _ (HT.out _ hp16.kept) ?_
    have P16 := Lib.hid hp16
    clear hp16 hK K P14
    change anyT _ _ _ _ _ _ _ _ ⟨Array.setIfInBounds _ 71 _, _⟩ _
    simp only [List.setIfInBounds_toArray, List.set_cons_zero, List.set_cons_succ]
    refine readyT (rs := [17]) (by kernel_rfl) (by simp) ?_
    refine AllT.cons rfl (fun K hK => ?_) AllT.nil
    refine PutW.stepB2 P16.out ?z103a (.tmp 71) ?z103b A16 b.length c16 ?z103c ?_
    case z103a => exact rfl
    case z103b => exact rfl
    case z103c => exact rfl
    intro g17 w17 hp17
    refine hK.out _ _ (HT.out _ hp17.kept) ?_
    have P17 := Lib.hid hp17
    clear hp17 hK K P16
    change anyT _ _ _ _ _ _ _ _ ⟨Array.setIfInBounds _ 72 _, _⟩ _
    simp only [List.setIfInBounds_toArray, List.set_cons_zero, List.set_cons_succ]
    refine readyT (rs := [18]) (by kernel_rfl) (by simp) ?_
    refine AllT.cons rfl (fun K hK => ?_) AllT.nil
    refine PutW.stepP P17.out (fun k e => .inr (.inl e)) HL.out.2.1 ?z104a (.tmp 68) (.tmp 72) ?z104b g17 (.slice A16 b.length c16) rfl (by simp) ?z104c ?z104d ?_
    case z104a => exact rfl
    case z104b => exact rfl
    case z104c => exact rfl
    case z104d => exact rfl
    intro g18 c18 w18 hp18
    refine hK.out _ _ (HT.out _ hp18.kept) ?_
    have P18 := Lib.hid hp18
    clear hp18 hK K P17
    change anyT _ _ _ _ _ _ _ _ ⟨Array.setIfInBounds _ 73 _, _⟩ _
    simp only [List.setIfInBounds_toArray, List.set_cons_zero, List.set_cons_succ]
    refine readyT (rs := [25]) (by kernel_rfl) (by simp) ?_
    refine AllT.cons rfl (fun K hK => ?_) AllT.nil
    refine PutW.stepI P18.out (fun k e => .inr (.inr e)) HL.out.2.2 ?z105a (.tmp 77) (.tmp 79) ?z105b g24 no (by simp) ?z105c ?z105d ?_
    case z105a => exact rfl
    case z105b => exact rfl
    case z105c => exact rfl
    case z105d => exact rfl
    intro g25 c25 w25 hp25
    refine hK.out _ _ (HT.out _ hp25.kept) ?_
    have P25 := Lib.hid hp25
    clear hp25 hK K P18
    change anyT _ _ _ _ _ _ _ _ ⟨Array.setIfInBounds _ 80 _, _⟩ _
    simp only [List.setIfInBounds_toArray, List.set_cons_zero, List.set_cons_succ]
    rotate_left
    refine PutW.stepB0 P8.out ?z106a ?z106b ?_
    case z106a => exact rfl
    case z106b => exact rfl
    intro g14 w14 hp14
    refine hK.out _ _ (HT.out _ hp14.kept) ?_
    have P14 := Lib.hid hp14
    clear hp14 hK K P8
    change anyT _ _ _ _ _ _ _ _ ⟨Array.setIfInBounds _ 69 _, _⟩ _
    simp only [List.setIfInBounds_toArray, List.set_cons_zero, List.set_cons_succ]
    refine readyT (rs := [9]) (by kernel_rfl) (by simp) ?_
    refine AllT.cons rfl (fun K hK => ?_) AllT.nil
    refine PutW.stepA P14.out (fun k e => .inl e) HL.out.1 ?z107a (.tmp 61) (.tmp 63) ?z107b g8 (n : Int) (by simp) ?z107c ?z107d ?_
    case z107a => exact rfl
    case z107b => exact rfl
    case z107c => exact rfl
    case z107d => exact rfl
    intro g9 c9 w9 hp9
    refine hK.out _ _ (HT.out _ hp9.kept) ?_
    have P9 := Lib.hid hp9
    clear hp9 hK K P14
    change anyT _ _ _ _ _ _ _ _ ⟨Array.setIfInBounds _ 64 _, _⟩ _
    simp only [List.setIfInBounds_toArray, List.set_cons_zero, List.set_cons_succ]
    refine readyT (rs := [16]) (by kernel_rfl) (by simp) ?_
    refine AllT.cons rfl (fun K hK => ?_) AllT.nil
    refine PutW.stepN P9.out (HV9.out _ P9.out.kept) HLb.out ?z108a (.tmp 69) (.tmp 70) ?z108b ?z108c ?z108d ?_
    case z108a => exact rfl
    case z108b => exact rfl
    case z108c => exact rfl
    case z108d => exact rfl
    intro A16 c16 w16 hp16
    refine hK.out _ _ (HT.out _ hp16.kept) ?_
    have P16 := Lib.hid hp16
    clear hp16 hK K P9
    change anyT _ _ _ _ _ _ _ _ ⟨Array.setIfInBounds _ 71 _, _⟩ _
    simp only [List.setIfInBounds_toArray, List.set_cons_zero, List.set_cons_succ]
    refine readyT (rs := [17]) (by kernel_rfl) (by simp) ?_
    refine AllT.cons rfl (fun K hK => ?_) AllT.nil
    refine PutW.stepB2 P16.out ?z109a (.tmp 71) ?z109b A16 b.length c16 ?z109c ?_
    case z109a => exact rfl
    case z109b => exact rfl
    case z109c => exact rfl
    intro g17 w17 hp17
    refine hK.out _ _ (HT.out _ hp17.kept) ?_
    have P17 := Lib.hid hp17
    clear hp17 hK K P16
    change anyT _ _ _ _ _ _ _ _ ⟨Array.setIfInBounds _ 72 _, _⟩ _
    simp only [List.setIfInBounds_toArray, List.set_cons_zero, List.set_cons_succ]
    refine readyT (rs := [18]) (by kernel_rfl) (by simp) ?_
    refine AllT.cons rfl (fun K hK => ?_) AllT.nil
    refine PutW.stepP P17.out (fun k e => .inr (.inl e)) HL.out.2.1 ?z110a (.tmp 68) (.tmp 72) ?z110b g17 (.slice A16 b.length c16) rfl (by simp) ?z110c ?z110d ?_
    case z110a => exact rfl
    case z110b => exact rfl
    case z110c => exact rfl
    case z110d => exact rfl
    intro g18 c18 w18 hp18
    refine hK.out _ _ (HT.out _ hp18.kept) ?_
    have P18 := Lib.hid hp18
    clear hp18 hK K P17
    change anyT _ _ _ _ _ _ _ _ ⟨Array.setIfInBounds _ 73 _, _⟩ _
    simp only [List.setIfInBounds_toArray, List.set_cons_zero, List.set_cons_succ]
    refine readyT (rs := [25]) (by kernel_rfl) (by simp) ?_
    refine AllT.cons rfl (fun K hK => ?_) AllT.nil
    refine PutW.stepI P18.out (fun k e => .inr (.inr e)) HL.out.2.2 ?z111a (.tmp 77) (.tmp 79) ?z111b g24 no (by simp) ?z111c ?z111d ?_
    case z111a => exact rfl
    case z111b => exact rfl
    case z111c => exact rfl
    case z111d => exact rfl
    intro g25 c25 w25 hp25
    refine hK.out _ _ (HT.out _ hp25.kept) ?_
    have P25 := Lib.hid hp25
    clear hp25 hK K P18
    change anyT _ _ _ _ _ _ _ _ ⟨Array.setIfInBounds _ 80 _, _⟩ _
    simp only [List.setIfInBounds_toArray, List.set_cons_zero, List.set_cons_succ]
    rotate_left
    refine PutW.stepB0 P24.out ?z112a ?z112b ?_
    case z112a => exact rfl
    case z112b => exact rfl
    intro g14 w14 hp14
    refine hK.out _ _ (HT.out _ hp14.kept) ?_
    have P14 := Lib.hid hp14
    clear hp14 hK K P24
    change anyT _ _ _ _ _ _ _ _ ⟨Array.setIfInBounds _ 69 _, _⟩ _
    simp only [List.setIfInBounds_toArray, List.set_cons_zero, List.set_cons_succ]
    refine readyT (rs := [8]) (by kernel_rfl) (by simp) ?_
    refine AllT.cons rfl (fun K hK => ?_) AllT.nil
    refine PutW.stepB1 P14.out ?z113a (.tmp 62) ?z113b (n : Int) ?z113c ?_
    case z113a => exact rfl
    case z113b => exact rfl
    case z113c => exact rfl
    intro g8 w8 hp8
    refine hK.out _ _ (HT.out _ hp8.kept) ?_
    have P8 := Lib.hid hp8
    clear hp8 hK K P14
    change anyT _ _ _ _ _ _ _ _ ⟨Array.setIfInBounds _ 63 _, _⟩ _
    simp only [List.setIfInBounds_toArray, List.set_cons_zero, List.set_cons_succ]
    refine readyT (rs := [9]) (by kernel_rfl) (by simp) ?_
    refine AllT.cons rfl (fun K hK => ?_) AllT.nil
    refine PutW.stepA P8.out (fun k e => .inl e) HL.out.1 ?z114a (.tmp 61) (.tmp 63) ?z114b g8 (n : Int) (by simp) ?z114c ?z114d ?_
    case z114a => exact rfl
    case z114b => exact rfl
    case z114c => exact rfl
    case z114d => exact rfl
    intro g9 c9 w9 hp9
    refine hK.out _ _ (HT.out _ hp9.kept) ?_
    have P9 := Lib.hid hp9
    clear hp9 hK K P8
    change anyT _ _ _ _ _ _ _ _ ⟨Array.setIfInBounds _ 64 _, _⟩ _
    simp only [List.setIfInBounds_toArray, List.set_cons_zero, List.set_cons_succ]
    refine readyT (rs := [16]) (by kernel_rfl) (by simp) ?_
    refine AllT.cons rfl (fun K hK => ?_) AllT.nil
    refine PutW.stepN P9.out (HV9.out _ P9.out.kept) HLb.out ?z115a (.tmp 69) (.tmp 70) ?z115b ?z115c ?z115d ?_
    case z115a => exact rfl
    case z115b => exact rfl
    case z115c => exact rfl
    case z115d => exact rfl
    intro A16 c16 w16 hp16
    refine hK.out _ _ (HT.out _ hp16.kept) ?_
    have P16 := Lib.hid hp16
    clear hp16 hK K P9
    change anyT _ _ _ _ _ _ _ _ ⟨Array.setIfInBounds _ 71 _, _⟩ _
    simp only [List.setIfInBounds_toArray, List.set_cons_zero, List.set_cons_succ]
    refine readyT (rs := [17]) (by kernel_rfl) (by simp) ?_
    refine AllT.cons rfl (fun K hK => ?_) AllT.nil
    refine PutW.stepB2 P16.out ?z116a (.tmp 71) ?z116b A16 b.length c16 ?z116c ?_
    case z116a => exact rfl
    case z116b => exact rfl
    case z116c => exact rfl
    intro g17 w17 hp17
    refine hK.out _ _ (HT.out _ hp17.kept) ?_
    have P17 := Lib.hid hp17
    clear hp17 hK K P16
    change anyT _ _ _ _ _ _ _ _ ⟨Array.setIfInBounds _ 72 _, _⟩ _
    simp only [List.setIfInBounds_toArray, List.set_cons_zero, List.set_cons_succ]
    refine readyT (rs := [18]) (by kernel_rfl) (by simp) ?_
    refine AllT.cons rfl (fun K hK => ?_) AllT.nil
    refine PutW.stepP P17.out (fun k e => .inr (.inl e)) HL.out.2.1 ?z117a (.tmp 68) (.tmp 72) ?z117b g17 (.slice A16 b.length c16) rfl (by simp) ?z117c ?z117d ?_
    case z117a => exact rfl
    case z117b => exact rfl
    case z117c => exact rfl
    case z117d => exact rfl
    intro g18 c18 w18 hp18
    refine hK.out _ _ (HT.out _ hp18.kept) ?_
    have P18 := Lib.hid hp18
    clear hp18 hK K P17
    change anyT _ _ _ _ _ _ _ _ ⟨Array.setIfInBounds _ 73 _, _⟩ _
    simp only [List.setIfInBounds_toArray, List.set_cons_zero, List.set_cons_succ]
    refine readyT (rs := [25]) (by kernel_rfl) (by simp) ?_
    refine AllT.cons rfl (fun K hK => ?_) AllT.nil
    refine PutW.stepI P18.out (fun k e => .inr (.inr e)) HL.out.2.2 ?z118a (.tmp 77) (.tmp 79) ?z118b g24 no (by simp) ?z118c ?z118d ?_
    case z118a => exact rfl
    case z118b => exact rfl
    case z118c => exact rfl
    case z118d => exact rfl
    intro g25 c25 w25 hp25
    refine hK.out _ _ (HT.out _ hp25.kept) ?_
    have P25 := Lib.hid hp25
    clear hp25 hK K P18
    change anyT _ _ _ _ _ _ _ _ ⟨Array.setIfInBounds _ 80 _, _⟩ _
    simp only [List.setIfInBounds_toArray, List.set_cons_zero, List.set_cons_succ]
    rotate_left
    all_goals
      refine readyT (rs := [26]) (by kernel_rfl) (by simp) ?_
      refine AllT.cons rfl (fun K hK => ?_) AllT.nil
      go_simp
      refine hK.out _ _ (HT.out _ P25.out.kept) ?_
      clear hK K
      refine readyT (rs := [27]) (by kernel_rfl) (by simp) ?_
      refine AllT.cons rfl (fun K hK => ?_) AllT.nil
      go_simp
      refine hK.out _ _ (HT.out _ P25.out.kept) ?_
      clear hK K
      simp only [List.setIfInBounds_toArray, List.set_cons_zero, List.set_cons_succ]
      have E25 := Lib.hid (HQ9.out _ P25.out.kept)
      obtain ⟨hl25, fz25, t1, t2, t3⟩ := E25.out.facts
      refine storeT (by kernel_rfl) rfl (fun K hK => ?_)
      go_simp
      refine hK.out _ _ ?_
      clear hK K hl25 fz25 t1 t2 t3
      have E26 := Lib.hid (E25.out.set1 (.slice (some ⟨g9, 0, none⟩) (la.length + 1) c9))
      have K26 := Lib.hid ((Kept.refl (fun k => k = q) w25).setCell (p := ⟨q, 1, none⟩) (.inl rfl) (.slice (some ⟨g9, 0, none⟩) (la.length + 1) c9))
      generalize w25.setCell ⟨q, 1, none⟩ (.slice (some ⟨g9, 0, none⟩) (la.length + 1) c9) = w26 at *
      obtain ⟨hl25, fz25, t1, t2, t3⟩ := E26.out.facts
      refine wpAny_ready (rs := [29]) (by kernel_rfl) (by simp) ?_
      refine AllReady.cons rfl (fun K hK => ?_) AllReady.nil
      go_simp
      refine hK _ _ ?_
      clear hK K
      refine wpAny_ready (rs := [30]) (by kernel_rfl) (by simp) ?_
      refine AllReady.cons rfl (fun K hK => ?_) AllReady.nil
      go_simp
      refine hK _ _ ?_
      clear hK K
      simp only [List.setIfInBounds_toArray, List.set_cons_zero, List.set_cons_succ]
      refine wpAny_ready (rs := [31]) (by kernel_rfl) (by simp) ?_
      refine AllReady.cons rfl (fun K hK => ?_) AllReady.nil
      go_simp
      refine hK _ _ ?_
      clear hK K hl25 fz25 t1 t2 t3
      have E27 := Lib.hid (E26.out.set2 (.slice (some ⟨g18, 0, none⟩) (rs.length + 1) c18))
      have K27 := Lib.hid (K26.out.setCell (p := ⟨q, 2, none⟩) (.inl rfl) (.slice (some ⟨g18, 0, none⟩) (rs.length + 1) c18))
      generalize w26.setCell ⟨q, 2, none⟩ (.slice (some ⟨g18, 0, none⟩) (rs.length + 1) c18) = w27 at *
      obtain ⟨hl25, fz25, t1, t2, t3⟩ := E27.out.facts
      refine wpAny_ready (rs := [32]) (by kernel_rfl) (by simp) ?_
      refine AllReady.cons rfl (fun K hK => ?_) AllReady.nil
      go_simp
      refine hK _ _ ?_
      clear hK K
      refine wpAny_ready (rs := [33]) (by kernel_rfl) (by simp) ?_
      refine AllReady.cons rfl (fun K hK => ?_) AllReady.nil
      go_simp
      refine hK _ _ ?_
      clear hK K
      simp only [List.setIfInBounds_toArray, List.set_cons_zero, List.set_cons_succ]
      refine wpAny_ready (rs := [34]) (by kernel_rfl) (by simp) ?_
      refine AllReady.cons rfl (fun K hK => ?_) AllReady.nil
      go_simp
      refine hK _ _ ?_
      clear hK K hl25 fz25 t1 t2 t3
      have E28 := Lib.hid (E27.out.set3 (.slice (some ⟨g25, 0, none⟩) (li.length + 1) c25))
      have K28 := Lib.hid (K27.out.setCell (p := ⟨q, 3, none⟩) (.inl rfl) (.slice (some ⟨g25, 0, none⟩) (li.length + 1) c25))
      generalize w27.setCell ⟨q, 3, none⟩ (.slice (some ⟨g25, 0, none⟩) (li.length + 1) c25) = w28 at *
      refine wpAny_done (by kernel_rfl) ?_ _
      go_wp2_with fail
      go_meet
      exact HFL.out _ _ _ _ _ _ _ _ P25.out K28.out E28.out
  case rest =>
    obtain ⟨xa, xp, xi, ss, S3, e1, e2, e3, e4⟩ := hcut
    have HE1 := Lib.hid e1
    have HE := Lib.hid (And.intro e2 (And.intro e3 e4))
    obtain ⟨hq5, c0, c1, c2, c3, c4, c5, c6, fz⟩ := e1.facts
    dsimp only at c4 c5 c6
    clear e1 e2 e3 e4
    have HFin := Lib.hid (fun (t : Nat) (wx : World) (hx : RefU wx F2 S3 q p xa xp xi ss { u with store := m, rows := u.rows ++ [⟨n, b, no.toNat⟩], top := t }) (hk : Kept (fun k => k = q) wc wx) (ht : t = max u.top (n + 1)) => show StepU W (fun k => F k ∨ MineU q va vp vi k) S q (writeD u ep n b) (.returned (.int .i64 0)) wx from by
      subst ht
      rw [HR.out]
      refine ⟨rfl, _, S3, hx.ru, fun k hk => ?_, fun k hk => ?_, ?_⟩
      · rcases hk with hk | hk
        · exact (HF5.out.1 k hk).imp .inl id
        · exact (HE.out.2.1 k hk).imp .inr (fun h => Nat.le_trans HK5.out.size h)
      · exact (HE.out.1 k hk).elim (HF5.out.2 k) (fun h => .inr (Nat.le_trans HK5.out.size h))
      · exact (((HK5.out.mono (fun k _ h => .inl h)).trans HE.out.2.2 (fun k h => .inl (.inr h))).trans hk (fun k h => .inl (.inr (.inl h)))))
    obtain ⟨t, ht⟩ : ∃ t, u.top = t := ⟨_, rfl⟩
    have HTt := Lib.hid ht
    rw [ht] at c6
    clear ht
    have hw1 : IntKind.i64.wrap ((n : Int) + 1) = (n : Int) + 1 := IntWalk.i64_in _ (by omega)
    have hw2 : wrap64 ((n : Int) + 1) = (n : Int) + 1 := by unfold wrap64; omega
    by_cases hlt : (t : Int) < (n : Int) + 1
    · have q5 : decide ((t : Int) < (n : Int) + 1) = true := decide_eq_true hlt
      have HLt := Lib.hid hlt
      clear hlt
      go_wp2_with fail
      go_ret
      clear hw1 hw2
      exact HFin.out (n + 1) _ (HE1.out.setc 6 _ rfl rfl rfl) ((Kept.refl (fun k => k = q) wc).setCell (p := ⟨q, 6, none⟩) (.inl rfl) _) (by have := HLt.out; have := HTt.out; omega)
    · have q5 : decide ((t : Int) < (n : Int) + 1) = false := decide_eq_false hlt
      have HLt := Lib.hid hlt
      clear hlt
      go_wp2_with fail
      go_ret
      clear hw1 hw2
      exact HFin.out t wc (by have := HE1.out; rw [← HTt.out]; exact this) (Kept.refl _ _) (by have := HLt.out; have := HTt.out; omega)
end
end Go.Proofs.YtcpanaokfbojnaaGreatDoor
