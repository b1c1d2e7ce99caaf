/- UnitOnce: the law, walked: what is read at an address is the same each time. -/
import Derived.Test.YtbhohlefgkcdmaaGreatDoorGUlA
import Derived.Deep.DeepCutAuto
import Derived.Deep.CutBlock
import Derived.Deep.CutRange
import Derived.Deep.RegionHeld3
namespace Go.Proofs.YtbhohlefgkcdmaaGreatDoor
open Go Go.RowKit Go.Shelf Tide

/-- A call of a lower epoch. -/
def lowA (x : ActU) (e : Nat) : Prop := 0 ≤ x.kind ∧ x.kind ≤ 3 ∧ x.kind ≠ 1 ∧ x.epoch < e
/-- What was seen at an address. -/
def SeenU (A : Nat) (u : UnitD) (S : List UInt8) (tr : Bool) (T : Nat) : Prop := T ≤ max u.top u.trimmed ∧ (tr = true → A < u.trimmed) ∧ (S ≠ [] → A < u.trimmed ∨ ∃ q, findD u A = some q ∧ q.bs = S)
theorem SeenU.keeps {A T : Nat} {u v : UnitD} {S : List UInt8} {tr : Bool} (h : SeenU A u S tr T) (hk : Keeps u v) : SeenU A v S tr T := by
  obtain ⟨h1, h2, h3⟩ := h
  refine ⟨Nat.le_trans h1 hk.tail, fun ht => Nat.lt_of_lt_of_le (h2 ht) hk.trimmed, fun hs => ?_⟩
  rcases h3 hs with h4 | ⟨q, h4, h5⟩
  · exact .inl (Nat.lt_of_lt_of_le h4 hk.trimmed)
  · exact .inr ⟨q, hk.page _ _ h4, h5⟩
/-- Behind an act. -/
def MidR (D : DvP) (a : Nat → Addr) (w : World) (FX : Nat → Prop) (X : World → Prop) (dev n N : Nat) (u : UnitD) (x : ActU) (s6 s14 : Value) (wx : World) : Prop :=
  ∃ (g p bm : Nat) (v : UnitD) (r : Nat), s6 = .pointer (some ⟨g, 0, none⟩) ∧ IsErr a s14 r ∧ UL D w FX X g p bm dev n N v wx ∧ Keeps u v ∧ (lowA x u.epoch → r ≠ 0)
section
variable {D : DvP} {a : Nat → Addr} {w : World}
set_option maxRecDepth 100000 in
set_option maxHeartbeats 4000000 in
theorem unitOnce_law (hD : DvSpec (three a) D) (hE : Errs w a) (at' : Int) (v : Value) (ks : List ActU) (hk : ActsU w w.heap.size v ks) : Calls Tryz.prog 5 #[v, .int .i64 at'] w fun en w' => en = .returned (.bool true) ∧ Below w.heap.size w w' := by
  have CA := Lib.hid (ualive_any hD hE)
  obtain ⟨Av, cv, rfl, _, hcell⟩ := hk.form
  have HC := Lib.hid (fun i hi (W : World) (hb : Below w.heap.size w W) => show ∃ b o, Av = some ⟨b, o, none⟩ ∧ W.cell? ⟨b, o + i * 5, none⟩ = some (.int .i64 ks[i].kind) ∧ W.cell? ⟨b, o + i * 5 + 1, none⟩ = some (.int .i64 ks[i].epoch) ∧ W.cell? ⟨b, o + i * 5 + 2, none⟩ = some (.int .i64 ks[i].adr) ∧ W.cell? ⟨b, o + i * 5 + 3, none⟩ = some (.int .i64 ks[i].len) ∧ W.cell? ⟨b, o + i * 5 + 4, none⟩ = some (.int .u8 (ks[i].byte.toNat : Int)) from by
    obtain ⟨b, o, e, hlt, c0, c1, c2, c3, c4⟩ := hcell i hi
    have hc := below_cells hb
    exact ⟨b, o, e, (hc _ _ hlt).trans c0, (hc _ _ hlt).trans c1, (hc _ _ hlt).trans c2, (hc _ _ hlt).trans c3, (hc _ _ hlt).trans c4⟩)
  clear hk hcell
  by_cases h1 : 60 < ks.length
  · have q1 : decide ((60 : Int) < (ks.length : Int)) = true := decide_eq_true (by omega)
    clear h1
    go_enter Tryz.func5, Tryz.ntmps5
    go_wp2_with fail
    refine CA.out.mono ?_
    rintro en w1 ⟨rfl, hb⟩
    have HB := Lib.hid hb
    clear hb
    go_wp2_with fail
    go_ret
    exact ⟨rfl, HB.out⟩
  have q1 : decide ((60 : Int) < (ks.length : Int)) = false := decide_eq_false (by omega)
  obtain ⟨L, hL⟩ : ∃ L, ks.length = L := ⟨_, rfl⟩
  have hLe : L ≤ 60 := by omega
  rw [hL] at q1 ⊢
  have HL := Lib.hid hL
  clear h1 hL
  obtain ⟨A, hA14, hq1, hq1', hq1''⟩ := umod_of at' 14 (by omega) (by omega)
  have hA : A < 14 := by omega
  go_enter Tryz.func5, Tryz.ntmps5
  go_wp2_with fail
  refine CA.out.mono ?_
  rintro en w1 ⟨rfl, hb1⟩
  have CB := Lib.hid (ubegin_any hD hE w1 hb1 3)
  clear hb1 CA
  go_wp2_with fail
  refine CB.out.mono ?_
  rintro en w2 ⟨k, dev, g, p, bm, w3, hk1, hk2, rfl, rfl, hU⟩
  obtain ⟨n, hn⟩ : ∃ n, 64 * k = n := ⟨_, rfl⟩
  rw [hn] at hU
  have HNn := Lib.hid (show 64 ≤ n ∧ n ≤ 1000 by omega)
  have U0 := Lib.hid (hU.below hD stays_none (((Below.refl w3.heap.size w3).alloc (Nat.le_refl _) (.cells #[.int .i64 (k : Int), .slice none 0 0] 74)).alloc (by rw [World.size_alloc]; omega) (.cells #[.pointer (some ⟨w3.heap.size, 0, none⟩), .slice none 0 0, .slice none 0 0, .slice none 0 0, .int .i64 0, .int .i64 0, .int .i64 0] 71)))
  have HSe := Lib.hid (show SeenU A ⟨⟨k, []⟩, [], 0, 0, 0⟩ [] false 0 from ⟨Nat.zero_le _, fun h => (by cases h), fun h => absurd rfl h⟩)
  have U0 := Lib.hid (show UL D w (fun _ => False) (fun _ => True) g p bm dev n 0 ⟨⟨k, []⟩, [], 0, 0, 0⟩ (refNew w3 k) from U0.out)
  generalize refNew w3 k = w4 at *
  generalize (⟨⟨k, []⟩, [], 0, 0, 0⟩ : UnitD) = u0 at *
  have HD := Lib.hid hD
  have HE := Lib.hid hE
  clear hU hn hk1 hk2 CB hD hE
  have ht0 : (Value.string ⟨#[]⟩) = .string (text []) := rfl
  go_wp2_with fail
  go_loopw [38, 6, 8, 9, 10] (fun i s6 s8 s9 s10 wr => ∃ (k g p bm : Nat) (u : UnitD) (S : List UInt8) (tr : Bool) (T : Nat), i = .int .i64 (k : Int) ∧ s6 = .pointer (some ⟨g, 0, none⟩) ∧ s8 = .string (text S) ∧ s9 = .bool tr ∧ s10 = .int .i64 (T : Int) ∧ k ≤ L ∧ Hid (UL D w (fun _ => False) (fun _ => True) g p bm dev n k u wr) ∧ Hid (SeenU A u S tr T)) (fun i _ _ _ _ _ => L - (intOf i).toNat)
  case atStart => exact ⟨0, g, p, bm, u0, [], false, 0, rfl, rfl, rfl, rfl, rfl, Nat.zero_le _, U0, HSe⟩
  case round =>
    clear U0 HSe
    obtain ⟨k, g, p, bm, u, S, tr, T, rfl, rfl, rfl, rfl, rfl, hk, hU, hSe⟩ := hrel
    by_cases hlt : k < L
    rotate_left
    · have q2 : decide ((k : Int) < (L : Int)) = false := decide_eq_false (by omega)
      have HB := Lib.hid hU.out.since
      clear hU hSe
      go_wp2_with fail
      go_ret
      exact ⟨rfl, HB.out⟩
    have q2 : decide ((k : Int) < (L : Int)) = true := decide_eq_true (by omega)
    obtain ⟨b, o, rfl, c0, c1, c2, c3, c4⟩ := HC.out k (by rw [HL.out]; exact hlt) wr hU.out.since
    obtain ⟨x, hx⟩ : ∃ x : ActU, x = ks[k]'(by rw [HL.out]; exact hlt) := ⟨_, rfl⟩
    rw [← hx] at c0 c1 c2 c3 c4
    clear hx
    have HNk := Lib.hid (show k ≤ 1000 by omega)
    have U1 := Lib.hid (hU.out.box HD.out stays_none (.cells x.cells 30))
    have CE := Lib.hid U1.out.epoch
    clear hU
    go_wp2_with fail
    refine CE.out.mono ?_
    rintro en w5 ⟨rfl, rfl⟩
    have HXb := Lib.hid (stays_none.box wr.heap.size (.cells x.cells 30))
    generalize hw6 : wr.alloc (.cells x.cells 30) = w6 at *
    generalize hbb : wr.heap.size = bb at *
    clear hw6 hbb CE c0 c1 c2 c3 c4
    have hbx := U1.out.else'.2
    have d0 : w6.cell? ⟨bb, 0, none⟩ = some (.int .i64 x.kind) := by rw [cell_of_row _ _ 0 _ _ _ hbx]; rfl
    have d1 : w6.cell? ⟨bb, 1, none⟩ = some (.int .i64 x.epoch) := by rw [cell_of_row _ _ 1 _ _ _ hbx]; rfl
    have d2 : w6.cell? ⟨bb, 2, none⟩ = some (.int .i64 x.adr) := by rw [cell_of_row _ _ 2 _ _ _ hbx]; rfl
    have d3 : w6.cell? ⟨bb, 3, none⟩ = some (.int .i64 x.len) := by rw [cell_of_row _ _ 3 _ _ _ hbx]; rfl
    have d4 : w6.cell? ⟨bb, 4, none⟩ = some (.int .u8 (x.byte.toNat : Int)) := by rw [cell_of_row _ _ 4 _ _ _ hbx]; rfl
    clear hbx
    go_upto_block 2 with fail
    go_cut [6, 14] from 46 to 85 (fun s6 s14 wx => MidR D a w (fun k => False ∨ k = bb) (fun Y => True ∧ Y.heap[bb]? = some (.cells x.cells 30 (0, 0))) dev n (k + 1) u x s6 s14 wx)
    case first =>
      have HLow := Lib.hid (fun (h : lowA x u.epoch) => h.2.2.2)
      have HK := Lib.hid (fun (W : World) (h : True ∧ W.heap[bb]? = some (.cells x.cells 30 (0, 0))) => show W.cell? ⟨bb, 0, none⟩ = some (.int .i64 x.kind) ∧ W.cell? ⟨bb, 1, none⟩ = some (.int .i64 x.epoch) ∧ W.cell? ⟨bb, 2, none⟩ = some (.int .i64 x.adr) ∧ W.cell? ⟨bb, 3, none⟩ = some (.int .i64 x.len) ∧ W.cell? ⟨bb, 4, none⟩ = some (.int .u8 (x.byte.toNat : Int)) from
        ⟨by rw [cell_of_row _ _ 0 _ _ _ h.2]; rfl, by rw [cell_of_row _ _ 1 _ _ _ h.2]; rfl, by rw [cell_of_row _ _ 2 _ _ _ h.2]; rfl, by rw [cell_of_row _ _ 3 _ _ _ h.2]; rfl, by rw [cell_of_row _ _ 4 _ _ _ h.2]; rfl⟩)
      have HU1 := Lib.hid (fun (W : World) (hb : Below w6.heap.size w6 W) => U1.out.below HD.out HXb.out hb)
      by_cases hk0 : x.kind = 0
      · have CP := Lib.hid (fun W => page_any x W)
        have D6 := Lib.hid (HK.out w6.drew U1.out.else')
        have CW := Lib.hid (fun (W : World) (v : Value) (hU : UL D w (fun k => False ∨ k = bb) (fun Y => True ∧ Y.heap[bb]? = some (.cells x.cells 30 (0, 0))) g p bm dev n k u W) (hv : Bytes W W.heap.size v x.page) => hU.write HD.out HXb.out HE.out HNn.out.2 (by have := HNk.out; omega) x.epoch x.adr v x.page hv)
        have q3 : (x.kind == 0) = true := beq_iff_eq.2 hk0
        clear hk0 U1
        go_wp2_with fail
        go_region_held3 (fun W => W.cell? ⟨bb, 0, none⟩ = some (.int .i64 x.kind) ∧ W.cell? ⟨bb, 1, none⟩ = some (.int .i64 x.epoch) ∧ W.cell? ⟨bb, 2, none⟩ = some (.int .i64 x.adr) ∧ W.cell? ⟨bb, 3, none⟩ = some (.int .i64 x.len) ∧ W.cell? ⟨bb, 4, none⟩ = some (.int .u8 (x.byte.toNat : Int)))
          (first | exact D6.out | exact D7.out | assumption)
          (first
            | (go_at_call 14; (with_reducible refine (CP.out _).mono ?_); rintro en w7 ⟨vp, rfl, hvp, hb7⟩; have U7 := Lib.hid (HU1.out _ ((below_drawn w6 1).trans (hb7.mono (Nat.le_refl _)))); have D7 := Lib.hid (HK.out _ U7.out.else'); have V7 := Lib.hid (Bytes.of_own hvp); clear hvp hb7)
            | (go_at_call 13; (with_reducible refine (CW.out _ _ U7.out V7.out).mono ?_); rintro en w8 ⟨y, rfl, hy, hU8⟩; have D8 := Lib.hid (HK.out _ hU8.else'); have U8 := Lib.hid hU8; have Y8 := Lib.hid hy; clear hy hU8))
        all_goals
          clear d0 d1 d2 d3 d4 D6 D7 D8 CP CW HU1 HK U7 V7
          go_wp2_with fail
          go_meet
          exact ⟨g, p, bm, _, _, rfl, Y8.out, U8.out, keeps_write u _ _ _, fun h => low_write (HLow.out h)⟩
      by_cases hk2 : x.kind = 2
      · have CT := Lib.hid (U1.out.trim HD.out HXb.out HE.out HNn.out.2 (by have := HNk.out; omega) x.epoch x.adr)
        have q3 : (x.kind == 0) = false := beq_eq_false_iff_ne.2 hk0
        have q4 : (x.kind == 2) = true := beq_iff_eq.2 hk2
        clear hk0 hk2 U1
        go_wp2_with fail
        refine CT.out.mono ?_
        rintro en w8 ⟨y, rfl, hy, hU8⟩
        have U8 := Lib.hid hU8
        have Y8 := Lib.hid hy
        clear hU8 hy CT d0 d1 d2 d3 d4
        go_wp2_with fail
        go_meet
        exact ⟨g, p, bm, _, _, rfl, Y8.out, U8.out, keeps_trim u _ _, fun h => low_trim (HLow.out h)⟩
      by_cases hk3 : x.kind = 3
      · have CT := Lib.hid (U1.out.seal HD.out HXb.out HE.out HNn.out.2 (by have := HNk.out; omega) x.epoch)
        have q3 : (x.kind == 0) = false := beq_eq_false_iff_ne.2 hk0
        have q4 : (x.kind == 2) = false := beq_eq_false_iff_ne.2 hk2
        have q5 : (x.kind == 3) = true := beq_iff_eq.2 hk3
        clear hk0 hk2 hk3 U1
        go_wp2_with fail
        refine CT.out.mono ?_
        rintro en w8 ⟨y, rfl, hy, hU8⟩
        have U8 := Lib.hid hU8
        have Y8 := Lib.hid hy
        clear hU8 hy CT d0 d1 d2 d3 d4
        go_wp2_with fail
        go_meet
        exact ⟨g, p, bm, _, _, rfl, Y8.out, U8.out, keeps_seal u _, fun h => low_seal (HLow.out h)⟩
      · have CT := Lib.hid (U1.out.toDev.open HD.out HXb.out HE.out HNn.out.1 HNn.out.2 (by have := HNk.out; omega))
        have q3 : (x.kind == 0) = false := beq_eq_false_iff_ne.2 hk0
        have q4 : (x.kind == 2) = false := beq_eq_false_iff_ne.2 hk2
        have q5 : (x.kind == 3) = false := beq_eq_false_iff_ne.2 hk3
        have HNlow := Lib.hid (show ¬ lowA x u.epoch from fun h => by
          obtain ⟨h1, h2, h3, _⟩ := h
          omega)
        clear hk0 hk2 hk3 U1
        go_wp2_with fail
        refine CT.out.mono ?_
        rintro en w8 ⟨g2, p2, bm2, rfl, hU8⟩
        have U8 := Lib.hid hU8
        have CE8 := Lib.hid hU8.epoch
        clear hU8 CT d0 d1 d2 d3 d4
        go_wp2_with fail
        refine CE8.out.mono ?_
        rintro en w9 ⟨rfl, rfl⟩
        go_wp2_with fail
        go_meet
        exact ⟨g2, p2, bm2, u, 0, rfl, isErr_nil a, U8.out.mono (Nat.le_succ _), Keeps.refl u, fun h => absurd h HNlow.out⟩
    case rest =>
      clear U1 d0 d1 d2 d3 d4
      obtain ⟨g2, p2, bm2, v, r, rfl, hy, hU8, hkp, hlow⟩ := hcut
      have Y8 := Lib.hid hy
      have U8 := Lib.hid hU8
      have HKp := Lib.hid hkp
      have HLow := Lib.hid hlow
      have hbx := U8.out.else'.2
      have d0 : wc.cell? ⟨bb, 0, none⟩ = some (.int .i64 x.kind) := by rw [cell_of_row _ _ 0 _ _ _ hbx]; rfl
      have d1 : wc.cell? ⟨bb, 1, none⟩ = some (.int .i64 x.epoch) := by rw [cell_of_row _ _ 1 _ _ _ hbx]; rfl
      clear hy hU8 hkp hlow hbx
      go_upto_region 25 with fail
      go_cut [120] from 86 to 119 (fun s wx => s = .bool false ∧ UL D w (fun k => False ∨ k = bb) (fun Y => True ∧ Y.heap[bb]? = some (.cells x.cells 30 (0, 0))) g2 p2 bm2 dev n (k + 1) v wx)
      case first =>
        have CE := Lib.hid U8.out.epoch
        have CT := Lib.hid (U8.out.tail HD.out HXb.out (by have := HNk.out; omega))
        obtain ⟨Tv, hTv⟩ : ∃ Tv, max v.top v.trimmed = Tv := ⟨_, rfl⟩
        rw [hTv] at CT
        have qE : decide ((v.epoch : Int) < (u.epoch : Int)) = false := decide_eq_false (by have := HKp.out.epoch; omega)
        have qE' : decide (v.epoch < u.epoch) = false := decide_eq_false (by have := HKp.out.epoch; omega)
        have qT : decide ((Tv : Int) < (T : Int)) = false := decide_eq_false (by have := hSe.out.1; have := HKp.out.tail; omega)
        have qT' : decide (Tv < T) = false := decide_eq_false (by have := hSe.out.1; have := HKp.out.tail; omega)
        obtain ⟨kd, ep, ad, ln, bt⟩ := x
        by_cases hk1 : kd = 1
        · subst hk1
          clear hTv
          rcases Y8.out with ⟨hr, rfl⟩ | ⟨m, hm, hr, rfl⟩
          · clear hr
            go_wp2_with fail
            refine CE.out.mono ?_
            rintro en w9 ⟨rfl, rfl⟩
            go_wp2_with fail
            refine CT.out.mono ?_
            rintro en w9 ⟨rfl, hb9, hU9⟩
            have U9 := Lib.hid hU9
            clear hb9 hU9
            go_wp2_with fail
            go_meet
            exact ⟨rfl, U9.out⟩
          · clear hr hm
            go_wp2_with fail
            refine CE.out.mono ?_
            rintro en w9 ⟨rfl, rfl⟩
            go_wp2_with fail
            refine CT.out.mono ?_
            rintro en w9 ⟨rfl, hb9, hU9⟩
            have U9 := Lib.hid hU9
            clear hb9 hU9
            go_wp2_with fail
            go_meet
            exact ⟨rfl, U9.out⟩
        clear hTv
        rcases Y8.out with ⟨hr, rfl⟩ | ⟨m, hm, hr, rfl⟩
        · have HNl := Lib.hid (show ¬ lowA ⟨kd, ep, ad, ln, bt⟩ u.epoch from fun h => HLow.out h hr)
          clear hr
          go_wp2_with fail
          all_goals first
            | (exfalso; exact HNl.out ⟨by assumption, by assumption, by assumption, by assumption⟩)
            | (refine CE.out.mono ?_
               rintro en w9 ⟨rfl, rfl⟩
               go_wp2_with fail
               refine CT.out.mono ?_
               rintro en w9 ⟨rfl, hb9, hU9⟩
               have U9 := Lib.hid hU9
               clear hb9 hU9
               go_wp2_with fail
               go_meet
               exact ⟨rfl, U9.out⟩)
        · clear hr hm
          go_wp2_with fail
          all_goals
            refine CE.out.mono ?_
            rintro en w9 ⟨rfl, rfl⟩
            go_wp2_with fail
            refine CT.out.mono ?_
            rintro en w9 ⟨rfl, hb9, hU9⟩
            have U9 := Lib.hid hU9
            clear hb9 hU9
            go_wp2_with fail
            go_meet
            exact ⟨rfl, U9.out⟩
      case rest =>
        obtain ⟨rfl, hU⟩ := hcut
        obtain ⟨Tv, hTv⟩ : ∃ Tv, max v.top v.trimmed = Tv := ⟨_, rfl⟩
        have hSv := hSe.out.keeps HKp.out
        have CT := Lib.hid (hU.tail HD.out HXb.out (by have := HNk.out; omega))
        rw [hTv] at CT
        have HSv := Lib.hid hSv
        have HTv := Lib.hid hTv
        clear U8 d0 d1 hSv hTv hU HLow Y8 hSe HKp
        go_wp2_with fail
        refine CT.out.mono ?_
        rintro en w9 ⟨rfl, hb9, hU9⟩
        have CE := Lib.hid hU9.epoch
        have CR := Lib.hid (hU9.read HD.out HXb.out HE.out v.epoch A)
        have hsm := hU9.small (by have := HNk.out; omega)
        rw [read_own hsm.1 (by omega)] at CR
        have HSm := Lib.hid hsm.2.2.2
        clear hb9 hU9 hsm CT
        go_wp2_with fail
        refine CE.out.mono ?_
        rintro en w10 ⟨rfl, rfl⟩
        go_wp2_with fail
        refine CR.out.mono ?_
        rintro en w10 ⟨vb, y, rfl, hv, hy, hb10, hU10⟩
        clear CE CR
        by_cases hAt : A < v.trimmed
        · rw [if_pos hAt] at hv hy
          obtain ⟨Ab, cb, rfl, _, _, _⟩ := hv.form
          obtain ⟨ad, rfl⟩ := isErr_pos hy (by decide)
          have CN := Lib.hid (num_any a (errAt ad) 11 w10 (HE.out.below hU10.since) hy)
          have HAt := Lib.hid hAt
          have U10 := Lib.hid hU10
          clear hv hy hU10 hAt hb10
          go_wp2_with fail
          refine CN.out.mono ?_
          rintro en w11 ⟨rfl, hb11⟩
          have U11 := Lib.hid (((U10.out.below HD.out HXb.out hb11).less (FX' := fun _ => False) (X' := fun _ => True) (fun _ h => h.elim) (fun _ _ => trivial)))
          have HS2 := Lib.hid (show SeenU A v S true Tv from ⟨by rw [← HTv.out]; exact Nat.le_refl _, fun _ => HAt.out, HSv.out.2.2⟩)
          clear hb11 CN U10
          go_wp2_with fail
          go_roundw
          case rel => exact ⟨k + 1, g2, p2, bm2, v, S, true, Tv, by go_num, rfl, rfl, rfl, rfl, by omega, U11, HS2⟩
          case measure => simp [intOf]; omega
        rw [if_neg hAt] at hv hy
        have htr : tr = false := by
          cases htr : tr with
          | false => rfl
          | true => exact absurd (HSv.out.2.1 htr) hAt
        subst htr
        cases hfd : findD v (A : Int) with
        | none =>
          rw [hfd] at hv hy
          have hS0 : S = [] := by
            by_cases e : S = []
            · exact e
            · rcases HSv.out.2.2 e with h | ⟨q, h, _⟩
              · exact absurd h hAt
              · rw [hfd] at h; cases h
          subst hS0
          obtain ⟨Ab, cb, rfl, _, _, _⟩ := hv.form
          obtain ⟨ad, rfl⟩ := isErr_pos hy (by decide)
          have CN := Lib.hid (fun W (hb : Below w10.heap.size w10 W) => num_any a (errAt ad) 10 W (HE.out.below (hU10.since.trans (hb.mono hU10.since.size))) hy)
          have U10 := Lib.hid hU10
          have HS2 := Lib.hid (show SeenU A v [] false Tv from ⟨by rw [← HTv.out]; exact Nat.le_refl _, fun h => (by cases h), fun h => absurd rfl h⟩)
          have htl : (text ([] : List UInt8)).toList = [] := by decide +kernel
          clear hv hy hU10 hAt hb10 hfd
          go_wp2_with fail
          refine (CN.out _ (Below.refl _ _)).mono ?_
          rintro en w11 ⟨rfl, hb11⟩
          have HB11 := Lib.hid hb11
          clear hb11
          go_wp2_with fail
          refine (CN.out _ HB11.out).mono ?_
          rintro en w12 ⟨rfl, hb12⟩
          have U11 := Lib.hid (((U10.out.below HD.out HXb.out (HB11.out.trans (hb12.mono HB11.out.size))).less (FX' := fun _ => False) (X' := fun _ => True) (fun _ h => h.elim) (fun _ _ => trivial)))
          clear hb12 CN U10
          go_wp2_with fail
          go_roundw
          case rel => exact ⟨k + 1, g2, p2, bm2, v, [], false, Tv, by go_num, rfl, rfl, rfl, rfl, by omega, U11, HS2⟩
          case measure => simp [intOf]; omega
        | some r2 =>
          rw [hfd] at hv hy
          obtain rfl := isErr_zero hy rfl
          dsimp only at hv
          have hq := HSm.out _ _ hfd (by omega)
          have hSq : S = [] ∨ S = r2.bs := by
            by_cases e : S = []
            · exact .inl e
            · rcases HSv.out.2.2 e with h | ⟨q, h, h'⟩
              · exact absurd h hAt
              · rw [hfd] at h; injection h with h; subst h; exact .inr h'.symm
          have HS2 := Lib.hid (show SeenU A v r2.bs false Tv from ⟨by rw [← HTv.out]; exact Nat.le_refl _, fun h => (by cases h), fun _ => .inr ⟨r2, hfd, rfl⟩⟩)
          obtain ⟨l, hl⟩ : ∃ l, r2.bs = l := ⟨_, rfl⟩
          rw [hl] at hv hq hSq HS2
          obtain ⟨Ab, cb, rfl, _, _, _⟩ := hv.form
          have cv := conv_bytes hv
          have U11 := Lib.hid (hU10.less (FX' := fun _ => False) (X' := fun _ => True) (fun _ h => h.elim) (fun _ _ => trivial))
          have hln : ((l.length : Int) == 0) = false := by rw [beq_eq_false_iff_ne]; omega
          have hln2 : (l.length == 0) = false := by rw [beq_eq_false_iff_ne]; omega
          clear hy hU10 hAt hb10 hfd hq hv hl
          have HB10 := Lib.hid U11.out.since
          by_cases hS0 : S = []
          · subst hS0
            have htl : (text ([] : List UInt8)).toList = [] := by decide +kernel
            clear hSq
            go_wp2_with fail
            go_roundw
            case rel => exact ⟨k + 1, g2, p2, bm2, v, l, false, Tv, by go_num, rfl, rfl, rfl, rfl, by omega, U11, HS2⟩
            case measure => simp [intOf]; omega
          · obtain rfl : S = l := hSq.elim (fun h => absurd h hS0) id
            clear hSq
            go_wp2_with fail
            all_goals
              go_roundw
              case rel => exact ⟨k + 1, g2, p2, bm2, v, S, false, Tv, by go_num, rfl, rfl, rfl, rfl, by omega, U11, HS2⟩
              case measure => simp [intOf]; omega
end
end Go.Proofs.YtbhohlefgkcdmaaGreatDoor
