/- Package page's Bytes: an error and nothing, or bytes of the call's own that begin with 1. -/
import Derived.Test.YtcddgllckadodaaDoorGPgF
import Derived.Test.YtcddgllckadodaaDoorGKinB
import Derived.Test.YtcddgllckadodaaDoorGKinO
import Derived.Test.YtcddgllckadodaaDoorGPgJ
import Derived.Test.YtcddgllckadodaaDoorGErr
namespace Go.Proofs.YtcddgllckadodaaDoor
open Go.RowKit Tide Utf

theorem entB_twelve {w W : World} {e : EntD} {A Ad : Option Addr} {c cd : Nat} (hb : Below (w.heap.size + 1) (entB w e (.slice A e.ops.length c) (.slice Ad e.data.length cd)) W) :
    W.cell? ⟨w.heap.size, 0, none⟩ = some (.int .i64 e.kind) ∧ W.cell? ⟨w.heap.size, 1, none⟩ = some (.int .i64 e.shard) ∧ W.cell? ⟨w.heap.size, 2, none⟩ = some (.int .i64 e.other) ∧ W.cell? ⟨w.heap.size, 3, none⟩ = some (.int .i64 e.server) ∧ W.cell? ⟨w.heap.size, 4, none⟩ = some (.int .i64 e.client) ∧ W.cell? ⟨w.heap.size, 5, none⟩ = some (.int .i64 e.seq) ∧ W.cell? ⟨w.heap.size, 6, none⟩ = some (.slice A e.ops.length c) ∧ W.cell? ⟨w.heap.size, 7, none⟩ = some (.string e.key) ∧ W.cell? ⟨w.heap.size, 8, none⟩ = some (.int .i64 e.upto) ∧ W.cell? ⟨w.heap.size, 9, none⟩ = some (.int .i64 e.part) ∧ W.cell? ⟨w.heap.size, 10, none⟩ = some (.int .i64 e.parts) ∧ W.cell? ⟨w.heap.size, 11, none⟩ = some (.slice Ad e.data.length cd) := by
  have hc : ∀ j v, (entC e (.slice A e.ops.length c) (.slice Ad e.data.length cd))[j]? = some v → W.cell? ⟨w.heap.size, j, none⟩ = some v := fun j v hv => by
    rw [hb.cell (p := ⟨w.heap.size, j, none⟩) (Nat.lt_succ_self _), cell_of_row _ _ j _ _ _ (heap_alloc_new w _)]
    exact hv
  exact ⟨hc 0 _ rfl, hc 1 _ rfl, hc 2 _ rfl, hc 3 _ rfl, hc 4 _ rfl, hc 5 _ rfl, hc 6 _ rfl, hc 7 _ rfl, hc 8 _ rfl, hc 9 _ rfl, hc 10 _ rfl, hc 11 _ rfl⟩
theorem bytesK_le (K : ByteArray → Nat) (e : EntD) : (bytesK K e).1.length ≤ 1848 := by
  unfold bytesK
  split
  · split
    · simp
    · show (encE e).length ≤ 1848
      omega
  · simp
/-- What Bytes answers. -/
def PageR (a : Nat → Addr) (w : World) (en : Ending) (w' : World) : Prop :=
  ∃ u x L k, en = .returned (.tuple #[u, x]) ∧ w'.ownsRow w.heap.size 5 1 u L.length (u8s L) ∧ IsErr a x k ∧ ((k = 0 ∧ ∃ r, L = 1 :: r ∧ r.length ≤ 65535) ∨ ((∃ m, k = m + 1) ∧ L = [])) ∧ Below w.heap.size w w'
section
variable {a : Nat → Addr} {W w w' : World} {F : Nat → Prop} {p : Nat} {st : Option (List UInt8)}
theorem PW.nums (h : PW a W F p st w) (hE : Errs W a) (hA : Away a F) {v : Value} {zs : List Int} {B : Nat} (hv : Row w B v (int64s zs)) (hB : B ≤ W.heap.size) (hF : ∀ k, F k → B ≤ k) :
    Calls Tryd.prog 19 #[.pointer (some ⟨p, 0, none⟩), v] w (PWR a W F p (stNums st zs)) := by
  have hE' := h.errs hE hA
  have hs := h.size
  exact h.call fun F1 hO hF1 hK => (onums_any a w F1 p st 0 v zs B hO hv (Nat.le_trans hB hs) (fun k hk => (hF1 k hk).elim (hF k) (fun h => Nat.le_trans hB h)) hE').mono fun _ _ ⟨he, F2, hO2, hF2, hK2⟩ => ⟨he, F2, outS_n hO2, hF2, hK2⟩
theorem PW.row (h : PW a W F p st w) {B : Nat} {v : Value} {xs : List Value} (hv : Row W B v xs) (hB : B ≤ W.heap.size) (hF : ∀ k, F k → B ≤ k) : Row w B v xs :=
  Row.keep hv fun _ _ hb => h.cell (Nat.lt_of_lt_of_le hb hB) (fun hf => absurd (hF _ hf) (Nat.not_le.2 hb))
end

set_option maxRecDepth 100000 in
set_option maxHeartbeats 4000000 in
theorem pbytes_any (a : Nat → Addr) (T : World → Prop) (K : ByteArray → Nat) (e : EntD) (vo vd v : Value) (ds : List BackD) (B : Nat) (w : World) (hi : ListsOf w B e vo vd) (hv : Backs w B v ds) (hB : B ≤ w.heap.size) (hz : SizeE e) (hL : Lies2 a T K w) :
    Calls Tryd.prog 8 #[.agg (entC e vo vd), v] w (PageR a w) := by
  obtain ⟨A, c, rfl, _, _⟩ := ops_form hi.1
  obtain ⟨Ad, cd, rfl, _, _, _⟩ := hi.2.form
  obtain ⟨Av, cv, rfl, hlen, hcell⟩ := id hv.form
  have HC := Lib.hid hcell
  have HBW := Lib.hid hB
  have HB0 := Lib.hid (show Below w.heap.size w (entB w e (.slice A e.ops.length c) (.slice Ad e.data.length cd)) from (Below.refl _ _).alloc (Nat.le_refl _) _)
  have hs0 : (entB w e (.slice A e.ops.length c) (.slice Ad e.data.length cd)).heap.size = w.heap.size + 1 := by simp
  have UP := Lib.hid (show ∀ W, Below (w.heap.size + 1) (entB w e (.slice A e.ops.length c) (.slice Ad e.data.length cd)) W → Below w.heap.size w W from fun W h => HB0.out.trans (h.mono (by omega)))
  have US := Lib.hid (show ∀ W, Below (w.heap.size + 1) (entB w e (.slice A e.ops.length c) (.slice Ad e.data.length cd)) W → w.heap.size + 1 ≤ W.heap.size from fun W h => by have := h.size; omega)
  have D0 := Lib.hid (Below.refl (w.heap.size + 1) (entB w e (.slice A e.ops.length c) (.slice Ad e.data.length cd)))
  have KX := Lib.hid (fun W (h : Below (w.heap.size + 1) (entB w e (.slice A e.ops.length c) (.slice Ad e.data.length cd)) W) => entB_twelve h)
  have CB := Lib.hid (bytes_any a T K e _ _ B (entB w e (.slice A e.ops.length c) (.slice Ad e.data.length cd)) (hi.below (HB0.out.mono hB)) (Nat.le_trans hB HB0.out.size) hz (hL.below HB0.out))
  have CS := Lib.hid (fun W (h : Below (w.heap.size + 1) (entB w e (.slice A e.ops.length c) (.slice Ad e.data.length cd)) W) => streams_any a T K e _ _ B W (hi.below ((UP.out W h).mono hB)) (Nat.le_trans hB (UP.out W h).size) hz (hL.below (UP.out W h)))
  have CR := Lib.hid (fun W (h : Below (w.heap.size + 1) (entB w e (.slice A e.ops.length c) (.slice Ad e.data.length cd)) W) ss u (hu : Row W W.heap.size u (int64s ss)) => pright_any ds ss _ u B W.heap.size W (hv.below ((UP.out W h).mono hB)) hu (Nat.le_trans hB (UP.out W h).size) (Nat.le_refl _))
  have HE := Lib.hid hL.errs
  have HLE := Lib.hid (bytesK_le K e)
  obtain ⟨rr, hrr⟩ : ∃ rr, bytesK K e = rr := ⟨_, rfl⟩
  obtain ⟨ss, hss⟩ : ∃ ss, (if entRK K e then strZ e else []) = ss := ⟨_, rfl⟩
  rw [hrr] at CB HLE
  rw [hss] at CS
  clear hi hv hcell hB hz hL hrr hss
  unfold entB entC at *
  go_enter Tryd.func8, Tryd.ntmps8
  go_wp2_with fail
  refine CB.out.mono ?_
  rintro en w1 ⟨u1, x1, rfl, hu1, hx1, hb⟩
  obtain ⟨L1, k1⟩ := rr
  simp only at hu1 hx1 HLE
  clear hs0
  have D1 := Lib.hid (D0.out.trans (hb.mono (by simp)))
  have hs1 := US.out _ D1.out
  obtain ⟨A1, c1, rfl, _, _, _⟩ := hu1.form
  have HU1 := Lib.hid hu1
  rcases id hx1 with ⟨hk0, rfl⟩ | ⟨m, hm, hk1, rfl⟩
  rotate_left
  · have HX := Lib.hid hx1
    subst hk1
    clear hx1 hu1 hb
    go_wp2_with fail
    go_ret2
    exact ⟨_, _, [], m + 1, rfl, own_nil _ _, HX.out, .inr ⟨⟨m, rfl⟩, rfl⟩, UP.out _ D1.out⟩
  · obtain ⟨a0, a1, a2, a3, a4, a5, a6, a7, a8, a9, a10, a11⟩ := KX.out _ D1.out
    clear hx1 hu1 hb hk0
    go_wp2_with fail
    refine (CS.out _ D1.out).mono ?_
    rintro en w2 ⟨u2, rfl, hu2, hb⟩
    have D2 := Lib.hid (D1.out.trans (hb.mono hs1))
    have HS12 := Lib.hid hb
    obtain ⟨A2, c2, rfl⟩ := ints64_row hu2
    have HU2 := Lib.hid hu2
    clear hb hu2 a0 a1 a2 a3 a4 a5 a6 a7 a8 a9 a10 a11
    go_wp2_with fail
    refine (CR.out _ D2.out _ _ HU2.out).mono ?_
    rintro en w3 ⟨rfl, hb⟩
    have D3 := Lib.hid (D2.out.trans (hb.mono (US.out _ D2.out)))
    have HB13 := Lib.hid (HS12.out.trans (hb.mono HS12.out.size))
    have HE3 := Lib.hid (HE.out.below (UP.out _ D3.out))
    clear hb
    cases rightBs ds ss with
    | false =>
      have hg := HE3.out.var 3 (by omega)
      simp only [evars, List.getD_cons_zero, List.getD_cons_succ] at hg
      have HB3 := Lib.hid (UP.out _ D3.out)
      go_wp2_with fail
      go_quiet (fail)
      go_wp2_with fail
      go_ret2
      exact ⟨_, _, [], 4, rfl, own_nil _ _, isErr_at a 3 (by omega), .inr ⟨⟨3, rfl⟩, rfl⟩, below_drawn3 HB3.out _⟩
    | true =>
      obtain ⟨w4, hw4⟩ : ∃ w4, w4 = w3.alloc (.cells #[.slice none 0 0, .nilIface] 55) := ⟨_, rfl⟩
      have HO4 := Lib.hid (show OutS a w4 (fun k => k = w3.heap.size) w3.heap.size (some []) 0 from by rw [hw4]; exact outS_new a w3 HE3.out)
      have HB34 := Lib.hid (show Below w3.heap.size w3 w4 from by rw [hw4]; exact (Below.refl _ _).alloc (Nat.le_refl _) _)
      have HE4 := Lib.hid (HE3.out.below HB34.out)
      have S4 := Lib.hid (PW.start HO4.out)
      have HW4 := Lib.hid hw4
      have HB4 := Lib.hid ((UP.out _ D3.out).trans (HB34.out.mono (UP.out _ D3.out).size))
      have hs3 := (UP.out _ D3.out).size
      have CN1 := Lib.hid (S4.out.num HE4.out HO4.out.2.2.1 1)
      clear hw4
      go_wp2_with fail
      rw [← HW4.out]
      refine CN1.out.mono ?_
      rintro en w5 ⟨rfl, hp⟩
      have S5 := Lib.hid hp
      have CN2 := Lib.hid (S5.out.num HE4.out HO4.out.2.2.1 (ds.length : Nat))
      clear hp CN1
      go_wp2_with fail
      refine CN2.out.mono ?_
      rintro en w6 ⟨rfl, hp⟩
      have S6 := Lib.hid hp
      have H6 := Lib.hid (head_num (head_num (show Head1 (stNum (some []) 1) from head_one) (ds.length : Nat)) 0)
      have H6b := Lib.hid (head_num head_one (ds.length : Nat))
      clear hp CN2 H6
      go_wp2_with fail
      go_loopw [31] (fun i wr => ∃ (k : Nat) (st : Option (List UInt8)), i = .int .i64 k ∧ k ≤ ds.length ∧ Hid (PW a w4 (fun k => k = w3.heap.size) w3.heap.size st wr) ∧ Hid (Head1 st)) (fun i _ => ds.length - (intOf i).toNat)
      case atStart => exact ⟨0, _, rfl, Nat.zero_le _, S6, H6b⟩
      case round =>
        obtain ⟨k, st, rfl, hk, hS, hH⟩ := hrel
        have LOW := Lib.hid (show ∀ b o, b < w.heap.size → wr.cell? ⟨b, o, none⟩ = w.cell? ⟨b, o, none⟩ from fun b o hb => (hS.out.cell (b := b) (o := o) (by have := HB34.out.size; omega) (fun h => by have h9 : b = w3.heap.size := h; omega)).trans (HB4.out.cell (p := ⟨b, o, none⟩) hb))
        by_cases hlt : k < ds.length
        · obtain ⟨bb, o, uu, rfl, hbl, h0, h1, hr⟩ := HC.out k hlt
          obtain ⟨Au, cu, rfl⟩ := ints64_row hr
          have f0 := (LOW.out bb (o + k * 2) (Nat.lt_of_lt_of_le hbl HBW.out)).trans h0
          have f1 := (LOW.out bb (o + k * 2 + 1) (Nat.lt_of_lt_of_le hbl HBW.out)).trans h1
          have SA := Lib.hid (hS.out.alloc (.cells #[.int .i64 ds[k].stream, .slice Au ds[k].list.length cu] 43))
          have hr2 : Row (wr.alloc (.cells #[.int .i64 ds[k].stream, .slice Au ds[k].list.length cu] 43)) B (.slice Au ds[k].list.length cu) (int64s ds[k].list) := Row.keep (Row.keep hr (fun b o hb => LOW.out b o (Nat.lt_of_lt_of_le hb HBW.out))) (fun b o hb => World.cell?_alloc_past _ _ _ (by show b < wr.heap.size; have := hS.out.size; have := HB34.out.size; have := HBW.out; omega))
          have CX := Lib.hid (SA.out.nums HE4.out HO4.out.2.2.1 hr2 (by have := HB34.out.size; have := HBW.out; omega) (fun k hk => by have h9 : k = w3.heap.size := hk; have := HBW.out; omega))
          have H7 := Lib.hid (head_nums hH.out ds[k].list)
          clear h0 h1 hr hr2
          generalize ds[k] = d at *
          obtain ⟨dst, zs⟩ := d
          simp only at *
          go_wp2_with fail
          refine CX.out.mono ?_
          rintro en w7 ⟨rfl, hp⟩
          have S7 := Lib.hid hp
          clear hp
          go_wp2_with fail
          go_roundw
          case rel => exact ⟨k + 1, _, by go_num, by omega, S7, H7⟩
          case measure => simp [intOf]; omega
        · have hr4 := HU1.out.below HB13.out
          have hr5 : Bytes wr w1.heap.size (.slice A1 L1.length c1) L1 := hS.out.row (Row.keep hr4 (below_cells (HB34.out.mono HB13.out.size))) (by have := HB34.out.size; have := HB13.out.size; omega) (fun k hk => by have h9 : k = w3.heap.size := hk; have := HB13.out.size; omega)
          have cvt := conv_bytes hr5
          have CT := Lib.hid (hS.out.text HE4.out HO4.out.2.2.1 (text L1) (by rw [text_size]; have := HLE.out; omega))
          have HT := Lib.hid (head_text hH.out (text L1))
          clear hr4 hr5
          go_wp2_with fail
          refine CT.out.mono ?_
          rintro en w7 ⟨rfl, hp⟩
          have hb7 : Below w.heap.size w w7 := by
            obtain ⟨F1, hO, hF1, hK⟩ := hp
            exact HB4.out.trans (hK.below HB4.out.size (fun k hk => by have h9 : k = w3.heap.size := hk; omega))
          have CD := Lib.hid (show Calls Tryd.prog 21 #[.pointer (some ⟨w3.heap.size, 0, none⟩)] w7 (fun en w' => ∃ u x, en = .returned (.tuple #[u, x]) ∧ w'.ownsRow w.heap.size 5 1 u (doneOf (stText st (text L1))).1.length (u8s (doneOf (stText st (text L1))).1) ∧ IsErr a x (doneOf (stText st (text L1))).2 ∧ Below w.heap.size w w') from by
            obtain ⟨F1, hO, hF1, hK⟩ := hp
            refine (odone_own a w7 F1 w3.heap.size _ 0 hO).mono fun en w' ⟨u, x, he, ho, hx, hk⟩ => ⟨u, x, he, own_later ho hb7.size, hx, hb7.trans (hk.below hb7.size fun k hk => ?_)⟩
            rcases hF1 k hk with h | h
            · have h9 : k = w3.heap.size := h
              omega
            · have := HB34.out.size; omega)
          have HD := Lib.hid (head_done HT.out)
          generalize doneOf (stText st (text L1)) = dd at *
          obtain ⟨L9, k9⟩ := dd
          simp only at CD HD
          clear hp hb7 cvt
          go_wp2_with fail
          refine CD.out.mono ?_
          rintro en w8 ⟨u8, x8, rfl, ho, hx, hb⟩
          have HFIN := Lib.hid (show PageR a w (.returned (.tuple #[u8, x8])) w8 from ⟨u8, x8, L9, k9, rfl, ho, hx, by
            rcases HD.out with ⟨r, h, hr⟩ | ⟨m, h⟩
            · exact .inl ⟨(Prod.mk.inj h).2, r, (Prod.mk.inj h).1, hr⟩
            · exact .inr ⟨⟨m, (Prod.mk.inj h).2⟩, (Prod.mk.inj h).1⟩, hb⟩)
          obtain ⟨A8, c8, rfl⟩ := pown_form ho
          have hx8 : x8 = .nilIface ∨ ∃ b, x8 = errAt b := by
            rcases hx with ⟨_, h⟩ | ⟨m, _, _, h⟩
            · exact .inl h
            · exact .inr ⟨_, h⟩
          clear ho hx hb
          rcases hx8 with rfl | ⟨b8, rfl⟩
          · go_wp2_with fail
            go_ret2
            exact HFIN.out
          · go_wp2_with fail
            go_ret2
            exact HFIN.out
end Go.Proofs.YtcddgllckadodaaDoor

/- The law's own helpers: which arguments are more than is asked; the chapter's example. -/
namespace Go.Proofs.YtcddgllckadodaaDoor
open Go.RowKit Tide Utf

/-- What long answers: where it isn't so, the entry is small. -/
def LongR (e : EntD) (w : World) (en : Ending) (w' : World) : Prop := (en = .returned (.bool true) ∨ (en = .returned (.bool false) ∧ longE e = false)) ∧ Below w.heap.size w w'
set_option maxRecDepth 100000 in
set_option maxHeartbeats 4000000 in
theorem plong_any (e : EntD) (vo vd v : Value) (ds : List BackD) (B : Nat) (w : World) (hi : ListsOf w B e vo vd) (hv : Backs w B v ds) (hB : B ≤ w.heap.size) :
    Calls Tryd.prog 5 #[.agg (entC e vo vd), v] w (LongR e w) := by
  obtain ⟨A, c, rfl, hn, hcell⟩ := ops_form hi.1
  obtain ⟨Ad, cd, rfl, _, _, _⟩ := hi.2.form
  obtain ⟨Av, cv, rfl, hlen, hcell2⟩ := hv.form
  have HC := Lib.hid hcell
  have HC2 := Lib.hid hcell2
  have HE := Lib.hid (show longE e = ((decide ((20 : Int) < (e.ops.length : Int)) || (decide ((300 : Int) < (e.key.size : Int)) || decide ((600 : Int) < (e.data.length : Int)))) || e.ops.any longO) from rfl)
  have B0 := Lib.hid (show Below w.heap.size w (entB w e (.slice A e.ops.length c) (.slice Ad e.data.length cd)) from (Below.refl _ _).alloc (Nat.le_refl _) _)
  clear hi hv hcell hcell2
  unfold entB entC at *
  cases h0 : decide ((20 : Int) < (e.ops.length : Int)) with
  | true =>
    go_enter Tryd.func5, Tryd.ntmps5
    go_wp2_with fail
    go_ret
    exact ⟨.inl rfl, B0.out⟩
  | false =>
    cases h1 : decide ((300 : Int) < (e.key.size : Int)) with
    | true =>
      go_enter Tryd.func5, Tryd.ntmps5
      go_wp2_with fail
      go_ret
      exact ⟨.inl rfl, B0.out⟩
    | false =>
      cases h2 : decide ((600 : Int) < (e.data.length : Int)) with
      | true =>
        go_enter Tryd.func5, Tryd.ntmps5
        go_wp2_with fail
        go_ret
        exact ⟨.inl rfl, B0.out⟩
      | false =>
        have HR := Lib.hid (show longE e = e.ops.any longO by rw [HE.out, h0, h1, h2]; rfl)
        clear HE
        cases h3 : decide ((10 : Int) < (ds.length : Int)) with
        | true =>
          go_enter Tryd.func5, Tryd.ntmps5
          go_wp2_with fail
          go_ret
          exact ⟨.inl rfl, B0.out⟩
        | false =>
          go_enter Tryd.func5, Tryd.ntmps5
          go_wp2_with fail
          go_loopw [33] (fun i wr => ∃ k : Nat, i = .int .i64 k ∧ k ≤ e.ops.length ∧ Hid (e.ops.any longO = (e.ops.drop k).any longO) ∧ Below w.heap.size w wr) (fun i _ => e.ops.length - (intOf i).toNat)
          case atStart => exact ⟨0, rfl, Nat.zero_le _, Lib.hid (by simp), B0.out⟩
          case round =>
            obtain ⟨k, rfl, hk, hall, hb⟩ := hrel
            have HBr := Lib.hid hb
            clear hb
            by_cases hlt : k < e.ops.length
            · obtain ⟨b, o, rfl, hbl, d0, d1, d2, d3, d4⟩ := HC.out k hlt
              have hbw : b < w.heap.size := Nat.lt_of_lt_of_le hbl hB
              have f0 := (HBr.out.cell (p := ⟨b, o + k * 5, none⟩) hbw).trans d0
              have f1 := (HBr.out.cell (p := ⟨b, o + k * 5 + 1, none⟩) hbw).trans d1
              have f2 := (HBr.out.cell (p := ⟨b, o + k * 5 + 2, none⟩) hbw).trans d2
              have f3 := (HBr.out.cell (p := ⟨b, o + k * 5 + 3, none⟩) hbw).trans d3
              have f4 := (HBr.out.cell (p := ⟨b, o + k * 5 + 4, none⟩) hbw).trans d4
              have HOA := Lib.hid (show (e.ops.drop k).any longO = (longO e.ops[k] || (e.ops.drop (k + 1)).any longO) by rw [List.drop_eq_getElem_cons hlt, List.any_cons])
              have hr2 := HBr.out.size
              clear d0 d1 d2 d3 d4
              generalize e.ops[k] = op at *
              have HOP := Lib.hid (show longO op = (decide ((300 : Int) < (op.key.size : Int)) || (decide ((300 : Int) < (op.value.size : Int)) || decide ((300 : Int) < (op.old.size : Int)))) from rfl)
              have HB3 := Lib.hid (HBr.out.alloc hr2 (.cells #[.int .i64 op.kind, .string op.key, .string op.value, .string op.old, .int .i64 op.version] 40))
              cases r0 : decide ((300 : Int) < (op.key.size : Int)) with
              | true =>
                go_wp2_with fail
                go_ret
                exact ⟨.inl rfl, HB3.out⟩
              | false =>
                cases r1 : decide ((300 : Int) < (op.value.size : Int)) with
                | true =>
                  go_wp2_with fail
                  go_ret
                  exact ⟨.inl rfl, HB3.out⟩
                | false =>
                  cases r2 : decide ((300 : Int) < (op.old.size : Int)) with
                  | true =>
                    go_wp2_with fail
                    go_ret
                    exact ⟨.inl rfl, HB3.out⟩
                  | false =>
                    have HA2 := Lib.hid (show e.ops.any longO = (e.ops.drop (k + 1)).any longO by rw [hall.out, HOA.out, HOP.out, r0, r1, r2]; rfl)
                    go_wp2_with fail
                    go_roundw
                    case rel =>
                      first
                      | exact ⟨k + 1, by go_num, by omega, HA2, HB3.out⟩
                      | ((repeat apply Exists.intro); exact ⟨⟨k + 1, by go_num, by omega, HA2, HB3.out⟩, rfl⟩)
                    case measure => simp [intOf]; omega
            · have HR2 := Lib.hid (show longE e = false by rw [HR.out, hall.out, List.drop_eq_nil_of_le (by omega)]; rfl)
              clear HC HR hall
              go_wp2_with fail
              go_loopw [56] (fun i wr => ∃ k : Nat, i = .int .i64 k ∧ k ≤ ds.length ∧ Below w.heap.size w wr) (fun i _ => ds.length - (intOf i).toNat)
              case atStart => exact ⟨0, rfl, Nat.zero_le _, HBr.out⟩
              case round =>
                obtain ⟨k2, rfl, hk2, hb⟩ := hrel
                have HBs := Lib.hid hb
                clear hb
                by_cases hlt2 : k2 < ds.length
                · obtain ⟨b, o, uu, rfl, hbl, d0, d1, hr⟩ := HC2.out k2 hlt2
                  obtain ⟨Au, cu, rfl⟩ := ints64_row hr
                  have hbw : b < w.heap.size := Nat.lt_of_lt_of_le hbl hB
                  have f0 := (HBs.out.cell (p := ⟨b, o + k2 * 2, none⟩) hbw).trans d0
                  have f1 := (HBs.out.cell (p := ⟨b, o + k2 * 2 + 1, none⟩) hbw).trans d1
                  have hr2 := HBs.out.size
                  clear d0 d1 hr
                  generalize ds[k2] = dd at *
                  obtain ⟨dst, zs⟩ := dd
                  simp only at *
                  have HB3 := Lib.hid (HBs.out.alloc hr2 (.cells #[.int .i64 dst, .slice Au zs.length cu] 43))
                  cases r0 : decide ((20 : Int) < (zs.length : Int)) with
                  | true =>
                    go_wp2_with fail
                    go_ret
                    exact ⟨.inl rfl, HB3.out⟩
                  | false =>
                    go_wp2_with fail
                    go_roundw
                    case rel =>
                      first
                      | exact ⟨k2 + 1, by go_num, by omega, HB3.out⟩
                      | ((repeat apply Exists.intro); exact ⟨⟨k2 + 1, by go_num, by omega, HB3.out⟩, rfl⟩)
                    case measure => simp [intOf]; omega
                · go_wp2_with fail
                  go_ret
                  exact ⟨.inr ⟨rfl, HR2.out⟩, HBs.out⟩
end Go.Proofs.YtcddgllckadodaaDoor

/- The law: junk is no page, and a page's first byte alone doesn't make one, walked over whatever runes.Key answers. -/
namespace Go.Proofs.YtcddgllckadodaaDoor
open Go.RowKit Tide Utf

theorem first_set {W : World} {base : Nat} {r : List UInt8} {u : Value} (h : W.ownsRow base 5 1 u (1 :: r : List UInt8).length (u8s (1 :: r))) :
    ∃ g cap, u = .slice (some ⟨g, 0, none⟩) (r.length + 1) cap ∧ base ≤ g ∧ g < W.heap.size ∧ W.cell? ⟨g, 0, none⟩ = some (.int .u8 1) ∧ W.frozen? ⟨g, 0, none⟩ = false ∧
      Bytes (W.setCell ⟨g, 0, none⟩ (.int .u8 2)) W.heap.size (.slice (some ⟨g, 0, none⟩) (r.length + 1) cap) (2 :: r) := by
  have hlt := h.lt
  have h' := h
  rcases h.2 with ⟨_, h0⟩ | ⟨g, cap, cur, rfl, hb, hg, h1, h2, h3⟩
  · simp at h0
  · have hg2 := hlt g rfl
    have c0 : W.cell? ⟨g, 0, none⟩ = some (.int .u8 1) := h'.cellAt 0 (by simp)
    unfold maxLen at h2
    refine ⟨g, cap, rfl, hg2.1, hg2.2, c0, by simp [World.frozen?, hg], by simp [u8s]; simp at h1; omega, some ⟨g, 0, none⟩, cap, by simp [u8s], by simp [u8s]; simpa using h1, h2, fun _ => ⟨g, 0, rfl, hg2.2, fun j v hv => ?_⟩⟩
    rw [Nat.zero_add]
    rcases j with _ | j
    · rw [World.cell?_setCell_same _ _ _ c0]
      have e : (u8s (2 :: r))[0]? = some (.int .u8 2) := rfl
      rw [← hv, e]
    · rw [World.cell?_setCell_other _ _ _ _ (by intro e; simp at e)]
      have hj : j < r.length := by
        have := (List.getElem?_eq_some_iff.1 hv).1
        simp [u8s] at this
        exact this
      rw [h'.cellAt (j + 1) (by simp; omega)]
      rw [← hv]
      rfl
theorem bad_junk : badN [0] 1 := by
  unfold badN
  rw [if_neg (by simp), two_zero]
theorem bad_two (r : List UInt8) : ∃ k, badN (2 :: r) k := by
  by_cases h : 2048 < (2 :: r : List UInt8).length
  · exact ⟨2, by unfold badN; rw [if_pos h]⟩
  · exact ⟨0, by unfold badN; rw [if_neg h, two_two]⟩

set_option maxRecDepth 100000 in
set_option maxHeartbeats 2000000 in
theorem jalive_any (a : Nat → Addr) (w : World) (hE : Errs w a) : Calls Tryd.prog 4 #[] w fun e w' => e = .returned (.bool true) ∧ Below w.heap.size w w' := by
  have HE := Lib.hid hE
  have CJ := Lib.hid (junk_any w)
  clear hE
  go_enter Tryd.func4, Tryd.ntmps4
  go_wp2_with fail
  refine CJ.out.mono ?_
  rintro en w1 ⟨⟨u, rfl, hu⟩, hb⟩
  have HB1 := Lib.hid hb
  have CR := Lib.hid (read_bad a u w1.heap.size [0] 1 w1 hu (Nat.le_refl _) (by simp) bad_junk (HE.out.below hb))
  clear hu hb CJ
  go_wp2_with fail
  refine CR.out.mono ?_
  rintro en w2 ⟨⟨y, rfl, hy⟩, hb⟩
  have HB2 := Lib.hid (HB1.out.trans (hb.mono HB1.out.size))
  have HY := Lib.hid hy
  obtain ⟨b, rfl⟩ : ∃ b, y = errAt b := by
    rcases hy with ⟨h, _⟩ | ⟨m, _, _, h⟩
    · cases h
    · exact ⟨_, h⟩
  have HB3 := Lib.hid (show Below w.heap.size w (w2.alloc (.cells #[.int .i64 0, .int .i64 0, .int .i64 0, .int .i64 0, .int .i64 0, .int .i64 0, .slice none 0 0, .string ⟨#[]⟩, .int .i64 0, .int .i64 0, .int .i64 0, .slice none 0 0] 25)) from HB2.out.alloc HB2.out.size _)
  have CJ := Lib.hid (junk_any (w2.alloc (.cells #[.int .i64 0, .int .i64 0, .int .i64 0, .int .i64 0, .int .i64 0, .int .i64 0, .slice none 0 0, .string ⟨#[]⟩, .int .i64 0, .int .i64 0, .int .i64 0, .slice none 0 0] 25)))
  clear hb hy CR
  go_wp2_with fail
  refine CJ.out.mono ?_
  rintro en w4 ⟨⟨u4, rfl, hu⟩, hb⟩
  have HB4 := Lib.hid (HB3.out.trans (hb.mono HB3.out.size))
  have CI := isJunk_any [0] u4 w4.heap.size w4 hu (Nat.le_refl _)
  rw [decide_eq_true rfl] at CI
  have HCI := Lib.hid CI
  clear hu hb CJ CI
  go_wp2_with fail
  refine HCI.out.mono ?_
  rintro en w5 ⟨rfl, hb⟩
  have HB5 := Lib.hid (HB4.out.trans (hb.mono HB4.out.size))
  have CN := Lib.hid (num_any a (errAt b) 2 w5 (HE.out.below HB5.out) HY.out)
  clear hb HCI
  go_wp2_with fail
  refine CN.out.mono ?_
  rintro en w6 ⟨rfl, hb⟩
  have HB6 := Lib.hid (HB5.out.trans (hb.mono HB5.out.size))
  clear hb CN
  go_wp2_with fail
  go_ret
  exact ⟨rfl, HB6.out⟩
end Go.Proofs.YtcddgllckadodaaDoor

/- The law of junk, walked over whatever runes.Key answers. -/
namespace Go.Proofs.YtcddgllckadodaaDoor
open Go.RowKit Tide Utf

set_option maxRecDepth 100000 in
set_option maxHeartbeats 4000000 in
theorem pageJunk_law (a : Nat → Addr) (T : World → Prop) (K : ByteArray → Nat) (l : List UInt8) (vb : Value) (e : EntD) (vo vd v : Value) (ds : List BackD) (w : World)
    (hb : Bytes w w.heap.size vb l) (hi : ListsOf w w.heap.size e vo vd) (hv : Backs w w.heap.size v ds) (hL : Lies2 a T K w) :
    Calls Tryd.prog 3 #[vb, .agg (entC e vo vd), v] w fun en w' => en = .returned (.bool true) ∧ Below w.heap.size w w' := by
  obtain ⟨A, c, rfl, _, _⟩ := ops_form hi.1
  obtain ⟨Ad, cd, rfl, _, _, _⟩ := hi.2.form
  obtain ⟨Ab, cb, rfl, _, _, _⟩ := hb.form
  obtain ⟨Av, cv, rfl, _, _⟩ := hv.form
  have HB0 := Lib.hid (show Below w.heap.size w (entB w e (.slice A e.ops.length c) (.slice Ad e.data.length cd)) from (Below.refl _ _).alloc (Nat.le_refl _) _)
  have UP := Lib.hid (show ∀ W, Below (w.heap.size + 1) (entB w e (.slice A e.ops.length c) (.slice Ad e.data.length cd)) W → Below w.heap.size w W from fun W h => HB0.out.trans (h.mono (by omega)))
  have US := Lib.hid (show ∀ W, Below (w.heap.size + 1) (entB w e (.slice A e.ops.length c) (.slice Ad e.data.length cd)) W → w.heap.size + 1 ≤ W.heap.size from fun W h => by have := h.size; simp at this; exact this)
  have D0 := Lib.hid (Below.refl (w.heap.size + 1) (entB w e (.slice A e.ops.length c) (.slice Ad e.data.length cd)))
  have KX := Lib.hid (fun W (h : Below (w.heap.size + 1) (entB w e (.slice A e.ops.length c) (.slice Ad e.data.length cd)) W) => entB_twelve h)
  have HE := Lib.hid (fun W (h : Below (w.heap.size + 1) (entB w e (.slice A e.ops.length c) (.slice Ad e.data.length cd)) W) => hL.errs.below (UP.out W h))
  have CA := Lib.hid (fun W (h : Below (w.heap.size + 1) (entB w e (.slice A e.ops.length c) (.slice Ad e.data.length cd)) W) => jalive_any a W (HE.out W h))
  have CL := Lib.hid (fun W (h : Below (w.heap.size + 1) (entB w e (.slice A e.ops.length c) (.slice Ad e.data.length cd)) W) => plong_any e _ _ _ ds w.heap.size W (hi.below (UP.out W h)) (hv.below (UP.out W h)) (UP.out W h).size)
  have CI := Lib.hid (fun W (h : Below (w.heap.size + 1) (entB w e (.slice A e.ops.length c) (.slice Ad e.data.length cd)) W) => isJunk_any l _ w.heap.size W (hb.below (UP.out W h)) (UP.out W h).size)
  have CR := Lib.hid (fun W (h : Below (w.heap.size + 1) (entB w e (.slice A e.ops.length c) (.slice Ad e.data.length cd)) W) (hj : l = [0]) => read_bad a _ w.heap.size l 1 W (hb.below (UP.out W h)) (UP.out W h).size (by rw [hj]; simp) (by rw [hj]; exact bad_junk) (HE.out W h))
  have CP := Lib.hid (fun W (h : Below (w.heap.size + 1) (entB w e (.slice A e.ops.length c) (.slice Ad e.data.length cd)) W) hz => pbytes_any a T K e _ _ _ ds w.heap.size W (hi.below (UP.out W h)) (hv.below (UP.out W h)) (UP.out W h).size hz (hL.below (UP.out W h)))
  clear hb hi hv hL
  unfold entB entC at *
  go_enter Tryd.func3, Tryd.ntmps3
  go_wp2_with fail
  refine (CA.out _ D0.out).mono ?_
  rintro en w1 ⟨rfl, hb⟩
  have D1 := Lib.hid (D0.out.trans (hb.mono (US.out _ D0.out)))
  clear hb CA
  cases h300 : decide ((300 : Int) < (l.length : Int)) with
  | true =>
    go_wp2_with fail
    go_ret
    exact ⟨rfl, UP.out _ D1.out⟩
  | false =>
    obtain ⟨a0, a1, a2, a3, a4, a5, a6, a7, a8, a9, a10, a11⟩ := KX.out _ D1.out
    go_wp2_with fail
    refine (CL.out _ D1.out).mono ?_
    rintro en w2 ⟨hlr, hb⟩
    have D2 := Lib.hid (D1.out.trans (hb.mono (US.out _ D1.out)))
    clear hb CL a0 a1 a2 a3 a4 a5 a6 a7 a8 a9 a10 a11 h300
    rcases hlr with rfl | ⟨rfl, hlong⟩
    · go_wp2_with fail
      go_ret
      exact ⟨rfl, UP.out _ D2.out⟩
    · have HZ := Lib.hid (size_of_long hlong)
      clear hlong
      have CI2 := CI.out _ D2.out
      cases hj : decide (l = [0]) with
      | true =>
        rw [hj] at CI2
        have HCI := Lib.hid CI2
        have HJ := Lib.hid (of_decide_eq_true hj)
        have q1 : ((l.length : Int) == 1) = true := by rw [HJ.out]; rfl
        clear CI2 hj
        go_wp2_with fail
        refine HCI.out.mono ?_
        rintro en w3 ⟨rfl, hb⟩
        have D3 := Lib.hid (D2.out.trans (hb.mono (US.out _ D2.out)))
        clear hb HCI
        go_wp2_with fail
        refine (CR.out _ D3.out HJ.out).mono ?_
        rintro en w4 ⟨⟨y, rfl, hy⟩, hb⟩
        have D4 := Lib.hid (D3.out.trans (hb.mono (US.out _ D3.out)))
        obtain ⟨b, rfl⟩ : ∃ b, y = errAt b := by
          rcases hy with ⟨h, _⟩ | ⟨m, _, _, h⟩
          · cases h
          · exact ⟨_, h⟩
        clear hb hy CR
        go_wp2_with fail
        go_ret
        exact ⟨rfl, (UP.out _ D4.out).alloc (UP.out _ D4.out).size _⟩
      | false =>
        rw [hj] at CI2
        have HCI := Lib.hid CI2
        clear CI2 hj
        go_wp2_with fail
        refine HCI.out.mono ?_
        rintro en w3 ⟨rfl, hb⟩
        have D3 := Lib.hid (D2.out.trans (hb.mono (US.out _ D2.out)))
        obtain ⟨a0, a1, a2, a3, a4, a5, a6, a7, a8, a9, a10, a11⟩ := KX.out _ D3.out
        clear hb HCI
        go_wp2_with fail
        refine (CP.out _ D3.out HZ.out).mono ?_
        rintro en w4 ⟨u, x, L, k, rfl, ho, hx, hk, hb⟩
        have D4 := Lib.hid (D3.out.trans (hb.mono (US.out _ D3.out)))
        have HS34 := Lib.hid hb.size
        clear hb CP a0 a1 a2 a3 a4 a5 a6 a7 a8 a9 a10 a11
        rcases hk with ⟨rfl, r, rfl, hr⟩ | ⟨⟨m, rfl⟩, rfl⟩
        · obtain rfl : x = .nilIface := by
            rcases hx with ⟨_, h⟩ | ⟨m, _, h, _⟩
            · exact h
            · cases h
          obtain ⟨g, cap, rfl, hg1, hg2, c0, hf, hby⟩ := first_set ho
          have D5 := Lib.hid (D4.out.setCell (p := ⟨g, 0, none⟩) (by show w.heap.size + 1 ≤ g; have := US.out _ D3.out; omega) (.int .u8 2))
          obtain ⟨kk, hkk⟩ := bad_two r
          have CR5 := Lib.hid (read_bad a _ w4.heap.size (2 :: r) kk (w4.setCell ⟨g, 0, none⟩ (.int .u8 2)) hby (by simp [World.setCell]) (by rw [List.length_cons]; omega) hkk (HE.out _ D5.out))
          have HBY := Lib.hid hby
          have hn : (0 : Int) < (r.length : Int) + 1 := by omega
          have hn2 : 0 < r.length + 1 := by omega
          clear ho hx hby hkk HS34
          go_wp2_with fail
          refine CR5.out.mono ?_
          rintro en w6 ⟨⟨y, rfl, hy⟩, hb⟩
          have D6 := Lib.hid (D5.out.trans (hb.mono (US.out _ D5.out)))
          have hs46 : w4.heap.size ≤ w6.heap.size := by have := hb.size; simpa [World.setCell] using this
          have CJ6 := isJunk_any (2 :: r) _ w4.heap.size w6 (HBY.out.below (hb.mono (by simp [World.setCell]))) hs46
          rw [decide_eq_false (by simp)] at CJ6
          have HCJ := Lib.hid CJ6
          obtain ⟨b, rfl⟩ : ∃ b, y = errAt b := by
            rcases hy with ⟨h, _⟩ | ⟨m, _, _, h⟩
            · cases h
            · exact ⟨_, h⟩
          clear hb hy CJ6 CR5 hs46
          go_wp2_with fail
          refine HCJ.out.mono ?_
          rintro en w7 ⟨rfl, hb⟩
          have D7 := Lib.hid (D6.out.trans (hb.mono (US.out _ D6.out)))
          clear hb HCJ
          go_wp2_with fail
          go_ret
          exact ⟨rfl, UP.out _ D7.out⟩
        · obtain ⟨b, rfl⟩ : ∃ b, x = errAt b := by
            rcases hx with ⟨h, _⟩ | ⟨m, _, _, h⟩
            · cases h
            · exact ⟨_, h⟩
          obtain ⟨Au, cu, rfl⟩ := pown_form ho
          clear ho hx
          go_wp2_with fail
          go_ret
          exact ⟨rfl, UP.out _ D4.out⟩
end Go.Proofs.YtcddgllckadodaaDoor
