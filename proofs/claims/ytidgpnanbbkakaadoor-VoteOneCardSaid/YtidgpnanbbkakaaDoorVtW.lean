/- The law of votes, walked: all texts that are decided are one. -/
import Derived.Test.YtidgpnanbbkakaaDoorVtX
namespace Go.Proofs.YtidgpnanbbkakaaDoor
open Go Go.RowKit Tide

theorem upd_id {α : Type} (f : Nat → α) (i : Nat) : upd f i (f i) = f := by
  funext j; unfold upd; split
  · rename_i e; rw [e]
  · rfl
theorem vv_upd (VV : Nat → Int → HeldV) (k : Nat) (x : HeldV) : (fun m => upd VV k (updI (VV k) 1 x) m 1) = upd (fun m => VV m 1) k x := by
  funext m
  unfold upd updI
  by_cases e : m = k
  · subst e; simp
  · simp [e]
theorem umod_hid (x : Int) (k : Nat) (hk : 0 < k) (hk2 : k ≤ 1000) : ∃ m : Nat, m < k ∧ Hid (wrap64 ((IntKind.u64.wrap x).tmod (k : Int)) = (m : Int) ∧ (IntKind.u64.wrap x).tmod (k : Int) = (m : Int) ∧ IntKind.u64.wrap (m : Int) = (m : Int) ∧ wrap64 (m : Int) = (m : Int)) := by
  obtain ⟨m, h1, h2, h3, h4⟩ := umod_of x (k : Int) (by omega) (by omega)
  have h5 : m < k := by omega
  have h6 : wrap64 (m : Int) = (m : Int) := by clear h2 h3 h4; unfold wrap64; omega
  exact ⟨m, h5, Lib.hid ⟨h2, h3, h4, h6⟩⟩
theorem small_u (n : Nat) (h : n ≤ 1000) : IntKind.u64.wrap (n : Int) = (n : Int) := by simp [IntKind.wrap, IntKind.signed, IntKind.bits]; omega
section
variable {w W W' : World} {sb ab N : Nat} {T : Nat → Nat} {vq : Nat → Nat} {vo : Nat → Option Nat} {VV : Nat → Int → HeldV} {sq sp sa : Nat → Nat} {S : Nat → PropV} {B : Nat → Nat}
theorem OneW.cells (h : OneW w W sb ab T 4 N vq vo VV sq sp sa S B) {i k : Nat} (hi : i < 4) (hk : k < 5) : W.cell? ⟨sb, i * 2, none⟩ = some (.pointer (some ⟨sq i, 0, none⟩)) ∧ W.cell? ⟨sb, i * 2 + 1, none⟩ = some (.int .i64 (B i : Int)) ∧ W.cell? ⟨ab, k, none⟩ = some (.pointer (some ⟨vq k, 0, none⟩)) := by
  refine ⟨?_, ?_, ?_⟩
  · rw [cell_of_row _ _ _ _ _ _ h.sides, (side_at 4 sq B i hi).1]; unfold ptrS; rw [if_pos hi]
  · rw [cell_of_row _ _ _ _ _ _ h.sides, (side_at 4 sq B i hi).2]; unfold balS; rw [if_pos hi]
  · rw [cell_of_row _ _ _ _ _ _ h.all, all_at vq k hk]
theorem OneW.drewN (h : OneW w W sb ab T 4 N vq vo VV sq sp sa S B) (n : Nat) : OneW w (W.drewN n) sb ab T 4 N vq vo VV sq sp sa S B :=
  { h with
    since := ⟨h.since.os, h.since.tape, h.since.output, h.since.size, h.since.block⟩
    sides := h.sides
    all := h.all
    voter := fun k hk => ⟨(h.voter k hk).cell, (h.voter k hk).map⟩
    side := fun i hi => (h.side i hi).drewN n }
end
/-- Between two calls: what the round's move is, besides. -/
def StM (w : World) (n sb ab : Nat) (vq : Nat → Nat) (k m : Nat) (dec : ByteArray) (r : Nat) (cs : Array Value) (W : World) : Prop := (∃ T vo VV sq sp sa S B, OneW w W sb ab T 4 (2 * k) vq vo VV sq sp sa S B ∧ InvV n (fun m => VV m 1) S B dec ∧ (∀ i, i < 4 → OkPr (S i)) ∧ ∀ i, i < 4 → B i ≤ m) ∧ W.heap[r]? = some (.cells cs 58 (0, 0))
theorem VotW.row {W : World} {q : Nat} {o : Option Nat} {n : Nat} {h : Int → HeldV} (H : VotW W q o n h) {r : Nat} {cs : Array Value} (hc : W.heap[r]? = some (.cells cs 58 (0, 0))) : ¬ (r = q ∨ o = some r) := fun e => by
  rcases e with e | e
  · have h1 := H.cell
    rw [← e, hc] at h1
    injection h1 with h1
    injection h1 with _ h1
    cases h1
  · obtain ⟨g, _, h4⟩ := H.map
    rcases h4 with ⟨h4, _⟩ | ⟨b, h4, h5⟩
    · rw [h4] at e; cases e
    · rw [h4] at e
      injection e with e
      exact h5.ne_cells hc e
theorem ProW.row {W : World} {q bp ba N : Nat} {p : PropV} (H : ProW W q bp ba N p) {r : Nat} {cs : Array Value} (hc : W.heap[r]? = some (.cells cs 58 (0, 0))) : ¬ FPro q bp ba r := fun e => by
  rcases e with e | e | e
  · have h1 := H.cells
    rw [← e, hc] at h1
    injection h1 with h1
    injection h1 with _ h1
    cases h1
  · exact H.prom.ne_cells hc e.symm
  · exact H.acc.ne_cells hc e.symm
theorem box4 {w : World} {b : Nat} {x y z u : Value} {t : TypeId} (h : w.heap[b]? = some (.cells #[x, y, z, u] t (0, 0))) : b < w.heap.size ∧ w.cell? ⟨b, 0, none⟩ = some x ∧ w.cell? ⟨b, 1, none⟩ = some y ∧ w.cell? ⟨b, 2, none⟩ = some z ∧ w.cell? ⟨b, 3, none⟩ = some u := by
  have h0 : w.cell? ⟨b, 0, none⟩ = some x := by rw [cell_of_row _ _ 0 _ _ _ h]; rfl
  exact ⟨World.block_lt_of_cell? _ _ h0, h0, by rw [cell_of_row _ _ 1 _ _ _ h]; rfl, by rw [cell_of_row _ _ 2 _ _ _ h]; rfl, by rw [cell_of_row _ _ 3 _ _ _ h]; rfl⟩
/-- Behind k moves. -/
def StV (w : World) (n sb ab : Nat) (vq : Nat → Nat) (k : Nat) (dec : ByteArray) (W : World) : Prop := ∃ T vo VV sq sp sa S B, OneW w W sb ab T 4 (2 * k) vq vo VV sq sp sa S B ∧ InvV n (fun m => VV m 1) S B dec ∧ (∀ i, i < 4 → OkPr (S i)) ∧ ∀ i, i < 4 → B i ≤ 4 * k + 3
section
variable {w W : World} {n sb ab k who vk : Nat} {T : Nat → Nat} {vq : Nat → Nat} {vo : Nat → Option Nat} {VV : Nat → Int → HeldV} {sq sp sa : Nat → Nat} {S : Nat → PropV} {B : Nat → Nat} {dec : ByteArray}
theorem stv_ok (hK : ∀ i, i < 4 → OkPr (S i)) {P : PropV} (hP : OkPr P) : ∀ i, i < 4 → OkPr (upd S who P i) := fun i hi => by
  by_cases e : i = who
  · subst e; rw [upd_same]; exact hP
  · rw [upd_other _ _ e]; exact hK i hi
theorem stv_bd (hB : ∀ i, i < 4 → B i ≤ 4 * k + 7) : ∀ i, i < 4 → B i ≤ 4 * (k + 1) + 3 := fun i hi => Nat.le_trans (hB i hi) (by omega)
theorem stv_prep (hw : who < 4) (hO : OneW w W sb ab T 4 (2 * k + 1 + 1) vq vo (upd VV vk (updI (VV vk) 1 (prepV (VV vk 1) (B who)))) sq sp sa (upd S who (promV (S who) vk (prepYes (VV vk 1) (B who)) (VV vk 1).accepted (VV vk 1).text)) B) (hI : InvV n (fun m => VV m 1) S B dec) (hK : ∀ i, i < 4 → OkPr (S i)) (hB : ∀ i, i < 4 → B i ≤ 4 * k + 7) : StV w n sb ab vq (k + 1) dec W := by
  refine ⟨T, vo, _, sq, sp, sa, _, B, hO, ?_, stv_ok hK ((hK who hw).promise _ _ _ _), stv_bd hB⟩
  rw [vv_upd]
  exact hI.prepare vk hw
theorem stv_acc (hw : who < 4) (ha : asksV (S who) = true) (hO : OneW w W sb ab T 4 (2 * k + 1 + 1) vq vo (upd VV vk (updI (VV vk) 1 (accV (VV vk 1) (B who) (S who).text))) sq sp sa (upd S who (accpV (S who) vk (accYes (VV vk 1) (B who)))) B) (hI : InvV n (fun m => VV m 1) S B dec) (hK : ∀ i, i < 4 → OkPr (S i)) (hB : ∀ i, i < 4 → B i ≤ 4 * k + 7) : StV w n sb ab vq (k + 1) dec W := by
  refine ⟨T, vo, _, sq, sp, sa, _, B, hO, ?_, stv_ok hK ((hK who hw).accepted _ _), stv_bd hB⟩
  rw [vv_upd]
  exact hI.accept vk hw ha
theorem stv_stay (hO : OneW w W sb ab T 4 (2 * k) vq vo VV sq sp sa S B) (hI : InvV n (fun m => VV m 1) S B dec) (hK : ∀ i, i < 4 → OkPr (S i)) (hB : ∀ i, i < 4 → B i ≤ 4 * k + 7) : StV w n sb ab vq (k + 1) dec W :=
  ⟨T, vo, VV, sq, sp, sa, S, B, hO.mono (by omega), hI, hK, stv_bd hB⟩
theorem prep_plain {W0 : World} {q N : Nat} {o : Option Nat} {h : Int → HeldV} (H : VotW W0 q o N h) (hn : N ≤ 1000000) (b : Nat) : Calls Tryd.prog 17 #[.pointer (some ⟨q, 0, none⟩), .int .i64 1, .int .i64 (b : Int)] W0 fun e w' => ∃ (y : Bool) (a : Int) (t : ByteArray), e = .returned (.agg #[.bool y, .int .i64 a, .string t]) ∧ VotB W0 q o (N + 1) (updI h 1 (prepV (h 1) b)) w' ∧ prepYes (h 1) b = y ∧ (h 1).accepted = a ∧ (h 1).text = t :=
  (vprepare_any H hn 1 b fits1).mono fun _ _ h => ⟨_, _, _, h.1, h.2, rfl, rfl, rfl⟩
theorem acc_plain {W0 : World} {q N : Nat} {o : Option Nat} {h : Int → HeldV} (H : VotW W0 q o N h) (hn : N ≤ 1000000) (b : Nat) (u : ByteArray) : Calls Tryd.prog 16 #[.pointer (some ⟨q, 0, none⟩), .int .i64 1, .int .i64 (b : Int), .string u] W0 fun e w' => ∃ y : Bool, e = .returned (.bool y) ∧ VotB W0 q o (N + 1) (updI h 1 (accV (h 1) b u)) w' ∧ accYes (h 1) b = y :=
  (vaccept_any H hn 1 b fits1 u).mono fun _ _ h => ⟨_, h.1, h.2, rfl⟩
theorem prom_plain {W0 : World} {q bp ba N : Nat} {p : PropV} (h : ProW W0 q bp ba N p) (hk : OkPr p) (hN : N ≤ 1000000) (k : Nat) (hf : k < 5) (yes : Bool) (b : Int) (t : ByteArray) : Calls Tryd.prog 12 #[.pointer (some ⟨q, 0, none⟩), .int .i64 (k : Int), .agg #[.bool yes, .int .i64 b, .string t]] W0 fun e w' => ∃ z : Bool, e = .returned (.bool z) ∧ ProB W0 q bp ba (N + 1) (promV p k yes b t) w' :=
  (ppromise_any h hk hN k ⟨by omega, by omega⟩ yes b t).mono fun _ _ h => ⟨_, h.1, h.2⟩
theorem took_plain {W0 : World} {q bp ba N : Nat} {p : PropV} (h : ProW W0 q bp ba N p) (hk : OkPr p) (hN : N ≤ 1000000) (k : Nat) (hf : k < 5) (yes : Bool) : Calls Tryd.prog 10 #[.pointer (some ⟨q, 0, none⟩), .int .i64 (k : Int), .bool yes] W0 fun e w' => ∃ z : Bool, e = .returned (.bool z) ∧ ProB W0 q bp ba (N + 1) (accpV p k yes) w' :=
  (paccepted_any h hk hN k ⟨by omega, by omega⟩ yes).mono fun _ _ h => ⟨_, h.1, h.2⟩
theorem okt_byte {t : ByteArray} (h : OkT t) : ∃ c : UInt8, t = ⟨#[c]⟩ ∧ decide ((c.toNat : Int) < 97) = false ∧ decide ((100 : Int) < (c.toNat : Int)) = false := by
  obtain ⟨i, hi, rfl⟩ := h
  refine ⟨UInt8.ofNat (97 + i), rfl, ?_, ?_⟩
  · exact decide_eq_false (by simp; omega)
  · exact decide_eq_false (by simp; omega)
/-- A side's answer, whether a text is decided. -/
structure DecS (w : World) (n sb ab k who : Nat) (vq : Nat → Nat) (dec : ByteArray) (W : World) (p : Nat) : Prop where
  cell : W.cell? ⟨sb, who * 2, none⟩ = some (.pointer (some ⟨p, 0, none⟩))
  lt : sb < W.heap.size
  tells : Calls Tryd.prog 14 #[.pointer (some ⟨p, 0, none⟩)] W fun e w' => ∃ (ty : ByteArray) (is : Bool), e = .returned (.tuple #[.string ty, .bool is]) ∧ StV w n sb ab vq k (if is = true then ty else dec) w' ∧ (is = true → (dec = ⟨#[]⟩ ∨ ty = dec) ∧ OkT ty)
theorem StV.tell (h : StV w n sb ab vq k dec W) (hw : who < 4) : ∃ p, DecS w n sb ab k who vq dec W p := by
  obtain ⟨T, vo, VV, sq, sp, sa, S, B, hO, hI, hK, hB⟩ := h
  refine ⟨sq who, (hO.cells hw (show 0 < 5 by omega)).1, hO.lt0, ?_⟩
  refine (pdecided_any (hO.side who hw) (hK who hw)).mono ?_
  rintro e w' ⟨rfl, hb⟩
  cases his : decV (S who) with
  | false => exact ⟨_, false, rfl, ⟨T, vo, VV, sq, sp, sa, S, B, hO.below hb, hI, hK, hB⟩, fun h => by cases h⟩
  | true =>
    obtain ⟨h1, h2, h3⟩ := hI.decided hw his
    exact ⟨_, true, rfl, ⟨T, vo, VV, sq, sp, sa, S, B, hO.below hb, h3, hK, hB⟩, fun _ => ⟨h1, h2⟩⟩
end
set_option maxRecDepth 100000 in
set_option maxHeartbeats 8000000 in
theorem voteOne_law (w : World) (nn : Int) (v : Value) (ks : List MoveV) (hk : MovesV w w.heap.size v ks) : Calls Tryd.prog 4 #[.int .i64 nn, v] w fun en w' => en = .returned (.bool true) ∧ Below w.heap.size w w' := by
  have CA := Lib.hid (valive_any w)
  obtain ⟨Av, cv, rfl, _, hcell⟩ := hk.form
  obtain ⟨n5, hn5, hq1, hq1', hq1''⟩ := umod_of nn 5 (by omega) (by omega)
  obtain ⟨n, hn⟩ : ∃ n, n = 1 + n5 := ⟨_, rfl⟩
  have e1 : (1 : Int) + (n5 : Int) = (n : Int) := by omega
  have hw1 : wrap64 (1 + (n5 : Int)) = (n : Int) := by unfold wrap64; omega
  have hw2 : IntKind.i64.wrap (1 + (n5 : Int)) = (n : Int) := by simp [IntKind.wrap, IntKind.signed, IntKind.bits]; omega
  have hw0 : wrap64 (n5 : Int) = (n5 : Int) := by unfold wrap64; omega
  have hw3 : wrap64 (n : Int) = (n : Int) := by unfold wrap64; omega
  have hw4 : IntKind.i64.wrap (n : Int) = (n : Int) := by simp [IntKind.wrap, IntKind.signed, IntKind.bits]; omega
  have HN := Lib.hid (show 1 ≤ n ∧ n ≤ 5 by omega)
  have HC := Lib.hid hcell
  clear hk hcell hn hn5
  by_cases h1 : 100 < ks.length
  · have q1 : decide ((100 : Int) < (ks.length : Int)) = true := decide_eq_true (by omega)
    clear h1 hq1 hq1' hq1'' e1 hw0 hw1 hw2 hw3 hw4
    go_enter Tryd.func4, Tryd.ntmps4
    go_wp2_with fail
    refine CA.out.mono ?_
    rintro en w1 ⟨rfl, hb⟩
    have HB := Lib.hid hb
    clear hb
    go_wp2_with fail
    go_ret
    exact ⟨rfl, HB.out⟩
  have HL100 := Lib.hid (show ks.length ≤ 100 from Nat.not_lt.1 h1)
  have q1 : decide ((100 : Int) < (ks.length : Int)) = false := decide_eq_false (by have := HL100.out; clear hq1 hq1' hq1'' e1 hw0 hw1 hw2 hw3 hw4; omega)
  clear h1
  obtain ⟨L, hL⟩ : ∃ L, ks.length = L := ⟨_, rfl⟩
  rw [hL] at q1 HL100 ⊢
  have HL := Lib.hid hL
  clear hL
  go_enter Tryd.func4, Tryd.ntmps4
  go_wp2_with fail
  refine CA.out.mono ?_
  rintro en w1 ⟨rfl, hb⟩
  have HB := Lib.hid hb
  clear hb CA
  have O0 := OneW.start HB.out (fun i => newV n (txtV i)) (fun i => i)
  obtain ⟨T0, o0⟩ := O0
  have O0 := Lib.hid o0
  clear o0
  go_wp2_with fail
  obtain ⟨W7, hW7⟩ : ∃ W7, oneNew w1 = W7 := ⟨_, rfl⟩
  rw [hW7] at O0
  unfold oneNew at hW7
  rw [hW7]
  generalize (fun k => w1.heap.size + k) = vq at O0
  obtain ⟨ab, hab⟩ : ∃ ab, w1.heap.size + 1 + 1 + 1 + 1 + 1 = ab := ⟨_, rfl⟩
  rw [hab] at O0 ⊢
  obtain ⟨sb, hsb⟩ : ∃ sb, ab + 1 = sb := ⟨_, rfl⟩
  rw [hsb] at O0 ⊢
  clear hW7 hab hsb HB
  rw [hw0]
  clear hw0 hw1 hw2 hw3 hw4 hq1 hq1' hq1'' e1
  go_loopw [41] (fun t wr => ∃ (j : Nat) (T : Nat → Nat) (sq sp sa : Nat → Nat), t = .int .i64 (j : Int) ∧ j ≤ 4 ∧ Hid (OneW w wr sb ab T j 0 vq (fun _ => none) (fun _ _ => noneV) sq sp sa (fun i => newV n (txtV i)) (fun i => i))) (fun t _ => 4 - (intOf t).toNat)
  case atStart => exact ⟨0, T0, _, _, _, rfl, by omega, O0⟩
  case round =>
    clear O0
    obtain ⟨j, T, sq, sp, sa, rfl, hj, hO⟩ := hrel
    by_cases hlt : j < 4
    · have q2 : decide ((j : Int) < 4) = true := decide_eq_true (by omega)
      have hs := hO.out.sides
      have hd1 : wr.cell? ⟨sb, j * 2 + 1, none⟩ = some (.int .i64 0) := by
        rw [cell_of_row _ _ _ _ _ _ hs, (side_at j sq (fun i => i) j hlt).2]
        unfold balS; rw [if_neg (by omega)]
      have hfz : wr.frozen? ⟨sb, j * 2 + 1, none⟩ = false := frozen_of_row _ _ _ _ _ hs
      have hls := hO.out.lt0
      have hm4 : wrap64 ((j : Int) - 4) = (j : Int) - 4 := by unfold wrap64; omega
      have hm5 : IntKind.i64.wrap ((j : Int) - 4) = (j : Int) - 4 := by simp [IntKind.wrap, IntKind.signed, IntKind.bits]; omega
      have CB := Lib.hid (vbegin_any (who := j) (n := n) (o := j * 2) (x := ptrS j sq j) (b := (j : Int) - 4) (heap_setCell_same wr sb (j * 2 + 1) _ _ (.int .i64 ((j : Int) - 4)) hs)
        (by rw [Array.getElem?_setIfInBounds]; simp; exact (side_at j sq (fun i => i) j hlt).1) (by rw [Array.getElem?_setIfInBounds]; simp [sideArr]; omega) HN.out.1 HN.out.2 hlt (by omega) (by omega))
      rw [show (j : Int) - 4 + 4 = (j : Int) by omega] at CB
      clear hs
      go_wp2_with fail
      refine CB.out.mono ?_
      rintro en w2 ⟨rfl, q, bp, ba, g1, g2, g3, g4⟩
      rw [side_first sq (fun i => i) j q j _ hlt] at g1
      have hk2 : Kept (fun k => k = sb) wr w2 := Kept.trans (Kept.setCell (F := fun k => k = sb) (Kept.refl _ wr) (p := ⟨sb, j * 2 + 1, none⟩) (.inl rfl) (.int .i64 ((j : Int) - 4))) g3 (fun _ h => .inl h)
      obtain ⟨T', o'⟩ := hO.out.beginS (i := j) (j' := j + 1) (fun k h => by omega) g1 g2 hk2 (fun k h => by have := g4 k h; simpa [World.setCell] using this)
      rw [upd_id (fun i => newV n (txtV i)) j, upd_id (fun i => i) j] at o'
      have O1 := Lib.hid o'
      clear o' g1 g2 g3 g4 hk2 CB hd1 hfz hls
      go_wp2_with fail
      go_roundw
      case rel => exact ⟨j + 1, T', _, _, _, by go_num, by omega, O1⟩
      case measure => simp [intOf]; omega
    · have q2 : decide ((j : Int) < 4) = false := decide_eq_false (by omega)
      have O1 := Lib.hid (show OneW w wr sb ab T 4 0 vq (fun _ => none) (fun _ _ => noneV) sq sp sa (fun i => newV n (txtV i)) (fun i => i) from by
        have h4 : j = 4 := by omega
        have := hO.out
        rwa [h4] at this)
      clear hO hlt hj
      have I1 := Lib.hid (InvV.start n)
      have S1 := Lib.hid (show StV w n sb ab vq 0 ⟨#[]⟩ wr from ⟨_, _, _, _, _, _, _, _, O1.out, I1.out, fun i _ => OkPr.new HN.out.2 _, fun i hi => by omega⟩)
      clear O1 I1
      go_wp2_with fail
      go_loopw [58, 9] (fun t s9 wr => ∃ (k : Nat) (dec : ByteArray), t = .int .i64 (k : Int) ∧ s9 = .string dec ∧ k ≤ L ∧ Hid (StV w n sb ab vq k dec wr)) (fun t _ _ => L - (intOf t).toNat)
      case atStart => exact ⟨0, _, rfl, rfl, Nat.zero_le _, S1⟩
      case round =>
        clear S1
        obtain ⟨k, dec, rfl, rfl, hk, hS⟩ := hrel
        by_cases hlt : k < L
        rotate_left
        · have q2 : decide ((k : Int) < (L : Int)) = false := decide_eq_false (by omega)
          have HB := Lib.hid (by obtain ⟨_, _, _, _, _, _, _, _, h, _⟩ := hS.out; exact h.since)
          clear hS
          go_wp2_with fail
          go_ret
          exact ⟨rfl, HB.out⟩
        have q2 : decide ((k : Int) < (L : Int)) = true := decide_eq_true (by omega)
        obtain ⟨T, vo, VV, sq, sp, sa, S, B, hO, hI, hKp, hBd⟩ := hS.out
        obtain ⟨b, o, rfl, hbl, c0, c1, c2, c3⟩ := HC.out k (by rw [HL.out]; exact hlt)
        obtain ⟨x, hx⟩ : ∃ x : MoveV, x = ks[k]'(by rw [HL.out]; exact hlt) := ⟨_, rfl⟩
        rw [← hx] at c0 c1 c2 c3
        have hc := below_cells hO.since
        have d0 := (hc _ _ hbl).trans c0
        have d1 := (hc _ _ hbl).trans c1
        have d2 := (hc _ _ hbl).trans c2
        have d3 := (hc _ _ hbl).trans c3
        obtain ⟨who, hw4, HV1⟩ := umod_hid x.who 4 (by omega) (by omega)
        obtain ⟨vk, hvn, HV2⟩ := umod_hid x.voter n HN.out.1 (Nat.le_trans HN.out.2 (by omega))
        have HW := Lib.hid (show who < 4 ∧ vk < n ∧ n ≤ 5 from ⟨hw4, hvn, HN.out.2⟩)
        have hwl : (who : Int) < 4 := by omega
        have hw0 : (0 : Int) ≤ (who : Int) := by omega
        have hn0 : ¬ (n : Int) = 0 := by have := HN.out; omega
        have hv9 := small_u n (Nat.le_trans HN.out.2 (by omega))
        obtain ⟨hv1, hv2, hv3, hv7⟩ := HV1.out
        have hv1 : wrap64 ((IntKind.u64.wrap x.who).tmod 4) = (who : Int) := hv1
        have hv2 : (IntKind.u64.wrap x.who).tmod 4 = (who : Int) := hv2
        obtain ⟨hv4, hv5, hv6, hv8⟩ := HV2.out
        obtain ⟨xw, xv, acc, beg⟩ := x
        simp only at d0 d1 d2 d3 hv1 hv2 hv4 hv5
        have HM0 := Lib.hid (fun nq => show StM w n sb ab vq k (4 * k + 3) dec wr.heap.size #[.int .i64 xw, .int .i64 xv, .bool acc, .bool beg] ((wr.alloc (.cells #[.int .i64 xw, .int .i64 xv, .bool acc, .bool beg] 58)).drewN nq) from
          ⟨⟨T, vo, VV, sq, sp, sa, S, B, (hO.below ((Below.refl _ _).alloc (Nat.le_refl _) _)).drewN nq, hI, hKp, hBd⟩, heap_alloc_new wr _⟩)
        have HBd := Lib.hid hBd
        clear hx c0 c1 c2 c3 hc hvn hw4 hS HV1 HV2
        go_wp2_with fail
        go_quiet (fail)
        obtain ⟨w2, hw2⟩ : ∃ w2, (wr.alloc (.cells #[.int .i64 xw, .int .i64 xv, .bool acc, .bool beg] 58)).drewN nq = w2 := ⟨_, rfl⟩
        have HM := Lib.hid (HM0.out nq)
        rw [hw2] at HM ⊢
        rw [hv8]
        clear hw2 HM0 d0 d1 d2 d3 hv1 hv2 hv3 hv4 hv5 hv6 hv7 hv8 hv9 hn0 hO hI hKp hBd
        generalize wr.heap.size = r at *
        have HN2 := Lib.hid (show k ≤ 100 from by have := HL100.out; omega)
        cases beg
        focus
          obtain ⟨w3, hw3⟩ : ∃ w3, w2 = w3 := ⟨_, rfl⟩
          rw [hw3] at HM ⊢
          have HM3 := Lib.hid (show StM w n sb ab vq k (4 * k + 7) dec r #[.int .i64 xw, .int .i64 xv, .bool acc, .bool false] w3 from by
            obtain ⟨⟨T, vo, VV, sq, sp, sa, S, B, hO, hI, hKp, hBd⟩, hbox⟩ := HM.out
            exact ⟨⟨T, vo, VV, sq, sp, sa, S, B, hO, hI, hKp, fun i hi => Nat.le_trans (hBd i hi) (by omega)⟩, hbox⟩)
          clear HM hw3
          obtain ⟨hr3, x0, x1, x2, x3⟩ := box4 HM3.out.2
          obtain ⟨⟨T3, vo3, VV3, sq3, sp3, sa3, S3, B3, hO, hI, hKp, hBd⟩, hbox⟩ := HM3.out
          have hls := hO.lt0
          obtain ⟨s0, s1, a0⟩ := hO.cells HW.out.1 (show vk < 5 from Nat.lt_of_lt_of_le HW.out.2.1 HW.out.2.2)
          have CA := Lib.hid (pasks_any (hO.side who HW.out.1) (hKp who HW.out.1))
          have O3 := Lib.hid hO
          have I3 := Lib.hid hI
          have K3 := Lib.hid hKp
          have B3d := Lib.hid hBd
          have X3 := Lib.hid hbox
          clear hO hI hKp hBd hbox HM3
          go_wp2_with fail
        rotate_left
        focus
          obtain ⟨hr2, x0, x1, x2, x3⟩ := box4 HM.out.2
          obtain ⟨⟨T, vo, VV, sq, sp, sa, S, B, hO, hI, hKp, hBd⟩, hbox⟩ := HM.out
          have hls := hO.lt0
          have hbw := hBd who HW.out.1
          have CB := Lib.hid (vbegin_any (who := who) (n := n) (o := who * 2) (b := (B who : Int)) hO.sides (side_at 4 sq B who HW.out.1).1 (by have := (side_at 4 sq B who HW.out.1).2; unfold balS at this; rwa [if_pos HW.out.1] at this) HN.out.1 HN.out.2 HW.out.1 (by omega) (by have := HN2.out; omega))
          have HO2 := Lib.hid hO
          have HI2 := Lib.hid hI
          have HK2 := Lib.hid hKp
          have HB2 := Lib.hid hBd
          have HX2 := Lib.hid hbox
          clear hO hI hKp hBd hbox hbw
          go_wp2_with fail
          refine CB.out.mono ?_
          rintro en w3 ⟨rfl, q, bp, ba, g1, g2, g3, g4⟩
          have HM3 := Lib.hid (show StM w n sb ab vq k (4 * k + 7) dec r #[.int .i64 xw, .int .i64 xv, .bool acc, .bool true] w3 from by
            have g1' := g1
            rw [show ((B who : Int) + 4) = ((B who + 4 : Nat) : Int) from by omega, side_set 4 sq B who q (B who + 4) HW.out.1 HW.out.1] at g1'
            obtain ⟨T', o'⟩ := HO2.out.beginS (i := who) (j' := 4) (fun k h => .inl h) g1' g2 g3 g4
            refine ⟨⟨T', _, _, _, _, _, _, _, o', HI2.out.begin HW.out.1, fun i hi => ?_, fun i hi => ?_⟩, g3.heap HX2.out (fun e => ?_)⟩
            · by_cases e : i = who
              · subst e; rw [upd_same]; exact OkPr.new HN.out.2 _
              · rw [upd_other _ _ e]; exact HK2.out i hi
            · by_cases e : i = who
              · subst e; rw [upd_same]; have := HB2.out i hi; omega
              · rw [upd_other _ _ e]; have := HB2.out i hi; omega
            · have h1 := HX2.out
              rw [e, HO2.out.sides] at h1
              injection h1 with h1
              injection h1 with _ h1
              cases h1)
          clear g1 g2 g3 g4 CB HM x0 x1 x2 x3 hr2 hls
          obtain ⟨hr3, x0, x1, x2, x3⟩ := box4 HM3.out.2
          obtain ⟨⟨T3, vo3, VV3, sq3, sp3, sa3, S3, B3, hO, hI, hKp, hBd⟩, hbox⟩ := HM3.out
          have hls := hO.lt0
          obtain ⟨s0, s1, a0⟩ := hO.cells HW.out.1 (show vk < 5 from Nat.lt_of_lt_of_le HW.out.2.1 HW.out.2.2)
          have CA := Lib.hid (pasks_any (hO.side who HW.out.1) (hKp who HW.out.1))
          have O3 := Lib.hid hO
          have I3 := Lib.hid hI
          have K3 := Lib.hid hKp
          have B3d := Lib.hid hBd
          have X3 := Lib.hid hbox
          clear hO hI hKp hBd hbox HM3
          go_wp2_with fail
        all_goals
          refine CA.out.mono ?_
          rintro en w4 ⟨rfl, hb4⟩
          have O4 := Lib.hid (O3.out.below hb4)
          have hbox := (Kept.of_below (F := fun _ => False) hb4).heap X3.out (fun h => h)
          clear CA hb4 s0 s1 a0 x0 x1 x2 x3 hr3 X3 O3 hls
          obtain ⟨hr4, x0, x1, x2, x3⟩ := box4 hbox
          obtain ⟨s0, s1, a0⟩ := O4.out.cells HW.out.1 (show vk < 5 from Nat.lt_of_lt_of_le HW.out.2.1 HW.out.2.2)
          have hls := O4.out.lt0
          have hla := O4.out.lt1
          have X4 := Lib.hid hbox
          clear hbox
          obtain ⟨may, hmay⟩ : ∃ may, asksV (S3 who) = may := ⟨_, rfl⟩
          rw [hmay]
          have HMay := Lib.hid hmay
          obtain ⟨tx, htx⟩ : ∃ tx, (if may = true then (S3 who).text else ⟨#[]⟩) = tx := ⟨_, rfl⟩
          rw [htx]
          have HTx := Lib.hid (show may = true → tx = (S3 who).text from fun h => by rw [← htx, if_pos h])
          clear hmay htx
          have hvk0 : (0 : Int) ≤ (vk : Int) := by omega
          have hvk5 : (vk : Int) < 5 := by have := HW.out; omega
          have HVk := Lib.hid (show vk < 5 from Nat.lt_of_lt_of_le HW.out.2.1 HW.out.2.2)
          cases acc
          focus
            have CV := Lib.hid (show Calls Tryd.prog 17 #[.pointer (some ⟨vq vk, 0, none⟩), .int .i64 1, .int .i64 (B3 who : Int)] w4.drew _ from prep_plain ((O4.out.drewN 1).voter vk HVk.out) (by have := HN2.out; omega) (B3 who))
            go_wp2_with fail
            have D4 := Lib.hid (show w4.drew.cell? ⟨sb, who * 2, none⟩ = some (.pointer (some ⟨sq3 who, 0, none⟩)) ∧ w4.drew.cell? ⟨sb, who * 2 + 1, none⟩ = some (.int .i64 (B3 who : Int)) ∧ w4.drew.cell? ⟨ab, vk, none⟩ = some (.pointer (some ⟨vq vk, 0, none⟩)) from ⟨s0, s1, a0⟩)
            go_region_held3 (fun Y => Y.cell? ⟨sb, who * 2, none⟩ = some (.pointer (some ⟨sq3 who, 0, none⟩)) ∧ Y.cell? ⟨sb, who * 2 + 1, none⟩ = some (.int .i64 (B3 who : Int)) ∧ Y.cell? ⟨ab, vk, none⟩ = some (.pointer (some ⟨vq vk, 0, none⟩)))
              (first | exact D4.out | exact D5.out | exact D6.out | assumption)
              (first
                | (go_at_call 17; (with_reducible refine CV.out.mono ?_); rintro en w5 ⟨y5, a5, t5, rfl, hv, hy5⟩; have HY5 := Lib.hid hy5; obtain ⟨T5, vo5, o5⟩ := (O4.out.drewN 1).vote HVk.out hv; have O5 := Lib.hid o5; have D5 := Lib.hid (o5.cells HW.out.1 HVk.out); have CP := Lib.hid (prom_plain (o5.side who HW.out.1) (K3.out who HW.out.1) (by have := HN2.out; omega) vk HVk.out y5 a5 t5); clear hv o5 hy5)
                | (go_at_call 12; (with_reducible refine CP.out.mono ?_); rintro en w6 ⟨z6, rfl, hp⟩; have o6 := O5.out.propose HW.out.1 hp; have O6 := Lib.hid o6; have D6 := Lib.hid (o6.cells HW.out.1 HVk.out); clear hp o6))
            rename_i hh
            clear hh
            have HE := Lib.hid (stv_prep HW.out.1 (by rw [HY5.out.1, HY5.out.2.1, HY5.out.2.2]; exact O6.out) I3.out K3.out B3d.out)
            clear O4 I3 K3 B3d O5 O6 D4 D5 D6 CV CP s0 s1 a0 hls hla
          rotate_left
          focus
            cases may
            focus
              have HE := Lib.hid (stv_stay O4.out I3.out K3.out B3d.out)
              clear O4 I3 K3 B3d s0 s1 a0
            rotate_left
            focus
              obtain rfl : tx = (S3 who).text := HTx.out rfl
              have CV := Lib.hid (show Calls Tryd.prog 16 #[.pointer (some ⟨vq vk, 0, none⟩), .int .i64 1, .int .i64 (B3 who : Int), .string (S3 who).text] w4.drew _ from acc_plain ((O4.out.drewN 1).voter vk HVk.out) (by have := HN2.out; omega) (B3 who) (S3 who).text)
              go_wp2_with fail
              have D4 := Lib.hid (show w4.drew.cell? ⟨sb, who * 2, none⟩ = some (.pointer (some ⟨sq3 who, 0, none⟩)) ∧ w4.drew.cell? ⟨sb, who * 2 + 1, none⟩ = some (.int .i64 (B3 who : Int)) ∧ w4.drew.cell? ⟨ab, vk, none⟩ = some (.pointer (some ⟨vq vk, 0, none⟩)) ∧ w4.drew.cell? ⟨r, 2, none⟩ = some (.bool true) from ⟨s0, s1, a0, x2⟩)
              go_region_held3 (fun Y => Y.cell? ⟨sb, who * 2, none⟩ = some (.pointer (some ⟨sq3 who, 0, none⟩)) ∧ Y.cell? ⟨sb, who * 2 + 1, none⟩ = some (.int .i64 (B3 who : Int)) ∧ Y.cell? ⟨ab, vk, none⟩ = some (.pointer (some ⟨vq vk, 0, none⟩)) ∧ Y.cell? ⟨r, 2, none⟩ = some (.bool true))
                (first | exact D4.out | exact D5.out | exact D6.out | assumption)
                (first
                  | (go_at_call 16; (with_reducible refine CV.out.mono ?_); rintro en w5 ⟨y5, rfl, hv, hy5⟩; have HY5 := Lib.hid hy5; obtain ⟨T5, vo5, o5⟩ := (O4.out.drewN 1).vote HVk.out hv; have X5 := Lib.hid (by obtain ⟨_, _, hk5, _⟩ := hv; exact hk5.heap (show w4.drew.heap[r]? = _ from X4.out) (VotW.row ((O4.out.drewN 1).voter vk HVk.out) X4.out)); have O5 := Lib.hid o5; have D5 := Lib.hid (by obtain ⟨j0, j1, j2⟩ := o5.cells HW.out.1 HVk.out; exact And.intro j0 (And.intro j1 (And.intro j2 (box4 X5.out).2.2.2.1))); have CP := Lib.hid (took_plain (o5.side who HW.out.1) (K3.out who HW.out.1) (by have := HN2.out; omega) vk HVk.out y5); clear hv o5 hy5)
                  | (go_at_call 10; (with_reducible refine CP.out.mono ?_); rintro en w6 ⟨z6, rfl, hp⟩; have o6 := O5.out.propose HW.out.1 hp; have O6 := Lib.hid o6; have D6 := Lib.hid (by obtain ⟨j0, j1, j2⟩ := o6.cells HW.out.1 HVk.out; exact And.intro j0 (And.intro j1 (And.intro j2 (box4 (hp.2.heap X5.out (ProW.row (O5.out.side who HW.out.1) X5.out))).2.2.2.1))); clear hp o6))
              rename_i hh
              clear hh
              have x2 := D6.out.2.2.2
              have HE := Lib.hid (stv_acc HW.out.1 HMay.out (by rw [HY5.out]; exact O6.out) I3.out K3.out B3d.out)
              clear O4 I3 K3 B3d O5 O6 D4 D5 D6 CV CP s0 s1 a0 hls hla
        all_goals
          obtain ⟨p8, hD8⟩ := StV.tell HE.out HW.out.1
          have t0 := hD8.cell
          have hls8 := hD8.lt
          have CD := Lib.hid hD8.tells
          clear hD8 HE
          go_wp2_with fail
          refine CD.out.mono ?_
          rintro en w9 ⟨ty, is, rfl, hS9, hok⟩
          have S9 := Lib.hid hS9
          have HOk := Lib.hid hok
          clear hS9 hok CD t0 hls8
          have hk100 := HN2.out
          cases is
          focus
            have S10 := Lib.hid (show StV w n sb ab vq (k + 1) dec w9 from S9.out)
            clear S9 HOk
            go_wp2_with fail
            go_roundw
            case rel => exact ⟨k + 1, dec, by go_num, rfl, by omega, S10⟩
            case measure => simp [intOf]; omega
          focus
            obtain ⟨hd, i, hi4, hti⟩ := HOk.out rfl
            have S10 := Lib.hid (show StV w n sb ab vq (k + 1) ty w9 from S9.out)
            obtain ⟨c, rfl, hc1, hc2⟩ : ∃ c : UInt8, ty = ⟨#[c]⟩ ∧ decide ((c.toNat : Int) < 97) = false ∧ decide ((100 : Int) < (c.toNat : Int)) = false := okt_byte ⟨i, hi4, hti⟩
            have hg : (⟨#[c]⟩ : ByteArray)[0]'(show 0 < 1 by omega) = c := rfl
            clear S9 HOk hti hi4
            rcases hd with hd | hd
            all_goals
              subst hd
              go_wp2_with fail
              go_roundw
              case rel => exact ⟨k + 1, _, by go_num, rfl, by omega, S10⟩
              case measure => simp [intOf]; omega
end Go.Proofs.YtidgpnanbbkakaaDoor
