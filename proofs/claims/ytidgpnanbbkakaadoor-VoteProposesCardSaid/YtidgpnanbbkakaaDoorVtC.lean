/- The document's own proposer: Asks, Decided, Accepted. -/
import Derived.Test.YtidgpnanbbkakaaDoorVtB
namespace Go.Proofs.YtidgpnanbbkakaaDoor
open Go Go.RowKit Tide

/-- The document's own proposer in memory: its four cells, its two rows. -/
structure RefP (W : World) (base q n : Nat) (own : ByteArray) (va vc : Value) (ans accs : List AnsV) : Prop where
  cells : W.heap[q]? = some (.cells #[.int .i64 (n : Int), .string own, va, vc] 33 (0, 0))
  ans : OwnA W base va ans
  accs : OwnA W base vc accs
  two : ∀ k, va.ownBlock = some k → vc.ownBlock ≠ some k
section
variable {W W' : World} {base q n : Nat} {own : ByteArray} {va vc : Value} {ans accs : List AnsV}
theorem RefP.kept {F : Nat → Prop} (h : RefP W base q n own va vc ans accs) (hk : Kept F W W') (hq : ¬ F q) (ha : ∀ k, va.ownBlock = some k → ¬ F k) (hc : ∀ k, vc.ownBlock = some k → ¬ F k) : RefP W' base q n own va vc ans accs := ⟨hk.heap h.cells hq, h.ans.kept hk ha, h.accs.kept hk hc, h.two⟩
theorem RefP.below (h : RefP W base q n own va vc ans accs) (hb : Below W.heap.size W W') : RefP W' base q n own va vc ans accs := h.kept (F := fun _ => False) (Kept.of_below hb) (fun h => h) (fun _ _ h => h) (fun _ _ h => h)
theorem RefP.facts (h : RefP W base q n own va vc ans accs) : q < W.heap.size ∧ W.cell? ⟨q, 0, none⟩ = some (.int .i64 (n : Int)) ∧ W.cell? ⟨q, 1, none⟩ = some (.string own) ∧ W.cell? ⟨q, 2, none⟩ = some va ∧ W.cell? ⟨q, 3, none⟩ = some vc ∧ ∀ i, W.frozen? ⟨q, i, none⟩ = false := by
  obtain ⟨h0, h1, h2, h3, h4⟩ := box4a h.cells
  exact ⟨h0, h1, h2, h3, h4, fun i => frozen_of_row _ _ i _ _ h.cells⟩
theorem asks_take (n : Nat) (own : ByteArray) (l : List AnsV) (i : Nat) (hi : i < l.length) : asksOf n own (l.take (i + 1)) = askV n (asksOf n own (l.take i)) l[i] := by
  rw [List.take_succ_eq_append_getElem hi]
  unfold asksOf
  rw [List.foldl_append]
  rfl
theorem wr_small (m : Nat) (h : m ≤ 1000000) : wrap64 (m : Int) = (m : Int) ∧ IntKind.i64.wrap (m : Int) = (m : Int) := by
  refine ⟨?_, ?_⟩
  · unfold wrap64; omega
  · simp [IntKind.wrap, IntKind.signed, IntKind.bits]; omega
set_option maxRecDepth 100000 in
set_option maxHeartbeats 4000000 in
theorem rasks_any (h : RefP W base q n own va vc ans accs) (hl : ans.length ≤ 1000) : Calls Tryd.prog 11 #[.pointer (some ⟨q, 0, none⟩)] W fun e w' => ∃ (tx : ByteArray) (is : Bool), e = .returned (.tuple #[.string tx, .bool is]) ∧ Below W.heap.size W w' ∧ is = decide (n < 2 * (asksOf n own (firstsV n ans)).cnt) ∧ tx = if is = true then (asksOf n own (firstsV n ans)).text else ⟨#[]⟩ := by
  obtain ⟨hq, c0, c1, c2, c3, _⟩ := h.facts
  have CF := Lib.hid (fun k => rfirsts_any (W := W.drewN k) (q := q) (n := n) (base := base) (v := va) (l := ans) c0 h.ans hl)
  have HC := Lib.hid c0
  obtain ⟨A, cc, rfl⟩ := h.ans.form
  have hFl := firsts_len n ans
  obtain ⟨F, hF⟩ : ∃ F, firstsV n ans = F := ⟨_, rfl⟩
  rw [hF] at CF hFl ⊢
  obtain ⟨L, hL⟩ : ∃ L, ans.length = L := ⟨_, rfl⟩
  rw [hL] at c2 CF hl hFl
  obtain ⟨M, hM⟩ : ∃ M, F.length = M := ⟨_, rfl⟩
  have HM := Lib.hid hM
  have hM1 : M ≤ 1000 := by omega
  clear h hF hFl hl hL c3 hM
  go_enter Tryd.func11, Tryd.ntmps11
  go_wp2_with fail
  go_quiet (fail)
  go_wp2_with fail
  refine (CF.out nq).mono ?_
  rintro e w1 ⟨v', rfl, ho, hb⟩
  obtain ⟨A1, k1, rfl⟩ := ho.form
  rw [HM.out] at ho ⊢
  have O0 := Lib.hid (show OwnA w1 W.heap.size (.slice A1 M k1) F from ho)
  have B0 := Lib.hid (show Below W.heap.size W w1 from ⟨hb.os, hb.tape, hb.output, hb.size, hb.block⟩)
  clear ho hb CF c0 c1 c2
  go_wp2_with fail
  go_loopw [20, 4, 5, 6] (fun t s4 s5 s6 wr => ∃ (i cnt : Nat) (best : Int) (tx : ByteArray), t = .int .i64 (i : Int) ∧ s4 = .int .i64 (cnt : Int) ∧ s5 = .int .i64 best ∧ s6 = .string tx ∧ i ≤ M ∧ cnt ≤ i ∧ Hid (asksOf n own (F.take i) = ⟨cnt, best, tx⟩) ∧ Hid (OwnA wr W.heap.size (.slice A1 M k1) F) ∧ Hid (Below W.heap.size W wr)) (fun t _ _ _ _ => M - (intOf t).toNat)
  case atStart => exact ⟨0, 0, -1, own, rfl, rfl, rfl, rfl, Nat.zero_le _, Nat.le_refl _, Lib.hid rfl, O0, B0⟩
  case round =>
    clear O0 B0
    obtain ⟨i, cnt, best, tx, rfl, rfl, rfl, rfl, hi, hci, hs, hO, hB⟩ := hrel
    obtain ⟨D, hD⟩ : ∃ D, 2 * cnt = D := ⟨_, rfl⟩
    have e2 : (2 : Int) * (cnt : Int) = (D : Int) := by omega
    have hD1 := (wr_small D (by omega)).1
    have hD2 := (wr_small D (by omega)).2
    have hC1 : wrap64 ((cnt : Int) + 1) = (cnt : Int) + 1 := (wr_small (cnt + 1) (by omega)).1
    have hC2 : IntKind.i64.wrap ((cnt : Int) + 1) = (cnt : Int) + 1 := (wr_small (cnt + 1) (by omega)).2
    have HD := Lib.hid hD
    have c0 := (below_cells hB.out _ _ hq).trans HC.out
    by_cases hlt : i < M
    rotate_left
    focus
      have q2 : decide ((i : Int) < (M : Int)) = false := decide_eq_false (by omega)
      have HE := Lib.hid (show asksOf n own F = ⟨cnt, best, tx⟩ from by
        have := hs.out
        have e : i = M := by omega
        rw [e, ← HM.out, List.take_length] at this
        exact this)
      by_cases hd : n < D
      focus
        have q3 : decide ((D : Int) ≤ (n : Int)) = false := decide_eq_false (by omega)
        have q4 : decide (D ≤ n) = false := decide_eq_false (by omega)
        have HR := Lib.hid (show true = decide (n < 2 * cnt) from by rw [HD.out]; exact (decide_eq_true hd).symm)
        clear hd hD
        go_wp2_with fail
        go_ret2
        exact ⟨tx, true, rfl, hB.out, by rw [HE.out]; exact HR.out, by rw [HE.out]; rfl⟩
      focus
        have q3 : decide ((D : Int) ≤ (n : Int)) = true := decide_eq_true (by omega)
        have q4 : decide (D ≤ n) = true := decide_eq_true (by omega)
        have HR := Lib.hid (show false = decide (n < 2 * cnt) from by rw [HD.out]; exact (decide_eq_false hd).symm)
        clear hd hD
        go_wp2_with fail
        go_ret2
        exact ⟨⟨#[]⟩, false, rfl, hB.out, by rw [HE.out]; exact HR.out, by rw [HE.out]; rfl⟩
    have q2 : decide ((i : Int) < (M : Int)) = true := decide_eq_true (by omega)
    obtain ⟨g, k2, hve, hg, x0, x1, x2, x3⟩ := hO.out.cells (i := i) (by rw [HM.out]; exact hlt)
    injection hve with e4 e6 e5
    clear e6
    subst e4 e5
    obtain ⟨a, ha⟩ : ∃ a : AnsV, a = F[i]'(by rw [HM.out]; exact hlt) := ⟨_, rfl⟩
    rw [← ha] at x0 x1 x2 x3
    have HS := Lib.hid (show asksOf n own (F.take (i + 1)) = askV n ⟨cnt, best, tx⟩ a from by rw [asks_take n own F i (by rw [HM.out]; exact hlt), hs.out, ha])
    obtain ⟨fr, ys, ba, ta⟩ := a
    simp only at x0 x1 x2 x3
    have hb1 := (Below.refl wr.heap.size wr).alloc (Nat.le_refl _) (.cells #[.int .i64 fr, .bool ys, .int .i64 ba, .string ta] 43)
    have O1 := Lib.hid (hO.out.below hb1)
    have B1 := Lib.hid (hB.out.trans (hb1.mono hB.out.size))
    have hqr : q < wr.heap.size := Nat.lt_of_lt_of_le hq hB.out.size
    clear ha hb1 hO hB hs
    cases ys
    focus
      have HS1 := Lib.hid (show asksOf n own (F.take (i + 1)) = ⟨cnt, best, tx⟩ from HS.out)
      clear hD
      go_wp2_with fail
      go_roundw
      case rel => exact ⟨i + 1, cnt, best, tx, by go_num, rfl, rfl, rfl, by omega, by omega, HS1, O1, B1⟩
      case measure => simp [intOf]; omega
    by_cases hd : n < D
    focus
      have q3 : decide ((n : Int) < (D : Int)) = true := decide_eq_true (by omega)
      have q4 : decide (n < D) = true := decide_eq_true hd
      have HS1 := Lib.hid (show asksOf n own (F.take (i + 1)) = ⟨cnt, best, tx⟩ from by rw [HS.out]; unfold askV; rw [if_pos (by simp; omega)])
      clear hd hD
      go_wp2_with fail
      go_roundw
      case rel => exact ⟨i + 1, cnt, best, tx, by go_num, rfl, rfl, rfl, by omega, by omega, HS1, O1, B1⟩
      case measure => simp [intOf]; omega
    have q3 : decide ((n : Int) < (D : Int)) = false := decide_eq_false (by omega)
    have q4 : decide (n < D) = false := decide_eq_false hd
    by_cases hba : best < ba
    focus
      have q5 : decide (best < ba) = true := decide_eq_true hba
      have HS1 := Lib.hid (show asksOf n own (F.take (i + 1)) = ⟨cnt + 1, ba, ta⟩ from by rw [HS.out]; unfold askV; rw [if_neg (by simp; omega), if_pos hba])
      clear hd hD hba
      go_wp2_with fail
      go_quiet (fail)
      go_wp2_with fail
      go_roundw
      case rel => exact ⟨i + 1, cnt + 1, ba, ta, by go_num, by go_num, rfl, rfl, by omega, by omega, HS1, Lib.hid O1.out, Lib.hid ⟨B1.out.os, B1.out.tape, B1.out.output, B1.out.size, B1.out.block⟩⟩
      case measure => simp [intOf]; omega
    focus
      have q5 : decide (best < ba) = false := decide_eq_false hba
      have HS1 := Lib.hid (show asksOf n own (F.take (i + 1)) = ⟨cnt + 1, best, tx⟩ from by rw [HS.out]; unfold askV; rw [if_neg (by simp; omega), if_neg hba])
      clear hd hD hba
      go_wp2_with fail
      go_roundw
      case rel => exact ⟨i + 1, cnt + 1, best, tx, by go_num, by go_num, rfl, rfl, by omega, by omega, HS1, O1, B1⟩
      case measure => simp [intOf]; omega
end
end Go.Proofs.YtidgpnanbbkakaaDoor
