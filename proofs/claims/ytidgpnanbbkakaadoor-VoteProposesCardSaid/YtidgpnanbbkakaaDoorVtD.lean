/- The document's own proposer: Decided, Accepted. -/
import Derived.Test.YtidgpnanbbkakaaDoorVtC
namespace Go.Proofs.YtidgpnanbbkakaaDoor
open Go Go.RowKit Tide

section
variable {W W' : World} {base q n : Nat} {own : ByteArray} {va vc : Value} {ans accs : List AnsV}
theorem yes_take (l : List AnsV) (i : Nat) (hi : i < l.length) : yesOf (l.take (i + 1)) = yesOf (l.take i) + if l[i].yes then 1 else 0 := by
  rw [List.take_succ_eq_append_getElem hi]
  unfold yesOf
  rw [List.countP_append]
  cases h : l[i].yes <;> simp [h]
/-- What Decided tells. -/
def TellR (W : World) (n : Nat) (own : ByteArray) (ans accs : List AnsV) (e : Ending) (w' : World) : Prop := ∃ (tx : ByteArray) (is : Bool), e = .returned (.tuple #[.string tx, .bool is]) ∧ Below W.heap.size W w' ∧ is = decide (n < 2 * yesOf (firstsV n accs)) ∧ tx = if is = true then (if decide (n < 2 * (asksOf n own (firstsV n ans)).cnt) = true then (asksOf n own (firstsV n ans)).text else ⟨#[]⟩) else ⟨#[]⟩
set_option maxRecDepth 100000 in
set_option maxHeartbeats 4000000 in
theorem rdecided_any (h : RefP W base q n own va vc ans accs) (hl : ans.length ≤ 1000) (hl2 : accs.length ≤ 1000) : Calls Tryd.prog 9 #[.pointer (some ⟨q, 0, none⟩)] W (TellR W n own ans accs) := by
  obtain ⟨hq, c0, c1, c2, c3, _⟩ := h.facts
  have CF := Lib.hid (rfirsts_any (W := W) (q := q) (n := n) (base := base) (v := vc) (l := accs) c0 h.accs hl2)
  have CA := Lib.hid (fun (Y : World) (hb : Below W.heap.size W Y) => rasks_any (h.below hb) hl)
  have HC := Lib.hid c0
  obtain ⟨A, cc, rfl⟩ := h.accs.form
  have hFl := firsts_len n accs
  obtain ⟨F, hF⟩ : ∃ F, firstsV n accs = F := ⟨_, rfl⟩
  have HF := Lib.hid hF
  rw [hF] at CF hFl
  obtain ⟨L, hL⟩ : ∃ L, accs.length = L := ⟨_, rfl⟩
  rw [hL] at c3 CF hl2 hFl
  obtain ⟨M, hM⟩ : ∃ M, F.length = M := ⟨_, rfl⟩
  have HM := Lib.hid hM
  have hM1 : M ≤ 1000 := by omega
  clear h hF hFl hl hl2 hL c2 hM
  go_enter Tryd.func9, Tryd.ntmps9
  go_wp2_with fail
  refine CF.out.mono ?_
  rintro e w1 ⟨v', rfl, ho, hb⟩
  obtain ⟨A1, k1, rfl⟩ := ho.form
  rw [HM.out] at ho ⊢
  have O0 := Lib.hid (show OwnA w1 W.heap.size (.slice A1 M k1) F from ho)
  have B0 := Lib.hid hb
  clear ho hb CF c0 c1 c3
  go_wp2_with fail
  go_loopw [16, 4] (fun t s4 wr => ∃ (i cnt : Nat), t = .int .i64 (i : Int) ∧ s4 = .int .i64 (cnt : Int) ∧ i ≤ M ∧ cnt ≤ i ∧ Hid (yesOf (F.take i) = cnt) ∧ Hid (OwnA wr W.heap.size (.slice A1 M k1) F) ∧ Hid (Below W.heap.size W wr)) (fun t _ _ => M - (intOf t).toNat)
  case atStart => exact ⟨0, 0, rfl, rfl, Nat.zero_le _, Nat.le_refl _, Lib.hid rfl, O0, B0⟩
  case round =>
    clear O0 B0
    obtain ⟨i, cnt, rfl, rfl, hi, hci, hs, hO, hB⟩ := hrel
    have c0 := (below_cells hB.out _ _ hq).trans HC.out
    by_cases hlt : i < M
    rotate_left
    focus
      obtain ⟨D, hD⟩ : ∃ D, 2 * cnt = D := ⟨_, rfl⟩
      have e2 : (2 : Int) * (cnt : Int) = (D : Int) := by omega
      have hD1 := (wr_small D (by omega)).1
      have hD2 := (wr_small D (by omega)).2
      have HD := Lib.hid hD
      have q2 : decide ((i : Int) < (M : Int)) = false := decide_eq_false (by clear hD1 hD2; omega)
      have HE := Lib.hid (show yesOf F = cnt from by
        have := hs.out
        have e : i = M := by clear hD1 hD2; omega
        rw [e, ← HM.out, List.take_length] at this
        exact this)
      have CA1 := Lib.hid (CA.out wr hB.out)
      by_cases hd : n < D
      focus
        have q3 : decide ((D : Int) ≤ (n : Int)) = false := decide_eq_false (by clear hD1 hD2; omega)
        have q4 : decide (D ≤ n) = false := decide_eq_false (by clear hD1 hD2; omega)
        have HR := Lib.hid (show true = decide (n < 2 * cnt) from by rw [HD.out]; exact (decide_eq_true hd).symm)
        clear hd hD
        go_wp2_with fail
        refine CA1.out.mono ?_
        rintro e w3 ⟨tx, is, rfl, hb3, his, htx⟩
        have HB3 := Lib.hid (hB.out.trans (hb3.mono hB.out.size))
        have HT := Lib.hid (show tx = if decide (n < 2 * (asksOf n own (firstsV n ans)).cnt) = true then (asksOf n own (firstsV n ans)).text else ⟨#[]⟩ from by rw [htx, his])
        clear hb3 his htx
        go_wp2_with fail
        go_ret2
        exact ⟨tx, true, rfl, HB3.out, by rw [HF.out, HE.out]; exact HR.out, by rw [HT.out]; rfl⟩
      focus
        have q3 : decide ((D : Int) ≤ (n : Int)) = true := decide_eq_true (by clear hD1 hD2; omega)
        have q4 : decide (D ≤ n) = true := decide_eq_true (by clear hD1 hD2; omega)
        have HR := Lib.hid (show false = decide (n < 2 * cnt) from by rw [HD.out]; exact (decide_eq_false hd).symm)
        clear hd hD
        go_wp2_with fail
        go_ret2
        exact ⟨⟨#[]⟩, false, rfl, hB.out, by rw [HF.out, HE.out]; exact HR.out, rfl⟩
    have q2 : decide ((i : Int) < (M : Int)) = true := decide_eq_true (by omega)
    have hC1 : wrap64 ((cnt : Int) + 1) = (cnt : Int) + 1 := (wr_small (cnt + 1) (by omega)).1
    have hC2 : IntKind.i64.wrap ((cnt : Int) + 1) = (cnt : Int) + 1 := (wr_small (cnt + 1) (by clear hC1; omega)).2
    obtain ⟨g, k2, hve, hg, x0, x1, x2, x3⟩ := hO.out.cells (i := i) (by rw [HM.out]; exact hlt)
    injection hve with e4 e6 e5
    clear e6
    subst e4 e5
    obtain ⟨a, ha⟩ : ∃ a : AnsV, a = F[i]'(by rw [HM.out]; exact hlt) := ⟨_, rfl⟩
    rw [← ha] at x0 x1 x2 x3
    have HS := Lib.hid (show yesOf (F.take (i + 1)) = cnt + if a.yes then 1 else 0 from by rw [yes_take F i (by rw [HM.out]; exact hlt), hs.out, ha])
    obtain ⟨fr, ys, ba, ta⟩ := a
    simp only at x0 x1 x2 x3
    have hb1 := (Below.refl wr.heap.size wr).alloc (Nat.le_refl _) (.cells #[.int .i64 fr, .bool ys, .int .i64 ba, .string ta] 43)
    have O1 := Lib.hid (hO.out.below hb1)
    have B1 := Lib.hid (hB.out.trans (hb1.mono hB.out.size))
    clear ha hb1 hO hB hs
    cases ys
    focus
      have HS1 := Lib.hid (show yesOf (F.take (i + 1)) = cnt from HS.out)
      go_wp2_with fail
      go_roundw
      case rel => exact ⟨i + 1, cnt, by go_num, rfl, by omega, by omega, HS1, O1, B1⟩
      case measure => simp [intOf]; omega
    focus
      have HS1 := Lib.hid (show yesOf (F.take (i + 1)) = cnt + 1 from HS.out)
      go_wp2_with fail
      go_roundw
      case rel => exact ⟨i + 1, cnt + 1, by go_num, by go_num, by omega, by omega, HS1, O1, B1⟩
      case measure => simp [intOf]; omega
theorem OwnA.block (h : OwnA W base va ans) {k : Nat} (hk : va.ownBlock = some k) : base ≤ k ∧ k < W.heap.size ∧ ∃ cur, W.heap[k]? = some (.cells cur 43 (0, 0)) := by
  rcases h.2 with ⟨rfl, _⟩ | ⟨g, cap, cur, rfl, hb, hg, _⟩
  · cases hk
  · injection hk with hk
    have e : g = k := hk
    subst e
    exact ⟨hb, (Array.getElem?_eq_some_iff.1 hg).1, cur, hg⟩
theorem RefP.ne (h : RefP W base q n own va vc ans accs) {v : Value} {l : List AnsV} (ho : OwnA W base v l) : v.ownBlock ≠ some q := fun e => by
  obtain ⟨_, _, cur, hc⟩ := ho.block e
  rw [h.cells] at hc
  injection hc with hc
  injection hc with _ hc
  cases hc
/-- A row that grew by one, kept in its cell. -/
theorem RefP.setC (h : RefP W base q n own va vc ans accs) {w3 : World} {v' : Value} {accs' : List AnsV} (hk : Kept (fun k => vc.ownBlock = some k) W w3) (ho : OwnA w3 base v' accs') (hg : ∀ k, v'.ownBlock = some k → vc.ownBlock = some k ∨ W.heap.size ≤ k) :
    RefP (w3.setCell ⟨q, 3, none⟩ v') base q n own va v' ans accs' ∧ Kept (fun j => j = q ∨ vc.ownBlock = some j) W (w3.setCell ⟨q, 3, none⟩ v') := by
  have hs : Kept (fun j => j = q) w3 (w3.setCell ⟨q, 3, none⟩ v') := Kept.setCell (F := fun j => j = q) (Kept.refl _ w3) (p := ⟨q, 3, none⟩) (.inl rfl) v'
  have hc3 := hk.heap h.cells (fun e => h.ne h.accs e)
  have hq := (box4a h.cells).1
  refine ⟨⟨heap_setCell_same _ _ _ _ _ _ hc3, (h.ans.kept hk (fun k e e' => h.two k e e')).kept hs (fun k e e' => ?_), ho.kept hs (fun k e e' => ?_), fun k e e' => ?_⟩, (hk.mono (fun _ _ e => .inr e)).trans hs (fun i hi => .inl (.inl hi))⟩
  · subst e'; exact h.ne h.ans e
  · subst e'
    rcases hg _ e with h1 | h1
    · exact h.ne h.accs h1
    · omega
  · rcases hg k e' with h1 | h1
    · exact h.two k e h1
    · have := (h.ans.block e).2.1; omega
theorem RefP.setA (h : RefP W base q n own va vc ans accs) {w3 : World} {v' : Value} {ans' : List AnsV} (hk : Kept (fun k => va.ownBlock = some k) W w3) (ho : OwnA w3 base v' ans') (hg : ∀ k, v'.ownBlock = some k → va.ownBlock = some k ∨ W.heap.size ≤ k) :
    RefP (w3.setCell ⟨q, 2, none⟩ v') base q n own v' vc ans' accs ∧ Kept (fun j => j = q ∨ va.ownBlock = some j) W (w3.setCell ⟨q, 2, none⟩ v') := by
  have hs : Kept (fun j => j = q) w3 (w3.setCell ⟨q, 2, none⟩ v') := Kept.setCell (F := fun j => j = q) (Kept.refl _ w3) (p := ⟨q, 2, none⟩) (.inl rfl) v'
  have hc3 := hk.heap h.cells (fun e => h.ne h.ans e)
  have hq := (box4a h.cells).1
  refine ⟨⟨heap_setCell_same _ _ _ _ _ _ hc3, ho.kept hs (fun k e e' => ?_), (h.accs.kept hk (fun k e e' => h.two k e' e)).kept hs (fun k e e' => ?_), fun k e e' => ?_⟩, (hk.mono (fun _ _ e => .inr e)).trans hs (fun i hi => .inl (.inl hi))⟩
  · subst e'
    rcases hg _ e with h1 | h1
    · exact h.ne h.ans h1
    · omega
  · subst e'; exact h.ne h.accs e
  · rcases hg k e with h1 | h1
    · exact h.two k h1 e'
    · have := (h.accs.block e').2.1; omega
/-- What Accepted leaves. -/
def TookR (W : World) (base q n : Nat) (own : ByteArray) (va vc : Value) (ans accs : List AnsV) (e : Ending) (w' : World) : Prop := e = .returned (.tuple #[]) ∧ ∃ vc', RefP w' base q n own va vc' ans accs ∧ Kept (fun j => j = q ∨ vc.ownBlock = some j) W w'
set_option maxRecDepth 100000 in
theorem raccepted_any (h : RefP W base q n own va vc ans accs) (hl : ans.length ≤ 1000) (hl2 : accs.length ≤ 1000) (hb : base ≤ W.heap.size) (k : Int) (yes : Bool) : Calls Tryd.prog 8 #[.pointer (some ⟨q, 0, none⟩), .int .i64 k, .bool yes] W
    (TookR W base q n own va vc ans (if decide (n < 2 * (asksOf n own (firstsV n ans)).cnt) = true then accs ++ [⟨k, yes, 0, ⟨#[]⟩⟩] else accs)) := by
  have CA := Lib.hid (rasks_any h hl)
  have H := Lib.hid h
  obtain ⟨R, hR⟩ : ∃ R, decide (n < 2 * (asksOf n own (firstsV n ans)).cnt) = R := ⟨_, rfl⟩
  rw [hR] at CA ⊢
  obtain ⟨ac, hac⟩ : ∃ ac, (if R = true then accs ++ [⟨k, yes, 0, ⟨#[]⟩⟩] else accs) = ac := ⟨_, rfl⟩
  rw [hac]
  have HAc := Lib.hid hac
  clear h hR hac
  go_enter Tryd.func8, Tryd.ntmps8
  go_wp2_with fail
  refine CA.out.mono ?_
  rintro e w1 ⟨tx, is, rfl, hb1, his, _⟩
  subst his
  have H1 := Lib.hid (H.out.below hb1)
  have B1 := Lib.hid hb1
  clear hb1 CA
  cases is
  focus
    go_wp2_with fail
    go_end0
    exact ⟨rfl, vc, by rw [← HAc.out]; exact H1.out, Kept.of_below B1.out⟩
  obtain ⟨hq, c0, c1, c2, c3, f0⟩ := H1.out.facts
  have HA := Lib.hid H1.out.accs
  obtain ⟨A, c, hvc⟩ := H1.out.accs.form
  have HVc := Lib.hid hvc
  obtain ⟨L, hL⟩ : ∃ L, accs.length = L := ⟨_, rfl⟩
  rw [hvc, hL] at c3
  rw [hvc, hL] at HA
  have HL := Lib.hid hL
  have hl3 : L ≤ 1000 := by omega
  clear hl hl2 hL hvc c0 c1 c2
  have hst : ∀ (g cap : Nat) (w3 : World), OwnA w3 base (.slice (some ⟨g, 0, none⟩) (accs.length + 1) cap) (accs ++ [⟨k, yes, 0, ⟨#[]⟩⟩]) → Kept (fun k => (Value.slice A L c).ownBlock = some k) w1 w3 → ((Value.slice A L c).ownBlock = some g ∨ w1.heap.size ≤ g) →
      q < w3.heap.size ∧ w3.cell? ⟨q, 3, none⟩ = some vc ∧ (∀ i, w3.frozen? ⟨q, i, none⟩ = false) ∧ Hid (RefP (w3.setCell ⟨q, 3, none⟩ (.slice (some ⟨g, 0, none⟩) (accs.length + 1) cap)) base q n own va (.slice (some ⟨g, 0, none⟩) (accs.length + 1) cap) ans (accs ++ [⟨k, yes, 0, ⟨#[]⟩⟩]) ∧ Kept (fun j => j = q ∨ vc.ownBlock = some j) w1 (w3.setCell ⟨q, 3, none⟩ (.slice (some ⟨g, 0, none⟩) (accs.length + 1) cap))) := fun g cap w3 h1 h2 h3 => by
    have e1 : (Value.slice A L c) = vc := by rw [HVc.out, HL.out]
    have hk3 : Kept (fun k => vc.ownBlock = some k) w1 w3 := by rw [← e1]; exact h2
    have hc3 := hk3.heap H1.out.cells (fun e => H1.out.ne H1.out.accs e)
    obtain ⟨hq3, _, _, _, d3⟩ := box4a hc3
    refine ⟨hq3, d3, fun i => frozen_of_row _ _ i _ _ hc3, Lib.hid (H1.out.setC hk3 h1 (fun j e => ?_))⟩
    injection e with e
    have e : g = j := e
    subst e
    rcases h3 with h3 | h3
    · exact .inl (by rw [← e1]; exact h3)
    · exact .inr h3
  have HSt := Lib.hid hst
  clear hst
  go_wp2_with (at_builtin; refine wpList_pushA rfl (.tmp 18) (.tmp 22) rfl ⟨k, yes, 0, ⟨#[]⟩⟩ rfl rfl HA.out (by rw [HL.out]; omega) (Nat.le_trans hb B1.out.size) ?_; intro g cap w3 h1 h2 h3 h4; obtain ⟨hq3, d3, hf3, HE⟩ := HSt.out g cap w3 h1 h2 h3; clear h1 h2 h3 h4)
  go_end0
  exact ⟨rfl, _, by rw [← HAc.out]; exact HE.out.1, (Kept.of_below (F := fun j => j = q ∨ vc.ownBlock = some j) B1.out).trans HE.out.2 (fun i hi => .inl hi)⟩
end
end Go.Proofs.YtidgpnanbbkakaaDoor
