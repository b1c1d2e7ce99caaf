/- What a reader's Text and Nums answer: a reader's functions do what the laws' walks want. -/
import Derived.Test.YtcmihmilkcihcaaDoorPackIm
namespace Go.Proofs.YtcmihmilkcihcaaDoor
open Go.RowKit Tide

/-- A read behind a read. -/
theorem inR_trans {I : InP} {W w1 w2 : World} {F F1 : Nat → Prop} {B p er : Nat} {rest : List UInt8} {ans : Value → World → Prop} {e : Ending} (hF1 : ∀ k, F1 k → F k ∨ W.heap.size ≤ k) (hK1 : Kept F W w1) (h : InR I w1 F1 B p rest er ans e w2) : InR I W F B p rest er ans e w2 := by
  obtain ⟨v, F2, he, ha, hO, hF2, hK2⟩ := h
  refine ⟨v, F2, he, ha, hO, fun k hf => ?_, hK1.trans hK2 hF1⟩
  rcases hF2 k hf with h | h
  · exact hF1 k h
  · exact .inr (Nat.le_trans hK1.size h)
theorem inNum_len (l : List UInt8) (e : Nat) (most : Int) : (inNum l e most).1.length ≤ l.length := by
  unfold inNum
  split
  · exact Nat.le_refl _
  · split
    · exact Nat.le_refl _
    · split <;> simp
theorem inNum_zero (l : List UInt8) (e : Nat) (most : Int) (h : (inNum l e most).2.1 ≠ 0) : (inNum l e most).2.2 = 0 := by
  unfold inNum at *
  split
  · rfl
  · rename_i h1
    split
    · rfl
    · rename_i h2
      rw [if_neg h1, if_neg h2] at h
      split
      · rfl
      · rename_i h3
        rw [if_neg h3] at h
        exact absurd rfl h
theorem inNum_most (l : List UInt8) (e : Nat) (most : Int) (h : (inNum l e most).2.1 = 0) : ((inNum l e most).2.2 : Int) ≤ most := by
  unfold inNum at *
  split
  · rename_i h1
    rw [if_pos h1] at h
    exact absurd h h1
  · rename_i h1
    rw [if_neg h1] at h
    split
    · rename_i h2
      rw [if_pos h2] at h
      exact absurd h h2
    · rename_i h2
      rw [if_neg h2] at h
      split
      · rename_i h3
        rw [if_pos h3] at h
        simp at h
      · rename_i h3
        show (((rdNum l).2.1 : Nat) : Int) ≤ most
        omega

set_option maxHeartbeats 1000000 in
theorem itext_any (a : Nat → Addr) (W : World) (F : Nat → Prop) (B p : Nat) (l : List UInt8) (e : Nat) (most : Int) (h : InS a W F B p l e) (hl : l.length ≤ 100000) (hE : Errs W a) :
    Calls Tryd.prog 23 #[.pointer (some ⟨p, 0, none⟩), .int .i64 most] W
      (InR (InS a) W F B p (inText l e most).1 (inText l e most).2.1 fun v _ => v = .string ⟨(inText l e most).2.2.toArray⟩) := by
  have HE := Lib.hid hE
  have H := Lib.hid h
  have hn := inum_any a W F B p l e most h hl hE
  unfold NumIR at hn
  have hz := inNum_zero l e most
  have hln := Nat.le_trans (inNum_len l e most) hl
  obtain ⟨r, hr⟩ : ∃ r, inNum l e most = r := ⟨_, rfl⟩
  have hT : inText l e most = if r.2.1 ≠ 0 then (r.1, r.2.1, []) else if r.1.length < r.2.2 then (r.1, 2, []) else (r.1.drop r.2.2, 0, r.1.take r.2.2) := by
    unfold inText
    rw [hr]
  rw [hr] at hn hz hln
  obtain ⟨l1, e1, n⟩ := r
  simp only at hn hz hln hT
  have CN := Lib.hid hn
  clear hE h hl hn hr
  go_enter Tryd.func23, Tryd.ntmps23
  go_wp2_with fail
  refine CN.out.mono ?_
  rintro en w1 ⟨v, F1, rfl, rfl, hI1, hF1, hK1⟩
  have HI1 := Lib.hid hI1
  have HF1 := Lib.hid hF1
  have HK1 := Lib.hid hK1
  obtain ⟨A, c, x, h4, h5, h6⟩ := inS_form hI1
  have H4 := Lib.hid h4
  have H5 := Lib.hid h5
  obtain ⟨_, g0, g1, gf⟩ := h4.facts
  have HE1 := Lib.hid (HE.out.kept hK1 H.out.2.2.2.1)
  have hx : (∃ b, x = errAt b) ∨ x = .nilIface := by
    rcases h5 with ⟨_, h⟩ | ⟨m, _, _, h⟩
    · exact .inr h
    · exact .inl ⟨_, h⟩
  by_cases hlong : l1.length < n
  · have he1 : e1 = 0 := by
      rcases Nat.eq_zero_or_pos e1 with h | h
      · exact h
      · have := hz (by omega); omega
    subst he1
    rw [if_neg (by simp), if_pos hlong] at hT
    have HT := Lib.hid hT
    have H6 := Lib.hid h6
    have hq : decide ((l1.length : Int) < (n : Int)) = true := decide_eq_true (by omega)
    have hg := HE1.out.var 1 (by omega)
    simp only [evars, List.getD_cons_zero, List.getD_cons_succ] at hg
    clear hI1 hF1 hK1 h4 h5 h6 hz hT
    rcases hx with ⟨b, rfl⟩ | rfl
    · exfalso
      rcases H5.out with ⟨_, h⟩ | ⟨m, _, h0, _⟩
      · cases h
      · omega
    go_wp2_with fail
    go_ret
    obtain ⟨hi, hf, hk⟩ := inS_put HI1.out (w2 := w1.setCell ⟨p, 1, none⟩ (errAt (a 1))) (e' := 2) ((Kept.refl (fun k => k = p) w1).setCell (p := ⟨p, 1, none⟩) (.inl rfl) _) (H4.out.setB _) (isErr_at a 1 (by omega)) H6.out
    exact inR_trans HF1.out HK1.out ⟨_, F1, rfl, by rw [HT.out]; rfl, by rw [HT.out]; exact hi, fun k hf => .inl hf, hk⟩
  · obtain ⟨A', c', l', hl', hcut, hbi⟩ := cutIn_l h6 n (n : Nat) rfl (by omega)
    obtain ⟨A2, c2, l2, hl2, hcut2, hb2⟩ := cut_h (h6.bytes (B := w1.heap.size) (fun k hf => (hI1.2.2.1 k hf.1).2)) n (n : Nat) rfl (by omega)
    have cv := conv_bytes hb2
    have hT2 : inText l e most = (l', e1, l2) := by
      rw [hT, hl'.out, hl2.out]
      by_cases he : e1 = 0
      · rw [if_neg (by simpa using he), if_neg (by omega), he]
      · have hn0 : n = 0 := hz he
        rw [if_pos he, hn0]
        simp
    have HT := Lib.hid hT2
    have HBI := Lib.hid hbi
    have hq : decide ((l1.length : Int) < (n : Int)) = false := decide_eq_false (by omega)
    have hnl : ¬ l1.length < n := hlong
    clear hI1 hF1 hK1 h4 h5 h6 hz hT hT2 hbi hb2 hx hlong
    go_wp2_with fail
    go_ret
    obtain ⟨hi, hf, hk⟩ := inS_put HI1.out (w2 := w1.setCell ⟨p, 0, none⟩ (.slice A' l'.length c')) (e' := e1) ((Kept.refl (fun k => k = p) w1).setCell (p := ⟨p, 0, none⟩) (.inl rfl) _) (H4.out.setA _) H5.out HBI.out
    exact inR_trans HF1.out HK1.out ⟨_, F1, rfl, by rw [HT.out]; rfl, by rw [HT.out]; exact hi, fun k hf => .inl hf, hk⟩

/-- What was read, ahead of what follows. -/
def comb (g : List Nat) (s : List UInt8 × Nat × List Nat) : List UInt8 × Nat × List Nat := if s.2.1 ≠ 0 then (s.1, s.2.1, []) else (s.1, 0, g ++ s.2.2)
theorem comb_nil (k : Nat) (l : List UInt8) (most : Int) : inMany k l 0 most = comb [] (inMany k l 0 most) := by
  have h : ∀ (k : Nat) (l : List UInt8), (inMany k l 0 most).2.1 ≠ 0 → (inMany k l 0 most).2.2 = [] := by
    intro k l hne
    cases k with
    | zero => exact absurd rfl hne
    | succ k =>
      unfold inMany at *
      simp only at *
      split
      · rfl
      · rename_i h1
        rw [if_neg h1] at hne
        split
        · rfl
        · rename_i h2
          rw [if_neg h2] at hne
          exact absurd rfl hne
  have h' := h k l
  generalize inMany k l 0 most = s at *
  obtain ⟨x, y, z⟩ := s
  simp only at h'
  unfold comb
  by_cases hy : y = 0
  · subst hy
    rw [if_neg (by simp)]
    rfl
  · rw [if_pos hy, h' hy]
theorem comb_step (g : List Nat) (j : Nat) (l : List UInt8) (most : Int) (h : (inNum l 0 most).2.1 = 0) : comb g (inMany (j + 1) l 0 most) = comb (g ++ [(inNum l 0 most).2.2]) (inMany j (inNum l 0 most).1 0 most) := by
  rw [show inMany (j + 1) l 0 most = if (inNum l 0 most).2.1 ≠ 0 then ((inNum l 0 most).1, (inNum l 0 most).2.1, []) else if (inMany j (inNum l 0 most).1 0 most).2.1 ≠ 0 then ((inMany j (inNum l 0 most).1 0 most).1, (inMany j (inNum l 0 most).1 0 most).2.1, []) else ((inMany j (inNum l 0 most).1 0 most).1, 0, (inNum l 0 most).2.2 :: (inMany j (inNum l 0 most).1 0 most).2.2) from rfl]
  rw [if_neg (by simpa using h)]
  unfold comb
  by_cases h2 : (inMany j (inNum l 0 most).1 0 most).2.1 ≠ 0
  · rw [if_pos h2, if_pos h2, if_pos h2]
  · rw [if_neg h2, if_neg h2, if_neg (by simp)]
    simp
theorem comb_bad (g : List Nat) (j : Nat) (l : List UInt8) (most : Int) (h : (inNum l 0 most).2.1 ≠ 0) : comb g (inMany (j + 1) l 0 most) = ((inNum l 0 most).1, (inNum l 0 most).2.1, []) := by
  rw [show inMany (j + 1) l 0 most = if (inNum l 0 most).2.1 ≠ 0 then ((inNum l 0 most).1, (inNum l 0 most).2.1, []) else if (inMany j (inNum l 0 most).1 0 most).2.1 ≠ 0 then ((inMany j (inNum l 0 most).1 0 most).1, (inMany j (inNum l 0 most).1 0 most).2.1, []) else ((inMany j (inNum l 0 most).1 0 most).1, 0, (inNum l 0 most).2.2 :: (inMany j (inNum l 0 most).1 0 most).2.2) from rfl]
  rw [if_pos h]
  unfold comb
  rw [if_pos h]
/-- Numbers as cells. -/
def natv (g : List Nat) : List Value := int64s (g.map Int.ofNat)
theorem natv_length (g : List Nat) : (natv g).length = g.length := by simp [natv, int64s]
theorem natv_snoc (g : List Nat) (n : Nat) : natv g ++ [Value.int .i64 (n : Nat)] = natv (g ++ [n]) := by simp [natv, int64s]
theorem infoI2 : (Tryd.prog.info? 3).map (fun i => (i.zero, i.size, i.bytes)) = some (some (.int .i64 0), 1, 8) := by kernel_rfl
/-- A reader, and a list of the call's own. -/
structure NS (a : Nat → Addr) (W : World) (F : Nat → Prop) (B p : Nat) (l : List UInt8) (g : List Nat) (u : Value) (F1 : Nat → Prop) (wr : World) : Prop where
  inn : InS a wr F1 B p l 0
  sub : ∀ k, F1 k → F k ∨ W.heap.size ≤ k
  kept : Kept F W wr
  own : wr.ownsRow W.heap.size 3 1 u g.length (natv g)
  apart : ∀ k, u.ownBlock = some k → ¬ F1 k
  len : l.length ≤ 100000

set_option maxRecDepth 100000 in
set_option maxHeartbeats 2000000 in
theorem inums_any (a : Nat → Addr) (W : World) (F : Nat → Prop) (B p : Nat) (l : List UInt8) (e : Nat) (many most : Int) (h : InS a W F B p l e) (hl : l.length ≤ 100000) (hmany : many ≤ 1000) (hE : Errs W a) :
    Calls Tryd.prog 24 #[.pointer (some ⟨p, 0, none⟩), .int .i64 many, .int .i64 most] W
      (InR (InS a) W F B p (inNums l e many most).1 (inNums l e many most).2.1 fun v w' => Row w' w'.heap.size v (int64s ((inNums l e many most).2.2.map Int.ofNat))) := by
  obtain ⟨i0, hi, hz0, hz1, hz2⟩ := info_parts infoI2
  have HI := Lib.hid hi
  have HE := Lib.hid hE
  have H := Lib.hid h
  have hn := inum_any a W F B p l e many h hl hE
  unfold NumIR at hn
  have hz := inNum_zero l e many
  have hmo := inNum_most l e many
  have hln := Nat.le_trans (inNum_len l e many) hl
  obtain ⟨r, hr⟩ : ∃ r, inNum l e many = r := ⟨_, rfl⟩
  have hT : inNums l e many most = if r.2.1 ≠ 0 then (r.1, r.2.1, []) else inMany r.2.2 r.1 0 most := by
    unfold inNums
    rw [hr]
  rw [hr] at hn hz hln hmo
  obtain ⟨l1, e1, n⟩ := r
  simp only at hn hz hln hT hmo
  have CN := Lib.hid hn
  clear hi hE h hl hn hr
  go_enter Tryd.func24, Tryd.ntmps24
  go_wp2_with fail
  refine CN.out.mono ?_
  rintro en w1 ⟨v, F1, rfl, rfl, hI1, hF1, hK1⟩
  have HI1 := Lib.hid hI1
  have HF1 := Lib.hid hF1
  have HK1 := Lib.hid hK1
  clear hI1 hF1 hK1
  by_cases he : e1 = 0
  · have hn1000 : n ≤ 1000 := by have := hmo he; omega
    rw [if_neg (by simpa using he)] at hT
    have HT := Lib.hid hT
    have S1 := Lib.hid (show ∃ F1, NS a W F B p l1 [] (.slice none 0 0) F1 w1 from ⟨F1, he ▸ HI1.out, HF1.out, HK1.out, ⟨rfl, .inl ⟨rfl, rfl⟩⟩, fun k hk => by simp [Value.ownBlock] at hk, hln⟩)
    clear hz hmo hT he hln
    go_wp2_with fail
    go_loopw [7, 12] (fun u i wr => ∃ (k : Nat) (rk : List UInt8) (g : List Nat), i = .int .i64 k ∧ k ≤ n ∧ Hid (g.length = k ∧ ∀ j, inMany (k + j) l1 0 most = comb g (inMany j rk 0 most)) ∧ Hid (∃ F1, NS a W F B p rk g u F1 wr)) (fun _ i _ => n - (intOf i).toNat)
    case atStart => exact ⟨0, l1, [], rfl, Nat.zero_le _, Lib.hid ⟨rfl, fun j => by rw [Nat.zero_add]; exact comb_nil j l1 most⟩, S1⟩
    case round =>
      obtain ⟨k, rk, g, rfl, hk, hg, hS⟩ := hrel
      obtain ⟨F2, hns⟩ := hS.out
      have HNS := Lib.hid hns
      by_cases hlt : k < n
      · have hn2 := inum_any a _ F2 B p rk 0 most hns.inn hns.len (HE.out.kept hns.kept H.out.2.2.2.1)
        unfold NumIR at hn2
        have hst := comb_step g (n - (k + 1)) rk most
        have hst' := fun j => comb_step g j rk most
        have hbd := comb_bad g (n - (k + 1)) rk most
        have hz2' := inNum_zero rk 0 most
        have hln2 := Nat.le_trans (inNum_len rk 0 most) hns.len
        obtain ⟨r2, hr2⟩ : ∃ r2, inNum rk 0 most = r2 := ⟨_, rfl⟩
        rw [hr2] at hn2 hst hbd hz2' hln2
        simp only [hr2] at hst'
        obtain ⟨l2, e2, m⟩ := r2
        simp only at hn2 hst hbd hz2' hln2 hst'
        have CN2 := Lib.hid hn2
        have HST := Lib.hid hst'
        have HBD := Lib.hid hbd
        clear hst hst' hbd hn2 hns hS hr2 hz2'
        go_wp2_with fail
        refine CN2.out.mono ?_
        rintro en w3 ⟨v3, F3, rfl, rfl, hI3, hF3, hK3⟩
        have HI3 := Lib.hid hI3
        have HF3 := Lib.hid hF3
        have HK3 := Lib.hid hK3
        obtain ⟨A, c, x, h4, h5, _⟩ := inS_form hI3
        have H5 := Lib.hid h5
        obtain ⟨_, g0, g1, gf⟩ := h4.facts
        have hx : (∃ b, x = errAt b) ∨ x = .nilIface := by
          rcases h5 with ⟨_, h⟩ | ⟨m, _, _, h⟩
          · exact .inr h
          · exact .inl ⟨_, h⟩
        have HOwn := Lib.hid (HNS.out.own)
        have HO3 := Lib.hid (hK3.own HNS.out.own HNS.out.apart)
        have HAP3 := Lib.hid (show ∀ k, u7.ownBlock = some k → ¬ F3 k from fun k hk hf => (hF3 k hf).elim (HNS.out.apart k hk) (fun hw => by have := (HNS.out.own.lt k hk).2; omega))
        have HSUB := Lib.hid (show ∀ k, F3 k → F k ∨ W.heap.size ≤ k from fun k hf => (hF3 k hf).elim (HNS.out.sub k) (fun hw => .inr (Nat.le_trans HNS.out.kept.size hw)))
        have HKW := Lib.hid (HNS.out.kept.trans hK3 HNS.out.sub)
        clear hI3 hF3 hK3 h4 h5
        rcases hx with ⟨b, rfl⟩ | rfl
        · have he2 : e2 ≠ 0 := by
            rcases H5.out with ⟨_, h⟩ | ⟨m, _, h0, _⟩
            · cases h
            · omega
          have hfin := Lib.hid (show inMany n l1 0 most = (l2, e2, []) by
            have h1 := hg.out.2 (n - k)
            rw [show k + (n - k) = n by omega] at h1
            have h2 := HBD.out he2
            rw [show n - (k + 1) + 1 = n - k by omega] at h2
            rw [h1, h2])
          clear he2 hlt
          go_wp2_with fail
          go_ret
          exact ⟨_, F3, rfl, by rw [HT.out, hfin.out]; exact ⟨by simp [int64s], none, 0, by simp [int64s], by simp [int64s], by simp, fun h => absurd rfl h⟩, by rw [HT.out, hfin.out]; exact HI3.out, HSUB.out, HKW.out⟩
        · have he2 : e2 = 0 := by
            rcases H5.out with ⟨h, _⟩ | ⟨m, _, _, h⟩
            · exact h
            · cases h
          have hpre := Lib.hid (show (g ++ [m]).length = k + 1 ∧ ∀ j, inMany (k + 1 + j) l1 0 most = comb (g ++ [m]) (inMany j l2 0 most) from
            ⟨by rw [List.length_append, hg.out.1]; rfl, fun j => by rw [show k + 1 + j = k + (j + 1) by omega, hg.out.2 (j + 1), HST.out j he2]⟩)
          have hgl := hg.out.1
          have hi3 := Lib.hid (show InS a w3 F3 B p l2 0 from he2 ▸ HI3.out)
          have HLN := Lib.hid hln2
          clear he2 HBD hln2
          go_wp2_with (at_builtin; refine wpList_append_row _ rfl (.tmp 22) (.tmp 24) _ rfl W.heap.size 3 i0 (.int .i64 0) 8 Tryd.underlying31 HI.out hz0 hz1 hz2 rfl _ g.length (natv g) rfl (own_below HO3.out ((Below.refl _ _).alloc (Nat.le_refl _) _)) (w3.heap.size + 1) _ [.int .i64 (m : Nat)] rfl (Row.new w3 _ #[.int .i64 (m : Nat)] (0, 0) w3.heap.size 1 rfl rfl (by omega)) ?d0 ?d1 ?d2 ?d3 ?_)
          case d0 => simp [Value.oneCell']
          case d1 => simp [maxLen]; omega
          case d2 => simp; omega
          case d3 => have := HKW.out.size; simp; omega
          intro v9 w9 h1 h2 h3
          have hk9 : Kept (fun k => u7.ownBlock = some k) w3 w9 := Kept.grown ((Kept.refl (fun k => u7.ownBlock = some k) w3).alloc _) h2 (fun k hk => .inl hk)
          have S9 := Lib.hid (show ∃ F1, NS a W F B p l2 (g ++ [m]) v9 F1 w9 from ⟨F3, inS_keep hi3.out hk9 (fun k hf hk => HAP3.out k hk hf), HSUB.out, HKW.out.trans hk9 (fun k hk => .inr (HO3.out.lt k hk).1), by
            rw [natv_snoc] at h1
            rw [hpre.out.1]
            exact h1, fun k hk hf => by
            rcases h3 with h3 | h3
            · exact HAP3.out k (h3 ▸ hk) hf
            · rw [h3] at hk
              injection hk with hk
              have := (hi3.out.2.2.1 k hf).2
              omega, HLN.out⟩)
          clear h1 h2 h3 hk9
          go_wp2_with fail
          go_roundw
          case rel => exact ⟨k + 1, l2, g ++ [m], by go_num, by omega, hpre, S9⟩
          case measure => simp [intOf]; omega
      · have hkn : k = n := by omega
        have hfin := Lib.hid (show inMany n l1 0 most = (rk, 0, g) by
          have h1 := hg.out.2 0
          rw [hkn, Nat.add_zero] at h1
          rw [h1]
          unfold comb
          rw [if_neg (by simp [inMany])]
          simp [inMany])
        clear hkn hns hS
        go_wp2_with fail
        go_ret
        exact ⟨_, F2, rfl, by rw [HT.out, hfin.out]; exact Row.of_own HNS.out.own (Nat.le_refl _), by rw [HT.out, hfin.out]; exact HNS.out.inn, HNS.out.sub, HNS.out.kept⟩
  · have hn0 : n = 0 := hz he
    subst hn0
    rw [if_pos he] at hT
    have HT := Lib.hid hT
    clear hT hmo hz he
    go_wp2_with fail
    refine wp_loop_rounds 1 ?_
    rw [rounds_succ]
    go_wp2_with fail
    go_ret
    exact ⟨_, F1, rfl, by rw [HT.out]; exact ⟨by simp [int64s], none, 0, by simp [int64s], by simp [int64s], by simp, fun h => absurd rfl h⟩, by rw [HT.out]; exact HI1.out, HF1.out, HK1.out⟩
/-- A reader's functions do what the laws' walks want. -/
theorem inSpec (a : Nat → Addr) : InSpec a (InS a) where
  lt := fun _ _ _ _ _ _ h => inS_lt h
  keep := fun _ _ _ _ _ _ _ _ h hk hd _ => inS_keep h hk hd
  read := fun w v B l hv hB hl hE => pread_any a w v B l hv hB hl hE
  num := fun W F B p l e most h hl hE => inum_any a W F B p l e most h hl hE
  text := fun W F B p l e most h hl hE => itext_any a W F B p l e most h hl hE
  nums := fun W F B p l e many most h hl hm hE => inums_any a W F B p l e many most h hl hm hE
  left := fun W F B p l e h _ => left_any a W F B p l e h
  err := fun W F B p l e h => err_any a W F B p l e h
  fin := fun W F B p l e h _ hE => end_any a W F B p l e h hE
end Go.Proofs.YtcmihmilkcihcaaDoor
