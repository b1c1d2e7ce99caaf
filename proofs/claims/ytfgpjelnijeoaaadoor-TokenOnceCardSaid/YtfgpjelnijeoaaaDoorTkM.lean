/- Package token: Take. -/
import Derived.Test.YtfgpjelnijeoaaaDoorTkL
import Derived.Test.YtfgpjelnijeoaaaDoorTkMa
namespace Go.Proofs.YtfgpjelnijeoaaaDoor
open Go Go.RowKit Tide

theorem tnil_iface (w : World) : (binOp BinOp.neq 30 .nilIface .nilIface).run Tryd.prog w = .ok (.bool false) w := by kernel_rfl
theorem terr_iface (b : Addr) (w : World) : (binOp BinOp.neq 30 (errAt b) .nilIface).run Tryd.prog w = .ok (.bool true) w := by kernel_rfl
section
variable {a : Nat → Addr} {w w' : World} {g : Nat} {s : SeqD}
set_option maxRecDepth 100000 in
set_option maxHeartbeats 2000000 in
/-- Take of streams that are right, where there is room. -/
theorem taket_ok (l : List Int) (v : Value) (B : Nat) (h : TokIs w g s) (hE : E5 a w) (hV : ∀ W, Kept (fun k => k = g) w W → Row W B v (int64s l))
    (h1 : 1 ≤ l.length) (h3 : l.length ≤ 3) (hu : upB l = true) (hn : s.nx < 4096) :
    Calls Tryd.prog 12 #[.pointer (some ⟨g, 0, none⟩), .int .i64 s.ep, v] w fun e w' => ∃ vb, e = .returned (.tuple #[.int .i64 s.nx, vb, .nilIface]) ∧ OwnB w' w.heap.size vb (takeL s.nx s.all l).1 ∧
      TokIs w' g { s with nx := s.nx + 1, all := (takeL s.nx s.all l).2 } ∧ Kept (fun k => k = g) w w' := by
  obtain ⟨hl, A, c, rfl, hc⟩ := row_ints (hV w (Kept.refl _ _))
  have hg := h.lt
  have CR := Lib.hid (fun W (hr : Row W B (.slice A l.length c) (int64s l)) => (hu ▸ rising_any l _ B W hr))
  have CN := Lib.hid (next_tok h hE s.ep)
  rw [if_pos rfl, if_pos rfl] at CN
  have HT := Lib.hid h
  have HV := Lib.hid hV
  have HU := Lib.hid (upB_mem hu)
  have i1 : ¬ (l.length : Int) < 1 := by omega
  have i3 : ¬ (3 : Int) < (l.length : Int) := by omega
  have i4 : ¬ (s.nx : Int) = 4096 := by omega
  have HN := Lib.hid hn
  obtain ⟨ep, nx, all⟩ := s
  simp only [] at CN i4 ⊢
  clear hV hc hu hl h hE hn
  go_enter Tryd.func12, Tryd.ntmps12
  go_wp2_with fail
  refine CN.out.mono ?_
  rintro en w1 ⟨rfl, hb1⟩
  have R1 := Lib.hid (CR.out w1 (HV.out w1 (Kept.of_below hb1)))
  have T1 := Lib.hid (HT.out.below hb1)
  have K1 := Lib.hid (show Kept (fun k => k = g) w w1 from Kept.of_below hb1)
  clear hb1 CN
  go_wp2_with fail
  refine R1.out.mono ?_
  rintro en w2 ⟨rfl, rfl⟩
  clear R1
  obtain ⟨i0, hi, hz0, hz1, hz2⟩ := info_parts infoBk
  have HI := Lib.hid hi
  have HL3 := Lib.hid h3
  clear hi h3 h1
  go_wp2_with (at_make; refine wpList_make_full _ rfl _ _ 22 rfl w.heap.size 51 i0 _ 2 Tryd.underlying22 HI.out hz0 hz1 _ _ _ _ l.length rfl rfl rfl rfl (by have := HL3.out; rw [hz2]; omega) (by have := HL3.out; unfold maxLen; omega) K1.out.size ?_; intro w2 h5 h6; have M2 := Lib.hid h5; have G2 := Lib.hid h6; clear h5 h6)
  have O0 := Lib.hid (OwnB.zeros (by rw [← madeB _ HL3.out]; exact M2.out))
  have K2 := Lib.hid (show Kept (fun k => k = g) w w2 from K1.out.grown G2.out (fun k hk => by cases hk))
  have T2 := Lib.hid (show TokIs w2 g ⟨ep, nx, all⟩ from T1.out.kept ((Kept.refl (fun _ => False) w1).grown G2.out (fun k hk => by cases hk)) (fun h => h))
  have hgm := T1.out.lt
  obtain ⟨m, hm⟩ : ∃ m, w1.heap.size = m := ⟨_, rfl⟩
  have HM := Lib.hid (show w.heap.size ≤ m from by rw [← hm]; exact K1.out.size)
  rw [hm] at O0 hgm
  rw [hm]
  clear M2 G2 T1 K1 hm
  go_loopw [45] (fun z wr => ∃ k : Nat, z = .int .i64 k ∧ k ≤ l.length ∧ Hid (OwnB wr w.heap.size (.slice (some ⟨m, 0, none⟩) l.length l.length) ((takeL nx all (l.take k)).1 ++ List.replicate (l.length - k) (0, []))) ∧ Hid (Kept (fun k => k = g) w wr) ∧ Hid (TokIs wr g ⟨ep, nx, (takeL nx all (l.take k)).2⟩)) (fun z _ => l.length - (intOf z).toNat)
  case atStart => exact ⟨0, rfl, Nat.zero_le _, O0, K2, T2⟩
  case round =>
    clear O0 K2 T2
    obtain ⟨k, rfl, hk, hO, hK, hT⟩ := hrel
    by_cases hlt : k < l.length
    · obtain ⟨_, A1, c1, e1, hcA⟩ := row_ints (HV.out wr hK.out)
      injection e1 with e1 _ e1c
      subst e1 e1c
      obtain ⟨b, o, rfl, hbl, hcu⟩ := hcA k hlt
      have i5 : (k : Int) < (l.length : Int) := by omega
      obtain ⟨hx0, hx1⟩ := HU.out _ (List.getElem_mem hlt)
      obtain ⟨y, hy⟩ : ∃ y : Nat, l[k] = (y : Int) := ⟨l[k].toNat, by omega⟩
      rw [hy] at hcu hx1
      have hy13 : y < 13 := by omega
      have i13 : (y : Int) < 13 := by omega
      have hTk : takeL nx all (l.take (k + 1)) = stepT nx (takeL nx all (l.take k)) y := by rw [take_one l k hlt, takeL_snoc, hy]
      have HT1 := Lib.hid (show (takeL nx all (l.take (k + 1))).1 ++ List.replicate (l.length - (k + 1)) (0, []) = ((takeL nx all (l.take k)).1 ++ List.replicate (l.length - k) (0, [])).set k ((y : Int), ((takeL nx all (l.take k)).2.getD y []).take 4) from by
        have e1 : (takeL nx all (l.take k)).1.length = k := by
          have := takeL_len nx all (l.take k)
          rw [this, List.length_take]; omega
        have e2 : l.length - k = (l.length - (k + 1)) + 1 := by omega
        rw [hTk, e2, List.replicate_succ]
        generalize (takeL nx all (l.take k)) = p at *
        have : (stepT nx p (y : Int)).1 = p.1 ++ [((y : Int), (p.2.getD y []).take 4)] := rfl
        rw [this, ← e1]
        simp)
      have HT2 := Lib.hid (show (takeL nx all (l.take (k + 1))).2 = (takeL nx all (l.take k)).2.set y ((nx : Int) :: (takeL nx all (l.take k)).2.getD y []) from by rw [hTk]; rfl)
      have hln : k < ((takeL nx all (l.take k)).1 ++ List.replicate (l.length - k) ((0 : Int), ([] : List Int))).length := by
        rw [List.length_append, List.length_replicate, takeL_len, List.length_take]; omega
      have HLN := Lib.hid hln
      have CB := Lib.hid (back_tok hT.out y hy13)
      simp only [] at CB
      generalize hp' : takeL nx all (l.take (k + 1)) = p' at *
      have HP := Lib.hid hp'
      generalize takeL nx all (l.take k) = p at *
      generalize hbs : p.1 ++ List.replicate (l.length - k) ((0 : Int), ([] : List Int)) = bs at *
      clear hln hx0 hy hTk hcA hbs hp'
      go_wp2_with fail
      refine CB.out.mono ?_
      rintro en w3 ⟨u, rfl, ho, hb⟩
      obtain ⟨Au, nu, cu, rfl⟩ := ho.form
      have hsz := hK.out.size
      obtain ⟨s1, ⟨v2, s2⟩, ⟨v3, s3⟩, s4, s5, HS⟩ := (hO.out.below hb).store HLN.out (y : Int) (own_later ho hsz) (fun e => by
        have := (ho.lt _ e).1
        have := (hO.out.lt m rfl).2
        omega)
      obtain ⟨w4, hw4⟩ : ∃ w4, (w3.setCell ⟨m, k * 2, none⟩ (.int .i64 (y : Int))).setCell ⟨m, k * 2 + 1, none⟩ (.slice Au nu cu) = w4 := ⟨_, rfl⟩
      rw [hw4] at HS
      have O4 := Lib.hid (show OwnB w4 w.heap.size (.slice (some ⟨m, 0, none⟩) l.length l.length) (p'.1 ++ List.replicate (l.length - (k + 1)) (0, [])) from by rw [HT1.out]; exact HS.out.1)
      have K4 := Lib.hid (show Kept (fun k => k = g) w w4 from (hK.out.trans (Kept.of_below (F := fun k => k = g) hb) (fun k hk => .inl hk)).trans HS.out.2 (fun k hk => .inr (by have := HM.out; omega)))
      obtain ⟨cs, hcs, hcc⟩ := (hT.out.below hb).kept HS.out.2 (fun e => by omega)
      have hrow : p.2[y]? = some (p.2.getD y []) := by rw [List.getD_eq_getElem?_getD, List.getElem?_eq_getElem (by have := hcc.na; simp only [] at this; omega)]; rfl
      have CA := Lib.hid (add_any (nx : Int) hcs (hcc.row y _ hrow))
      have HC := Lib.hid hcc
      clear ho hb CB hcs hcc hrow HS
      go_wp2_with fail
      refine CA.out.mono ?_
      rintro en w5 ⟨rfl, hk5, cs', hcs', hoff, hr'⟩
      have T5 := Lib.hid (show TokIs w5 g ⟨ep, nx, p'.2⟩ from ⟨cs', hcs', by rw [HT2.out]; exact HC.out.setRow hoff hr'⟩)
      have K5 := Lib.hid (K4.out.trans hk5 (fun k hk => .inl hk))
      have O5 := Lib.hid (O4.out.kept hk5 (fun k hk => .inl (by omega)))
      clear hk5 hcs' hoff hr' CA s1 s2 s3 s4 s5
      go_wp2_with fail
      go_roundw
      case rel => exact ⟨k + 1, by go_num, by omega, by rw [HP.out]; exact O5, K5, by rw [HP.out]; exact T5⟩
      case measure => simp [intOf]; omega
    · have ek : l.take k = l := List.take_of_length_le (by omega)
      have e0 : l.length - k = 0 := by omega
      rw [ek, e0, List.replicate_zero, List.append_nil] at hO
      rw [ek] at hT
      obtain ⟨cs, hcs, hcc⟩ := hT.out
      have c1 := hcs.cell hcc.nx
      have f1 := hcs.free 1
      have hg1 := hcs.lt
      have q1 : wrap64 ((nx : Int) + 1) = (nx : Int) + 1 := by have := HN.out; unfold wrap64; omega
      have q2 : IntKind.i64.wrap ((nx : Int) + 1) = (nx : Int) + 1 := by have := HN.out; simp [IntKind.wrap, IntKind.signed, IntKind.bits]; omega
      have HF := Lib.hid (show OwnB (wr.setCell ⟨g, 1, none⟩ (.int .i64 ((nx : Int) + 1))) w.heap.size (.slice (some ⟨m, 0, none⟩) l.length l.length) (takeL nx all l).1 ∧ TokIs (wr.setCell ⟨g, 1, none⟩ (.int .i64 ((nx : Int) + 1))) g ⟨ep, nx + 1, (takeL nx all l).2⟩ ∧ Kept (fun k => k = g) w (wr.setCell ⟨g, 1, none⟩ (.int .i64 ((nx : Int) + 1))) from
        ⟨hO.out.kept (Kept.one wr g 1 _) (fun k hk => .inl (by omega)), hT.out.next (nx + 1) _ (by omega), hK.out.trans (Kept.one wr g 1 _) (fun k hk => .inl hk)⟩)
      clear hcs hcc
      go_wp2_with fail
      go_ret3
      exact ⟨_, rfl, HF.out⟩

set_option maxHeartbeats 1000000 in
/-- Take refused: the error, and all is as it was. -/
theorem taket_no (ep : Int) (l : List Int) (v : Value) (B : Nat) (h : TokIs w g s) (hE : E5 a w) (hV : ∀ W, Kept (fun k => k = g) w W → Row W B v (int64s l))
    (hno : ep ≠ s.ep ∨ ¬ (1 ≤ l.length ∧ l.length ≤ 3 ∧ upB l = true) ∨ s.nx = 4096) :
    Calls Tryd.prog 12 #[.pointer (some ⟨g, 0, none⟩), .int .i64 ep, v] w fun e w' => ∃ x, e = .returned (.tuple #[.int .i64 0, .slice none 0 0, x]) ∧ (∃ m, m < 19 ∧ (takeD s ep l).1.2.2 = ((m + 1 : Nat) : Int) ∧ x = errAt (a m)) ∧ Below w.heap.size w w' := by
  obtain ⟨hl, A, c, rfl, _⟩ := row_ints (hV w (Kept.refl _ _))
  have CN := Lib.hid (next_tok h hE ep)
  have HV := Lib.hid (fun W (hb : Below w.heap.size w W) => hV W (Kept.of_below hb))
  have HE := Lib.hid hE
  have CR := Lib.hid (fun W (hr : Row W B (.slice A l.length c) (int64s l)) => rising_any l _ B W hr)
  clear hV h hE
  obtain ⟨sep, nx, all⟩ := s
  simp only [] at CN hno
  by_cases he : ep = sep
  · subst he
    rw [if_pos rfl, if_pos rfl] at CN
    by_cases h1 : l.length < 1
    · have hd : (takeD ⟨ep, nx, all⟩ ep l).1.2.2 = ((3 + 1 : Nat) : Int) := by
        unfold takeD; rw [if_neg (by simp), if_pos (by omega)]; rfl
      rw [hd]
      have i1 : (l.length : Int) < 1 := by omega
      clear hd hno CR
      go_enter Tryd.func12, Tryd.ntmps12
      go_wp2_with fail
      refine CN.out.mono ?_
      rintro en w1 ⟨rfl, hb1⟩
      have B1 := Lib.hid hb1
      have cf := (HE.out.below hb1).form
      clear hb1 CN
      go_wp2_with fail
      go_quiet (fail)
      go_wp2_with fail
      go_ret3
      exact ⟨_, rfl, ⟨3, by omega, rfl, rfl⟩, below_drewN B1.out _⟩
    · have i1 : ¬ (l.length : Int) < 1 := by omega
      by_cases h3 : 3 < l.length
      · have hd : (takeD ⟨ep, nx, all⟩ ep l).1.2.2 = ((3 + 1 : Nat) : Int) := by
          unfold takeD; rw [if_neg (by simp), if_pos (by omega)]; rfl
        rw [hd]
        have i3 : (3 : Int) < (l.length : Int) := by omega
        clear hd hno CR
        go_enter Tryd.func12, Tryd.ntmps12
        go_wp2_with fail
        refine CN.out.mono ?_
        rintro en w1 ⟨rfl, hb1⟩
        have B1 := Lib.hid hb1
        have cf := (HE.out.below hb1).form
        clear hb1 CN
        go_wp2_with fail
        go_quiet (fail)
        go_wp2_with fail
        go_ret3
        exact ⟨_, rfl, ⟨3, by omega, rfl, rfl⟩, below_drewN B1.out _⟩
      · have i3 : ¬ (3 : Int) < (l.length : Int) := by omega
        cases hu : upB l with
        | false =>
          have hd : (takeD ⟨ep, nx, all⟩ ep l).1.2.2 = ((3 + 1 : Nat) : Int) := by
            unfold takeD; rw [if_neg (by simp), if_pos (by rw [hu]; simp)]; rfl
          rw [hd]
          rw [hu] at CR
          clear hd hno
          go_enter Tryd.func12, Tryd.ntmps12
          go_wp2_with fail
          refine CN.out.mono ?_
          rintro en w1 ⟨rfl, hb1⟩
          have B1 := Lib.hid hb1
          have R1 := Lib.hid (CR.out w1 (HV.out w1 hb1))
          have cf := (HE.out.below hb1).form
          clear hb1 CN CR
          go_wp2_with fail
          refine R1.out.mono ?_
          rintro en w2 ⟨rfl, rfl⟩
          clear R1
          go_wp2_with fail
          go_quiet (fail)
          go_wp2_with fail
          go_ret3
          exact ⟨_, rfl, ⟨3, by omega, rfl, rfl⟩, below_drewN B1.out _⟩
        | true =>
          have hn : nx = 4096 := by
            rcases hno with h | h | h
            · exact absurd rfl h
            · exact absurd ⟨by omega, by omega, hu⟩ h
            · exact h
          have hd : (takeD ⟨ep, nx, all⟩ ep l).1.2.2 = ((12 + 1 : Nat) : Int) := by
            unfold takeD; rw [if_neg (by simp), if_neg (by rw [hu]; simp; omega), if_pos (show 4096 ≤ nx by omega)]; rfl
          rw [hd]
          rw [hu] at CR
          have i4 : (nx : Int) = 4096 := by omega
          rw [i4] at CN
          clear hd hno hn i4
          go_enter Tryd.func12, Tryd.ntmps12
          go_wp2_with fail
          refine CN.out.mono ?_
          rintro en w1 ⟨rfl, hb1⟩
          have B1 := Lib.hid hb1
          have R1 := Lib.hid (CR.out w1 (HV.out w1 hb1))
          have cf := (HE.out.below hb1).full
          clear hb1 CN CR
          go_wp2_with fail
          refine R1.out.mono ?_
          rintro en w2 ⟨rfl, rfl⟩
          clear R1
          go_wp2_with fail
          go_quiet (fail)
          go_wp2_with fail
          go_ret3
          exact ⟨_, rfl, ⟨12, by omega, rfl, rfl⟩, below_drewN B1.out _⟩
  · rw [if_neg he, if_neg he] at CN
    have hd : (takeD ⟨sep, nx, all⟩ ep l).1.2.2 = ((7 + 1 : Nat) : Int) := by
      unfold takeD; rw [if_pos he]; rfl
    rw [hd]
    clear hd hno CR he
    go_enter Tryd.func12, Tryd.ntmps12
    go_wp2_with fail
    refine CN.out.mono ?_
    rintro en w1 ⟨rfl, hb1⟩
    have B1 := Lib.hid hb1
    have herr := terr_iface
    clear hb1 CN
    go_wp2_with fail
    go_ret3
    exact ⟨_, rfl, ⟨7, by omega, rfl, rfl⟩, B1.out⟩

/-- What is told, by an error's number. -/
def TookT (a : Nat → Addr) (s : SeqD) (ep : Int) (l : List Int) (w : World) (g : Nat) (e : Ending) (w' : World) : Prop :=
  ∃ vb x k, e = .returned (.tuple #[.int .i64 (takeD s ep l).1.1, vb, x]) ∧ (takeD s ep l).1.2.2 = ((k : Nat) : Int) ∧ IsErr a x k ∧ OwnB w' w.heap.size vb (takeD s ep l).1.2.1 ∧ TokIs w' g (takeD s ep l).2 ∧ Kept (fun k => k = g) w w'
theorem row_apart {B : Nat} {v : Value} {l : List Int} (hv : Row w B v (int64s l)) (hB : B ≤ g) (hg : g < w.heap.size) : ∀ W, Kept (fun k => k = g) w W → Row W B v (int64s l) :=
  fun W hk => hv.keep (w' := W) (fun b o hb => hk.cell (p := ⟨b, o, none⟩) (by show b < w.heap.size; omega) (by show ¬ b = g; omega))
theorem taket_any (ep : Int) (l : List Int) (v : Value) (B : Nat) (h : TokIs w g s) (hE : E5 a w) (hV : ∀ W, Kept (fun k => k = g) w W → Row W B v (int64s l)) (hn : s.nx ≤ 4096) :
    Calls Tryd.prog 12 #[.pointer (some ⟨g, 0, none⟩), .int .i64 ep, v] w (TookT a s ep l w g) := by
  by_cases hno : ep ≠ s.ep ∨ ¬ (1 ≤ l.length ∧ l.length ≤ 3 ∧ upB l = true) ∨ s.nx = 4096
  · refine (taket_no ep l v B h hE hV hno).mono ?_
    rintro e w' ⟨x, rfl, ⟨m, hm, h1, rfl⟩, hb⟩
    have hd : (takeD s ep l).1.1 = 0 ∧ (takeD s ep l).1.2.1 = [] ∧ (takeD s ep l).2 = s := by
      unfold takeD
      by_cases e1 : ep ≠ s.ep
      · rw [if_pos e1]; exact ⟨rfl, rfl, rfl⟩
      · rw [if_neg e1]
        by_cases e2 : ¬ (1 ≤ l.length ∧ l.length ≤ 3 ∧ upB l = true)
        · rw [if_pos e2]; exact ⟨rfl, rfl, rfl⟩
        · rw [if_neg e2, if_pos (by rcases hno with h | h | h; exact absurd h e1; exact absurd h e2; omega)]; exact ⟨rfl, rfl, rfl⟩
    refine ⟨_, _, m + 1, by rw [hd.1], h1, isErr_at a m hm, by rw [hd.2.1]; exact OwnB.nil _ _, by rw [hd.2.2]; exact h.below hb, Kept.of_below hb⟩
  · have he : ep = s.ep := Classical.byContradiction fun h => hno (.inl h)
    have hr : 1 ≤ l.length ∧ l.length ≤ 3 ∧ upB l = true := Classical.byContradiction fun h => hno (.inr (.inl h))
    have hne : s.nx < 4096 := by
      have : ¬ s.nx = 4096 := fun h => hno (.inr (.inr h))
      omega
    have hd : takeD s ep l = (((s.nx : Int), (takeL s.nx s.all l).1, 0), { s with nx := s.nx + 1, all := (takeL s.nx s.all l).2 }) := by
      unfold takeD; rw [if_neg (by simp [he]), if_neg (fun h => h hr), if_neg (by omega)]
    subst he
    refine (taket_ok l v B h hE hV hr.1 hr.2.1 hr.2.2 hne).mono ?_
    rintro e w' ⟨vb, rfl, h1, h2, h3⟩
    unfold TookT
    rw [hd]
    exact ⟨_, _, 0, rfl, rfl, isErr_nil a, h1, h2, h3⟩
end
end Go.Proofs.YtfgpjelnijeoaaaDoor
