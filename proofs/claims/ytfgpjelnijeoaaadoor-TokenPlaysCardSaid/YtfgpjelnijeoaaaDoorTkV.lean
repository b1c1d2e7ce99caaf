/- The law of which sequencers there may be, and what they tell. -/
import Derived.Test.YtfgpjelnijeoaaaDoorTkS
import Derived.Test.YtfgpjelnijeoaaaDoorTkT
import Derived.Test.YtfgpjelnijeoaaaDoorTkE
import Derived.Test.YtfgpjelnijeoaaaDoorTkF
import Derived.Deep.RegionHeld3
namespace Go.Proofs.YtfgpjelnijeoaaaDoor
open Go Go.RowKit Tide

/-- Both sequencers side by side, behind so many asks. -/
structure BothT (w W : World) (g q k : Nat) (s : SeqD) (R : Nat → Prop) : Prop where
  since : Below w.heap.size w W
  tok : TokIs W g s
  ref : SeqIs W R q s
  ep0 : 0 ≤ s.ep
  ep1 : s.ep ≤ 1073741824
  nx : s.nx ≤ 4096
  len : ∀ r ∈ s.all, r.length ≤ 4 + 3 * k
  apart : ¬ R g
  lateR : ∀ i, R i → w.heap.size ≤ i
  late : w.heap.size ≤ g
theorem takeD_keeps {s : SeqD} {ep : Int} {l : List Int} {n : Nat} (hn : s.nx ≤ 4096) (ha : s.all.length = 13) (hl : ∀ r ∈ s.all, r.length ≤ n) : (takeD s ep l).2.ep = s.ep ∧ (takeD s ep l).2.nx ≤ 4096 ∧ ∀ r ∈ (takeD s ep l).2.all, r.length ≤ n + 3 := by
  by_cases h : (takeD s ep l).1.2.2 = 0
  · have h3 : l.length ≤ 3 := by
      unfold takeD at h
      by_cases e1 : ep ≠ s.ep
      · rw [if_pos e1] at h; cases h
      · rw [if_neg e1] at h
        by_cases e2 : ¬ (1 ≤ l.length ∧ l.length ≤ 3 ∧ upB l = true)
        · rw [if_pos e2] at h; cases h
        · exact (Classical.byContradiction fun h => e2 h).2.1
    obtain ⟨_, h4, hd⟩ := takeD_yes h
    rw [hd]
    refine ⟨rfl, by show s.nx + 1 ≤ 4096; omega, fun r hr => ?_⟩
    have := (stepT_facts s.nx l ([], s.all) n ha hl).2.2 r hr
    omega
  · rw [(takeD_not h).2.2]
    exact ⟨rfl, hn, fun r hr => by have := hl r hr; omega⟩
theorem sameB_own {W : World} {u v : Value} {x : List (Int × List Int)} {lo1 lo2 : Nat} (hu : OwnB W lo1 u x) (hv : OwnB W lo2 v x) : Calls Tryd.prog 14 #[u, v] W fun e w' => e = .returned (.bool true) ∧ Below W.heap.size W w' := by
  have := sameBacks_any u v x x W.heap.size W.heap.size W hu.backs hv.backs (Nat.le_refl _) (Nat.le_refl _)
  simpa using this
theorem fill_len : ∀ (bs : List (Int × List Int)) (all : List (List Int)) (n : Nat), (∀ r ∈ all, r.length ≤ n) → (∀ b ∈ bs, b.2.length ≤ n) → ∀ r ∈ bs.foldl (fun all b => all.set b.1.toNat b.2) all, r.length ≤ n
  | [], _, _, h, _ => h
  | b :: bs, all, n, h, hb => by
    refine fill_len bs _ n (fun r hr => ?_) (fun x hx => hb x (List.mem_cons_of_mem _ hx))
    rcases List.mem_or_eq_of_mem_set hr with hr | rfl
    · exact h r hr
    · exact hb b (List.mem_cons_self ..)
theorem newK_zero {ep nx : Int} {bs : List (Int × List Int)} (h : newK ep nx bs = 0) : 0 ≤ ep ∧ ep ≤ 1073741824 ∧ nx.toNat ≤ 4096 ∧ ∀ r ∈ fillL bs, r.length ≤ 4 + 3 * 0 := by
  unfold newK at h
  split at h
  · cases h
  · split at h
    · cases h
    · split at h
      · rename_i h1 h2 h3
        refine ⟨by omega, by omega, by omega, fill_len bs _ 4 (fun r hr => ?_) (fun b hb => (h3.1 b hb).1)⟩
        rw [List.eq_of_mem_replicate hr]
        simp
      · cases h
set_option maxRecDepth 100000 in
set_option maxHeartbeats 8000000 in
theorem tokenPlays_law (a : Nat → Addr) (ep nx : Int) (bs aks : List (Int × List Int)) (u v : Value) (w : World) (hx : Backs w w.heap.size u bs) (hv : Backs w w.heap.size v aks) (hE : Errs w a) :
    Calls Tryd.prog 3 #[startV ep nx u, v] w fun e w' => e = .returned (.bool true) ∧ Below w.heap.size w w' := by
  have HX := Lib.hid (fun W (h : Below w.heap.size w W) => hx.below h)
  have HV := Lib.hid (fun W (h : Below w.heap.size w W) => hv.below h)
  obtain ⟨_, A0, c0, rfl, _⟩ := hx.form
  obtain ⟨hl, A, c, rfl, _⟩ := hv.form
  have HE := Lib.hid hE
  have hnil := tnil_iface
  have herr := terr_iface
  unfold startV
  clear hx hv hE
  go_enter Tryd.func3, Tryd.ntmps3
  go_wp2_with fail
  have B0 := Lib.hid ((Below.refl w.heap.size w).alloc (Nat.le_refl _) (.cells #[.int .i64 ep, .int .i64 nx, .slice A0 bs.length c0] 24))
  have X0 := Lib.hid (heap_alloc_new w (.cells #[.int .i64 ep, .int .i64 nx, .slice A0 bs.length c0] 24))
  obtain ⟨w0, hw0⟩ : ∃ w0, w.alloc (.cells #[.int .i64 ep, .int .i64 nx, .slice A0 bs.length c0] 24) = w0 := ⟨_, rfl⟩
  rw [hw0] at B0 X0
  rw [hw0]
  clear hw0
  have CA := Lib.hid (talive_any (E5.of_errs (HE.out.below B0.out)))
  refine CA.out.mono ?_
  rintro en w1 ⟨rfl, hb1⟩
  have B1 := Lib.hid (B0.out.trans (hb1.mono B0.out.size))
  have X1 := (hb1.block _ (Array.getElem?_eq_some_iff.1 X0.out).1).trans X0.out
  have d0 : w1.cell? ⟨w.heap.size, 0, none⟩ = some (.int .i64 ep) := cell_of_row _ _ 0 _ _ _ X1
  have d1 : w1.cell? ⟨w.heap.size, 1, none⟩ = some (.int .i64 nx) := cell_of_row _ _ 1 _ _ _ X1
  have d2 : w1.cell? ⟨w.heap.size, 2, none⟩ = some (.slice A0 bs.length c0) := cell_of_row _ _ 2 _ _ _ X1
  have CL := Lib.hid (show Calls Tryd.prog 7 #[.agg #[.int .i64 ep, .int .i64 nx, .slice A0 bs.length c0], .slice A aks.length c] w1 _ from long13_any ep nx bs aks _ _ w.heap.size w.heap.size w1 (HX.out w1 B1.out) (HV.out w1 B1.out) B1.out.size B1.out.size)
  have X1 := Lib.hid X1
  clear hb1 CA B0 X0
  cases hlong : longB bs aks with
  | true =>
    rw [hlong] at CL
    go_wp2_with fail
    refine CL.out.mono ?_
    rintro en w2 ⟨rfl, hb2⟩
    have B2 := Lib.hid (B1.out.trans (hb2.mono B1.out.size))
    clear hb2 CL
    go_wp2_with fail
    go_ret
    exact ⟨rfl, B2.out⟩
  | false =>
  rw [hlong] at CL
  obtain ⟨hlb, hla, hlb2, hla2⟩ := longB_no hlong
  have HL := Lib.hid (And.intro hlb (And.intro hla (And.intro hlb2 hla2)))
  clear hlong hlb hla hlb2 hla2
  go_wp2_with fail
  refine CL.out.mono ?_
  rintro en w2 ⟨rfl, hb2⟩
  have B2 := Lib.hid (B1.out.trans (hb2.mono B1.out.size))
  have X2 := (hb2.block _ (Array.getElem?_eq_some_iff.1 X1.out).1).trans X1.out
  have d0 : w2.cell? ⟨w.heap.size, 0, none⟩ = some (.int .i64 ep) := cell_of_row _ _ 0 _ _ _ X2
  have d1 : w2.cell? ⟨w.heap.size, 1, none⟩ = some (.int .i64 nx) := cell_of_row _ _ 1 _ _ _ X2
  have d2 : w2.cell? ⟨w.heap.size, 2, none⟩ = some (.slice A0 bs.length c0) := cell_of_row _ _ 2 _ _ _ X2
  have CN := Lib.hid (newt_any ep nx bs _ w.heap.size w2 (E5.of_errs (HE.out.below B2.out)) (HX.out w2 B2.out) B2.out.size HL.out.1)
  have X2 := Lib.hid X2
  clear hb2 CL
  go_wp2_with fail
  refine CN.out.mono ?_
  rintro en w3 ⟨hb3, hN⟩
  have B3 := Lib.hid (B2.out.trans (hb3.mono B2.out.size))
  have X3 := (hb3.block _ (Array.getElem?_eq_some_iff.1 X2.out).1).trans X2.out
  have d0 : w3.cell? ⟨w.heap.size, 0, none⟩ = some (.int .i64 ep) := cell_of_row _ _ 0 _ _ _ X3
  have d1 : w3.cell? ⟨w.heap.size, 1, none⟩ = some (.int .i64 nx) := cell_of_row _ _ 1 _ _ _ X3
  have d2 : w3.cell? ⟨w.heap.size, 2, none⟩ = some (.slice A0 bs.length c0) := cell_of_row _ _ 2 _ _ _ X3
  have CM := Lib.hid (newr_any ep nx bs _ w.heap.size w3 (HX.out w3 B3.out) B3.out.size HL.out.1)
  have HS := Lib.hid (Nat.le_trans B2.out.size hb3.size)
  have HS2 := Lib.hid B2.out.size
  clear hb3 CN X1 X2 X3
  rcases hN with ⟨hk, g, hg0, rfl, hT⟩ | ⟨m, hm, hk, rfl⟩
  · rw [hk] at CM
    have HG := Lib.hid (Nat.le_trans HS2.out hg0)
    have T3 := Lib.hid hT
    have HK := Lib.hid hk
    clear hg0 hT hk
    go_wp2_with fail
    refine CM.out.mono ?_
    rintro en w4 ⟨hb4, (⟨_, rfl, R, hS, hR⟩ | ⟨h, _⟩)⟩
    case inr => exact absurd rfl h
    have B4 := Lib.hid (B3.out.trans (hb4.mono B3.out.size))
    have T4 := Lib.hid (T3.out.below hb4)
    have hgl := T3.out.lt
    have CU := Lib.hid (num_any a .nilIface 0 w4 (HE.out.below B4.out) (isErr_nil a))
    clear hb4 CM
    go_wp2_with fail
    refine CU.out.mono ?_
    rintro en w5 ⟨rfl, hb5⟩
    have B5 := Lib.hid (show BothT w w5 g w3.heap.size 0 ⟨ep, nx.toNat, fillL bs⟩ R from
      ⟨B4.out.trans (hb5.mono B4.out.size), T4.out.below hb5, hS.below hb5, (newK_zero HK.out).1, (newK_zero HK.out).2.1, (newK_zero HK.out).2.2.1, (newK_zero HK.out).2.2.2, fun h => by have := hR _ h; omega, fun i h => by have := hR _ h; have := HS.out; omega, HG.out⟩)
    obtain ⟨q, hq⟩ : ∃ q, w3.heap.size = q := ⟨_, rfl⟩
    rw [hq] at B5
    rw [hq]
    clear hb5 CU hS hR B4 B3 B2 B1 T3 T4 hq d0 d1 d2 hgl
    go_wp2_with fail
    go_loopw [58] (fun z wr => ∃ k : Nat, z = .int .i64 k ∧ k ≤ aks.length ∧ Hid (∃ s R, BothT w wr g q k s R)) (fun z _ => aks.length - (intOf z).toNat)
    case atStart => exact ⟨0, rfl, Nat.zero_le _, Lib.hid ⟨_, _, B5.out⟩⟩
    case round =>
      clear B5
      obtain ⟨k, rfl, hk, hB⟩ := hrel
      obtain ⟨s, R, hB⟩ := hB.out
      have hHB := Lib.hid hB
      by_cases hlt : k < aks.length
      · obtain ⟨_, A1, c1, e1, hcA⟩ := (HV.out wr hB.since).form
        injection e1 with e1 _ e1c
        subst e1 e1c
        obtain ⟨b, o, ux, rfl, hbB, hx0, hx1, hr1⟩ := hcA k hlt
        have hr := Lib.hid hr1
        obtain ⟨_, Au, cu, rfl, _⟩ := row_ints hr1
        have i5 : (k : Int) < (aks.length : Int) := by omega
        clear hr1 hcA
        generalize aks[k] = z at *
        obtain ⟨ea, l⟩ := z
        simp only [] at hx0 hx1 hr
        obtain ⟨wa, hwa⟩ : ∃ wa, wr.alloc (.cells #[.int .i64 ea, .slice Au l.length cu] 39) = wa := ⟨_, rfl⟩
        have HA := Lib.hid (show Below wr.heap.size wr wa from by rw [← hwa]; exact (Below.refl _ _).alloc (Nat.le_refl _) _)
        have HA0 := Lib.hid (show wa.heap[wr.heap.size]? = some (.cells #[.int .i64 ea, .slice Au l.length cu] 39 (0, 0)) from by rw [← hwa]; exact heap_alloc_new wr _)
        have hlt3 : wr.heap.size < wa.heap.size := (Array.getElem?_eq_some_iff.1 HA0.out).1
        have BA := Lib.hid (hB.since.trans (HA.out.mono hB.since.size))
        have CC := Lib.hid (copy_tok (hB.tok.below HA.out))
        obtain ⟨qs, hqs⟩ := hB.ref
        have hqR := hqs.inR
        have hlow := hqs.low
        have hna := hqs.na
        have hgl := hB.tok.lt
        have hqne : g ≠ q := fun e => hB.apart (by rw [e]; exact hqR)
        have HRl := Lib.hid (And.intro hlow (And.intro hqR (And.intro hna hqne)))
        clear hqs
        go_wp2_with fail
        refine CC.out.mono ?_
        rintro en w3 ⟨rfl, hC3, hb3⟩
        have B3 := Lib.hid (BA.out.trans (hb3.mono BA.out.size))
        have T3 := Lib.hid ((hB.tok.below HA.out).below hb3)
        have S3 := Lib.hid ((hB.ref.below HA.out).below hb3)
        have C3 := Lib.hid hC3
        have A3 := Lib.hid ((hb3.block _ hlt3).trans HA0.out)
        have hz3 := hC3.lt
        obtain ⟨cb, hcb⟩ : ∃ cb, wa.heap.size = cb := ⟨_, rfl⟩
        have HCB := Lib.hid (show wr.heap.size < cb ∧ cb < w3.heap.size ∧ w.heap.size ≤ cb from by
          have := BA.out.size
          omega)
        rw [hcb] at C3
        rw [hcb]
        have R3 := Lib.hid (hr.out.keep (fun b o hb => (below_cells B3.out b o hb).trans (hB.since.cell (p := ⟨b, o, none⟩) hb).symm))
        have d0 : w3.cell? ⟨wr.heap.size, 0, none⟩ = some (.int .i64 ea) := cell_of_row _ _ 0 _ _ _ A3.out
        have d1 : w3.cell? ⟨wr.heap.size, 1, none⟩ = some (.slice Au l.length cu) := cell_of_row _ _ 1 _ _ _ A3.out
        have hl3 : wr.heap.size < w3.heap.size := (Array.getElem?_eq_some_iff.1 A3.out).1
        have CT3 := Lib.hid (taket_any ea l _ w.heap.size T3.out (E5.of_errs (HE.out.below B3.out)) (row_apart R3.out hB.late T3.out.lt) hB.nx)
        have HKp := Lib.hid (takeD_keeps (ep := ea) (l := l) hB.nx hna hB.len)
        clear hC3 hb3 CC hcb hz3 hlow hna hqR hqne
        go_wp2_with fail
        refine CT3.out.mono ?_
        unfold TookT
        rintro en w4 ⟨vb, x, n, rfl, hn4, hx4, ho4, hT4, hk4⟩
        have B4 := Lib.hid (show Below w.heap.size w w4 from Tide.Below.kept B3.out hk4 B3.out.size (fun i h => by have := hB.late; omega))
        have A4 := Lib.hid (hk4.heap A3.out (by omega))
        have C4 := Lib.hid (C3.out.kept hk4 (fun h => by have := HCB.out.1; omega))
        have S4 := Lib.hid (S3.out.kept hk4 (fun i hi e => hB.apart (by rw [← e]; exact hi)))
        have T4 := Lib.hid hT4
        have O4 := Lib.hid ho4
        have X4 := Lib.hid hx4
        have K4 := Lib.hid hk4.size
        have R4 := Lib.hid (hr.out.keep (fun b o hb => (below_cells B4.out b o hb).trans (hB.since.cell (p := ⟨b, o, none⟩) hb).symm))
        have CR4 := Lib.hid (take13_any s ea l _ w.heap.size R q w4 S4.out R4.out (hB.lateR q HRl.out.2.1) (fun r hr => by have := hB.len r hr; have := HL.out.2.1; omega))
        have d0 : w4.cell? ⟨wr.heap.size, 0, none⟩ = some (.int .i64 ea) := cell_of_row _ _ 0 _ _ _ A4.out
        have d1 : w4.cell? ⟨wr.heap.size, 1, none⟩ = some (.slice Au l.length cu) := cell_of_row _ _ 1 _ _ _ A4.out
        have hl4 : wr.heap.size < w4.heap.size := (Array.getElem?_eq_some_iff.1 A4.out).1
        have HN4 := Lib.hid hn4
        clear CT3 hn4 hx4 ho4 hT4 hk4
        go_wp2_with fail
        refine CR4.out.mono ?_
        rintro en w5 ⟨vr, rfl, hor, ⟨R', hS5, hR5⟩, hk5⟩
        have hq0 := HRl.out.1 q HRl.out.2.1
        have hK4 := K4.out
        have B5 := Lib.hid (show Below w.heap.size w w5 from Tide.Below.kept B4.out hk5 B4.out.size (fun i h => by have := hB.lateR q HRl.out.2.1; omega))
        have A5 := Lib.hid (hk5.heap A4.out (by omega))
        have C5 := Lib.hid (C4.out.kept hk5 (fun h => by have := HCB.out.1; omega))
        have T5 := Lib.hid (T4.out.kept hk5 (fun h => HRl.out.2.2.2 h))
        have S5 := Lib.hid hS5
        have HR5 := Lib.hid hR5
        have Or5 := Lib.hid hor
        have O5 := Lib.hid (O4.out.kept hk5 (fun i h => .inl (by omega)))
        have CS5 := Lib.hid (sameB_own O5.out hor)
        have HK5 := Lib.hid hk5.size
        rw [HN4.out]
        clear CR4 hor hS5 hR5 hk5
        go_wp2_with fail
        refine CS5.out.mono ?_
        rintro en w6 ⟨rfl, hb6⟩
        have B6 := Lib.hid (B5.out.trans (hb6.mono B5.out.size))
        have A6 := Lib.hid ((hb6.block _ (Array.getElem?_eq_some_iff.1 A5.out).1).trans A5.out)
        have C6 := Lib.hid (C5.out.below hb6)
        have T6 := Lib.hid (T5.out.below hb6)
        have S6 := Lib.hid (S5.out.below hb6)
        have Or6 := Lib.hid (Or5.out.below hb6)
        have CU6 := Lib.hid (num_any a x n w6 (HE.out.below B6.out) X4.out)
        clear CS5 hb6
        go_wp2_with fail
        refine CU6.out.mono ?_
        rintro en w7 ⟨rfl, hb7⟩
        have B7 := Lib.hid (B6.out.trans (hb7.mono B6.out.size))
        have A7 := Lib.hid ((hb7.block _ (Array.getElem?_eq_some_iff.1 A6.out).1).trans A6.out)
        have C7 := Lib.hid (C6.out.below hb7)
        have T7 := Lib.hid (T6.out.below hb7)
        have S7 := Lib.hid (S6.out.below hb7)
        have Or7 := Lib.hid (Or6.out.below hb7)
        have R7 := Lib.hid (hr.out.keep (fun b o hb => (below_cells B7.out b o hb).trans (hB.since.cell (p := ⟨b, o, none⟩) hb).symm))
        have d0 : w7.cell? ⟨wr.heap.size, 0, none⟩ = some (.int .i64 ea) := cell_of_row _ _ 0 _ _ _ A7.out
        have d1 : w7.cell? ⟨wr.heap.size, 1, none⟩ = some (.slice Au l.length cu) := cell_of_row _ _ 1 _ _ _ A7.out
        have hl7 : wr.heap.size < w7.heap.size := (Array.getElem?_eq_some_iff.1 A7.out).1
        have CT7 := Lib.hid (taket_any ea l _ w.heap.size C7.out (E5.of_errs (HE.out.below B7.out)) (row_apart R7.out HCB.out.2.2 C7.out.lt) hB.nx)
        clear CU6 hb7
        go_wp2_with fail
        refine CT7.out.mono ?_
        unfold TookT
        rintro en w8 ⟨vb3, x3, n3, rfl, hn8, hx8, ho8, hT8, hk8⟩
        have hn9 : n3 = n := by have := hn8.symm.trans HN4.out; omega
        subst hn9
        have B8 := Lib.hid (show Below w.heap.size w w8 from Tide.Below.kept B7.out hk8 B7.out.size (fun i h => by have := HCB.out.2.2; omega))
        have C8 := Lib.hid hT8
        have T8 := Lib.hid (T7.out.kept hk8 (fun h => by have := HCB.out.1; omega))
        have S8 := Lib.hid (S7.out.kept hk8 (fun i hi e => by
          have h1 := HCB.out
          have h2 := K4.out
          rcases HR5.out i hi with h | h
          · have := HRl.out.1 i h; omega
          · omega))
        have Or8 := Lib.hid (Or7.out.kept hk8 (fun i h => .inl (by have h1 := HCB.out; have h2 := K4.out; omega)))
        have O8 := Lib.hid ho8
        have CS8 := Lib.hid (sameB_own ho8 Or8.out)
        have X8 := Lib.hid hx8
        clear CT7 ho8 hT8 hk8 hn8 hx8
        go_wp2_with fail
        refine CS8.out.mono ?_
        rintro en w9 ⟨rfl, hb9⟩
        have B9 := Lib.hid (B8.out.trans (hb9.mono B8.out.size))
        have C9 := Lib.hid (C8.out.below hb9)
        have T9 := Lib.hid (T8.out.below hb9)
        have S9 := Lib.hid (S8.out.below hb9)
        have CU9 := Lib.hid (num_any a x3 n3 w9 (HE.out.below B9.out) X8.out)
        clear CS8 hb9
        go_wp2_with fail
        refine CU9.out.mono ?_
        rintro en w10 ⟨rfl, hb10⟩
        have B10 := Lib.hid (B9.out.trans (hb10.mono B9.out.size))
        have C10 := Lib.hid (C9.out.below hb10)
        have T10 := Lib.hid (T9.out.below hb10)
        have S10 := Lib.hid (S9.out.below hb10)
        have HEp := Lib.hid (show 0 ≤ (takeD s ea l).2.ep ∧ (takeD s ea l).2.ep ≤ 1073741824 from by rw [HKp.out.1]; exact ⟨hB.ep0, hB.ep1⟩)
        have CM10 := Lib.hid (same13_any (HE.out.below B10.out) T10.out S10.out HEp.out.1 HEp.out.2)
        clear CU9 hb10
        go_wp2_with fail
        refine CM10.out.mono ?_
        rintro en w11 ⟨rfl, hb11⟩
        have B11 := Lib.hid (B10.out.trans (hb11.mono B10.out.size))
        have C11 := Lib.hid (C10.out.below hb11)
        have T11 := Lib.hid (T10.out.below hb11)
        have S11 := Lib.hid (S10.out.below hb11)
        have CM11 := Lib.hid (same13_any (HE.out.below B11.out) C11.out S11.out HEp.out.1 HEp.out.2)
        clear CM10 hb11
        go_wp2_with fail
        refine CM11.out.mono ?_
        rintro en w12 ⟨rfl, hb12⟩
        have B12 := Lib.hid (show ∃ s R, BothT w w12 g q (k + 1) s R from ⟨(takeD s ea l).2, R', B11.out.trans (hb12.mono B11.out.size), T11.out.below hb12, S11.out.below hb12, HEp.out.1, HEp.out.2, HKp.out.2.1, fun r hr => by have := HKp.out.2.2 r hr; omega, fun h => by
          have h2 := K4.out
          have h3 := HCB.out
          rcases HR5.out g h with h | h
          · exact hB.apart h
          · omega, fun i h => by
          have h2 := B4.out.size
          rcases HR5.out i h with h | h
          · exact hB.lateR i h
          · omega, hB.late⟩)
        clear CM11 hb12
        go_wp2_with fail
        go_roundw
        case rel => exact ⟨k + 1, by go_num, by omega, B12⟩
        case measure => simp [intOf]; omega
      · have CM := Lib.hid (same13_any (HE.out.below hB.since) hB.tok hB.ref hB.ep0 hB.ep1)
        go_wp2_with fail
        refine CM.out.mono ?_
        rintro en w11 ⟨rfl, hb11⟩
        have B11 := Lib.hid (hB.since.trans (hb11.mono hB.since.size))
        clear CM hb11
        go_wp2_with fail
        go_ret
        exact ⟨rfl, B11.out⟩
  · obtain ⟨n, hn⟩ : ∃ n, m + 1 = n := ⟨_, rfl⟩
    rw [hk, hn] at CM
    have HM := Lib.hid (And.intro hm hn)
    have hn0 : ((n : Int) == 0) = false := by simp; omega
    have hn1 : ((n : Int) != 0) = true := by simp; omega
    clear hk
    go_wp2_with fail
    refine CM.out.mono ?_
    rintro en w4 ⟨hb4, (⟨h, _⟩ | ⟨_, rfl⟩)⟩
    case inl => simp at hn0; omega
    have B4 := Lib.hid (B3.out.trans (hb4.mono B3.out.size))
    have CU := Lib.hid (num_any a (errAt (a m)) n w4 (HE.out.below B4.out) (HM.out.2 ▸ isErr_at a m HM.out.1))
    clear hb4 CM hn
    go_wp2_with fail
    refine CU.out.mono ?_
    rintro en w5 ⟨rfl, hb5⟩
    have B5 := Lib.hid (B4.out.trans (hb5.mono B4.out.size))
    clear hb5 CU
    go_wp2_with fail
    go_ret
    exact ⟨rfl, B5.out⟩
end Go.Proofs.YtfgpjelnijeoaaaDoor
