/- The law of plans that rise. -/
import Derived.Test.YtefcbofjndnpkaaDoorGBoU
import Derived.Test.YtefcbofjndnpkaaDoorGBoP
import Derived.Deep.DeepCutAuto
namespace Go.Proofs.YtefcbofjndnpkaaDoor
open Go Go.RowKit Tide

theorem hard_act : HardT 37 := by unfold HardT; decide
theorem wrap_one (i : Nat) (h : i ≤ 1000) : wrap64 ((i : Int) + 1) = (i : Int) + 1 ∧ IntKind.i64.wrap ((i : Int) + 1) = (i : Int) + 1 := by
  refine ⟨?_, ?_⟩
  · unfold wrap64; omega
  · simp [IntKind.wrap, IntKind.signed, IntKind.bits]; omega
theorem planField (x : Int) (v : Value) (w : World) : (Instr.field 27 (planV x v) 0).run Tryd.prog w = .ok (.int .i64 x) w := by kernel_rfl
/-- What is appended to a row of plans leaves a book, and rows of numbers. -/
theorem BookW.keptP {W W' : World} {base q bv bk n N b0 m : Nat} {T : Nat → Nat} {os : Nat → Option Nat} {up : Nat → Bool} {V : BookV} {lat : Int} {P : List (List (List Int))} {v : Value} {xs : List Value} (H : BookW W base T q bv bk n N os up V lat P) (hO : W.ownsRow b0 27 2 v m xs) (hk : Kept (fun k => v.ownBlock = some k) W W') : BookW W' base T q bv bk n N os up V lat P := by
  have hc : ∀ {k : Nat} {cs : Array Value} {t : TypeId} {j : Nat × Nat}, W.heap[k]? = some (.cells cs t j) → 27 ≠ t → ¬ v.ownBlock = some k := fun {k cs t j} hc ht e => by
    obtain ⟨cur, h⟩ := rowS_obj hO e
    exact cells_two h hc ht
  have hm : ∀ {k : Nat} {es : Array _} {cl : Nat}, W.heap[k]? = some (.map es cl) → ¬ v.ownBlock = some k := fun {k es cl} ho e => by
    obtain ⟨cur, h⟩ := rowS_obj hO e
    exact cells_map h ho
  refine H.kept hk (hc H.cell (by decide)) (hc H.row (by decide)) ?_ (fun i b hi e => ?_) (fun k cur h => ?_)
  · obtain ⟨es, cl, ho, _⟩ := H.known.obj; exact hm ho
  · obtain ⟨es, cl, ho, _⟩ := (H.maps i hi).obj e; exact hm ho
  · rcases h with h | h
    · exact hc h (by decide)
    · exact hc h (by decide)
theorem GridO.keptP {W W' : World} {b0 b1 m : Nat} {v u : Value} {xs vs : List Value} {cs : List (List Int)} (g : GridO W b1 u vs cs) (hO : W.ownsRow b0 27 2 v m xs) (hk : Kept (fun k => v.ownBlock = some k) W W') : GridO W' b1 u vs cs := by
  have hne : ∀ {k : Nat} {cur : Array Value} {t : TypeId}, W.heap[k]? = some (.cells cur t (0, 0)) → 27 ≠ t → v.ownBlock ≠ some k := fun {k cur t} hc ht e => by
    obtain ⟨cur', hc'⟩ := rowS_obj hO e
    exact cells_two hc' hc ht
  exact ⟨hk.own g.outer (fun k hv => by obtain ⟨cur, hc⟩ := rowS_obj g.outer hv; exact hne hc (by decide)), fun i u c hu hc => hk.own (g.rows i u c hu hc) (fun k hv => by obtain ⟨cur, hcc⟩ := rowS_obj (g.rows i u c hu hc) hv; exact hne hcc (by decide)), g.apart⟩
theorem eql_err (b : Addr) (w : World) : (binOp BinOp.eql 30 (errAt b) .nilIface).run Tryd.prog w = .ok (.bool false) w := by kernel_rfl
theorem eql_nil (w : World) : (binOp BinOp.eql 30 .nilIface .nilIface).run Tryd.prog w = .ok (.bool true) w := by kernel_rfl
/-- What was proposed for a matter. -/
def propT (prs : List PrE) : Int → ByteArray → Prop := fun e t => ∃ p ∈ prs, p.ep = e ∧ rightB e p.cs = true ∧ t = text (planB e p.cs)
/-- The law between two acts. -/
structure RisW (w wr : World) (q bv bk n k : Nat) (T : Nat → Nat) (os : Nat → Option Nat) (N : Nat) (up : Nat → Bool) (V : BookV) (P : List (List (List Int))) (i : Nat) (pv : Value) (prs : List PrE) : Prop where
  book : BookW wr w.heap.size T q bv bk n N os up V (i : Int) P
  since : Below w.heap.size w wr
  num : N ≤ 80 * k
  len : P.length = i + 1
  cnt : i ≤ k ∧ k ≤ 40
  right : ∀ (j : Nat) (h : j < P.length), rightB (j : Int) P[j] = true
  row : OwnP wr w.heap.size pv prs
  plen : prs.length ≤ k
  inv : InvB (propT prs) V
theorem RisW.below {w wr w' : World} {q bv bk n k : Nat} {T : Nat → Nat} {os : Nat → Option Nat} {N : Nat} {up : Nat → Bool} {V : BookV} {P : List (List (List Int))} {i : Nat} {pv : Value} {prs : List PrE} (h : RisW w wr q bv bk n k T os N up V P i pv prs) (hb : Below wr.heap.size wr w') : RisW w w' q bv bk n k T os N up V P i pv prs :=
  { h with book := h.book.below hb, since := h.since.trans (hb.mono h.since.size), row := h.row.below hb }
/-- Behind an act: the plan that was the latest is known, and lies in a box. -/
def TailB (w wx : World) (q bv bk n k i : Nat) (cw : List (List Int)) (g : Nat) (vW pv : Value) : Prop :=
  ∃ T os N up V P i' prs, RisW w wx q bv bk n (k + 1) T os N up V P i' pv prs ∧ ∃ (h : i < P.length), P[i] = cw ∧ ∃ vs, GridO wx w.heap.size vW vs cw ∧ Two wx g 27 (.int .i64 (i : Int)) vW
set_option maxRecDepth 100000 in
set_option maxHeartbeats 16000000 in
theorem bookRises_law (a : Nat → Addr) (x : Int) (ms : List ActB) (v : Value) (w : World) (hv : ActsB w w.heap.size v ms) (hE : Errs w a) :
    Calls Tryd.prog 3 #[.int .i64 x, v] w fun e w' => e = .returned (.bool true) ∧ Below w.heap.size w w' := by
  obtain ⟨A, c, rfl, _, _⟩ := hv.form
  obtain ⟨n5, n, hn1, hn5, HQ⟩ := half_n x
  have HN := Lib.hid (And.intro hn1 hn5)
  have HV := Lib.hid hv
  have HE := Lib.hid hE
  have CA := Lib.hid (balive_any hE)
  have hnil := nil_iface
  clear hv hE hn1 hn5
  go_enter Tryd.func3, Tryd.ntmps3
  go_wp2_with fail
  refine CA.out.mono ?_
  rintro e w1 ⟨rfl, hb1⟩
  have CL := Lib.hid (long_any ms _ w.heap.size w1 (HV.out.below hb1) hb1.size)
  have B1 := Lib.hid hb1
  clear hb1 CA
  go_wp2_with fail
  refine CL.out.mono ?_
  rintro e w2 ⟨L, rfl, hL, hb2⟩
  have B2 := Lib.hid (B1.out.trans (hb2.mono B1.out.size))
  have HL := Lib.hid hL
  clear hL hb2 CL B1
  cases L with
  | true =>
    go_wp2_with fail
    go_ret
    exact ⟨rfl, B2.out⟩
  | false =>
  have HMS := Lib.hid (HL.out rfl)
  obtain ⟨hG, hbG, hsG⟩ := one_grid w2
  have CN := Lib.hid (bnew_any n HN.out.1 HN.out.2 [[0]] (.slice (some ⟨w2.heap.size + 1, 0, none⟩) 1 1) _ (oneW w2) hG (Nat.le_refl _) right_one)
  have B3 := Lib.hid (B2.out.trans (hbG.mono B2.out.size))
  clear hG hbG hsG HL
  obtain ⟨hq1, hq2, hq3, hw1, hw22, hw0, hw3, hw4, hw5⟩ := HQ.out
  go_wp2_with fail
  clear hq1 hq2 hq3 hw1 hw22 hw0 hw3 hw4 hw5
  refine CN.out.mono ?_
  rintro e w4 ⟨q, bv, bk, rfl, hK, hb4⟩
  have ba := (Below.refl w4.heap.size w4).alloc (Nat.le_refl _) (.cells #[] 27)
  have hbw4 := B3.out.trans (hb4.mono B3.out.size)
  have S4 := Lib.hid (show RisW w (w4.alloc (.cells #[] 27)) q bv bk n 0 (fun _ => 0) (fun _ => none) 0 (upTo n) (fun _ _ => noneV) [[[0]]] 0 (.slice (some ⟨w4.heap.size, 0, none⟩) 0 0) [] from
    ⟨(hK.later B3.out.size).below ba, hbw4.trans (ba.mono hbw4.size), by omega, rfl, ⟨by omega, by omega⟩, fun j h => by
      have h1 : j < 1 := h
      obtain rfl : j = 0 := by omega
      exact right_one, OwnP.new w4 w.heap.size hbw4.size _ rfl, Nat.zero_le _, InvB.start _⟩)
  have HML := Lib.hid (show ms.length ≤ 40 from HMS.out.1)
  clear hK hb4 ba hbw4 CN B3 B2
  go_wp2_with fail
  go_loopw [42, 7] (fun y z wr => ∃ (k : Nat) (T : Nat → Nat) (os : Nat → Option Nat) (N : Nat) (up : Nat → Bool) (V : BookV) (P : List (List (List Int))) (i : Nat) (prs : List PrE), y = .int .i64 k ∧ k ≤ ms.length ∧ Hid (RisW w wr q bv bk n k T os N up V P i z prs)) (fun y _ _ => ms.length - (intOf y).toNat)
  case atStart => exact ⟨0, _, _, _, _, _, _, _, _, rfl, Nat.zero_le _, S4⟩
  case round =>
    clear S4
    obtain ⟨k, T, os, N, up, V, P, i, prs, rfl, hk, hS⟩ := hrel
    have hm40 := HML.out
    by_cases hlt : k < ms.length
    · have i1 : (k : Int) < (ms.length : Int) := by omega
      have hv2 := HV.out.below hS.out.since
      obtain ⟨A', c', hA, _, hc⟩ := hv2.form
      injection hA with hA _ hc'
      subst hA hc'
      obtain ⟨b, o, rfl, hbB, d0, d1, d2, d3, d4, d5⟩ := hc k hlt
      obtain ⟨hg, hr⟩ := HV.out.2 _ (List.getElem_mem hlt)
      have hok := HMS.out.2 _ (List.getElem_mem hlt)
      obtain ⟨m, hm⟩ : ∃ m, ms[k] = m := ⟨_, rfl⟩
      rw [hm] at d0 d1 d2 d3 d4 d5 hg hr hok
      obtain ⟨ki, bal, vo, ah, u, s, cs, l⟩ := m
      dsimp only at d0 d1 d2 d3 d4 d5 hg hr
      obtain ⟨_, Au, cu, rfl, _⟩ := hg.form
      obtain ⟨_, As, cl, rfl, _⟩ := row_ints hr
      have HG := Lib.hid hg
      have HRow := Lib.hid hr
      have HRow0 := Lib.hid hS.out.row.row
      have HOK := Lib.hid hok
      have ba2 := (Below.refl wr.heap.size wr).alloc (Nat.le_refl _) (.cells #[.int .i64 ki, .int .i64 bal, .int .i64 vo, .int .i64 ah, .slice Au cs.length cu, .slice As l.length cl] 37)
      obtain ⟨w5, hw5⟩ : ∃ w5, wr.alloc (.cells #[.int .i64 ki, .int .i64 bal, .int .i64 vo, .int .i64 ah, .slice Au cs.length cu, .slice As l.length cl] 37) = w5 := ⟨_, rfl⟩
      have X5 := Lib.hid (show Six w5 wr.heap.size 37 #[.int .i64 ki, .int .i64 bal, .int .i64 vo, .int .i64 ah, .slice Au cs.length cu, .slice As l.length cl] from by rw [← hw5]; exact heap_alloc_new wr _)
      rw [hw5] at ba2
      have S5 := Lib.hid (hS.out.below ba2)
      have hlen := hS.out.len
      have hcnt := hS.out.cnt
      have hi : i < P.length := by omega
      have hr9 := right_parts (hS.out.right i hi)
      have CLt := blatest_any i S5.out.book hi (by omega) (by omega) (fun c hc => by have := (hr9.2.2.2.2.1 c hc).2; omega)
      obtain ⟨cw, hcw⟩ : ∃ cw, P[i] = cw := ⟨_, rfl⟩
      rw [hcw] at CLt
      have CLt := Lib.hid CLt
      have HCW := Lib.hid (show ∃ (h : i < P.length), P[i] = cw from ⟨hi, hcw⟩)
      have HZ5 := Lib.hid (show w5.heap.size = wr.heap.size + 1 from by rw [← hw5]; exact World.size_alloc _ _)
      have HIK := Lib.hid (And.intro hlen hcnt)
      clear hv2 hc hg hr hm ba2 hbB hok hlen hcnt hi hr9 hcw hS
      go_wp2_with fail
      clear hw5
      refine CLt.out.mono ?_
      rintro e w6 ⟨vw, vsw, rfl, hGw, hb6⟩
      obtain ⟨Aw, cww, hvw⟩ := rowS_form hGw.outer
      subst hvw
      have hcwl : True := trivial
      have hs6 := hGw
      have X6 := Lib.hid (show Six w6 wr.heap.size 37 _ from (hb6.block _ X5.out.facts.1).trans X5.out)
      have ba := (Below.refl w6.heap.size w6).alloc (Nat.le_refl _) (.cells #[.int .i64 (i : Int), .slice Aw cw.length cww] 27)
      obtain ⟨w7, hw7⟩ : ∃ w7, w6.alloc (.cells #[.int .i64 (i : Int), .slice Aw cw.length cww] 27) = w7 := ⟨_, rfl⟩
      have XW := Lib.hid (show Two w7 w6.heap.size 27 (.int .i64 (i : Int)) (.slice Aw cw.length cww) from by rw [← hw7]; exact Two.new w6 27 _ _)
      rw [hw7] at ba
      have S7 := Lib.hid (S5.out.below (hb6.trans (ba.mono hb6.size)))
      have HZ6 := Lib.hid (show wr.heap.size ≤ w6.heap.size from by have := hb6.size; have := HZ5.out; omega)
      have HGW := Lib.hid ((hGw.below ba).later (base' := w.heap.size) (by have := S5.out.since.size; omega))
      have X9 := Lib.hid (show Six w7 wr.heap.size 37 _ from (ba.block _ X6.out.facts.1).trans X6.out)
      clear hcwl hs6 hGw hb6 ba CLt X5 X6 S5 d0 d1 d2 d3 d4 d5
      obtain ⟨_, d0, d1, d2, d3, d4, d5⟩ := X9.out.facts
      obtain ⟨_, p0, p1, _⟩ := XW.out.facts
      by_cases hk0 : ki = 0
      · have q0 : (ki == 0) = true := beq_iff_eq.2 hk0
        obtain ⟨e, he⟩ : ∃ e, P.length = e := ⟨_, rfl⟩
        have hei : e = i + 1 := by rw [← he]; exact HIK.out.1
        have HEI := Lib.hid (And.intro he hei)
        have e1 : (i : Int) + 1 = (e : Int) := by omega
        have hi9 : i ≤ 1000 := by have := HIK.out.2; omega
        have HW := Lib.hid (show wrap64 ((i : Int) + 1) = (e : Int) ∧ IntKind.i64.wrap ((i : Int) + 1) = (e : Int) ∧ wrap64 (e : Int) = (e : Int) from ⟨by rw [(wrap_one i hi9).1]; exact e1, by rw [(wrap_one i hi9).2]; exact e1, by rw [← e1]; exact (wrap_one i hi9).1⟩)
        have ba := (Below.refl w7.heap.size w7).alloc (Nat.le_refl _) (.cells #[.int .i64 (e : Int), .slice Au cs.length cu] 27)
        obtain ⟨w8, hw8⟩ : ∃ w8, w7.alloc (.cells #[.int .i64 (e : Int), .slice Au cs.length cu] 27) = w8 := ⟨_, rfl⟩
        have XP := Lib.hid (show Two w8 w7.heap.size 27 (.int .i64 (e : Int)) (.slice Au cs.length cu) from by rw [← hw8]; exact Two.new w7 27 _ _)
        rw [hw8] at ba
        have S8 := Lib.hid (S7.out.below ba)
        have HB8 := Lib.hid ba
        have CC := Lib.hid (copy_any (e : Int) cs (.slice Au cs.length cu) w.heap.size w8 (HG.out.below S8.out.since) S8.out.since.size (by have := HOK.out.1; dsimp only at this; omega) (fun c hc => by have := HOK.out.2.2 c hc; omega))
        obtain ⟨_, p2, p3, _⟩ := XP.out.facts
        have hblk := Lib.hid (fun k (hk : u7.ownBlock = some k) => World.ownsRow.lt S8.out.row.row k hk)
        have HU7 := Lib.hid (show ∀ k, u7.ownBlock = some k → k < wr.heap.size from fun k hk => (World.ownsRow.lt HRow0.out k hk).2)
        have hU8 := S8.out.row
        obtain ⟨A7, c7, hu7⟩ := hU8.form
        have HU := Lib.hid hu7
        clear ba hU8 hu7 he hei hi9
        obtain ⟨hw1, hw2, hw3⟩ := HW.out
        go_wp2_with fail
        clear hw1 hw2 hw3 e1
        refine CC.out.mono ?_
        rintro en w9 ⟨v9, vs9, rfl, hG9, hb9⟩
        obtain ⟨A9, c9, hv9⟩ := rowS_form hG9.outer
        subst hv9
        have S9 := Lib.hid (S8.out.below hb9)
        have G9 := Lib.hid (show ∃ vs, GridO w9 w.heap.size (.slice A9 cs.length c9) vs cs from ⟨vs9, hG9.later S8.out.since.size⟩)
        have B89 := Lib.hid (HB8.out.trans (hb9.mono HB8.out.size))
        have B9s := Lib.hid hb9
        have HZ7 := Lib.hid (show wr.heap.size ≤ w7.heap.size from by have := HZ6.out; have := XW.out.lt; omega)
        have HPL := Lib.hid (show prs.length ≤ 1000000 from by have := S9.out.plen; have := HIK.out.2; omega)
        clear hG9 hb9 CC p0 p1 p2 p3 d0 d1 d2 d3 d4 d5 hw8
        go_upto_region 18 with (at_builtin; refine wpList_pushP rfl (.tmp 62) (.tmp 65) rfl ⟨(e : Int), .slice A9 cs.length c9, cs⟩ rfl rfl S9.out.row G9.out HPL.out S9.out.since.size ?_; intro g10 cap10 w10 g1 g2 g3)
        have hb910 : Below w.heap.size w9 w10 := g3
        have hk10 := g2
        have K10 := Lib.hid (S9.out.book.keptP S9.out.row.row g2)
        have B10 := Lib.hid (S9.out.since.trans g3)
        have hbk : ∀ {g : Nat} {o : Obj}, wr.heap.size ≤ g → w9.heap[g]? = some o → w10.heap[g]? = some o := fun {g o} hg ho => g2.heap ho (fun h => by have := HU7.out g h; omega)
        have X10 := Lib.hid (show Six w10 wr.heap.size 37 _ from hbk (Nat.le_refl _) ((B89.out.block _ (by have := X9.out.facts.1; exact this)).trans X9.out))
        have XW10 := Lib.hid (show Two w10 w6.heap.size 27 _ _ from hbk HZ6.out ((B89.out.block _ XW.out.lt).trans XW.out))
        have XP10 := Lib.hid (show Two w10 w7.heap.size 27 _ _ from hbk HZ7.out ((B9s.out.block _ XP.out.lt).trans XP.out))
        have GW10 := Lib.hid ((HGW.out.below B89.out).keptP S9.out.row.row g2)
        have O10 := Lib.hid g1
        have INV10 := Lib.hid (show InvB (propT (prs ++ [⟨(e : Int), .slice A9 cs.length c9, cs⟩])) V from S9.out.inv.more (fun e' t h => by obtain ⟨p, hp, h⟩ := h; exact ⟨p, List.mem_append_left _ hp, h⟩))
        have M10 := Lib.hid (And.intro S9.out.num (And.intro S9.out.right S9.out.plen))
        have hpl10 : (prs ++ [(⟨(e : Int), .slice A9 cs.length c9, cs⟩ : PrE)]).length = prs.length + 1 := by rw [List.length_append]; rfl
        have HPL10 := Lib.hid hpl10
        rw [← hpl10] at O10 ⊢
        have HMEM := Lib.hid (show ∃ p ∈ prs ++ [(⟨(e : Int), .slice A9 cs.length c9, cs⟩ : PrE)], p.ep = (e : Int) ∧ p.cs = cs from ⟨_, List.mem_append_right _ (List.mem_singleton.2 rfl), rfl, rfl⟩)
        have HL10 := Lib.hid (show (prs ++ [(⟨(e : Int), .slice A9 cs.length c9, cs⟩ : PrE)]).length ≤ k + 1 from by rw [HPL10.out]; have := S9.out.plen; omega)
        clear hpl10
        generalize prs ++ [(⟨(e : Int), .slice A9 cs.length c9, cs⟩ : PrE)] = prs' at *
        obtain ⟨_, d0, d1, d2, d3, d4, d5⟩ := X10.out.facts
        obtain ⟨_, p2, p3, _⟩ := XP10.out.facts
        clear hb910 hk10 hbk g1 g2 g3 S9 G9 B89 B9s HPL HU XP XW X9 HGW S7 S8 HB8
        by_cases hbad : rightB (e : Int) cs = false ∨ bal < 0
        · have CP := Lib.hid (bpropose_bad (a := a) K10.out HN.out.1 HN.out.2 (HE.out.below B10.out) (e : Int) (HG.out.below B10.out) B10.out.size (.slice As l.length cl) hbad)
          have heq := eql_err (a 3)
          clear hbad
          go_wp2_with fail
          refine CP.out.mono ?_
          rintro en w11 ⟨rfl, hb11⟩
          have b12 := hb11.trans (((Below.refl w11.heap.size w11).alloc (Nat.le_refl _) (.cells #[.int .i64 0, .slice none 0 0] 27)).mono hb11.size)
          have HB12 := Lib.hid b12
          clear hb11 b12 CP d0 d1 d2 d3 d4 d5 p2 p3
          go_wp2_with fail
          go_quiet (fail)
          generalize hwx : World.drewN _ _ = wx
          have hbx : Below w10.heap.size w10 wx := by rw [← hwx]; exact ⟨HB12.out.os, HB12.out.tape, HB12.out.output, HB12.out.size, HB12.out.block⟩
          have HT := Lib.hid (show TailB w wx q bv bk n k i cw w6.heap.size (.slice Aw cw.length cww) (.slice (some ⟨g10, 0, none⟩) prs'.length cap10) from
            ⟨T, os, N, up, V, P, i, prs', ⟨K10.out.below hbx, B10.out.trans (hbx.mono B10.out.size), by have := M10.out.1; omega, by rw [HEI.out.1]; exact HEI.out.2, by have := HIK.out.2; omega, M10.out.2.1, O10.out.below hbx, HL10.out, INV10.out⟩, HCW.out.1, HCW.out.2, vsw, GW10.out.below hbx, XW10.out.below hbx XW10.out.lt⟩)
          obtain ⟨_, p0, p1, _⟩ := (XW10.out.below hbx XW10.out.lt).facts
          clear hbx hwx HB12 K10 B10 X10 XW10 XP10 GW10 O10 INV10 M10 HCW
          obtain ⟨T2, os2, N2, up2, V2, P2, i2, prs2, hS, hi, hPi, vs2, hG, hX⟩ := HT.out
          have S2 := Lib.hid hS
          have X2 := Lib.hid hX
          have hlen2 := hS.len
          have hcnt2 := hS.cnt
          have hr2 := right_parts (hS.right i hi)
          rw [hPi] at hr2
          have HR2 := Lib.hid (show rightB (i : Int) cw = true from by rw [← hPi]; exact hS.right i hi)
          have CA := bat_any i hS.book hi (by omega) (by rw [hPi]; omega) (fun c hc => by rw [hPi] at hc; have := (hr2.2.2.2.2.1 c hc).2; omega)
          rw [hPi] at CA
          have CA := Lib.hid CA
          have GW := Lib.hid hG
          obtain ⟨_, p0, p1, _⟩ := hX.facts
          have HI2 := Lib.hid (And.intro hi (And.intro hlen2 hcnt2))
          have hi40 : i ≤ 45 := by omega
          clear hS hX hG hi hPi hlen2 hcnt2 hr2 HT
          go_wp2_with fail
          refine CA.out.mono ?_
          rintro e wa ⟨va, vsa, rfl, hGa, hba⟩
          obtain ⟨Aa, ca, hva⟩ := rowS_form hGa.outer
          subst hva
          have bb := (Below.refl wa.heap.size wa).alloc (Nat.le_refl _) (.cells #[.int .i64 (i : Int), .slice Aa cw.length ca] 27)
          obtain ⟨wb, hwb⟩ : ∃ wb, wa.alloc (.cells #[.int .i64 (i : Int), .slice Aa cw.length ca] 27) = wb := ⟨_, rfl⟩
          have XB := Lib.hid (show Two wb wa.heap.size 27 (.int .i64 (i : Int)) (.slice Aa cw.length ca) from by rw [← hwb]; exact Two.new wa 27 _ _)
          rw [hwb] at bb
          have hbb := hba.trans (bb.mono hba.size)
          have SB := Lib.hid (S2.out.below hbb)
          have XW := Lib.hid (X2.out.below hbb X2.out.lt)
          have CS := psame_any (i : Int) (i : Int) cw cw (.slice Aa cw.length ca) (.slice Aw cw.length cww) _ _ wb ((hGa.below bb).grid) ((GW.out.below hbb).grid) (Nat.le_refl _) (Nat.le_refl _)
          rw [HR2.out, decide_eq_true rfl, decide_eq_true rfl] at CS
          have CS := Lib.hid (show Calls Tryd.prog 11 #[planV (i : Int) (.slice Aa cw.length ca), planV (i : Int) (.slice Aw cw.length cww)] wb fun e w' => e = .returned (.bool true) ∧ Below wb.heap.size wb w' from CS)
          obtain ⟨_, x0, x1, _⟩ := XB.out.facts
          clear p0 p1 CA hGa hba bb hbb S2 X2 GW
          obtain ⟨_, p0, p1, _⟩ := XW.out.facts
          go_wp2_with fail
          refine CS.out.mono ?_
          rintro e wc ⟨rfl, hbc⟩
          have SC := Lib.hid (SB.out.below hbc)
          have CK := bknown_any SC.out.book
          rw [HI2.out.2.1] at CK
          have CK := Lib.hid CK
          clear hbc CS x0 x1 p0 p1 SB XW XB
          go_wp2_with fail
          refine CK.out.mono ?_
          rintro e wd ⟨rfl, rfl⟩
          have hr3 := right_parts (SC.out.right i2 (by have := HI2.out.2.1; omega))
          have CL := Lib.hid (blatest_any i2 SC.out.book (by have := HI2.out.2.1; omega) (by have := HI2.out.2.1; have := HI2.out.2.2; omega) (by omega) (fun c hc => by have := (hr3.2.2.2.2.1 c hc).2; omega))
          clear CK hr3
          go_wp2_with fail
          refine CL.out.mono ?_
          rintro e we ⟨ve, vse, rfl, hGe, hbe⟩
          have SE := Lib.hid (SC.out.below hbe)
          have hfe : (Instr.field 27 (planV (i2 : Int) ve) 0).run Tryd.prog we = .ok (.int .i64 (i2 : Int)) we := planField _ _ _
          have hi2 : i2 ≤ 45 := by have := HI2.out.2; omega
          have hcast : ((i2 + 1 : Nat) : Int) = (i2 : Int) + 1 := by omega
          have ha3 : (((i2 : Int) + 1) != ((i2 : Int) + 1)) = false := by simp
          obtain ⟨ha1, ha2⟩ := wrap_one i2 (by omega)
          clear hGe hbe CL SC
          go_wp2_with fail
          go_roundw
          case rel => exact ⟨k + 1, T2, os2, N2, up2, V2, P2, i2, prs2, by go_num, by omega, SE⟩
          case measure => simp [intOf]; omega
        · have hr : rightB (e : Int) cs = true := by
            cases h : rightB (e : Int) cs with
            | true => rfl
            | false => exact absurd (.inl h) hbad
          have hb0 : 0 ≤ bal := Int.not_lt.1 (fun h => hbad (.inr h))
          have hask := InvB.ask (T := propT prs') n (text (planB (e : Int) cs)) (e : Int) bal (reachI n up l) INV10.out (by
            obtain ⟨p, hp, h1, h2⟩ := HMEM.out
            exact ⟨p, hp, h1, by rw [h2]; exact hr, by rw [h2]⟩)
          have HASK := Lib.hid hask
          have hpl : (i : Int) + 1 = (P.length : Int) := by rw [HEI.out.1, HEI.out.2]; omega
          have CP := bpropose_ok (a := a) K10.out HN.out.1 HN.out.2 B10.out.size (by rw [HEI.out.1]; have := HEI.out.2; have := HIK.out.2; omega) (errs_keptS HE.out B10.out rfl) (HG.out.below B10.out) B10.out.size (by rw [HEI.out.1]; exact hr) hpl hb0 (Row.keep HRow.out (below_cells B10.out)) B10.out.size (by have := HOK.out.2.1; dsimp only at this; omega) (by have := HOK.out.2.1; have := M10.out.1; have := HIK.out.2; dsimp only at *; omega) (fun _ => by
            rw [HEI.out.1]
            obtain ⟨p, hp, h1, h2, h3⟩ := hask.2
            exact ⟨p.cs, h2, h3⟩)
          rw [HEI.out.1] at CP
          have CP := Lib.hid CP
          have HN80 := Lib.hid (show N + 4 * l.length ≤ 80 * (k + 1) from by have := HOK.out.2.1; have := M10.out.1; dsimp only at *; omega)
          clear hbad hask hpl hb0 hr
          go_wp2_with fail
          refine CP.out.mono ?_
          rintro en w11 ⟨T11, os11, P11, l11, hK, hs, hR⟩
          rcases hR with ⟨_, hP11, hl11, rfl⟩ | ⟨_, ds, v11, vs11, hds, htx, hP11, hl11, rfl, hG11⟩
          · subst hP11 hl11
            have heq := eql_err (a 11)
            have KS := Lib.hid (And.intro hK hs)
            clear hK hs CP d0 d1 d2 d3 d4 d5 p2 p3
            go_wp2_with fail
            go_quiet (fail)
            generalize hwx : World.drewN _ _ = wx
            have hbx : Below w11.heap.size w11 wx := by
              rw [← hwx]
              have h := (Below.refl w11.heap.size w11).alloc (Nat.le_refl _) (.cells #[.int .i64 0, .slice none 0 0] 27)
              exact ⟨h.os, h.tape, h.output, h.size, h.block⟩
            have hsx := KS.out.2.trans (KeptS.of_below hbx)
            have HT := Lib.hid (show TailB w wx q bv bk n k i cw w6.heap.size (.slice Aw cw.length cww) (.slice (some ⟨g10, 0, none⟩) prs'.length cap10) from
              ⟨T11, os11, _, up, _, _, i, prs', ⟨KS.out.1.below hbx, B10.out.trans (hsx.below B10.out.size), HN80.out, by rw [HEI.out.1]; exact HEI.out.2, by have := HIK.out.2; omega, M10.out.2.1, O10.out.keptS hsx, HL10.out, HASK.out.1⟩, HCW.out.1, HCW.out.2, vsw, GW10.out.keptS hsx, hsx.heap hard_plan XW10.out⟩)
            have hxx := hsx.heap hard_plan XW10.out
            obtain ⟨_, p0, p1, _⟩ := (show Two wx w6.heap.size 27 _ _ from hxx).facts
            clear hbx hwx hsx hxx KS K10 B10 X10 XW10 XP10 GW10 O10 INV10 M10 HCW HASK
            obtain ⟨T2, os2, N2, up2, V2, P2, i2, prs2, hS, hi, hPi, vs2, hG, hX⟩ := HT.out
            have S2 := Lib.hid hS
            have X2 := Lib.hid hX
            have hlen2 := hS.len
            have hcnt2 := hS.cnt
            have hr2 := right_parts (hS.right i hi)
            rw [hPi] at hr2
            have HR2 := Lib.hid (show rightB (i : Int) cw = true from by rw [← hPi]; exact hS.right i hi)
            have CA := bat_any i hS.book hi (by omega) (by rw [hPi]; omega) (fun c hc => by rw [hPi] at hc; have := (hr2.2.2.2.2.1 c hc).2; omega)
            rw [hPi] at CA
            have CA := Lib.hid CA
            have GW := Lib.hid hG
            obtain ⟨_, p0, p1, _⟩ := hX.facts
            have HI2 := Lib.hid (And.intro hi (And.intro hlen2 hcnt2))
            have hi40 : i ≤ 45 := by omega
            clear hS hX hG hi hPi hlen2 hcnt2 hr2 HT
            go_wp2_with fail
            refine CA.out.mono ?_
            rintro e wa ⟨va, vsa, rfl, hGa, hba⟩
            obtain ⟨Aa, ca, hva⟩ := rowS_form hGa.outer
            subst hva
            have bb := (Below.refl wa.heap.size wa).alloc (Nat.le_refl _) (.cells #[.int .i64 (i : Int), .slice Aa cw.length ca] 27)
            obtain ⟨wb, hwb⟩ : ∃ wb, wa.alloc (.cells #[.int .i64 (i : Int), .slice Aa cw.length ca] 27) = wb := ⟨_, rfl⟩
            have XB := Lib.hid (show Two wb wa.heap.size 27 (.int .i64 (i : Int)) (.slice Aa cw.length ca) from by rw [← hwb]; exact Two.new wa 27 _ _)
            rw [hwb] at bb
            have hbb := hba.trans (bb.mono hba.size)
            have SB := Lib.hid (S2.out.below hbb)
            have XW := Lib.hid (X2.out.below hbb X2.out.lt)
            have CS := psame_any (i : Int) (i : Int) cw cw (.slice Aa cw.length ca) (.slice Aw cw.length cww) _ _ wb ((hGa.below bb).grid) ((GW.out.below hbb).grid) (Nat.le_refl _) (Nat.le_refl _)
            rw [HR2.out, decide_eq_true rfl, decide_eq_true rfl] at CS
            have CS := Lib.hid (show Calls Tryd.prog 11 #[planV (i : Int) (.slice Aa cw.length ca), planV (i : Int) (.slice Aw cw.length cww)] wb fun e w' => e = .returned (.bool true) ∧ Below wb.heap.size wb w' from CS)
            obtain ⟨_, x0, x1, _⟩ := XB.out.facts
            clear p0 p1 CA hGa hba bb hbb S2 X2 GW
            obtain ⟨_, p0, p1, _⟩ := XW.out.facts
            go_wp2_with fail
            refine CS.out.mono ?_
            rintro e wc ⟨rfl, hbc⟩
            have SC := Lib.hid (SB.out.below hbc)
            have CK := bknown_any SC.out.book
            rw [HI2.out.2.1] at CK
            have CK := Lib.hid CK
            clear hbc CS x0 x1 p0 p1 SB XW XB
            go_wp2_with fail
            refine CK.out.mono ?_
            rintro e wd ⟨rfl, rfl⟩
            have hr3 := right_parts (SC.out.right i2 (by have := HI2.out.2.1; omega))
            have CL := Lib.hid (blatest_any i2 SC.out.book (by have := HI2.out.2.1; omega) (by have := HI2.out.2.1; have := HI2.out.2.2; omega) (by omega) (fun c hc => by have := (hr3.2.2.2.2.1 c hc).2; omega))
            clear CK hr3
            go_wp2_with fail
            refine CL.out.mono ?_
            rintro e we ⟨ve, vse, rfl, hGe, hbe⟩
            have SE := Lib.hid (SC.out.below hbe)
            have hfe : (Instr.field 27 (planV (i2 : Int) ve) 0).run Tryd.prog we = .ok (.int .i64 (i2 : Int)) we := planField _ _ _
            have hi2 : i2 ≤ 45 := by have := HI2.out.2; omega
            have hcast : ((i2 + 1 : Nat) : Int) = (i2 : Int) + 1 := by omega
            have ha3 : (((i2 : Int) + 1) != ((i2 : Int) + 1)) = false := by simp
            obtain ⟨ha1, ha2⟩ := wrap_one i2 (by omega)
            clear hGe hbe CL SC
            go_wp2_with fail
            go_roundw
            case rel => exact ⟨k + 1, T2, os2, N2, up2, V2, P2, i2, prs2, by go_num, by omega, SE⟩
            case measure => simp [intOf]; omega
          · subst hP11 hl11
            have hK := show BookW w11 w.heap.size T11 q bv bk n (N + 4 * l.length) os11 up _ ((P.length : Nat) : Int) (P ++ [ds]) from hK
            have hmem : ∃ p ∈ prs', p.ep = (e : Int) ∧ p.cs = ds := by
              rw [HEI.out.1] at hds htx
              obtain ⟨p, hp, h1, h2, h3⟩ := HASK.out.2
              exact ⟨p, hp, h1, (plan_inj h2 hds (text_inj (h3.symm.trans htx))).2⟩
            obtain ⟨A11, c11, hv11⟩ := rowS_form hG11.outer
            subst hv11
            have ba := (Below.refl w11.heap.size w11).alloc (Nat.le_refl _) (.cells #[.int .i64 (e : Int), .slice A11 ds.length c11] 27)
            obtain ⟨w12, hw12⟩ : ∃ w12, w11.alloc (.cells #[.int .i64 (e : Int), .slice A11 ds.length c11] 27) = w12 := ⟨_, rfl⟩
            have X12 := Lib.hid (show Two w12 w11.heap.size 27 (.int .i64 (e : Int)) (.slice A11 ds.length c11) from by rw [← hw12]; exact Two.new w11 27 _ _)
            rw [hw12] at ba
            have hs12 := hs.trans (KeptS.of_below (base := w.heap.size) ba)
            have K12 := Lib.hid (hK.below ba)
            have XW12 := Lib.hid (show Two w12 w6.heap.size 27 _ _ from hs12.heap hard_plan XW10.out)
            have G12 := Lib.hid (hG11.below ba)
            have O12 := Lib.hid (O10.out.keptS hs12)
            have GW12 := Lib.hid (GW10.out.keptS hs12)
            have B12 := Lib.hid (B10.out.trans (hs12.below B10.out.size))
            have HP1 := Lib.hid (show (P ++ [ds]).length = P.length + 1 from by rw [List.length_append]; rfl)
            have HDS := Lib.hid (show rightB (P.length : Int) ds = true from hds)
            have HME := Lib.hid hmem
            have hr12 := right_parts hds
            have hP45 : P.length ≤ 45 := by rw [HEI.out.1]; have := HEI.out.2; have := HIK.out.2; omega
            have hgl : (P ++ [ds])[P.length]'(by rw [HP1.out]; omega) = ds := by rw [List.getElem_append_right (Nat.le_refl _)]; simp
            have CLa := Lib.hid (fun (W : World) (h : Below w12.heap.size w12 W) => by
              have h' := blatest_any P.length (K12.out.below h) (by rw [HP1.out]; omega) (by rw [HP1.out]; omega) (by rw [hgl]; omega) (fun c hc => by rw [hgl] at hc; have := (hr12.2.2.2.2.1 c hc).2; omega)
              rw [hgl, HEI.out.1] at h'
              exact h')
            have hrt : (rightB (e : Int) ds && (decide ((e : Int) = (e : Int)) && decide (ds = ds))) = true := by rw [← HEI.out.1, hds]; simp
            have CS2 := Lib.hid (fun (W0 : World) (h0 : Below w12.heap.size w12 W0) (W : World) (v' : Value) (vs : List Value) (hG : GridO W W0.heap.size v' vs ds) (h : Below W0.heap.size W0 W) => by
              have h' := psame_any (e : Int) (e : Int) ds ds (.slice A11 ds.length c11) v' w12.heap.size W.heap.size W (G12.out.grid.below (h0.trans (h.mono h0.size))) hG.grid (Nat.le_trans h0.size h.size) (Nat.le_refl _)
              rw [hrt] at h'
              exact h')
            have CAm := Lib.hid (fun (W : World) (h : Below w12.heap.size w12 W) => among_any (e : Int) ds (.slice A11 ds.length c11) w12.heap.size (.slice (some ⟨g10, 0, none⟩) prs'.length cap10) prs' w.heap.size W (G12.out.grid.below h) h.size (by rw [← HEI.out.1]; exact HDS.out) (O12.out.below h) (by have := HL10.out; have := HIK.out.2; omega) HME.out)
            have HK12 := Lib.hid (fun (W : World) (h : Below w12.heap.size w12 W) => (show W.cell? ⟨w11.heap.size, 0, none⟩ = some (.int .i64 (e : Int)) ∧ W.cell? ⟨w11.heap.size, 1, none⟩ = some (.slice A11 ds.length c11) ∧ W.cell? ⟨w6.heap.size, 0, none⟩ = some (.int .i64 (i : Int)) from
              ⟨(X12.out.below h X12.out.lt).facts.2.1, (X12.out.below h X12.out.lt).facts.2.2.1, (XW12.out.below h XW12.out.lt).facts.2.1⟩))
            have U12 := Lib.hid ((Below.refl w12.heap.size w12).drew)
            have D12 := Lib.hid (HK12.out _ U12.out)
            have heq := eql_nil
            have hne : ((e : Int) != (e : Int)) = false := by simp
            rw [HEI.out.1]
            clear hK hmem hG11 ba hs12 hr12 hP45 hgl hrt hds htx hs CP d0 d1 d2 d3 d4 d5 p2 p3
            obtain ⟨hw1, hw2, hw3⟩ := HW.out
            go_wp2_with fail
            go_region_held3 (fun W => W.cell? ⟨w11.heap.size, 0, none⟩ = some (.int .i64 (e : Int)) ∧ W.cell? ⟨w11.heap.size, 1, none⟩ = some (.slice A11 ds.length c11) ∧ W.cell? ⟨w6.heap.size, 0, none⟩ = some (.int .i64 (i : Int)))
              (first | exact D12.out | exact D13.out | exact D14.out | exact D15.out | assumption)
              (first
                | (go_at_call 8; (with_reducible refine (CLa.out _ U12.out).mono ?_); rintro en w13 ⟨v13, vs13, rfl, hG, hb⟩; have CS3 := Lib.hid (CS2.out _ U12.out w13 v13 vs13 hG hb); have U13 := Lib.hid (U12.out.trans (hb.mono U12.out.size)); have D13 := Lib.hid (HK12.out _ U13.out); clear hb hG)
                | (go_at_call 11; (with_reducible refine CS3.out.mono ?_); rintro en w14 ⟨rfl, hb⟩; have U14 := Lib.hid (U13.out.trans (hb.mono U13.out.size)); have D14 := Lib.hid (HK12.out _ U14.out); clear hb)
                | (go_at_call 12; (with_reducible refine (CAm.out _ U14.out).mono ?_); rintro en wx ⟨rfl, hb⟩; have U15 := Lib.hid (U14.out.trans (hb.mono U14.out.size)); have D15 := Lib.hid (HK12.out _ U15.out); clear hb))
            rename_i hh
            clear hh hw1 hw2 hw3
            have hbx := U15.out
            have HT := Lib.hid (show TailB w wx q bv bk n k i cw w6.heap.size (.slice Aw cw.length cww) (.slice (some ⟨g10, 0, none⟩) prs'.length cap10) from
              ⟨T11, os11, _, up, _, P ++ [ds], P.length, prs', ⟨K12.out.below hbx, B12.out.trans (hbx.mono B12.out.size), HN80.out, HP1.out, by rw [HEI.out.1]; have := HEI.out.2; have := HIK.out.2; omega, fun j hj => by
                by_cases h : j < P.length
                · rw [List.getElem_append_left h]; exact M10.out.2.1 j h
                · have hj' : j = P.length := by rw [HP1.out] at hj; omega
                  subst hj'
                  rw [List.getElem_append_right (Nat.le_refl _)]
                  simpa using HDS.out, O12.out.below hbx, HL10.out, HASK.out.1⟩, by rw [HP1.out]; have := HCW.out.1; omega, by rw [List.getElem_append_left HCW.out.1]; exact HCW.out.2, vsw, GW12.out.below hbx, XW12.out.below hbx XW12.out.lt⟩)
            obtain ⟨_, p0, p1, _⟩ := (XW12.out.below hbx XW12.out.lt).facts
            clear hbx U12 U13 U14 U15 D12 D13 D14 D15 CLa CS2 CS3 CAm HK12 K12 XW12 G12 O12 GW12 B12 K10 B10 X10 XW10 XP10 GW10 O10 INV10 M10 HCW HASK X12 hw12
            obtain ⟨T2, os2, N2, up2, V2, P2, i2, prs2, hS, hi, hPi, vs2, hG, hX⟩ := HT.out
            have S2 := Lib.hid hS
            have X2 := Lib.hid hX
            have hlen2 := hS.len
            have hcnt2 := hS.cnt
            have hr2 := right_parts (hS.right i hi)
            rw [hPi] at hr2
            have HR2 := Lib.hid (show rightB (i : Int) cw = true from by rw [← hPi]; exact hS.right i hi)
            have CA := bat_any i hS.book hi (by omega) (by rw [hPi]; omega) (fun c hc => by rw [hPi] at hc; have := (hr2.2.2.2.2.1 c hc).2; omega)
            rw [hPi] at CA
            have CA := Lib.hid CA
            have GW := Lib.hid hG
            obtain ⟨_, p0, p1, _⟩ := hX.facts
            have HI2 := Lib.hid (And.intro hi (And.intro hlen2 hcnt2))
            have hi40 : i ≤ 45 := by omega
            clear hS hX hG hi hPi hlen2 hcnt2 hr2 HT
            go_wp2_with fail
            refine CA.out.mono ?_
            rintro e wa ⟨va, vsa, rfl, hGa, hba⟩
            obtain ⟨Aa, ca, hva⟩ := rowS_form hGa.outer
            subst hva
            have bb := (Below.refl wa.heap.size wa).alloc (Nat.le_refl _) (.cells #[.int .i64 (i : Int), .slice Aa cw.length ca] 27)
            obtain ⟨wb, hwb⟩ : ∃ wb, wa.alloc (.cells #[.int .i64 (i : Int), .slice Aa cw.length ca] 27) = wb := ⟨_, rfl⟩
            have XB := Lib.hid (show Two wb wa.heap.size 27 (.int .i64 (i : Int)) (.slice Aa cw.length ca) from by rw [← hwb]; exact Two.new wa 27 _ _)
            rw [hwb] at bb
            have hbb := hba.trans (bb.mono hba.size)
            have SB := Lib.hid (S2.out.below hbb)
            have XW := Lib.hid (X2.out.below hbb X2.out.lt)
            have CS := psame_any (i : Int) (i : Int) cw cw (.slice Aa cw.length ca) (.slice Aw cw.length cww) _ _ wb ((hGa.below bb).grid) ((GW.out.below hbb).grid) (Nat.le_refl _) (Nat.le_refl _)
            rw [HR2.out, decide_eq_true rfl, decide_eq_true rfl] at CS
            have CS := Lib.hid (show Calls Tryd.prog 11 #[planV (i : Int) (.slice Aa cw.length ca), planV (i : Int) (.slice Aw cw.length cww)] wb fun e w' => e = .returned (.bool true) ∧ Below wb.heap.size wb w' from CS)
            obtain ⟨_, x0, x1, _⟩ := XB.out.facts
            clear p0 p1 CA hGa hba bb hbb S2 X2 GW
            obtain ⟨_, p0, p1, _⟩ := XW.out.facts
            go_wp2_with fail
            refine CS.out.mono ?_
            rintro e wc ⟨rfl, hbc⟩
            have SC := Lib.hid (SB.out.below hbc)
            have CK := bknown_any SC.out.book
            rw [HI2.out.2.1] at CK
            have CK := Lib.hid CK
            clear hbc CS x0 x1 p0 p1 SB XW XB
            go_wp2_with fail
            refine CK.out.mono ?_
            rintro e wd ⟨rfl, rfl⟩
            have hr3 := right_parts (SC.out.right i2 (by have := HI2.out.2.1; omega))
            have CL := Lib.hid (blatest_any i2 SC.out.book (by have := HI2.out.2.1; omega) (by have := HI2.out.2.1; have := HI2.out.2.2; omega) (by omega) (fun c hc => by have := (hr3.2.2.2.2.1 c hc).2; omega))
            clear CK hr3
            go_wp2_with fail
            refine CL.out.mono ?_
            rintro e we ⟨ve, vse, rfl, hGe, hbe⟩
            have SE := Lib.hid (SC.out.below hbe)
            have hfe : (Instr.field 27 (planV (i2 : Int) ve) 0).run Tryd.prog we = .ok (.int .i64 (i2 : Int)) we := planField _ _ _
            have hi2 : i2 ≤ 45 := by have := HI2.out.2; omega
            have hcast : ((i2 + 1 : Nat) : Int) = (i2 : Int) + 1 := by omega
            have ha3 : (((i2 : Int) + 1) != ((i2 : Int) + 1)) = false := by simp
            obtain ⟨ha1, ha2⟩ := wrap_one i2 (by omega)
            clear hGe hbe CL SC
            go_wp2_with fail
            go_roundw
            case rel => exact ⟨k + 1, T2, os2, N2, up2, V2, P2, i2, prs2, by go_num, by omega, SE⟩
            case measure => simp [intOf]; omega
      · have q0 : (ki == 0) = false := beq_eq_false_iff_ne.2 hk0
        by_cases hk1 : ki = 1
        · have q1 : (ki == 1) = true := beq_iff_eq.2 hk1
          clear hk0 hk1
          have S2 := S7.out
          have CS := Lib.hid (bset_any S2.book vo true)
          have HNX := Lib.hid (fun (w' : World) (up' : Nat → Bool) (hK : BookW w' w.heap.size T q bv bk n N os up' V (i : Int) P) (hs : KeptS w.heap.size w7 w') => (show TailB w w' q bv bk n k i cw w6.heap.size (.slice Aw cw.length cww) u7 from
            ⟨T, os, N, up', V, P, i, prs, { S2 with book := hK, since := S2.since.trans (hs.below S2.since.size), num := by have := S2.num; omega, cnt := by have := S2.cnt; omega, row := S2.row.keptS hs, plen := by have := S2.plen; omega }, HCW.out.1, HCW.out.2, vsw, HGW.out.keptS hs, hs.heap hard_plan XW.out⟩))
          clear S2 S7
          go_wp2_with fail
          refine CS.out.mono ?_
          rintro e wx ⟨rfl, hK, hs⟩
          have HT := Lib.hid (HNX.out wx _ hK hs)
          have hXw := hs.heap hard_plan XW.out
          obtain ⟨_, p0, p1, _⟩ := (show Two wx w6.heap.size 27 _ _ from hXw).facts
          clear hK hs CS HNX hXw d0 d1 d2 d3 d4 d5 XW HGW X9 HCW
          obtain ⟨T2, os2, N2, up2, V2, P2, i2, prs2, hS, hi, hPi, vs2, hG, hX⟩ := HT.out
          have S2 := Lib.hid hS
          have X2 := Lib.hid hX
          have hlen2 := hS.len
          have hcnt2 := hS.cnt
          have hr2 := right_parts (hS.right i hi)
          rw [hPi] at hr2
          have HR2 := Lib.hid (show rightB (i : Int) cw = true from by rw [← hPi]; exact hS.right i hi)
          have CA := bat_any i hS.book hi (by omega) (by rw [hPi]; omega) (fun c hc => by rw [hPi] at hc; have := (hr2.2.2.2.2.1 c hc).2; omega)
          rw [hPi] at CA
          have CA := Lib.hid CA
          have GW := Lib.hid hG
          obtain ⟨_, p0, p1, _⟩ := hX.facts
          have HI2 := Lib.hid (And.intro hi (And.intro hlen2 hcnt2))
          have hi40 : i ≤ 45 := by omega
          clear hS hX hG hi hPi hlen2 hcnt2 hr2 HT
          go_wp2_with fail
          refine CA.out.mono ?_
          rintro e wa ⟨va, vsa, rfl, hGa, hba⟩
          obtain ⟨Aa, ca, hva⟩ := rowS_form hGa.outer
          subst hva
          have bb := (Below.refl wa.heap.size wa).alloc (Nat.le_refl _) (.cells #[.int .i64 (i : Int), .slice Aa cw.length ca] 27)
          obtain ⟨wb, hwb⟩ : ∃ wb, wa.alloc (.cells #[.int .i64 (i : Int), .slice Aa cw.length ca] 27) = wb := ⟨_, rfl⟩
          have XB := Lib.hid (show Two wb wa.heap.size 27 (.int .i64 (i : Int)) (.slice Aa cw.length ca) from by rw [← hwb]; exact Two.new wa 27 _ _)
          rw [hwb] at bb
          have hbb := hba.trans (bb.mono hba.size)
          have SB := Lib.hid (S2.out.below hbb)
          have XW := Lib.hid (X2.out.below hbb X2.out.lt)
          have CS := psame_any (i : Int) (i : Int) cw cw (.slice Aa cw.length ca) (.slice Aw cw.length cww) _ _ wb ((hGa.below bb).grid) ((GW.out.below hbb).grid) (Nat.le_refl _) (Nat.le_refl _)
          rw [HR2.out, decide_eq_true rfl, decide_eq_true rfl] at CS
          have CS := Lib.hid (show Calls Tryd.prog 11 #[planV (i : Int) (.slice Aa cw.length ca), planV (i : Int) (.slice Aw cw.length cww)] wb fun e w' => e = .returned (.bool true) ∧ Below wb.heap.size wb w' from CS)
          obtain ⟨_, x0, x1, _⟩ := XB.out.facts
          clear p0 p1 CA hGa hba bb hbb S2 X2 GW
          obtain ⟨_, p0, p1, _⟩ := XW.out.facts
          go_wp2_with fail
          refine CS.out.mono ?_
          rintro e wc ⟨rfl, hbc⟩
          have SC := Lib.hid (SB.out.below hbc)
          have CK := bknown_any SC.out.book
          rw [HI2.out.2.1] at CK
          have CK := Lib.hid CK
          clear hbc CS x0 x1 p0 p1 SB XW XB
          go_wp2_with fail
          refine CK.out.mono ?_
          rintro e wd ⟨rfl, rfl⟩
          have hr3 := right_parts (SC.out.right i2 (by have := HI2.out.2.1; omega))
          have CL := Lib.hid (blatest_any i2 SC.out.book (by have := HI2.out.2.1; omega) (by have := HI2.out.2.1; have := HI2.out.2.2; omega) (by omega) (fun c hc => by have := (hr3.2.2.2.2.1 c hc).2; omega))
          clear CK hr3
          go_wp2_with fail
          refine CL.out.mono ?_
          rintro e we ⟨ve, vse, rfl, hGe, hbe⟩
          have SE := Lib.hid (SC.out.below hbe)
          have hfe : (Instr.field 27 (planV (i2 : Int) ve) 0).run Tryd.prog we = .ok (.int .i64 (i2 : Int)) we := planField _ _ _
          have hi2 : i2 ≤ 45 := by have := HI2.out.2; omega
          have hcast : ((i2 + 1 : Nat) : Int) = (i2 : Int) + 1 := by omega
          have ha3 : (((i2 : Int) + 1) != ((i2 : Int) + 1)) = false := by simp
          obtain ⟨ha1, ha2⟩ := wrap_one i2 (by omega)
          clear hGe hbe CL SC
          go_wp2_with fail
          go_roundw
          case rel => exact ⟨k + 1, T2, os2, N2, up2, V2, P2, i2, prs2, by go_num, by omega, SE⟩
          case measure => simp [intOf]; omega
        · have q1 : (ki == 1) = false := beq_eq_false_iff_ne.2 hk1
          clear hk0 hk1
          have S2 := S7.out
          have CS := Lib.hid (bset_any S2.book vo false)
          have HNX := Lib.hid (fun (w' : World) (up' : Nat → Bool) (hK : BookW w' w.heap.size T q bv bk n N os up' V (i : Int) P) (hs : KeptS w.heap.size w7 w') => (show TailB w w' q bv bk n k i cw w6.heap.size (.slice Aw cw.length cww) u7 from
            ⟨T, os, N, up', V, P, i, prs, { S2 with book := hK, since := S2.since.trans (hs.below S2.since.size), num := by have := S2.num; omega, cnt := by have := S2.cnt; omega, row := S2.row.keptS hs, plen := by have := S2.plen; omega }, HCW.out.1, HCW.out.2, vsw, HGW.out.keptS hs, hs.heap hard_plan XW.out⟩))
          clear S2 S7
          go_wp2_with fail
          refine CS.out.mono ?_
          rintro e wx ⟨rfl, hK, hs⟩
          have HT := Lib.hid (HNX.out wx _ hK hs)
          have hXw := hs.heap hard_plan XW.out
          obtain ⟨_, p0, p1, _⟩ := (show Two wx w6.heap.size 27 _ _ from hXw).facts
          clear hK hs CS HNX hXw d0 d1 d2 d3 d4 d5 XW HGW X9 HCW
          obtain ⟨T2, os2, N2, up2, V2, P2, i2, prs2, hS, hi, hPi, vs2, hG, hX⟩ := HT.out
          have S2 := Lib.hid hS
          have X2 := Lib.hid hX
          have hlen2 := hS.len
          have hcnt2 := hS.cnt
          have hr2 := right_parts (hS.right i hi)
          rw [hPi] at hr2
          have HR2 := Lib.hid (show rightB (i : Int) cw = true from by rw [← hPi]; exact hS.right i hi)
          have CA := bat_any i hS.book hi (by omega) (by rw [hPi]; omega) (fun c hc => by rw [hPi] at hc; have := (hr2.2.2.2.2.1 c hc).2; omega)
          rw [hPi] at CA
          have CA := Lib.hid CA
          have GW := Lib.hid hG
          obtain ⟨_, p0, p1, _⟩ := hX.facts
          have HI2 := Lib.hid (And.intro hi (And.intro hlen2 hcnt2))
          have hi40 : i ≤ 45 := by omega
          clear hS hX hG hi hPi hlen2 hcnt2 hr2 HT
          go_wp2_with fail
          refine CA.out.mono ?_
          rintro e wa ⟨va, vsa, rfl, hGa, hba⟩
          obtain ⟨Aa, ca, hva⟩ := rowS_form hGa.outer
          subst hva
          have bb := (Below.refl wa.heap.size wa).alloc (Nat.le_refl _) (.cells #[.int .i64 (i : Int), .slice Aa cw.length ca] 27)
          obtain ⟨wb, hwb⟩ : ∃ wb, wa.alloc (.cells #[.int .i64 (i : Int), .slice Aa cw.length ca] 27) = wb := ⟨_, rfl⟩
          have XB := Lib.hid (show Two wb wa.heap.size 27 (.int .i64 (i : Int)) (.slice Aa cw.length ca) from by rw [← hwb]; exact Two.new wa 27 _ _)
          rw [hwb] at bb
          have hbb := hba.trans (bb.mono hba.size)
          have SB := Lib.hid (S2.out.below hbb)
          have XW := Lib.hid (X2.out.below hbb X2.out.lt)
          have CS := psame_any (i : Int) (i : Int) cw cw (.slice Aa cw.length ca) (.slice Aw cw.length cww) _ _ wb ((hGa.below bb).grid) ((GW.out.below hbb).grid) (Nat.le_refl _) (Nat.le_refl _)
          rw [HR2.out, decide_eq_true rfl, decide_eq_true rfl] at CS
          have CS := Lib.hid (show Calls Tryd.prog 11 #[planV (i : Int) (.slice Aa cw.length ca), planV (i : Int) (.slice Aw cw.length cww)] wb fun e w' => e = .returned (.bool true) ∧ Below wb.heap.size wb w' from CS)
          obtain ⟨_, x0, x1, _⟩ := XB.out.facts
          clear p0 p1 CA hGa hba bb hbb S2 X2 GW
          obtain ⟨_, p0, p1, _⟩ := XW.out.facts
          go_wp2_with fail
          refine CS.out.mono ?_
          rintro e wc ⟨rfl, hbc⟩
          have SC := Lib.hid (SB.out.below hbc)
          have CK := bknown_any SC.out.book
          rw [HI2.out.2.1] at CK
          have CK := Lib.hid CK
          clear hbc CS x0 x1 p0 p1 SB XW XB
          go_wp2_with fail
          refine CK.out.mono ?_
          rintro e wd ⟨rfl, rfl⟩
          have hr3 := right_parts (SC.out.right i2 (by have := HI2.out.2.1; omega))
          have CL := Lib.hid (blatest_any i2 SC.out.book (by have := HI2.out.2.1; omega) (by have := HI2.out.2.1; have := HI2.out.2.2; omega) (by omega) (fun c hc => by have := (hr3.2.2.2.2.1 c hc).2; omega))
          clear CK hr3
          go_wp2_with fail
          refine CL.out.mono ?_
          rintro e we ⟨ve, vse, rfl, hGe, hbe⟩
          have SE := Lib.hid (SC.out.below hbe)
          have hfe : (Instr.field 27 (planV (i2 : Int) ve) 0).run Tryd.prog we = .ok (.int .i64 (i2 : Int)) we := planField _ _ _
          have hi2 : i2 ≤ 45 := by have := HI2.out.2; omega
          have hcast : ((i2 + 1 : Nat) : Int) = (i2 : Int) + 1 := by omega
          have ha3 : (((i2 : Int) + 1) != ((i2 : Int) + 1)) = false := by simp
          obtain ⟨ha1, ha2⟩ := wrap_one i2 (by omega)
          clear hGe hbe CL SC
          go_wp2_with fail
          go_roundw
          case rel => exact ⟨k + 1, T2, os2, N2, up2, V2, P2, i2, prs2, by go_num, by omega, SE⟩
          case measure => simp [intOf]; omega
    · go_wp2_with fail
      go_ret
      exact ⟨rfl, hS.out.since⟩
end Go.Proofs.YtefcbofjndnpkaaDoor
