/- What the project's Join and Meet of two spans answer, and the document's own. -/
import Derived.Test.YtlblappalhofmaaDoorRSpanW
import Derived.Test.YtlblappalhofmaaDoorCutSW
namespace Go.Proofs.YtlblappalhofmaaDoor
open Go.RowKit Go.Shelf Tide Utf

/-- The error's number of a join. -/
def joinNum (la ha lb hb : ByteArray) : Nat := if spanB la ha && spanB lb hb then (if bordB ha lb then 0 else if bordB hb la then 0 else 1) else 4
/-- The bounds of a join. -/
def joinLo (la ha lb hb : ByteArray) : ByteArray := if spanB la ha && spanB lb hb then (if bordB ha lb then la else if bordB hb la then lb else mt) else mt
def joinHi (la ha lb hb : ByteArray) : ByteArray := if spanB la ha && spanB lb hb then (if bordB ha lb then hb else if bordB hb la then ha else mt) else mt
/-- The answer of a join. -/
def JoinR (a : Nat → Addr) (la ha lb hb : ByteArray) (w : World) (e : Ending) (w' : World) : Prop :=
  ∃ x, e = .returned (.tuple #[spanV (joinLo la ha lb hb) (joinHi la ha lb hb), x]) ∧ IsErr a x (joinNum la ha lb hb) ∧ Below w.heap.size w w'
theorem joinR_bad {a : Nat → Addr} {la ha lb hb : ByteArray} {w w' : World} (m : Nat) (hm : m < 19) (hc : joinNum la ha lb hb = m + 1 ∧ joinLo la ha lb hb = mt ∧ joinHi la ha lb hb = mt) (h : Below w.heap.size w w') :
    JoinR a la ha lb hb w (.returned (.tuple #[spanV mt mt, errAt (a m)])) w' := ⟨_, by rw [hc.2.1, hc.2.2], by rw [hc.1]; exact isErr_at a m hm, h⟩
theorem joinR_ok {a : Nat → Addr} {la ha lb hb lo hi : ByteArray} {w w' : World} (hc : joinNum la ha lb hb = 0 ∧ joinLo la ha lb hb = lo ∧ joinHi la ha lb hb = hi) (h : Below w.heap.size w w') :
    JoinR a la ha lb hb w (.returned (.tuple #[spanV lo hi, .nilIface])) w' := ⟨_, by rw [hc.2.1, hc.2.2], by rw [hc.1]; exact isErr_nil a, h⟩

/-- Three blocks: both arguments and the answer's. -/
abbrev trio (w : World) (t : TypeId) (x y x' y' : Value) : World := ((w.alloc (.cells #[x, y] t)).alloc (.cells #[x', y'] t)).alloc (.cells #[.string mt, .string mt] t)
theorem trio_new (w : World) (t : TypeId) (x y x' y' : Value) : Two (trio w t x y x' y') w.heap.size t x y ∧ Two (trio w t x y x' y') (w.heap.size + 1) t x' y' ∧ Two (trio w t x y x' y') (w.heap.size + 1 + 1) t (.string mt) (.string mt) ∧ Below w.heap.size w (trio w t x y x' y') := by
  have t1 := (Two.new (w.alloc (.cells #[x, y] t)) t x' y').alloc (.cells #[.string mt, .string mt] t)
  have t2 := Two.new ((w.alloc (.cells #[x, y] t)).alloc (.cells #[x', y'] t)) t (.string mt) (.string mt)
  simp only [World.size_alloc] at t1 t2
  exact ⟨((Two.new w t x y).alloc _).alloc _, t1, t2, (((Below.refl w.heap.size w).alloc (Nat.le_refl _) _).alloc (by simp) _).alloc (by simp; omega) _⟩
/-- The answer stored. -/
abbrev put2 (W : World) (g : Nat) (p q : Value) : World := (W.setCell ⟨g, 0, none⟩ p).setCell ⟨g, 1, none⟩ q
theorem put2_cells {W : World} {g : Nat} {t : TypeId} {x y : Value} (h : Two W g t x y) (p q : Value) : (put2 W g p q).cell? ⟨g, 0, none⟩ = some p ∧ (put2 W g p q).cell? ⟨g, 1, none⟩ = some q := ⟨(h.set2 p q).facts.1, (h.set2 p q).facts.2.1⟩
theorem put2_below {W0 W : World} {B g : Nat} (h : Below B W0 W) (hg : B ≤ g) (p q : Value) : Below B W0 (put2 W g p q) := (h.setCell (p := ⟨g, 0, none⟩) hg p).setCell (p := ⟨g, 1, none⟩) hg q

/-- A variable's block is none that is made. -/
theorem apart_new2 {w : World} {a : Nat → Addr} (h : Errs w a) : ¬ w.heap.size = 1 - 1 ∧ ¬ w.heap.size = 1 - 2 ∧ ¬ w.heap.size + 1 = 1 - 1 ∧ ¬ 1 = w.heap.size + 1 + 1 := by
  have h0 : 1 < w.heap.size := World.block_lt_of_cell? _ _ (h.var 0 (by omega))
  omega

set_option maxHeartbeats 4000000 in
theorem join_any (a : Nat → Addr) (la ha lb hb : ByteArray) (w : World) (h1 : la.size ≤ 65536) (h2 : ha.size ≤ 65536) (h3 : lb.size ≤ 65536) (h4 : hb.size ≤ 65536) (hT : Tabs w) (hE : Errs w a) :
    Calls Tryd.prog 14 #[spanV la ha, spanV lb hb] w (JoinR a la ha lb hb w) := by
  have HT := Lib.hid hT
  have HE := Lib.hid hE
  obtain ⟨t0, t1, t2, hB⟩ := trio_new w 23 (.string la) (.string ha) (.string lb) (.string hb)
  have B0 := Lib.hid hB
  have T0 := Lib.hid t0
  have T1 := Lib.hid t1
  have T2 := Lib.hid t2
  clear hT hE t0 t1 t2 hB
  cases ea : spanB la ha with
  | false =>
    have HN := Lib.hid (show joinNum la ha lb hb = 3 + 1 ∧ joinLo la ha lb hb = mt ∧ joinHi la ha lb hb = mt by unfold joinNum joinLo joinHi; rw [ea]; exact ⟨rfl, rfl, rfl⟩)
    have CA := Lib.hid (fun W (h : Below w.heap.size w W) => right_is a la ha W h1 h2 (HT.out.below h) (HE.out.below h) false ea)
    clear ea
    go_enter Tryd.func14, Tryd.ntmps14
    go_wp2_with fail
    refine (CA.out _ B0.out).mono ?_
    rintro e w1 ⟨rfl, hb⟩
    have HB1 := Lib.hid (B0.out.trans (hb.mono B0.out.size))
    have R2 := Lib.hid (T2.out.below hb T2.out.lt)
    obtain ⟨hc0, hc1, hf1⟩ := R2.out.facts
    have hg := (HE.out.below HB1.out).var 3 (by omega)
    simp only [evars, List.getD_cons_zero, List.getD_cons_succ] at hg
    clear hb
    go_wp2_with fail
    go_region
    go_wp2_with fail
    obtain ⟨e0, e1⟩ := put2_cells R2.out (.string mt) (.string mt)
    exact bodyPost_ret (v := .tuple #[spanV mt mt, errAt (a 3)]) (by simp [results, Tryd.results14, go_sem, e0, e1]) rfl (joinR_bad 3 (by omega) HN.out (put2_below HB1.out (by omega) _ _).drew)
  | true =>
    cases eb : spanB lb hb with
    | false =>
      have HN := Lib.hid (show joinNum la ha lb hb = 3 + 1 ∧ joinLo la ha lb hb = mt ∧ joinHi la ha lb hb = mt by unfold joinNum joinLo joinHi; rw [ea, eb]; exact ⟨rfl, rfl, rfl⟩)
      have CA := Lib.hid (fun W (h : Below w.heap.size w W) => right_is a la ha W h1 h2 (HT.out.below h) (HE.out.below h) true ea)
      have CB := Lib.hid (fun W (h : Below w.heap.size w W) => right_is a lb hb W h3 h4 (HT.out.below h) (HE.out.below h) false eb)
      clear ea eb
      go_enter Tryd.func14, Tryd.ntmps14
      go_wp2_with fail
      refine (CA.out _ B0.out).mono ?_
      rintro e w1 ⟨rfl, hb⟩
      have HB1 := Lib.hid (B0.out.trans (hb.mono B0.out.size))
      have R2 := Lib.hid (T2.out.below hb T2.out.lt)
      obtain ⟨hc0, hc1, hf1⟩ := (T1.out.below hb T1.out.lt).facts
      clear hb
      go_wp2_with fail
      refine (CB.out _ HB1.out).mono ?_
      rintro e w2 ⟨rfl, hb⟩
      have HB2 := Lib.hid (HB1.out.trans (hb.mono HB1.out.size))
      have S2 := Lib.hid (R2.out.below hb R2.out.lt)
      clear hc0 hc1 hf1
      obtain ⟨hc0, hc1, hf1⟩ := S2.out.facts
      have hg := (HE.out.below HB2.out).var 3 (by omega)
      simp only [evars, List.getD_cons_zero, List.getD_cons_succ] at hg
      clear hb
      go_wp2_with fail
      go_region
      go_wp2_with fail
      obtain ⟨e0, e1⟩ := put2_cells S2.out (.string mt) (.string mt)
      exact bodyPost_ret (v := .tuple #[spanV mt mt, errAt (a 3)]) (by simp [results, Tryd.results14, go_sem, e0, e1]) rfl (joinR_bad 3 (by omega) HN.out (put2_below HB2.out (by omega) _ _).drew)
    | true =>
      have HN := Lib.hid (show joinNum la ha lb hb = (if bordB ha lb then 0 else if bordB hb la then 0 else 1) ∧ joinLo la ha lb hb = (if bordB ha lb then la else if bordB hb la then lb else mt) ∧ joinHi la ha lb hb = (if bordB ha lb then hb else if bordB hb la then ha else mt) by unfold joinNum joinLo joinHi; rw [ea, eb]; exact ⟨rfl, rfl, rfl⟩)
      have CA := Lib.hid (fun W (h : Below w.heap.size w W) => right_is a la ha W h1 h2 (HT.out.below h) (HE.out.below h) true ea)
      have CB := Lib.hid (fun W (h : Below w.heap.size w W) => right_is a lb hb W h3 h4 (HT.out.below h) (HE.out.below h) true eb)
      clear ea eb h1 h2 h3 h4
      go_enter Tryd.func14, Tryd.ntmps14
      go_wp2_with fail
      refine (CA.out _ B0.out).mono ?_
      rintro e w1 ⟨rfl, hb⟩
      have HB1 := Lib.hid (B0.out.trans (hb.mono B0.out.size))
      have R0 := Lib.hid (T0.out.below hb T0.out.lt)
      have R1 := Lib.hid (T1.out.below hb T1.out.lt)
      have R2 := Lib.hid (T2.out.below hb T2.out.lt)
      obtain ⟨hc0, hc1, hf1⟩ := R1.out.facts
      clear hb
      go_wp2_with fail
      refine (CB.out _ HB1.out).mono ?_
      rintro e w2 ⟨rfl, hb⟩
      have HB2 := Lib.hid (HB1.out.trans (hb.mono HB1.out.size))
      have S0 := Lib.hid (R0.out.below hb R0.out.lt)
      have S1 := Lib.hid (R1.out.below hb R1.out.lt)
      have S2 := Lib.hid (R2.out.below hb R2.out.lt)
      clear hc0 hc1 hf1 hb
      obtain ⟨hc0, hc1, hf0⟩ := S0.out.facts
      obtain ⟨hd0, hd1, hf1⟩ := S1.out.facts
      go_wp2_with fail
      cases h5 : bordB ha lb with
      | true =>
        have HC := Lib.hid (show joinNum la ha lb hb = 0 ∧ joinLo la ha lb hb = la ∧ joinHi la ha lb hb = hb by obtain ⟨n1, n2, n3⟩ := HN.out; rw [n1, n2, n3, h5]; exact ⟨rfl, rfl, rfl⟩)
        have c5 := bord_is la ha lb hb w2 true h5
        clear h5
        refine c5.mono ?_
        rintro e w3 ⟨rfl, hb⟩
        have HB3 := Lib.hid (HB2.out.trans (hb.mono HB2.out.size))
        have U2 := Lib.hid (S2.out.below hb S2.out.lt)
        clear hc0 hc1 hf0 hd0 hd1 hf1
        obtain ⟨hc0, hc1, hf0⟩ := (S0.out.below hb S0.out.lt).facts
        obtain ⟨hd0, hd1, hf1⟩ := (S1.out.below hb S1.out.lt).facts
        obtain ⟨hq0, hq1, hf2⟩ := U2.out.facts
        clear hb c5
        go_wp2_with fail
        obtain ⟨e0, e1⟩ := put2_cells U2.out (.string la) (.string hb)
        exact bodyPost_ret (v := .tuple #[spanV la hb, .nilIface]) (by simp [results, Tryd.results14, go_sem, e0, e1]) rfl (joinR_ok HC.out (put2_below HB3.out (by omega) _ _))
      | false =>
        have HN2 := Lib.hid (show joinNum la ha lb hb = (if bordB hb la then 0 else 1) ∧ joinLo la ha lb hb = (if bordB hb la then lb else mt) ∧ joinHi la ha lb hb = (if bordB hb la then ha else mt) by obtain ⟨n1, n2, n3⟩ := HN.out; rw [n1, n2, n3, h5]; exact ⟨rfl, rfl, rfl⟩)
        have c5 := bord_is la ha lb hb w2 false h5
        clear h5
        refine c5.mono ?_
        rintro e w3 ⟨rfl, hb⟩
        have HB3 := Lib.hid (HB2.out.trans (hb.mono HB2.out.size))
        have U0 := Lib.hid (S0.out.below hb S0.out.lt)
        have U1 := Lib.hid (S1.out.below hb S1.out.lt)
        have U2 := Lib.hid (S2.out.below hb S2.out.lt)
        clear hc0 hc1 hf0 hd0 hd1 hf1
        obtain ⟨hc0, hc1, hf0⟩ := U0.out.facts
        obtain ⟨hd0, hd1, hf1⟩ := U1.out.facts
        clear hb c5
        go_wp2_with fail
        cases h6 : bordB hb la with
        | true =>
          have HC := Lib.hid (show joinNum la ha lb hb = 0 ∧ joinLo la ha lb hb = lb ∧ joinHi la ha lb hb = ha by obtain ⟨n1, n2, n3⟩ := HN2.out; rw [n1, n2, n3, h6]; exact ⟨rfl, rfl, rfl⟩)
          have c6 := bord_is lb hb la ha w3 true h6
          clear h6
          refine c6.mono ?_
          rintro e w4 ⟨rfl, hb⟩
          have HB4 := Lib.hid (HB3.out.trans (hb.mono HB3.out.size))
          have X2 := Lib.hid (U2.out.below hb U2.out.lt)
          clear hc0 hc1 hf0 hd0 hd1 hf1
          obtain ⟨hc0, hc1, hf0⟩ := (U0.out.below hb U0.out.lt).facts
          obtain ⟨hd0, hd1, hf1⟩ := (U1.out.below hb U1.out.lt).facts
          obtain ⟨hq0, hq1, hf2⟩ := X2.out.facts
          clear hb c6
          go_wp2_with fail
          obtain ⟨e0, e1⟩ := put2_cells X2.out (.string lb) (.string ha)
          exact bodyPost_ret (v := .tuple #[spanV lb ha, .nilIface]) (by simp [results, Tryd.results14, go_sem, e0, e1]) rfl (joinR_ok HC.out (put2_below HB4.out (by omega) _ _))
        | false =>
          have HC := Lib.hid (show joinNum la ha lb hb = 0 + 1 ∧ joinLo la ha lb hb = mt ∧ joinHi la ha lb hb = mt by obtain ⟨n1, n2, n3⟩ := HN2.out; rw [n1, n2, n3, h6]; exact ⟨rfl, rfl, rfl⟩)
          have c6 := bord_is lb hb la ha w3 false h6
          clear h6
          refine c6.mono ?_
          rintro e w4 ⟨rfl, hb⟩
          have HB4 := Lib.hid (HB3.out.trans (hb.mono HB3.out.size))
          have X2 := Lib.hid (U2.out.below hb U2.out.lt)
          clear hc0 hc1 hf0 hd0 hd1 hf1
          obtain ⟨hq0, hq1, hf2⟩ := X2.out.facts
          have hg := (HE.out.below HB4.out).var 0 (by omega)
          simp only [evars, List.getD_cons_zero] at hg
          obtain ⟨n1, n2, n3, n4⟩ := apart_new2 HE.out
          simp only [Nat.reduceSub] at n1 n2 n3
          clear hb c6
          go_wp2_with fail
          go_region
          go_wp2_with fail
          obtain ⟨e0, e1⟩ := put2_cells X2.out (.string mt) (.string mt)
          exact bodyPost_ret (v := .tuple #[spanV mt mt, errAt (a 0)]) (by simp [results, Tryd.results14, go_sem, e0, e1]) rfl (joinR_bad 0 (by omega) HC.out (put2_below HB4.out (by omega) _ _).drew)
end Go.Proofs.YtlblappalhofmaaDoor
