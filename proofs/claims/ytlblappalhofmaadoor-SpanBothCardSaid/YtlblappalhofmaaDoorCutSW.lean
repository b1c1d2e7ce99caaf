/- What the project's Cut of a span answers. -/
import Derived.Test.YtlblappalhofmaaDoorSpanW
namespace Go.Proofs.YtlblappalhofmaaDoor
open Go.RowKit Go.Shelf Tide Utf

/-- Two cells make a whole block. -/
def Two (W : World) (g : Nat) (t : TypeId) (x y : Value) : Prop := W.heap[g]? = some (.cells #[x, y] t)
theorem Two.new (w : World) (t : TypeId) (x y : Value) : Two (w.alloc (.cells #[x, y] t)) w.heap.size t x y := heap_alloc_new w _
theorem Two.lt {W : World} {g : Nat} {t : TypeId} {x y : Value} (h : Two W g t x y) : g < W.heap.size := by
  rcases Nat.lt_or_ge g W.heap.size with hlt | hge
  · exact hlt
  · rw [Two, Array.getElem?_eq_none hge] at h; cases h
theorem Two.below {W W' : World} {B g : Nat} {t : TypeId} {x y : Value} (h : Two W g t x y) (hb : Below B W W') (hB : g < B) : Two W' g t x y := (hb.block g hB).trans h
theorem Two.alloc {W : World} {g : Nat} {t : TypeId} {x y : Value} (h : Two W g t x y) (o : Obj) : Two (W.alloc o) g t x y := h.below ((Below.refl _ _).alloc (Nat.le_refl _) o) h.lt
theorem Two.pair {W : World} {g : Nat} {t : TypeId} {x y : Value} (h : Two W g t x y) : Pair W g x y :=
  ⟨h.lt, by rw [cell_of_row _ _ 0 _ _ _ h]; rfl, by rw [cell_of_row _ _ 1 _ _ _ h]; rfl⟩
theorem Two.frozen {W : World} {g : Nat} {t : TypeId} {x y : Value} (h : Two W g t x y) (i : Nat) : W.frozen? ⟨g, i, none⟩ = false := by
  unfold World.frozen?
  rw [show W.heap[(⟨g, i, none⟩ : Addr).block]? = _ from h]
  simp

/-- Three blocks of two cells each, made one behind the other. -/
abbrev three (w : World) (t : TypeId) (x y : Value) : World := ((w.alloc (.cells #[x, y] t)).alloc (.cells #[.string mt, .string mt] t)).alloc (.cells #[.string mt, .string mt] t)
theorem three_new (w : World) (t : TypeId) (x y : Value) : Two (three w t x y) w.heap.size t x y ∧ Two (three w t x y) (w.heap.size + 1) t (.string mt) (.string mt) ∧ Two (three w t x y) (w.heap.size + 1 + 1) t (.string mt) (.string mt) ∧ Below w.heap.size w (three w t x y) := by
  have t1 := (Two.new (w.alloc (.cells #[x, y] t)) t (.string mt) (.string mt)).alloc (.cells #[.string mt, .string mt] t)
  have t2 := Two.new ((w.alloc (.cells #[x, y] t)).alloc (.cells #[.string mt, .string mt] t)) t (.string mt) (.string mt)
  simp only [World.size_alloc] at t1 t2
  exact ⟨((Two.new w t x y).alloc _).alloc _, t1, t2, (((Below.refl w.heap.size w).alloc (Nat.le_refl _) _).alloc (by simp) _).alloc (by simp; omega) _⟩
theorem Two.facts {W : World} {g : Nat} {t : TypeId} {x y : Value} (h : Two W g t x y) : W.cell? ⟨g, 0, none⟩ = some x ∧ W.cell? ⟨g, 1, none⟩ = some y ∧ ∀ i, W.frozen? ⟨g, i, none⟩ = false := ⟨h.pair.2.1, h.pair.2.2, h.frozen⟩

theorem Two.setA {W : World} {g : Nat} {t : TypeId} {x y : Value} (h : Two W g t x y) (v : Value) : Two (W.setCell ⟨g, 0, none⟩ v) g t v y := by
  obtain ⟨hlt, hk⟩ := Array.getElem?_eq_some_iff.1 h
  show (W.heap.modify g _)[g]? = _
  rw [Array.getElem?_eq_getElem (by rw [Array.size_modify]; exact hlt), Array.getElem_modify_self, hk]
  rfl
theorem Two.setB {W : World} {g : Nat} {t : TypeId} {x y : Value} (h : Two W g t x y) (v : Value) : Two (W.setCell ⟨g, 1, none⟩ v) g t x v := by
  obtain ⟨hlt, hk⟩ := Array.getElem?_eq_some_iff.1 h
  show (W.heap.modify g _)[g]? = _
  rw [Array.getElem?_eq_getElem (by rw [Array.size_modify]; exact hlt), Array.getElem_modify_self, hk]
  rfl
theorem Two.set2 {W : World} {g : Nat} {t : TypeId} {x y : Value} (h : Two W g t x y) (x' y' : Value) : Two ((W.setCell ⟨g, 0, none⟩ x').setCell ⟨g, 1, none⟩ y') g t x' y' := (h.setA x').setB y'
theorem Two.other {W : World} {g g' : Nat} {t : TypeId} {x y : Value} (h : Two W g t x y) (hne : g ≠ g') (i : Nat) (v : Value) : Two (W.setCell ⟨g', i, none⟩ v) g t x y :=
  (Below.heap_setCell W _ _ g (fun e => hne (by rw [e]))).trans h
/-- Both results stored. -/
abbrev put4 (W : World) (g g' : Nat) (p q r s : Value) : World := (((W.setCell ⟨g, 0, none⟩ p).setCell ⟨g, 1, none⟩ q).setCell ⟨g', 0, none⟩ r).setCell ⟨g', 1, none⟩ s
theorem put4_cells {W : World} {g g' : Nat} {t t' : TypeId} {x y x' y' : Value} (h : Two W g t x y) (h' : Two W g' t' x' y') (hne : g ≠ g') (p q r s : Value) :
    (put4 W g g' p q r s).cell? ⟨g, 0, none⟩ = some p ∧ (put4 W g g' p q r s).cell? ⟨g, 1, none⟩ = some q ∧ (put4 W g g' p q r s).cell? ⟨g', 0, none⟩ = some r ∧ (put4 W g g' p q r s).cell? ⟨g', 1, none⟩ = some s := by
  have h1 := (((h.set2 p q).other hne 0 r).other hne 1 s).facts
  have h2 := (((h'.other (Ne.symm hne) 0 p).other (Ne.symm hne) 1 q).set2 r s).facts
  exact ⟨h1.1, h1.2.1, h2.1, h2.2.1⟩
theorem put4_below {W0 W : World} {B g g' : Nat} (h : Below B W0 W) (hg : B ≤ g) (hg' : B ≤ g') (p q r s : Value) : Below B W0 (put4 W g g' p q r s) :=
  (((h.setCell (p := ⟨g, 0, none⟩) hg p).setCell (p := ⟨g, 1, none⟩) hg q).setCell (p := ⟨g', 0, none⟩) hg' r).setCell (p := ⟨g', 1, none⟩) hg' s

set_option maxHeartbeats 1000000 in
theorem cut_bad (a : Nat → Addr) (lo hi k : ByteArray) (w : World) (hlo : lo.size ≤ 65536) (hhi : hi.size ≤ 65536) (hT : Tabs w) (hE : Errs w a) (h1 : spanB lo hi = false) :
    Calls Tryd.prog 7 #[spanV lo hi, .string k] w fun e w' => e = .returned (.tuple #[spanV mt mt, spanV mt mt, errAt (a 3)]) ∧ Below w.heap.size w w' := by
  have HT := Lib.hid hT
  have HE := Lib.hid hE
  obtain ⟨t0, t1, t2, hB⟩ := three_new w 23 (.string lo) (.string hi)
  have B0 := Lib.hid hB
  have T1 := Lib.hid t1
  have T2 := Lib.hid t2
  have cB := fun W (h : Below w.heap.size w W) => right_is a lo hi W hlo hhi (HT.out.below h) (HE.out.below h) false h1
  have CB := Lib.hid cB
  clear hT hE t0 t1 t2 cB h1 hB
  go_enter Tryd.func7, Tryd.ntmps7
  go_wp2_with fail
  refine (CB.out _ B0.out).mono ?_
  rintro e w1 ⟨rfl, hb⟩
  have HB := Lib.hid (B0.out.trans (hb.mono B0.out.size))
  have R1 := Lib.hid (T1.out.below hb T1.out.lt)
  have R2 := Lib.hid (T2.out.below hb T2.out.lt)
  obtain ⟨hc0, hc1, hf1⟩ := R1.out.facts
  obtain ⟨hd0, hd1, hf2⟩ := R2.out.facts
  have hg := (HE.out.below HB.out).var 3 (by omega)
  simp only [evars, List.getD_cons_zero, List.getD_cons_succ] at hg
  clear hb
  go_wp2_with fail
  go_region
  go_wp2_with fail
  obtain ⟨e0, e1, e2, e3⟩ := put4_cells R1.out R2.out (by omega) (.string mt) (.string mt) (.string mt) (.string mt)
  exact bodyPost_ret (v := .tuple #[spanV mt mt, spanV mt mt, errAt (a 3)]) (by simp [results, Tryd.results7, go_sem, e0, e1, e2, e3]) rfl ⟨rfl, (put4_below HB.out (by omega) (by omega) _ _ _ _).drew⟩
/-- A variable's block is none that is made. -/
theorem apart_new {w : World} {a : Nat → Addr} (h : Errs w a) : ¬ w.heap.size = 1 - 1 ∧ ¬ w.heap.size + 1 = 1 - 1 ∧ ¬ 1 = w.heap.size + 1 ∧ ¬ 1 = w.heap.size + 1 + 1 := by
  have h0 : 1 < w.heap.size := World.block_lt_of_cell? _ _ (h.var 0 (by omega))
  omega
/-- What a text is in an answer without an error. -/
def pick (c : Nat) (t : ByteArray) : ByteArray := if c = 0 then t else mt
theorem pick0 (t : ByteArray) : pick 0 t = t := rfl
theorem pick1 {c : Nat} (h : c ≠ 0) (t : ByteArray) : pick c t = mt := if_neg h
/-- The answer of a cut. -/
def CutR (a : Nat → Addr) (lo hi k : ByteArray) (w : World) (e : Ending) (w' : World) : Prop :=
  ∃ x, e = .returned (.tuple #[spanV (pick (cutNum lo hi k) lo) (pick (cutNum lo hi k) k), spanV (pick (cutNum lo hi k) k) (pick (cutNum lo hi k) hi), x]) ∧ IsErr a x (cutNum lo hi k) ∧ Below w.heap.size w w'
theorem cutR_bad {a : Nat → Addr} {lo hi k : ByteArray} {w w' : World} (m : Nat) (hm : m < 19) (hc : cutNum lo hi k = m + 1) (hb : Below w.heap.size w w') :
    CutR a lo hi k w (.returned (.tuple #[spanV mt mt, spanV mt mt, errAt (a m)])) w' :=
  ⟨_, by rw [hc]; rfl, by rw [hc]; exact isErr_at a m hm, hb⟩
theorem cutR_ok {a : Nat → Addr} {lo hi k : ByteArray} {w w' : World} (hc : cutNum lo hi k = 0) (hb : Below w.heap.size w w') :
    CutR a lo hi k w (.returned (.tuple #[spanV lo k, spanV k hi, .nilIface])) w' :=
  ⟨_, by rw [hc]; rfl, by rw [hc]; exact isErr_nil a, hb⟩

set_option maxHeartbeats 2000000 in
theorem cut_key (a : Nat → Addr) (lo hi k : ByteArray) (w : World) (hlo : lo.size ≤ 65536) (hhi : hi.size ≤ 65536) (hk : k.size ≤ 65536) (hT : Tabs w) (hE : Errs w a) (h1 : spanB lo hi = true) (h2 : keyNum k ≠ 0) :
    Calls Tryd.prog 7 #[spanV lo hi, .string k] w (CutR a lo hi k w) := by
  have HN := Lib.hid (show cutNum lo hi k = keyNum k by unfold cutNum; rw [if_pos h1, if_neg h2])
  have HT := Lib.hid hT
  have HE := Lib.hid hE
  obtain ⟨t0, t1, t2, hB⟩ := three_new w 23 (.string lo) (.string hi)
  have B0 := Lib.hid hB
  have T0 := Lib.hid t0
  have T1 := Lib.hid t1
  have T2 := Lib.hid t2
  have CB := Lib.hid (fun W (h : Below w.heap.size w W) => right_is a lo hi W hlo hhi (HT.out.below h) (HE.out.below h) true h1)
  have CK := Lib.hid (fun W (h : Below w.heap.size w W) => key_any a k W hk (HT.out.below h) (HE.out.below h))
  clear hT hE t0 t1 t2 h1 hB
  go_enter Tryd.func7, Tryd.ntmps7
  go_wp2_with fail
  refine (CB.out _ B0.out).mono ?_
  rintro e w1 ⟨rfl, hb⟩
  have HB1 := Lib.hid (B0.out.trans (hb.mono B0.out.size))
  have R0 := Lib.hid (T0.out.below hb T0.out.lt)
  have R1 := Lib.hid (T1.out.below hb T1.out.lt)
  have R2 := Lib.hid (T2.out.below hb T2.out.lt)
  clear hb
  go_wp2_with fail
  refine (CK.out _ HB1.out).mono ?_
  rintro e w2 ⟨x, rfl, hx, hb⟩
  have HB2 := Lib.hid (HB1.out.trans (hb.mono HB1.out.size))
  have S0 := Lib.hid (R0.out.below hb R0.out.lt)
  have S1 := Lib.hid (R1.out.below hb R1.out.lt)
  have S2 := Lib.hid (R2.out.below hb R2.out.lt)
  clear hb
  rcases hx with ⟨h0, rfl⟩ | ⟨m, hm, h0, rfl⟩
  · exact absurd h0 h2
  · have HN2 := Lib.hid (HN.out.trans h0)
    obtain ⟨hc0, hc1, hf1⟩ := S1.out.facts
    obtain ⟨hd0, hd1, hf2⟩ := S2.out.facts
    clear h0 h2
    go_wp2_with fail
    obtain ⟨e0, e1, e2, e3⟩ := put4_cells S1.out S2.out (by omega) (.string mt) (.string mt) (.string mt) (.string mt)
    exact bodyPost_ret (v := .tuple #[spanV mt mt, spanV mt mt, errAt (a m)]) (by simp [results, Tryd.results7, go_sem, e0, e1, e2, e3]) rfl (cutR_bad m hm HN2.out (put4_below HB2.out (by omega) (by omega) _ _ _ _))

set_option maxHeartbeats 2000000 in
theorem cut_out (a : Nat → Addr) (lo hi k : ByteArray) (w : World) (hlo : lo.size ≤ 65536) (hhi : hi.size ≤ 65536) (hk : k.size ≤ 65536) (hT : Tabs w) (hE : Errs w a) (h1 : spanB lo hi = true) (h2 : keyNum k = 0) :
    Calls Tryd.prog 7 #[spanV lo hi, .string k] w (CutR a lo hi k w) := by
  have HN := Lib.hid (show cutNum lo hi k = if inB lo hi k && !decide (k = lo) then 0 else 1 by unfold cutNum; rw [if_pos h1, if_pos h2])
  have H2 := Lib.hid h2
  obtain ⟨hb1, hb2, _⟩ := span_parts h1
  obtain ⟨l, hl⟩ := bnd_runes hb1
  obtain ⟨m, hm⟩ := bnd_runes hb2
  obtain ⟨n, hn⟩ := key_runes h2
  have HT := Lib.hid hT
  have HE := Lib.hid hE
  obtain ⟨t0, t1, t2, hB⟩ := three_new w 23 (.string lo) (.string hi)
  have B0 := Lib.hid hB
  have T0 := Lib.hid t0
  have T1 := Lib.hid t1
  have T2 := Lib.hid t2
  have CB := Lib.hid (fun W (h : Below w.heap.size w W) => right_is a lo hi W hlo hhi (HT.out.below h) (HE.out.below h) true h1)
  have CK := Lib.hid (fun W (h : Below w.heap.size w W) => key_any a k W hk (HT.out.below h) (HE.out.below h))
  have CI := Lib.hid (fun W (h : Below w.heap.size w W) => hasIn_is W hlo hhi hk (HT.out.below h) hl hm hn)
  clear hT hE t0 t1 t2 h1 hB h2 hb1 hb2 hl hm hn
  go_enter Tryd.func7, Tryd.ntmps7
  go_wp2_with fail
  refine (CB.out _ B0.out).mono ?_
  rintro e w1 ⟨rfl, hb⟩
  have HB1 := Lib.hid (B0.out.trans (hb.mono B0.out.size))
  have R0 := Lib.hid (T0.out.below hb T0.out.lt)
  have R1 := Lib.hid (T1.out.below hb T1.out.lt)
  have R2 := Lib.hid (T2.out.below hb T2.out.lt)
  clear hb
  go_wp2_with fail
  refine (CK.out _ HB1.out).mono ?_
  rintro e w2 ⟨x, rfl, hx, hb⟩
  have HB2 := Lib.hid (HB1.out.trans (hb.mono HB1.out.size))
  have S0 := Lib.hid (R0.out.below hb R0.out.lt)
  have S1 := Lib.hid (R1.out.below hb R1.out.lt)
  have S2 := Lib.hid (R2.out.below hb R2.out.lt)
  clear hb
  rcases hx with ⟨h0, rfl⟩ | ⟨m, hm, h0, rfl⟩
  rotate_left
  · rw [H2.out] at h0; cases h0
  obtain ⟨hz0, hz1, hfz⟩ := S0.out.facts
  clear h0
  go_wp2_with fail
  cases hI : inB lo hi k with
  | false =>
    have HC := Lib.hid (show cutNum lo hi k = 0 + 1 by rw [HN.out, hI]; rfl)
    have cI := Lib.hid (CI.out w2 HB2.out false hI)
    clear hI
    refine cI.out.mono ?_
    rintro e w3 ⟨rfl, hb⟩
    have HB3 := Lib.hid (HB2.out.trans (hb.mono HB2.out.size))
    have U1 := Lib.hid (S1.out.below hb S1.out.lt)
    have U2 := Lib.hid (S2.out.below hb S2.out.lt)
    obtain ⟨hc0, hc1, hf1⟩ := U1.out.facts
    obtain ⟨hd0, hd1, hf2⟩ := U2.out.facts
    have hg := (HE.out.below HB3.out).var 0 (by omega)
    simp only [evars, List.getD_cons_zero] at hg
    obtain ⟨n1, n2, n3, n4⟩ := apart_new HE.out
    simp only [Nat.reduceSub] at n1 n2
    clear hb hz0 hz1 hfz
    go_wp2_with fail
    go_region
    go_wp2_with fail
    obtain ⟨e0, e1, e2, e3⟩ := put4_cells U1.out U2.out (by omega) (.string mt) (.string mt) (.string mt) (.string mt)
    exact bodyPost_ret (v := .tuple #[spanV mt mt, spanV mt mt, errAt (a 0)]) (by simp [results, Tryd.results7, go_sem, e0, e1, e2, e3]) rfl (cutR_bad 0 (by omega) HC.out (put4_below HB3.out (by omega) (by omega) _ _ _ _).drew)
  | true =>
    have cI := Lib.hid (CI.out w2 HB2.out true hI)
    by_cases hkl : k = lo
    · have HC := Lib.hid (show cutNum lo hi k = 0 + 1 by rw [HN.out, hI, decide_eq_true hkl]; rfl)
      have q : (k.toList == lo.toList) = true := by rw [hkl]; exact beq_self_eq_true _
      clear hI hkl
      refine cI.out.mono ?_
      rintro e w3 ⟨rfl, hb⟩
      have HB3 := Lib.hid (HB2.out.trans (hb.mono HB2.out.size))
      have U1 := Lib.hid (S1.out.below hb S1.out.lt)
      have U2 := Lib.hid (S2.out.below hb S2.out.lt)
      obtain ⟨hc0, hc1, hf1⟩ := U1.out.facts
      obtain ⟨hd0, hd1, hf2⟩ := U2.out.facts
      obtain ⟨hz0, hz1, hfz⟩ := (S0.out.below hb S0.out.lt).facts
      have hg := (HE.out.below HB3.out).var 0 (by omega)
      simp only [evars, List.getD_cons_zero] at hg
      obtain ⟨n1, n2, n3, n4⟩ := apart_new HE.out
      simp only [Nat.reduceSub] at n1 n2
      clear hb
      go_wp2_with fail
      go_region
      go_wp2_with fail
      obtain ⟨e0, e1, e2, e3⟩ := put4_cells U1.out U2.out (by omega) (.string mt) (.string mt) (.string mt) (.string mt)
      exact bodyPost_ret (v := .tuple #[spanV mt mt, spanV mt mt, errAt (a 0)]) (by simp [results, Tryd.results7, go_sem, e0, e1, e2, e3]) rfl (cutR_bad 0 (by omega) HC.out (put4_below HB3.out (by omega) (by omega) _ _ _ _).drew)
    · have HC := Lib.hid (show cutNum lo hi k = 0 by rw [HN.out, hI, decide_eq_false hkl]; rfl)
      have q : (k.toList == lo.toList) = false := by
        rw [beq_eq_false_iff_ne]
        exact fun h => hkl (bytes_ext (by rw [← Lib.toList_data, ← Lib.toList_data, h]))
      clear hI hkl
      refine cI.out.mono ?_
      rintro e w3 ⟨rfl, hb⟩
      have HB3 := Lib.hid (HB2.out.trans (hb.mono HB2.out.size))
      have U1 := Lib.hid (S1.out.below hb S1.out.lt)
      have U2 := Lib.hid (S2.out.below hb S2.out.lt)
      obtain ⟨hc0, hc1, hf1⟩ := U1.out.facts
      obtain ⟨hd0, hd1, hf2⟩ := U2.out.facts
      obtain ⟨hz0, hz1, hfz⟩ := (S0.out.below hb S0.out.lt).facts
      clear hb
      go_wp2_with fail
      go_region
      go_wp2_with fail
      obtain ⟨e0, e1, e2, e3⟩ := put4_cells U1.out U2.out (by omega) (.string lo) (.string k) (.string k) (.string hi)
      exact bodyPost_ret (v := .tuple #[spanV lo k, spanV k hi, .nilIface]) (by simp [results, Tryd.results7, go_sem, e0, e1, e2, e3]) rfl (cutR_ok HC.out (put4_below HB3.out (by omega) (by omega) _ _ _ _).drew)

theorem cut_any (a : Nat → Addr) (lo hi k : ByteArray) (w : World) (hlo : lo.size ≤ 65536) (hhi : hi.size ≤ 65536) (hk : k.size ≤ 65536) (hT : Tabs w) (hE : Errs w a) :
    Calls Tryd.prog 7 #[spanV lo hi, .string k] w (CutR a lo hi k w) := by
  by_cases h1 : spanB lo hi = true
  · by_cases h2 : keyNum k = 0
    · exact cut_out a lo hi k w hlo hhi hk hT hE h1 h2
    · exact cut_key a lo hi k w hlo hhi hk hT hE h1 h2
  · refine (cut_bad a lo hi k w hlo hhi hT hE (by simpa using h1)).mono ?_
    rintro e w' ⟨rfl, hb⟩
    exact cutR_bad 3 (by omega) (by unfold cutNum; rw [if_neg h1]) hb
end Go.Proofs.YtlblappalhofmaaDoor
