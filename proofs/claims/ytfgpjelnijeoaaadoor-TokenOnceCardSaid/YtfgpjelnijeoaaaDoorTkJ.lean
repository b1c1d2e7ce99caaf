/- Package token: add, set, list of a stream's newest. -/
import Derived.Test.YtfgpjelnijeoaaaDoorTkI
import Derived.Deep.RegionHeld3
namespace Go.Proofs.YtfgpjelnijeoaaaDoor
open Go Go.RowKit Tide

set_option maxRecDepth 100000 in
set_option maxHeartbeats 1000000 in
theorem add_any {w : World} {g o : Nat} {cs : List Value} {l : List Int} (a : Int) (hb : TokB w g cs) (hr : RowC cs o l) :
    Calls Tryd.prog 26 #[.pointer (some ⟨g, o, none⟩), .int .i64 a] w fun e w' => e = .returned (.tuple #[]) ∧ Kept (fun k => k = g) w w' ∧ ∃ cs', TokB w' g cs' ∧ Off5 cs cs' o ∧ RowC cs' o (a :: l) := by
  obtain ⟨z0, z1, z2, z3, h0, h1, h2, h3, h4, h5⟩ := hr
  have c0 := hb.cell h0
  have c1 := hb.cell h1
  have c2 := hb.cell h2
  have hlen : o + 4 < cs.length := (List.getElem?_eq_some_iff.1 h4).1
  have hg := hb.lt
  have HB := Lib.hid hb
  have HS := Lib.hid (show ∀ j v, [Value.int .i64 z0, Value.int .i64 z1, Value.int .i64 z2][j]? = some v → w.cell? ((⟨g, o, none⟩ : Addr).add j) = some v from fun j v hv => by
    have e : (⟨g, o, none⟩ : Addr).add j = ⟨g, o + j, none⟩ := add_none g o j
    rw [e]
    match j, hv with
    | 0, hv => injection hv with hv; subst hv; exact c0
    | 1, hv => injection hv with hv; subst hv; exact c1
    | 2, hv => injection hv with hv; subst hv; exact c2)
  have X := fun (j : Nat) (hj : j < 3) => splice_in (cs := cs) (off := o + 1) (xs := [Value.int .i64 z0, Value.int .i64 z1, Value.int .i64 z2]) (j := j) hj (by simp; omega)
  have Y := fun (j : Nat) (hj : j < o + 1 ∨ o + 4 ≤ j) => splice_out (cs := cs) (off := o + 1) (xs := [Value.int .i64 z0, Value.int .i64 z1, Value.int .i64 z2]) (j := j) (by simpa using hj) (by simp; omega)
  have hl1 : (splice cs (o + 1) [Value.int .i64 z0, Value.int .i64 z1, Value.int .i64 z2]).length = cs.length := length_splice _ _ _ (by simp; omega)
  have HX := Lib.hid (And.intro X (And.intro Y hl1))
  have H4 := Lib.hid h4
  have H0 := Lib.hid h0
  have H5 := Lib.hid h5
  have HL := Lib.hid hlen
  have C0 := Lib.hid c0
  obtain ⟨i0, hi, hz0, hz1, hz2⟩ := info_parts infoInt
  have HI := Lib.hid (show (Tryd.prog.info? 3).map (·.size) = some 1 from by rw [hi]; simp [hz1])
  clear X Y hl1 c0 c1 c2 hg h0 h1 h2 h3 h4 h5 hb hlen hi
  go_enter Tryd.func26, Tryd.ntmps26
  go_wp2_with fail
  go_region_held3 (fun W => W.cell? ⟨g, o, none⟩ = some (.int .i64 z0))
    (first | exact C1.out | exact C0.out | assumption)
    (first
      | (refine step_copy_blk rfl (.tmp 7) (.tmp 11) _ _ rfl 3 Tryd.underlying37 HI.out _ 3 3 4 4 g (o + 1) rfl rfl cs _ HB.out [Value.int .i64 z0, Value.int .i64 z1, Value.int .i64 z2] rfl (fun _ => ⟨_, rfl, HS.out⟩) (by simp; have := HL.out; omega) (fun v hv => by simp at hv; rcases hv with rfl | rfl | rfl <;> rfl) ?_; intro w1 hb1 hk1; have B1 := Lib.hid hb1; have K1 := Lib.hid hk1; have C1 := Lib.hid (TokB.cell hb1 (((HX.out.2.1 o (by omega)).trans H0.out))); clear hb1 hk1))
  have K2 := Lib.hid (show Kept (fun k => k = g) w w1 from (Kept.refl _ w).drew.trans K1.out (fun i h => .inl h))
  obtain ⟨cs1, hcs1⟩ : ∃ cs1, splice cs (o + 1) [Value.int .i64 z0, Value.int .i64 z1, Value.int .i64 z2] = cs1 := ⟨_, rfl⟩
  rw [hcs1] at B1 HX
  have B1 := Lib.hid (show TokB w1 g cs1 from B1.out)
  have c0 := C1.out
  have f0 := B1.out.free o
  have f4 := B1.out.free (o + 4)
  obtain ⟨m, hm⟩ : ∃ m, min l.length 4 = m := ⟨_, rfl⟩
  have hm4 : m ≤ 4 := by omega
  have c4 := B1.out.cell (((HX.out.2.1 (o + 4) (by omega)).trans H4.out))
  rw [hm] at c4
  have hg1 := B1.out.lt
  have HM := Lib.hid hm
  obtain ⟨n1, hn1⟩ : ∃ n1, n1 = m + 1 := ⟨_, rfl⟩
  have HN1 := Lib.hid hn1
  have q1 : wrap64 ((m : Int) + 1) = (n1 : Int) := by unfold wrap64; omega
  have q2 : IntKind.i64.wrap ((m : Int) + 1) = (n1 : Int) := by simp [IntKind.wrap, IntKind.signed, IntKind.bits]; omega
  clear hn1
  have HF := Lib.hid (show ∀ nv : Int, nv = ((min (l.length + 1) 4 : Nat) : Int) → Kept (fun k => k = g) w ((w1.setCell ⟨g, o, none⟩ (.int .i64 a)).setCell ⟨g, o + 4, none⟩ (.int .i64 nv)) ∧ ∃ cs', TokB ((w1.setCell ⟨g, o, none⟩ (.int .i64 a)).setCell ⟨g, o + 4, none⟩ (.int .i64 nv)) g cs' ∧ Off5 cs cs' o ∧ RowC cs' o (a :: l) from fun nv hnv => by
    obtain ⟨x1, x2, x3⟩ := HX.out
    have hlen := HL.out
    refine ⟨(K2.out.setCell (p := ⟨g, o, none⟩) (.inl rfl) _).setCell (p := ⟨g, o + 4, none⟩) (.inl rfl) _, _, (B1.out.set o _).set (o + 4) _, ⟨by simp [x3], fun j hj => ?_⟩, RowC.add H5.out ?_ ?_ ?_ ?_ ?_⟩
    · rw [List.getElem?_set_ne (by omega), List.getElem?_set_ne (by omega)]
      exact x2 j (by omega)
    · rw [List.getElem?_set_ne (by omega), List.getElem?_set_self (by omega)]
    · rw [List.getElem?_set_ne (by omega), List.getElem?_set_ne (by omega)]
      exact x1 0 (by omega)
    · rw [List.getElem?_set_ne (by omega), List.getElem?_set_ne (by omega)]
      exact x1 1 (by omega)
    · rw [List.getElem?_set_ne (by omega), List.getElem?_set_ne (by omega)]
      exact x1 2 (by omega)
    · rw [List.getElem?_set_self (by simp; omega), hnv])
  clear C0 C1 K1 hcs1 hm H4 H0 HB HS
  go_wp2_with fail
  all_goals
    go_end0
    exact ⟨rfl, HF.out _ (by have := HM.out; have := HN1.out; omega)⟩

set_option maxRecDepth 100000 in
set_option maxHeartbeats 1000000 in
theorem list_any {w : World} {g o : Nat} {cs : List Value} {l : List Int} (hb : TokB w g cs) (hr : RowC cs o l) :
    Calls Tryd.prog 32 #[.pointer (some ⟨g, o, none⟩)] w fun e w' => ∃ v, e = .returned v ∧ Own w' w.heap.size v (l.take 4) ∧ Below w.heap.size w w' := by
  have HR := Lib.hid (hb.row hr)
  obtain ⟨z0, z1, z2, z3, h0, h1, h2, h3, h4, h5⟩ := hr
  have c4 := hb.cell h4
  have hg := hb.lt
  obtain ⟨m, hm⟩ : ∃ m, min l.length 4 = m := ⟨_, rfl⟩
  rw [hm] at c4 HR
  have hm4 : (m : Int) ≤ 4 := by omega
  have HL := Lib.hid (show (int64s (l.take 4)).length = m from by rw [int64s_length, List.length_take, Nat.min_comm]; exact hm)
  have C4 := Lib.hid c4
  have HM4 := Lib.hid hm4
  obtain ⟨i0, hi, hz0, hz1, hz2⟩ := info_parts infoInt
  have HI := Lib.hid hi
  obtain ⟨l4, hl4⟩ : ∃ l4, l.take 4 = l4 := ⟨_, rfl⟩
  rw [hl4] at HR HL
  rw [hl4]
  clear hi hl4 hb h0 h1 h2 h3 h4 h5 hm
  go_enter Tryd.func32, Tryd.ntmps32
  go_wp2_with fail
  go_region_held3 (fun W => W.cell? ⟨g, o + 4, none⟩ = some (.int .i64 (m : Int)))
    (first | exact C4.out | exact C5.out | assumption)
    (first
      | (refine step_append_row _ rfl _ (.tmp 10) _ rfl w.heap.size 3 i0 (.int .i64 0) 8 Tryd.underlying37 HI.out hz0 hz1 hz2 rfl _ 0 [] rfl (World.ownsRow_nil _ _ _ 1) w.heap.size _ (int64s l4) rfl HR.out (ints_one l4) ?_ ?_ ?_ ?_; (rw [HL.out]; unfold maxLen; have := HM4.out; omega); (rw [HL.out]; have := HM4.out; omega); (simp); intro v1 w1 h1 h2 h3 h4; have O1 := Lib.hid (show Own w1 w.heap.size v1 l4 from (by unfold Own; rw [int64s_length, Nat.zero_add] at h1; exact h1)); have B1 := Lib.hid (show Below w.heap.size w w1 from ((Below.refl w.heap.size w).drew).trans h4); have C5 := Lib.hid ((B1.out.cell (p := ⟨g, o + 4, none⟩) hg).trans C4.out); clear h1 h2 h3 h4))
  clear c4 C4 C5
  go_wp2_with fail
  go_ret
  exact ⟨_, rfl, O1.out, B1.out⟩

set_option maxRecDepth 100000 in
set_option maxHeartbeats 1000000 in
theorem set_any {w : World} {g o : Nat} {cs : List Value} {l0 : List Int} (l : List Int) (v : Value) (B : Nat) (hb : TokB w g cs) (hz : RowC cs o l0) (hv : Row w B v (int64s l)) (hl : l.length ≤ 4) :
    Calls Tryd.prog 21 #[.pointer (some ⟨g, o, none⟩), v] w fun e w' => e = .returned (.tuple #[]) ∧ Kept (fun k => k = g) w w' ∧ ∃ cs', TokB w' g cs' ∧ Off5 cs cs' o ∧ RowC cs' o l := by
  obtain ⟨z0, z1, z2, z3, h0, h1, h2, h3, h4, _⟩ := hz
  have hlen : o + 4 < cs.length := (List.getElem?_eq_some_iff.1 h4).1
  have hg := hb.lt
  have HB := Lib.hid hb
  obtain ⟨_, A, c, rfl, hc⟩ := row_ints hv
  have e := int64s_length l
  have HS := Lib.hid (show 0 < (int64s l).length → ∃ ad, A = some ad ∧ ∀ j v, (int64s l)[j]? = some v → w.cell? (ad.add j) = some v from fun h0 => by
    obtain ⟨b, o', rfl, _, _⟩ := hc 0 (by omega)
    refine ⟨_, rfl, fun j v hj => ?_⟩
    have hj' : j < l.length := by have := (List.getElem?_eq_some_iff.1 hj).1; omega
    obtain ⟨b1, o1, e1, _, hcell⟩ := hc j hj'
    injection e1 with e1
    injection e1 with e1 e2
    subst e1 e2
    rw [add_none, hcell]
    simp only [int64s, List.getElem?_map, List.getElem?_eq_getElem hj', Option.map_some] at hj
    exact hj)
  have HE := Lib.hid e
  have HMn := Lib.hid (show (int64s l).length = Nat.min l.length 4 from by rw [e]; exact (Nat.min_eq_left hl).symm)
  have HFt := Lib.hid (show o + (int64s l).length ≤ cs.length from by rw [e]; omega)
  have HL := Lib.hid (And.intro hl hlen)
  have HC := Lib.hid (And.intro h0 (And.intro h1 (And.intro h2 (And.intro h3 h4))))
  obtain ⟨i0, hi, hz0, hz1, hz2⟩ := info_parts infoInt
  have HI := Lib.hid (show (Tryd.prog.info? 3).map (·.size) = some 1 from by rw [hi]; simp [hz1])
  clear hi hz0 hz1 hz2 h0 h1 h2 h3 h4 hc hv e hb
  go_enter Tryd.func21, Tryd.ntmps21
  obtain ⟨w1, hrun, hb1, hk1⟩ := run_copy_blk w 37 37 3 3 Tryd.underlying37 HI.out A 4 4 l.length c g o cs _ HB.out (int64s l) HMn.out HS.out HFt.out (ints_one l)
  have hrun2 := HE.out
  have hlen1 : (splice cs o (int64s l)).length = cs.length := length_splice _ _ _ HFt.out
  have hz : ∀ (i : Nat) (z : Int), i < 4 → cs[o + i]? = some (.int .i64 z) → ∃ z' : Int, (splice cs o (int64s l))[o + i]? = some (.int .i64 z') ∧ ∀ h : i < l.length, z' = l[i] := fun i z hi hc => by
    by_cases h : i < l.length
    · exact ⟨l[i], by rw [splice_in (by rw [hrun2]; exact h) HFt.out]; simp [int64s, h], fun _ => rfl⟩
    · exact ⟨z, by rw [splice_out (by rw [hrun2]; omega) HFt.out]; exact hc, fun h' => absurd h' h⟩
  have hz5 : ∀ j, j < o ∨ o + 4 ≤ j → (splice cs o (int64s l))[j]? = cs[j]? := fun j hj => splice_out (by rw [hrun2]; omega) HFt.out
  obtain ⟨h0, h1, h2, h3, h4⟩ := HC.out
  obtain ⟨y0, e0, g0⟩ := hz 0 z0 (by omega) h0
  obtain ⟨y1, e1, g1⟩ := hz 1 z1 (by omega) h1
  obtain ⟨y2, e2, g2⟩ := hz 2 z2 (by omega) h2
  obtain ⟨y3, e3, g3⟩ := hz 3 z3 (by omega) h3
  obtain ⟨cs1, hcs1⟩ : ∃ cs1, splice cs o (int64s l) = cs1 := ⟨_, rfl⟩
  have hb1 : TokB w1 g (splice cs o (int64s l)) := hb1
  rw [hcs1] at hlen1 hz5 e0 e1 e2 e3 hb1
  have htk : [y0, y1, y2, y3].take l.length = l := by
    clear hrun hrun2 hz hz5 HS HE HMn HFt hlen1 hcs1
    rcases l with _ | ⟨a, _ | ⟨b, _ | ⟨c, _ | ⟨d, _ | ⟨e, l⟩⟩⟩⟩⟩
    · rfl
    · rw [g0 (by simp)]; rfl
    · rw [g0 (by simp), g1 (by simp)]; rfl
    · rw [g0 (by simp), g1 (by simp), g2 (by simp)]; rfl
    · rw [g0 (by simp), g1 (by simp), g2 (by simp), g3 (by simp)]; rfl
    · simp at hl
  have HF := Lib.hid (show Kept (fun k => k = g) w (w1.setCell ⟨g, o + 4, none⟩ (.int .i64 (l.length : Int))) ∧ ∃ cs', TokB (w1.setCell ⟨g, o + 4, none⟩ (.int .i64 (l.length : Int))) g cs' ∧ Off5 cs cs' o ∧ RowC cs' o l from by
    refine ⟨hk1.setCell (p := ⟨g, o + 4, none⟩) (.inl rfl) _, _, hb1.set (o + 4) _, ⟨by simp [hlen1], fun j hj => ?_⟩, RowC.put hl htk ?_ ?_ ?_ ?_ ?_⟩
    · rw [List.getElem?_set_ne (by omega)]
      exact hz5 j (by omega)
    · rw [List.getElem?_set_ne (by omega)]; exact e0
    · rw [List.getElem?_set_ne (by omega)]; exact e1
    · rw [List.getElem?_set_ne (by omega)]; exact e2
    · rw [List.getElem?_set_ne (by omega)]; exact e3
    · rw [List.getElem?_set_self (by omega)])
  have f4 := hb1.free (o + 4)
  have c4 := hb1.cell ((hz5 (o + 4) (by omega)).trans h4)
  have hg1 := hb1.lt
  have hb4 : (goInt ((int64s l).length : Int)) = .int .i64 (l.length : Int) := by rw [hrun2]; simp [goInt]
  clear hz hz5 e0 e1 e2 e3 g0 g1 g2 g3 h0 h1 h2 h3 h4 htk hk1 hb1 hcs1 hlen1 hl hlen
  go_wp2_with fail
  go_end0
  exact ⟨rfl, HF.out⟩
end Go.Proofs.YtfgpjelnijeoaaaDoor
