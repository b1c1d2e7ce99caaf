/- What the project's Fields answers: a right text's parts between blanks, without empty ones. -/
import Derived.Test.YtbjhmpjnffhioaaDoorSplitW
import Derived.Test.YtbjhmpjnffhioaaDoorRCmpW
import Derived.Maps.AppendAt
namespace Go.Proofs.YtbjhmpjnffhioaaDoor
open Go.RowKit Go.Shelf Tide Utf
attribute [local go_sem] Oper.semAt_some

theorem infoS : (Tryd.prog.info? 9).map (fun i => (i.zero, i.size, i.bytes)) = some (some (.string ⟨#[]⟩), 1, 16) := by kernel_rfl
/-- The cells of texts. -/
def strs (l : List ByteArray) : List Value := l.map Value.string
theorem strs_length (l : List ByteArray) : (strs l).length = l.length := by simp [strs]
theorem strs_snoc (l : List ByteArray) (x : ByteArray) : strs l ++ [Value.string x] = strs (l ++ [x]) := by simp [strs]
/-- Texts without the empty ones. -/
def full (l : List ByteArray) : List ByteArray := l.filter fun x => !x.data.toList.isEmpty
theorem full_len (l : List ByteArray) : (full l).length ≤ l.length := List.length_filter_le _ _
theorem full_snoc_yes (l : List ByteArray) (x : ByteArray) (h : x.data.toList.isEmpty = false) : full (l ++ [x]) = full l ++ [x] := by
  unfold full
  rw [List.filter_append, List.filter_cons, if_pos (by rw [h]; rfl)]; rfl
theorem full_snoc_no (l : List ByteArray) (x : ByteArray) (h : x.data.toList.isEmpty = true) : full (l ++ [x]) = full l := by
  unfold full
  rw [List.filter_append, List.filter_cons, if_neg (by rw [h]; simp)]; simp

theorem fields_none (s : ByteArray) (w : World) (hs : s.size ≤ 65536) (hT : Tabs w) (h : runes s 0 = none) :
    Calls Tryd.prog 23 #[.string s] w fun e w' => e = .returned (.slice none 0 0) ∧ Below w.heap.size w w' := by
  have cR := right_neg w (by omega) hT h
  clear h
  go_enter Tryd.func23, Tryd.ntmps23
  go_wp2_with fail
  refine cR.mono ?_
  rintro e w1 ⟨rfl, hb⟩
  go_wp2_with fail
  go_ret
  exact ⟨rfl, hb⟩

/-- Between two rounds: the box holds the parts that have come, without the empty ones. -/
def FI (w : World) (B b0 : Nat) (pre : List ByteArray) (W : World) : Prop :=
  (∃ v, Boxed W B 40 v ∧ W.ownsRow b0 9 1 v (full pre).length (strs (full pre))) ∧ Below w.heap.size w W ∧ b0 ≤ W.heap.size
/-- Texts as an answer. -/
def FieldsR (xs : List ByteArray) (w : World) (e : Ending) (w' : World) : Prop := ∃ v, e = .returned v ∧ Row w' w'.heap.size v (strs xs) ∧ Below w.heap.size w w'

set_option maxRecDepth 100000 in
set_option maxHeartbeats 4000000 in
theorem fields_some {s : ByteArray} {l : List Nat} (w : World) (hs : s.size ≤ 65536) (hT : Tabs w) (h : runes s 0 = some l) :
    Calls Tryd.prog 23 #[.string s] w (FieldsR ((fieldsOf l).map txt) w) := by
  obtain ⟨i0, hi, hz0, hz1, hz2⟩ := info_parts infoS
  have HI := Lib.hid hi
  have HT := Lib.hid hT
  have HL := Lib.hid h
  clear hT h hi
  refine (callsIn_wide (n := 5)).1 ?_
  refine callsIn_of_wp_marks Tryd.func23 rfl trivial ?_ rfl
  simp only [Tryd.ntmps23, List.size_toArray, List.length_cons, List.length_nil, Nat.reduceAdd, Nat.reduceSub, Array.replicate_succ, Array.replicate_zero, List.push_toArray, List.append_toArray, List.nil_append, List.cons_append]
  gi_wp2_with fail
  refine ⟨trivial, (callsIn_wide.2 (right_pos w (by omega) HT.out HL.out)).mono ?_⟩
  rintro e w1 ⟨rfl, hb⟩
  have HB1 := Lib.hid hb
  have hz1' := hb.size
  clear hb
  gi_wp2_with fail
  have hq0 := Boxed.new w1 40 (.slice none 0 0)
  have HB2 := Lib.hid (HB1.out.alloc hz1' (.cells #[.slice none 0 0] 40))
  have hsz := Lib.hid (show (w1.alloc (.cells #[.slice none 0 0] 40)).heap.size = w1.heap.size + 1 from World.size_alloc _ _)
  generalize hw2 : w1.alloc (.cells #[.slice none 0 0] 40) = w2 at *
  have hz2' : w1.heap.size < w2.heap.size := by rw [hsz.out]; omega
  clear hw2 HB1
  refine ⟨trivial, (callsIn_wide.2 (splitSeq_any s w2)).mono ?_⟩
  rintro e w' ⟨rfl, rfl⟩
  have q1 : Boxed (((w2.alloc (.cells #[.string s] 9)).alloc (.cells #[.string blankS] 9)).alloc (.cells #[.int .i64 0] 3)) w2.heap.size 9 (.string s) := ((Boxed.new w2 9 (.string s)).alloc _).alloc _
  have q2 : Boxed (((w2.alloc (.cells #[.string s] 9)).alloc (.cells #[.string blankS] 9)).alloc (.cells #[.int .i64 0] 3)) (w2.heap.size + 1) 9 (.string blankS) := by
    have := (Boxed.new (w2.alloc (.cells #[.string s] 9)) 9 (.string blankS)).alloc (.cells #[.int .i64 0] 3)
    rwa [World.size_alloc] at this
  have q3 : Boxed (((w2.alloc (.cells #[.string s] 9)).alloc (.cells #[.string blankS] 9)).alloc (.cells #[.int .i64 0] 3)) (w2.heap.size + 2) 3 (.int .i64 0) := by
    have := Boxed.new ((w2.alloc (.cells #[.string s] 9)).alloc (.cells #[.string blankS] 9)) 3 (.int .i64 0)
    rwa [World.size_alloc, World.size_alloc] at this
  have q0 := ((hq0.alloc (.cells #[.string s] 9)).alloc (.cells #[.string blankS] 9)).alloc (.cells #[.int .i64 0] 3)
  have HB3 := Lib.hid (((HB2.out.alloc (by omega) (.cells #[.string s] 9)).alloc (by simp; omega) (.cells #[.string blankS] 9)).alloc (by simp; omega) (.cells #[.int .i64 0] 3))
  have hsz3 : (((w2.alloc (.cells #[.string s] 9)).alloc (.cells #[.string blankS] 9)).alloc (.cells #[.int .i64 0] 3)).heap.size = w2.heap.size + 3 := by simp
  generalize hW0 : ((w2.alloc (.cells #[.string s] 9)).alloc (.cells #[.string blankS] 9)).alloc (.cells #[.int .i64 0] 3) = W0 at *
  have hz3 : w2.heap.size + 3 ≤ W0.heap.size := by omega
  clear hW0 HB2 hq0 hsz3
  have hn₀ : w.heap.size ≤ W0.heap.size := HB3.out.size
  gi_wp2_with fail
  refine range_cell rfl (by omega) (gf := 44) (lb := #[.pointer (some ⟨w2.heap.size + 1, 0, none⟩), .pointer (some ⟨w2.heap.size, 0, none⟩), .pointer (some ⟨w2.heap.size + 2, 0, none⟩)]) rfl trivial (enters_of Tryd.func44 (by kernel_rfl) rfl)
    (fun _ => rfl) (show w2.heap.size < W0.heap.size by omega) (split_stops _ (by omega) s hs w2.heap.size W0 q1 q2 q3) K3_t (K3_b hz3)
    (FI w w1.heap.size W0.heap.size)
    ?hI ?hIo ⟨⟨_, q0, World.ownsRow_nil _ _ _ _⟩, HB3.out, Nat.le_refl _⟩
    (fun (x : ByteArray) => { tmps := #[.string s, undef, .slice none 0 0, .pointer (some ⟨w1.heap.size, 0, none⟩), .string x, .string s, .bool true, .bool false, .string s, .func (.func 44) #[] #[.pointer (some ⟨w2.heap.size + 1, 0, none⟩), .pointer (some ⟨w2.heap.size, 0, none⟩), .pointer (some ⟨w2.heap.size + 2, 0, none⟩)], .string x, undef, undef, undef, undef, undef, undef, undef], defers := [] }) ?assign ?body ?done
  case hI =>
    rintro pre A B ⟨⟨v, hv, hrow⟩, hB, hsz⟩ hg
    refine ⟨⟨v, hv.kept hg (by intro e; injection e with e; omega), hrow.kept hg ?_⟩, hB.grown hg hB.size (by intro k e; injection e with e; omega), Nat.le_trans hsz hg.size⟩
    cases hvb : v.ownBlock with
    | none => exact .inl rfl
    | some g => exact .inr (by have := (hrow.lt g hvb).1; intro e; injection e with e; omega)
  case hIo =>
    rintro pre A j o o' ⟨⟨v, hv, hrow⟩, hB, hsz⟩ hj ho hc
    refine ⟨⟨v, box_put hv ho hc o', ownsRow_putObj hrow o' ho hc⟩, hB.grown (grownBy_putObj' A j o') hB.size (by intro k e; injection e with e; omega), by simpa using hsz⟩
  case assign =>
    intro l x W K hK
    gi_wp2
    exact hK
  case body =>
    rintro l' pre x W ⟨⟨v, hv, hrow⟩, hB, hsz⟩ hN
    have hfl := full_len pre
    have hvc := hv.cell
    have HV := Lib.hid hv
    have HRow := Lib.hid hrow
    have HBW := Lib.hid hB
    clear hv hrow hB
    cases he : x.data.toList.isEmpty with
    | true =>
      have hx : x = ⟨#[]⟩ := bytes_ext (by simpa using he)
      subst hx
      have hfs := Lib.hid (full_snoc_no pre _ he)
      clear he
      gi_wp2
      exact ⟨KeepsOthers.refl _, fun _ _ _ => rfl, ⟨v, HV.out, by rw [hfs.out]; exact HRow.out⟩, HBW.out, hsz⟩
    | false =>
      have hfs := Lib.hid (full_snoc_yes pre x he)
      have hne : x.toList.isEmpty = false := by rw [Lib.toList_data]; exact he
      have hne2 : ¬ x.toList = [] := by
        intro h; rw [h] at hne; cases hne
      clear he
      gi_wp2_with (gi_at_builtin; refine wpListIn_append_own _ rfl (.tmp 13) (.tmp 15) _ rfl W0.heap.size 9 i0 (.string ⟨#[]⟩) 1 16 Tryd.underlying40 HI.out hz0 hz1 hz2 rfl (by decide) v _ _ rfl (HRow.out.alloc _) ⟨W.heap.size, 0, none⟩ 1 1 [.string x] rfl rfl (cell_one_new _ _ _) ?p1 ?p2 ?p3 ?p4 ?_)
      case p1 => simp [Value.oneCell']
      case p2 => unfold maxLen; omega
      case p3 => omega
      case p4 => simp; omega
      intro v' w3 hown' hgrow _
      have hg0 : ∀ g, v.ownBlock = some g → W0.heap.size ≤ g := fun g hg => (HRow.out.lt g hg).1
      have hgc : ∀ (j : Nat) (o : Obj), v.ownBlock = some j → (W.alloc (.cells #[.string x] 9)).heap[j]? = some o → o.isCells = true := fun j o ej hj => by
        rcases (HRow.out.alloc (.cells #[.string x] 9)).2 with ⟨rfl, _⟩ | ⟨g, cap, cur, rfl, _, hgb, _⟩
        · simp [Value.ownBlock] at ej
        · obtain rfl : g = j := by simpa [Value.ownBlock] using ej
          rw [hgb] at hj; cases hj; rfl
      have hv3 : Boxed w3 w1.heap.size 40 v := (HV.out.alloc _).kept hgrow (by intro e; have := hg0 _ e.symm; omega)
      obtain ⟨g, cap, rfl⟩ := ownsRow_succ hown'
      have hgg : W0.heap.size ≤ g := (hown'.lt g rfl).1
      have hw3 : W.heap.size + 1 ≤ w3.heap.size := by have := hgrow.size; simpa using this
      have hc3 := hv3.cell
      have hf3 := hv3.frozen
      have HV3 := Lib.hid hv3
      have HO3 := Lib.hid hown'
      have HG3 := Lib.hid hgrow
      have HG0 := Lib.hid hg0
      have HGC := Lib.hid hgc
      clear hv3 hown' hgrow hvc hg0 hgc
      gi_wp2
      refine ⟨((KeepsOthers.alloc W _).trans (KeepsOthers.of_grownBy HG3.out HGC.out)).trans (KeepsOthers.setCell _ _ _), fun j h1 h2 => ?_, ⟨_, HV3.out.set _, ?_⟩, ?_, ?_⟩
      · refine (Below.heap_setCell _ _ _ j (show j ≠ w1.heap.size by omega)).trans ((HG3.out.block j (by simp; omega) (by intro e; have := HG0.out _ e.symm; omega)).trans (Below.heap_alloc W _ j (by omega)))
      · rw [hfs.out, ← strs_snoc, List.length_append]
        exact HO3.out.kept (grownBy_setCell' w3 w1.heap.size _) (.inr (by simp [Value.ownBlock]; omega))
      · exact ((HBW.out.alloc HBW.out.size _).grown HG3.out (by simp; have := HBW.out.size; omega) (fun j ej => by have := HG0.out j ej; omega)).setCell (p := ⟨w1.heap.size, 0, none⟩) hz1' _
      · simp; omega
  case done =>
    rintro D xs W hD hxs ⟨⟨v, hv, hrow⟩, hB, hsz⟩ hK
    have hvc := hv.cell
    have HK := Lib.hid hK
    have HRow := Lib.hid hrow
    have HBW := Lib.hid hB
    have hfull : full xs = (fieldsOf l).map txt := by
      have e1 : (full xs).map (fun x => x.data.toList) = (fieldsOf l).map textOf := by
        rw [← fields_bytes HL.out, ← hxs]
        unfold full
        rw [List.filter_map]
        rfl
      have e2 : ((fieldsOf l).map txt).map (fun x => x.data.toList) = (fieldsOf l).map textOf := by rw [List.map_map]; rfl
      have inj : Function.Injective (fun x : ByteArray => x.data.toList) := fun a b h => bytes_ext h
      exact (List.map_inj_right inj).1 (e1.trans e2.symm)
    rw [hfull] at HRow
    clear hv hrow hB hK hxs hfull
    gi_wp2
    refine ⟨by simp, .inl ⟨_, _, rfl, run_takeDeferred HK.out, ?_⟩⟩
    refine ⟨_, results_tmp rfl _ _ _, v, rfl, Row.of_own (ownsRow_putObj HRow.out (.deferred none) HK.out rfl) (Nat.le_refl _), HBW.out.trans (belowK_b (w := w) (Nat.le_refl _) _ D _ _ (by omega) HK.out rfl rfl)⟩
end Go.Proofs.YtbjhmpjnffhioaaDoor
