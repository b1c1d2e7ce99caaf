/- The library's iterator of a text's parts between blanks (strings.SplitSeq): what it hands over, to whatever rounds. -/
import Derived.Test.YtbjhmpjnffhioaaDoorSeqK
import Derived.Test.YtbjhmpjnffhioaaDoorSeqC
import Derived.Test.YtbjhmpjnffhioaaDoorUtfF
import Derived.RangeFuncBox
import Derived.Shelf.Strings.Search3
namespace Go.Proofs.YtbjhmpjnffhioaaDoor
open Go.RowKit Go.Shelf Tide Utf
attribute [local go_sem] Oper.semAt_some

theorem box_below {W W' : World} {B N : Nat} {t : TypeId} {v : Value} (h : Boxed W B t v) (hb : Below N W W') (hB : B < N) : Boxed W' B t v := (hb.block B hB).trans h
theorem box_put {W : World} {B D : Nat} {t : TypeId} {v : Value} {o : Obj} (h : Boxed W B t v) (hD : W.heap[D]? = some o) (ho : o.isCells = false) (o' : Obj) : Boxed (W.putObj D o') B t v :=
  h.kept (grownBy_putObj' W D o') (fun e => by
    cases e
    rw [show W.heap[B]? = _ from h] at hD
    cases hD
    cases ho)
abbrev blankS : ByteArray := ⟨#[32]⟩
theorem splitSeq_any (s : ByteArray) (w : World) :
    Calls Tryd.prog 34 #[.string s, .string blankS] w fun e w' => e = .returned (.func (.func 44) #[] #[.pointer (some ⟨w.heap.size + 1, 0, none⟩), .pointer (some ⟨w.heap.size, 0, none⟩), .pointer (some ⟨w.heap.size + 2, 0, none⟩)]) ∧
      w' = ((w.alloc (.cells #[.string s] 9)).alloc (.cells #[.string blankS] 9)).alloc (.cells #[.int .i64 0] 3) := by
  go_enter Tryd.func34, Tryd.ntmps34
  go_wp2
  go_ret
  exact ⟨rfl, rfl⟩

/-- What a round keeps of the iterator's: its three variables. -/
def K3 (b : Nat) (A B : World) : Prop := ∀ k, b ≤ k → k < b + 3 → B.heap[k]? = A.heap[k]?
theorem K3_t {b : Nat} {A B C : World} (h : K3 b A B) (k : K3 b B C) : K3 b A C := fun j h1 h2 => (k j h1 h2).trans (h j h1 h2)
theorem K3_b {b : Nat} {w : World} (hb : b + 3 ≤ w.heap.size) (W : World) (l : Nat) (o : Obj) (hl : w.heap.size ≤ l) : K3 b W (W.putObj l o) := fun j _ h2 => World.putObj_heap_other (by omega)
theorem K3.boxed {b k : Nat} {A B : World} {t : TypeId} {v : Value} (h : K3 b A B) (h1 : b ≤ k) (h2 : k < b + 3) (hx : Boxed A k t v) : Boxed B k t v := (h k h1 h2).trans hx

/-- How long the text in a box is. -/
def boxLen (w : World) (b : Nat) : Nat := match w.cell? ⟨b, 0, none⟩ with
  | some (.string q) => q.size
  | _ => 0
theorem boxLen_eq {w : World} {b : Nat} {t : TypeId} {q : ByteArray} (h : Boxed w b t (.string q)) : boxLen w b = q.size := by unfold boxLen; rw [h.cell]
theorem splitB_pos (part l : List UInt8) : 1 ≤ (splitB part l).length := by
  induction l generalizing part with
  | nil => simp [splitB]
  | cons b l ih =>
    unfold splitB
    split
    · simp
    · exact ih _
/-- The iterator's elements as it hands them over. -/
abbrev txt1 (x : ByteArray) : Array Value := #[.string x]

set_option maxRecDepth 100000 in
set_option maxHeartbeats 4000000 in
theorem split_stops (n : Nat) (hn : 1 ≤ n) (s : ByteArray) (hs : s.size ≤ 65536) (b : Nat) (w : World) (h1 : Boxed w b 9 (.string s)) (h2 : Boxed w (b + 1) 9 (.string blankS)) (h3 : Boxed w (b + 2) 3 (.int .i64 0)) :
    SeqCell Fence.wide n Tryd.prog 44 #[.pointer (some ⟨b + 1, 0, none⟩), .pointer (some ⟨b, 0, none⟩), .pointer (some ⟨b + 2, 0, none⟩)] txt1 b (K3 b) (fun xs => xs.map (fun x => x.data.toList) = splitB [] s.data.toList) (s.size + 1) w := fun lp J W hW hJ hY h0 => by
  have c1 := box_below h1 hW h1.lt
  have c2 := box_below h2 hW h2.lt
  have c3 := box_below h3 hW h3.lt
  have HY := Lib.hid hY
  have HJ := Lib.hid hJ
  have C1 := Lib.hid c1
  have C2 := Lib.hid c2
  have C3 := Lib.hid c3
  have k2 := c2.cell
  clear hW h1 h2 h3 hY hJ c1 c2 c3
  refine callsIn_of_wp Tryd.func44 rfl trivial ?_ rfl
  simp only [Tryd.ntmps44, List.size_toArray, List.length_cons, List.length_nil, Nat.reduceAdd, Nat.reduceSub, Array.replicate_succ, Array.replicate_zero, List.push_toArray, List.append_toArray, List.nil_append, List.cons_append]
  gi_wp2
  clear k2
  gi_loopw [] (fun wr => ∃ (pre : List ByteArray) (q : ByteArray), Hid (Boxed wr b 9 (.string q)) ∧ Hid (Boxed wr (b + 1) 9 (.string blankS)) ∧ Hid (Boxed wr (b + 2) 3 (.int .i64 0)) ∧ Hid (J pre wr) ∧ Hid (pre.map (fun x => x.data.toList) ++ splitB [] q.data.toList = splitB [] s.data.toList) ∧ q.size ≤ s.size) (fun wr => boxLen wr b)
  case atStart => exact ⟨[], s, C1, C2, C3, Lib.hid h0, Lib.hid rfl, Nat.le_refl _⟩
  case round =>
    obtain ⟨pre, q, hq, hsep, hsv, hJp, hsp, hqs⟩ := hrel
    have hlen := Lib.hid (show pre.length < s.size + 1 by
      have e := congrArg List.length hsp.out
      have e2 := splitB_len s.data.toList []
      have e3 := splitB_pos [] q.data.toList
      have e4 : s.data.toList.length = s.size := by simp
      rw [List.length_append, List.length_map] at e
      omega)
    have k1 := hq.out.cell
    have k2 := hsep.out.cell
    have k3 := hsv.out.cell
    have f1 := hq.out.frozen
    have hge := Lib.indexByte_ge q.data.toList 32
    have cI := Any.strings_Index_one Tryd.lays143 q 32 wr
    generalize hix : Lib.indexByte q.data.toList 32 = ix at hge cI
    have HIX := Lib.hid hix
    have CI := Lib.hid cI
    clear hix cI
    by_cases hneg : ix < 0
    · have hlast := Lib.hid (show (pre ++ [q]).map (fun x => x.data.toList) = splitB [] s.data.toList by
        rw [← hsp.out, splitB_none _ _ (by rw [HIX.out]; exact hneg)]; simp)
      gi_wp2_with fail
      refine ⟨trivial, (callsIn_wide.2 CI.out).mono ?_⟩
      rintro e wr ⟨rfl, rfl⟩
      obtain ⟨fn, tmps, assign, body, hy, hR⟩ := HY.out pre q wr hJp.out hlen.out
      dsimp only [txt1] at hy
      have HRd := Lib.hid hR
      clear hR
      gi_wp2
      refine HRd.out.mono ?_
      rintro e w3 ⟨rfl, hJ3, _⟩
      have HJ3 := Lib.hid hJ3
      clear hJ3
      gi_wp2
      go_end0
      exact ⟨⟨_, rfl⟩, _, hlast.out, HJ3.out⟩
    · obtain ⟨i, rfl⟩ : ∃ i : Nat, ix = (i : Int) := ⟨ix.toNat, by omega⟩
      obtain ⟨hil, hcut⟩ := splitB_some q.data.toList [] i HIX.out
      have hil' : i < q.size := by simpa using hil
      have e1 : (q.extract 0 i).data.toList = [] ++ q.data.toList.take i := by rw [extract_list, List.drop_zero]; rfl
      have e2 : (q.extract (i + 1) q.size).data.toList = q.data.toList.drop (i + 1) := by rw [extract_list, List.take_of_length_le (by simp)]
      have e3 : (q.extract (i + 1) q.size).size = q.size - (i + 1) := by rw [ByteArray.size_extract]; omega
      have hsp2 := Lib.hid (show (pre ++ [q.extract 0 i]).map (fun x => x.data.toList) ++ splitB [] (q.extract (i + 1) q.size).data.toList = splitB [] s.data.toList by
        rw [e2, ← hsp.out, hcut, List.map_append, List.append_assoc, List.map_cons, List.map_nil, e1]; rfl)
      have E3 := Lib.hid e3
      have hz1 : (i : Int) ≤ (q.size : Int) := by omega
      have hz2 : (i : Int) + 1 ≤ (q.size : Int) := by omega
      have hz3 : (0 : Int) ≤ (i : Int) := by omega
      have hmeas := Lib.hid (boxLen_eq hq.out)
      clear e1 e2 e3 hil hcut
      gi_wp2_with fail
      refine ⟨trivial, (callsIn_wide.2 CI.out).mono ?_⟩
      rintro e wr ⟨rfl, rfl⟩
      obtain ⟨fn, tmps, assign, body, hy, hR⟩ := HY.out pre (q.extract 0 i) wr hJp.out hlen.out
      dsimp only [txt1] at hy
      have HRd := Lib.hid hR
      clear hR
      gi_wp2
      refine HRd.out.mono ?_
      rintro e w3 ⟨rfl, hJ3, hk3⟩
      have b1 := hk3.boxed (Nat.le_refl _) (by omega) hq.out
      have b2 := Lib.hid (hk3.boxed (by omega) (by omega) hsep.out)
      have b3 := Lib.hid (hk3.boxed (by omega) (by omega) hsv.out)
      have l1 := b1.cell
      have l2 := b2.out.cell
      have l3 := b3.out.cell
      have g1 := b1.frozen
      have B1 := Lib.hid b1
      have HJ3 := Lib.hid hJ3
      clear hk3 hJ3 b1 k1 k2 k3 f1
      gi_wp2
      have b1' := B1.out.set (.string (q.extract (i + 1) q.size))
      have hm' := boxLen_eq b1'
      have b2' := b2.out.other (B' := b) (by omega) (.string (q.extract (i + 1) q.size))
      have b3' := b3.out.other (B' := b) (by omega) (.string (q.extract (i + 1) q.size))
      have hJ' := HJ.out _ _ _ HJ3.out (grownBy_setCell' w3 b (.string (q.extract (i + 1) q.size)))
      go_roundw
      case rel => exact ⟨_, _, Lib.hid b1', Lib.hid b2', Lib.hid b3', Lib.hid hJ', hsp2, by rw [E3.out]; omega⟩
      case measure => rw [hm', hmeas.out, E3.out]; omega
end Go.Proofs.YtbjhmpjnffhioaaDoor
