/- The iterator of the runes of two right texts that stand at the same place: what it hands over, to whatever round. -/
import Derived.Test.YtlblappalhofmaaDoorSeqK
import Derived.Test.YtlblappalhofmaaDoorUtfA
namespace Go.Proofs.YtlblappalhofmaaDoor
open Go.RowKit Go.Shelf Tide Utf
attribute [local go_sem] Oper.semAt_some

/-- Two runes as a round takes them. -/
abbrev runes2 (x : Nat × Nat) : Array Value := #[.int .i32 (x.1 : Int), .int .i32 (x.2 : Int)]
theorem zip_next {l m : List Nat} {k : Nat} (h1 : k < l.length) (h2 : k < m.length) : (l.zip m).take k ++ [(l[k], m[k])] = (l.zip m).take (k + 1) := by
  have h : k < (l.zip m).length := by rw [List.length_zip]; omega
  rw [List.take_succ_eq_append_getElem h]
  simp
theorem zip_all {l m : List Nat} {k : Nat} (h : k = l.length ∨ k = m.length) : (l.zip m).take k = l.zip m := by
  apply List.take_of_length_le
  rw [List.length_zip]; omega

set_option maxRecDepth 100000 in
set_option maxHeartbeats 4000000 in
theorem pairs_stops (n : Nat) (hn : 1 ≤ n) {s t : ByteArray} {l m : List Nat} (hl : runes s 0 = some l) (hm : runes t 0 = some m) (b n₀ : Nat) (w : World)
    (h1 : w.cell? ⟨b, 0, none⟩ = some (.string s)) (h2 : w.cell? ⟨b + 1, 0, none⟩ = some (.string t)) (hT : Tabs w) (g1 : 19 < n₀) (g2 : 20 < n₀) (hn₀ : n₀ ≤ w.heap.size) :
    SeqStopsK Fence.wide n Tryd.prog 37 #[.pointer (some ⟨b + 1, 0, none⟩), .pointer (some ⟨b, 0, none⟩)] runes2 (K2 n₀) (fun xs => xs = l.zip m) (fun pre => pre <+: l.zip m) (l.zip m).length w := fun lp J Jx W hW hJ hJx hY h0 => by
  have hb1 : b < w.heap.size := World.block_lt_of_cell? _ _ h1
  have hb2 : b + 1 < w.heap.size := World.block_lt_of_cell? _ _ h2
  have c1 : W.cell? ⟨b, 0, none⟩ = some (.string s) := (hW.cell (p := ⟨b, 0, none⟩) hb1).trans h1
  have c2 : W.cell? ⟨b + 1, 0, none⟩ = some (.string t) := (hW.cell (p := ⟨b + 1, 0, none⟩) hb2).trans h2
  have HTW := Lib.hid (hT.below hW)
  have hnW : n₀ ≤ W.heap.size := Nat.le_trans hn₀ hW.size
  have HL := Lib.hid hl
  have HM := Lib.hid hm
  have HY := Lib.hid hY
  have HJ := Lib.hid hJ
  clear hW h1 h2 hT hl hm hY hJ hJx hb1 hb2
  refine callsIn_of_wp Tryd.func37 rfl trivial ?_ rfl
  simp only [Tryd.ntmps37, List.size_toArray, List.length_cons, List.length_nil, Nat.reduceAdd, Nat.reduceSub, Array.replicate_succ, Array.replicate_zero, List.push_toArray, List.append_toArray, List.nil_append, List.cons_append]
  gi_wp2
  gi_loopw [4] (fun r wr => ∃ (i j k : Nat) (q : ByteArray), r = .string q ∧ Hid (q = t.extract j t.size) ∧ Hid (wr.heap[W.heap.size]? = some (.stringIter s i)) ∧ Hid (At s l i k) ∧ Hid (At t m j k) ∧ Hid (J ((l.zip m).take k) wr) ∧ Hid (Tabs wr)) (fun _ wr => s.size - wr.iterPos W.heap.size)
  case atStart =>
    refine ⟨0, 0, 0, t, rfl, Lib.hid ?_, Lib.hid (World.iter_heap W s 0), Lib.hid (at_zero HL.out), Lib.hid (at_zero HM.out), Lib.hid ?_, Lib.hid (HTW.out.alloc _)⟩
    · apply bytes_ext
      rw [extract_list, List.take_of_length_le (by simp)]; rfl
    · exact HJ.out [] W _ none (by simpa using h0) (World.grownBy_alloc W _ none) (fun r e => by cases e)
  case round =>
    obtain ⟨i, j, k, q, rfl, hq, hit, hA, hA2, hJk, hTk⟩ := hrel
    have hKlt : W.heap.size < wr.heap.size := (Array.getElem?_eq_some_iff.1 hit.out).1
    have hmeas : Hid (wr.iterPos W.heap.size = i) := Lib.hid (by unfold World.iterPos; rw [hit.out])
    by_cases hi : i < s.size
    · obtain ⟨hk, n1, e1, e2, _, hn1, _, hin, _, _, hA'⟩ := hA.out.next hi
      have hnx : ∀ ty, (Instr.next (.pointer (some ⟨W.heap.size, 0, none⟩)) true ty).run Tryd.prog wr = _ := fun ty => Lib.run_next_any_at wr W.heap.size s i ty hit.out hi
      rw [e1, e2] at hnx
      have hA' := Lib.hid hA'
      have hJ1 := Lib.hid (abides_iter HJ.out hJk.out (Nat.le_refl _) hit.out (p' := i + n1))
      have hit1 := Lib.hid (Lib.iterAt_heap wr W.heap.size s i (i + n1) hit.out)
      have hT1 : Hid (Tabs (wr.iterAt W.heap.size s (i + n1))) := Lib.hid (hTk.out.kept g1 g2 (Lib.below_iterAt (Below.refl n₀ wr) hnW s _))
      have hsz1 : Hid ((wr.iterAt W.heap.size s (i + n1)).heap.size = wr.heap.size) := Lib.hid (Lib.iterAt_size _ _ _ _)
      have hzip := Lib.hid (@zip_next l m k hk)
      generalize wr.iterAt W.heap.size s (i + n1) = w1 at hnx hJ1 hit1 hT1 hsz1
      generalize l[k] = x at *
      clear e1 e2
      by_cases hj : j < t.size
      · obtain ⟨hk2, n2, e1, e2, _, hn2, _, hjn, _, _, hA2'⟩ := hA2.out.next hj
        have hqz : q.size = t.size - j := by rw [hq.out, ByteArray.size_extract]; omega
        have hcd : ∀ W', Tabs W' → Calls Tryd.prog 38 #[.string q] W' _ := fun W' h' => Any.utf8_DecodeRuneInString Tryd.lays197 q W' h'
        rw [hq.out, decode_rest t j hj, ← hq.out, e1, e2] at hcd
        have HCD := Lib.hid hcd
        have hA2' := Lib.hid hA2'
        have hzip2 := Lib.hid (hzip.out hk2)
        have hq2 := Lib.hid (show q.extract n2 q.size = t.extract (j + n2) t.size by rw [hq.out, rest_rest])
        have hne : q.toList.isEmpty = false := by
          rw [Lib.toList_data]
          cases h : q.data.toList with
          | nil =>
            have h0 : q.size = 0 := by rw [Lib.size_eq, h]; rfl
            omega
          | cons _ _ => rfl
        have hne2 : ¬ q.toList = [] := by
          intro h; rw [h] at hne; cases hne
        have hz2 : (n2 : Int) ≤ (q.size : Int) := by omega
        have hz0 : (0 : Int) ≤ (n2 : Int) := by omega
        generalize m[k] = y at *
        clear e1 e2 hcd hqz
        gi_wp2_with fail
        refine ⟨trivial, (callsIn_wide.2 (HCD.out w1 hT1.out)).mono ?_⟩
        rintro e w2 ⟨rfl, hb⟩
        have hJ2 := abides_below HJ.out hJ1.out hb
        have hit2 : w2.heap[W.heap.size]? = some (.stringIter s (i + n1)) := (hb.block _ (by rw [hsz1.out]; exact hKlt)).trans hit1.out
        have HIT2 := Lib.hid hit2
        have hT2 := Lib.hid (hT1.out.below hb)
        obtain ⟨fn, tmps, assign, body, hy, hR⟩ := HY.out _ (x, y) w2 hJ2 (by rw [List.length_take, List.length_zip]; omega)
        dsimp only [runes2] at hy
        have HRd := Lib.hid hR
        clear hb hJ2 hit2 hR
        gi_wp2
        refine HRd.out.mono ?_
        rintro e w3 (⟨rfl, hJ3, hk3⟩ | ⟨rfl, hJx3⟩)
        · rw [hzip2.out] at hJ3
          have HJ3 := Lib.hid hJ3
          have hit3 := Lib.hid (hk3.1.same _ _ HIT2.out rfl)
          have hT3 := Lib.hid (hT2.out.kept g1 g2 hk3.2)
          have hm3 : Hid (w3.iterPos W.heap.size = i + n1) := Lib.hid (by unfold World.iterPos; rw [hit3.out])
          clear hk3 hJ3
          gi_wp2
          go_roundw
          case rel => exact ⟨i + n1, j + n2, k + 1, _, rfl, hq2, hit3, hA', hA2', HJ3, hT3⟩
          case measure => rw [hm3.out, hmeas.out]; omega
        · have HJ3 := Lib.hid hJx3
          clear hJx3
          gi_wp2
          refine bodyPost_ret (results_none rfl _ _ _) rfl ?_
          refine ⟨⟨_, rfl⟩, .inr ⟨_, ?_, HJ3.out⟩⟩
          rw [hzip2.out]; exact List.take_prefix _ _
      · have hend := Lib.hid (show (l.zip m).take k = l.zip m from zip_all (.inr (hA2.out.stop hj).1))
        have he : q = ⟨#[]⟩ := by
          rw [hq.out]
          apply bytes_ext
          rw [extract_list, List.take_of_length_le (by simp), List.drop_of_length_le (by simp; omega)]
        subst he
        gi_wp2
        refine bodyPost_ret (results_none rfl _ _ _) rfl ?_
        exact ⟨⟨_, rfl⟩, .inl ⟨_, hend.out, hJ1.out⟩⟩
    · have hnx : ∀ ty, (Instr.next (.pointer (some ⟨W.heap.size, 0, none⟩)) true ty).run Tryd.prog wr = _ := fun ty => Lib.run_next_end_at wr W.heap.size s i ty hit.out hi
      have hend := Lib.hid (show (l.zip m).take k = l.zip m from zip_all (.inl (hA.out.stop hi).1))
      gi_wp2
      go_end0
      exact ⟨⟨_, rfl⟩, .inl ⟨_, hend.out, hJk.out⟩⟩
end Go.Proofs.YtlblappalhofmaaDoor
