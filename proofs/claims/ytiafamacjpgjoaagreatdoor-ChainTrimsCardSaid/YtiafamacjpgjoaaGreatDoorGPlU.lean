/- The library's functions at this program, by the shelf's contracts: their layings, in plain words (numbers by name). -/
import Derived.Test.YtiafamacjpgjoaaGreatDoorGPlW
import Derived.Test.YtiafamacjpgjoaaGreatDoorGPush
import Derived.Test.YtiafamacjpgjoaaGreatDoorProg
import Derived.Sort.OwnSortedInts
import Derived.Lib.AppendZerosOnto
import Derived.Lib.Walk
import Derived.Lib.SliceRun
import Derived.Shelf.Sort.Plain
import Derived.Shelf.Slices.Turned
import Derived.Ground.Names2Prog
namespace Go.Proofs
open Go.Shelf
def Tryz.lays189_ren : Go.Shelf.Ren := ⟨fun | 189 => 33 | 125 => 67 | 257 => 66 | 128 => 103 | 129 => 104 | 294 => 94 | 295 => 95 | 296 => 96 | 297 => 97 | 298 => 98 | 299 => 99 | 216 => 100 | 300 => 101 | 301 => 102 | 328 => 133 | 329 => 134 | 330 => 135 | 331 => 136 | 332 => 137 | 215 => 138 | 343 => 153 | n => n, fun | 28 => 41 | 3 => 3 | 46 => 46 | 0 => 0 | 51 => 167 | 53 => 169 | 4 => 4 | 183 => 159 | 182 => 158 | 131 => 164 | 5 => 5 | 9 => 9 | 218 => 210 | 222 => 214 | 228 => 228 | 229 => 68 | n => n, fun | n => n⟩
theorem Tryz.lays189 : Go.Proofs.Lays.n189 Tryz.prog Tryz.lays189_ren := {
  mixed := by kernel_rfl
  f125 := Tryz.func67.trans (congrArg some (by kernel_rfl))
  f128 := Tryz.func103.trans (congrArg some (by kernel_rfl))
  f129 := Tryz.func104.trans (congrArg some (by kernel_rfl))
  f189 := Tryz.func33.trans (congrArg some (by kernel_rfl))
  f215 := Tryz.func138.trans (congrArg some (by kernel_rfl))
  f216 := Tryz.func100.trans (congrArg some (by kernel_rfl))
  f257 := Tryz.func66.trans (congrArg some (by kernel_rfl))
  f294 := Tryz.func94.trans (congrArg some (by kernel_rfl))
  f295 := Tryz.func95.trans (congrArg some (by kernel_rfl))
  f296 := Tryz.func96.trans (congrArg some (by kernel_rfl))
  f297 := Tryz.func97.trans (congrArg some (by kernel_rfl))
  f298 := Tryz.func98.trans (congrArg some (by kernel_rfl))
  f299 := Tryz.func99.trans (congrArg some (by kernel_rfl))
  f300 := Tryz.func101.trans (congrArg some (by kernel_rfl))
  f301 := Tryz.func102.trans (congrArg some (by kernel_rfl))
  f328 := Tryz.func133.trans (congrArg some (by kernel_rfl))
  f329 := Tryz.func134.trans (congrArg some (by kernel_rfl))
  f330 := Tryz.func135.trans (congrArg some (by kernel_rfl))
  f331 := Tryz.func136.trans (congrArg some (by kernel_rfl))
  f332 := Tryz.func137.trans (congrArg some (by kernel_rfl))
  f343 := Tryz.func153.trans (congrArg some (by kernel_rfl))
  t0 := Tryz.underlying0
  a0 := Tryz.isAgg0
  z0 := Tryz.sizeOf0
  v0 := Tryz.zeroValue0
  t3 := Tryz.underlying3
  a3 := Tryz.isAgg3
  z3 := Tryz.sizeOf3
  v3 := Tryz.zeroValue3
  t4 := Tryz.underlying4
  a4 := Tryz.isAgg4
  z4 := Tryz.sizeOf4
  v4 := Tryz.zeroValue4
  t5 := Tryz.underlying5
  a5 := Tryz.isAgg5
  z5 := Tryz.sizeOf5
  v5 := Tryz.zeroValue5
  t9 := Tryz.underlying9
  a9 := Tryz.isAgg9
  z9 := Tryz.sizeOf9
  v9 := Tryz.zeroValue9
  t28 := Tryz.underlying41
  a28 := Tryz.isAgg41
  z28 := Tryz.sizeOf41
  v28 := Tryz.zeroValue41
  t46 := Tryz.underlying46
  a46 := Tryz.isAgg46
  z46 := Tryz.sizeOf46
  v46 := Tryz.zeroValue46
  t51 := Tryz.underlying167
  a51 := Tryz.isAgg167
  z51 := Tryz.sizeOf167
  v51 := Tryz.zeroValue167
  t53 := Tryz.underlying169
  a53 := Tryz.isAgg169
  z53 := Tryz.sizeOf169
  v53 := Tryz.zeroValue169
  t131 := Tryz.underlying164
  a131 := Tryz.isAgg164
  z131 := Tryz.sizeOf164
  v131 := Tryz.zeroValue164
  t182 := Tryz.underlying158
  a182 := Tryz.isAgg158
  z182 := Tryz.sizeOf158
  v182 := Tryz.zeroValue158
  t183 := Tryz.underlying159
  a183 := Tryz.isAgg159
  z183 := Tryz.sizeOf159
  v183 := Tryz.zeroValue159
  t218 := Tryz.underlying210
  a218 := Tryz.isAgg210
  z218 := Tryz.sizeOf210
  v218 := Tryz.zeroValue210
  t222 := Tryz.underlying214
  a222 := Tryz.isAgg214
  z222 := Tryz.sizeOf214
  v222 := Tryz.zeroValue214
  t228 := Tryz.underlying228
  a228 := Tryz.isAgg228
  z228 := Tryz.sizeOf228
  v228 := Tryz.zeroValue228
  t229 := Tryz.underlying68
  a229 := Tryz.isAgg68
  z229 := Tryz.sizeOf68
  v229 := Tryz.zeroValue68 }
end Go.Proofs
/- Package plan's Units: the library's Grow, Concat and Sort of a few whole numbers. -/
namespace Go.Proofs.YtiafamacjpgjoaaGreatDoor
open Go.RowKit Tide

def unitsL (cs : List (List Int)) : List Int := ((List.range 12).map fun (i : Nat) => (i : Int)).filter fun u => decide (u ∈ cs.flatten)
theorem units_sorted {ep : Int} {cs : List (List Int)} (h : rightB ep cs = true) : (cs.flatten.mergeSort fun x y => decide (x ≤ y)) = unitsL cs := by
  obtain ⟨_, _, _, _, _, hu, hn⟩ := right_parts h
  have hp : (cs.flatten.mergeSort fun x y => decide (x ≤ y)).Perm (unitsL cs) := by
    refine (List.mergeSort_perm _ _).trans ?_
    have hnd : (unitsL cs).Nodup := by
      unfold unitsL
      refine List.Pairwise.filter _ ?_
      rw [List.pairwise_map]
      exact List.pairwise_lt_range.imp (by intro a b h; omega)
    refine (List.perm_ext_iff_of_nodup hn hnd).2 fun x => ?_
    unfold unitsL
    simp only [List.mem_filter, List.mem_map, List.mem_range, decide_eq_true_eq]
    constructor
    · intro hx
      have := hu x hx
      exact ⟨⟨x.toNat, by omega, by omega⟩, hx⟩
    · exact fun hx => hx.2
  refine List.Perm.eq_of_pairwise (le := fun a b => a ≤ b) (fun a b _ _ h1 h2 => Int.le_antisymm h1 h2) ?_ ?_ hp
  · have := List.pairwise_mergeSort (le := fun x y => decide ((x : Int) ≤ y)) (fun a b c h1 h2 => by simp at h1 h2 ⊢; omega) (fun a b => by simp; omega) cs.flatten
    exact this.imp (by simp)
  · unfold unitsL
    refine List.Pairwise.filter _ ?_
    rw [List.pairwise_map]
    exact List.pairwise_lt_range.imp (by intro a b h; omega)

theorem sortI_any (v : Value) (l : List Int) (base : Nat) (w : World) (h : Own w base v l) (hne : l ≠ []) (hl : l.length ≤ 1000000) :
    Calls Tryz.prog 33 #[v] w fun e w' => e = .returned (.tuple #[]) ∧ Own w' base v (l.mergeSort fun x y => decide (x ≤ y)) ∧ Kept (fun k => v.ownBlock = some k) w w' := by
  rcases h.2 with ⟨_, h0⟩ | ⟨g, cap, cur, rfl, hb, hg, h1, h2, h3, h4⟩
  · exact absurd (List.length_eq_zero_iff.1 h0) hne
  · have hH : Go.Sort.Holds (Value.int .i64) w g 0 l.toArray := holds_of_blockI hg (by simpa [int64s] using h4)
    refine (Any.slices_Sort_int Tryz.lays189 g 0 cap l w hH (Array.getElem?_eq_some_iff.1 hg).1 (by omega)).mono ?_
    rintro e w' ⟨rfl, n, os, rfl⟩
    refine ⟨rfl, ?_, ?_⟩
    · have := ownsRow_sortedI (n := n) (os := os) (ss := l) (ts := l.mergeSort fun x y => decide (x ≤ y)) (by simp) hb hg h1 h2 h3
      unfold Own
      rw [List.length_mergeSort]
      exact this
    · exact Kept.grown (Kept.refl _ _) (grownBy_sortedI _) (fun k hk => .inl (by injection hk with hk; subst hk; rfl))

theorem growI_any (n : Nat) (w : World) (h0 : 0 < n) (hn : n ≤ 1000000) :
    Calls Tryz.prog 65 #[.slice none 0 0, .int .i64 (n : Int)] w fun e w' => ∃ v, e = .returned v ∧ Own w' w.heap.size v [] ∧ Below w.heap.size w w' := by
  obtain ⟨i0, hi, hz0, hz1, hz2⟩ := info_parts infoInt
  have hold : (Builtin.firstCells i0.size 0 (.slice none 0 0)).run Tryz.prog w.drew = .ok (#[] : Array Value) w.drew := run_firstCells_none w.drew i0.size 0 0 0
  have hrz : ∀ ty, (Builtin.append_ #[41, 3] ty #[.slice none 0 0, .int .i64 (n : Int)]).run Tryz.prog w =
      .ok (.slice (some ⟨w.heap.size, 0, none⟩) n (grownCap w n 0 3)) (w.drew.alloc (.cells (#[] ++ Builtin.zeroCells (Value.int .i64 0).cells n ++ Builtin.zeroCells (Value.int .i64 0).cells (grownCap w n 0 3 - n)) 3)) := fun ty => by
    have h := Lib.run_append_grow_zeros w 41 3 ty 3 i0 (.int .i64 0) .i64 .i64 Tryz.underlying41 Tryz.underlying3 hi hz0 none 0 0 [] hold n h0 (by omega) (by omega) (by omega) (by rw [hz2]; omega) (by rw [hz2]; exact growslice_fits (by omega) (by omega))
    rw [Nat.zero_add] at h
    exact h
  have hGn : n ≤ grownCap w n 0 3 := grownCap_ge w _ _ _
  obtain ⟨G, hG⟩ : ∃ G, G = grownCap w n 0 3 := ⟨_, rfl⟩
  rw [← hG] at hrz hGn
  have hG63 : G ≤ 9223372036854775807 := by
    have := grownCap_le_maxLen w n 0 3 (by unfold maxLen; omega)
    rw [← hG] at this
    unfold maxLen at this
    exact this
  have hO : Own (w.alloc (.cells (Builtin.zeroCells #[Value.int .i64 0] n ++ Builtin.zeroCells #[Value.int .i64 0] (G - n)) 3)) w.heap.size (.slice (some ⟨w.heap.size, 0, none⟩) 0 G) [] :=
    own_new _ _ _ _ _ _ _ _ rfl (Nat.le_refl _) (Nat.zero_le _) (by unfold maxLen; omega) (by simp [Builtin.zeroCells]; omega) rfl
  have HO := Lib.hid hO
  have HRZ := Lib.hid hrz
  have hn1 : ¬ ((n : Int) < 0) := by omega
  have hn2 : (0 : Int) < (n : Int) := by omega
  clear hold hrz hG hO hi hz0 hz1 hz2
  go_enter Tryz.func65, Tryz.ntmps65
  go_wp2_with (at_builtin; refine Lib.wpList_append_run _ rfl _ _ _ _ rfl _ _ rfl rfl _ _ (HRZ.out _) ?_)
  all_goals
    go_ret
    exact ⟨_, rfl, HO.out, ((Below.refl _ _).alloc (Nat.le_refl _) _).drew⟩

set_option maxHeartbeats 2000000 in
theorem concat_any (cs : List (List Int)) (v : Value) (B : Nat) (w : World) (hv : Grid w B v cs) (hB : B ≤ w.heap.size) (h0 : 0 < cs.flatten.length) (h1 : cs.flatten.length ≤ 1000) :
    Calls Tryz.prog 32 #[v] w fun e w' => ∃ v', e = .returned v' ∧ Own w' w.heap.size v' cs.flatten ∧ Below w.heap.size w w' := by
  obtain ⟨hlen, A, c, rfl, hcell⟩ := hv.form
  obtain ⟨i0, hi, hz0, hz1, hz2⟩ := info_parts infoInt
  have HI := Lib.hid hi
  have HC := Lib.hid hcell
  have HB := Lib.hid hB
  have HT := Lib.hid (show ∀ k (hk : k < cs.length), (cs.take (k + 1)).flatten = (cs.take k).flatten ++ cs[k] from fun k hk => take_flat cs k hk)
  have HLe := Lib.hid (show ∀ k, (cs.take k).flatten.length ≤ cs.flatten.length from fun k => by rw [flat_split cs k, List.length_append]; omega)
  have HAll := Lib.hid (show ∀ k, cs.length ≤ k → (cs.take k).flatten = cs.flatten from fun k hk => by rw [List.take_of_length_le hk])
  have H1 := Lib.hid h1
  obtain ⟨N, hN⟩ : ∃ N, N = cs.flatten.length := ⟨_, rfl⟩
  have HN := Lib.hid hN
  have HG := Lib.hid (growI_any N w (by omega) (by omega))
  clear hv hcell hB hi h1 h0 hN
  go_enter Tryz.func32, Tryz.ntmps32
  go_wp2_with fail
  go_loop [3, 11] (fun s i => ∃ k : Nat, i = .int .i64 k ∧ k ≤ cs.length ∧ s = .int .i64 ((cs.take k).flatten.length : Int)) (fun _ i => cs.length - (intOf i).toNat)
  case atStart => exact ⟨0, rfl, Nat.zero_le _, rfl⟩
  case round =>
    obtain ⟨k, rfl, hk, rfl⟩ := hrel
    by_cases hlt : k < cs.length
    · obtain ⟨b, o, u, rfl, hbl, hcu, hr⟩ := HC.out k hlt
      obtain ⟨hul, Au, cu, rfl, huc⟩ := row_ints hr
      have i1 : (k : Int) < (cs.length : Int) := by omega
      have hs : (cs.take (k + 1)).flatten.length = (cs.take k).flatten.length + cs[k].length := by rw [HT.out k hlt, List.length_append]
      have hb1 := HLe.out (k + 1)
      have hb2 := H1.out
      rw [hs] at hb1
      have HS := Lib.hid hs
      have hb3 : (cs.take k).flatten.length + cs[k].length ≤ 1000 := by omega
      clear hs hb1 hb2 hr huc
      generalize cs[k] = cc at *
      generalize (cs.take k).flatten.length = p at *
      have hb4 : ¬ ((p : Int) + (cc.length : Int) < 0) := by omega
      go_wp2_with fail
      go_round
      case rel => exact ⟨k + 1, by go_num, by omega, by rw [HS.out]; push_cast; rfl⟩
      case measure => simp [intOf]; omega
    · have HE := Lib.hid (show (cs.take k).flatten.length = N by rw [HAll.out k (by omega), HN.out])
      rw [HE.out]
      go_wp2_with fail
      refine HG.out.mono ?_
      rintro e w1 ⟨v1, rfl, ho, hb⟩
      have HO := Lib.hid ho
      have HB1 := Lib.hid hb
      clear ho hb HG HE
      go_wp2_with fail
      go_loopw [6, 27] (fun s i wr => ∃ k : Nat, i = .int .i64 k ∧ k ≤ cs.length ∧ Hid (Own wr w.heap.size s (cs.take k).flatten) ∧ Hid (Below w.heap.size w wr)) (fun _ i _ => cs.length - (intOf i).toNat)
      case atStart => exact ⟨0, rfl, Nat.zero_le _, HO, HB1⟩
      case round =>
        obtain ⟨k2, rfl, hk2, hO, hBr⟩ := hrel
        by_cases hlt2 : k2 < cs.length
        · obtain ⟨b, o, u, rfl, hbl, hcu, hr⟩ := HC.out k2 hlt2
          have hbw : b < w.heap.size := Nat.lt_of_lt_of_le hbl HB.out
          have hc1 := (hBr.out.cell (p := ⟨b, o + k2, none⟩) hbw).trans hcu
          have i1 : (k2 : Int) < (cs.length : Int) := by omega
          have HRow := Lib.hid (Row.keep hr (below_cells (hBr.out.mono HB.out)))
          have hb1 := HLe.out (k2 + 1)
          have hb2 := H1.out
          rw [HT.out k2 hlt2, List.length_append] at hb1
          have hb3 : (cs.take k2).flatten.length + cs[k2].length ≤ 1000 := by omega
          have HT2 := Lib.hid (HT.out k2 hlt2)
          clear hcu hr hb1 hb2
          generalize cs[k2] = cc at *
          go_wp2_with (at_builtin; refine wpList_append_row _ rfl (.tmp 31) (.tmp 32) _ rfl w.heap.size 3 i0 (.int .i64 0) 8 Tryz.underlying41 HI.out hz0 hz1 hz2 rfl _ _ _ rfl hO.out _ _ (int64s cc) rfl HRow.out (ints_one _) ?d1 ?d2 ?d3 ?_)
          case d1 => rw [int64s_length]; unfold maxLen; omega
          case d2 => rw [int64s_length]; omega
          case d3 => exact hBr.out.size
          intro v4 w4 h4 h5 _
          have O4 := Lib.hid (show Own w4 w.heap.size v4 (cs.take (k2 + 1)).flatten from by
            unfold Own; rw [HT2.out, ints_app, List.length_append]; rw [int64s_length] at h4; have e : (cs.take k2).flatten.length = (List.take k2 (List.map List.length cs)).sum := by simp [List.length_flatten, List.map_take]
            rw [e]; exact h4)
          have B4 := Lib.hid (hBr.out.grown h5 hBr.out.size (fun g hg => (hO.out.lt g hg).1))
          clear h4 h5
          go_wp2_with fail
          go_roundw
          case rel => exact ⟨k2 + 1, by go_num, by omega, O4, B4⟩
          case measure => simp [intOf]; omega
        · have HE := Lib.hid (HAll.out k2 (by omega))
          go_wp2_with fail
          go_ret
          exact ⟨_, rfl, by rw [← HE.out]; exact hO.out, hBr.out⟩

theorem units_any (ep : Int) (cs : List (List Int)) (v : Value) (B : Nat) (w : World) (hv : Grid w B v cs) (hB : B ≤ w.heap.size) (hR : rightB ep cs = true) :
    Calls Tryz.prog 10 #[planV ep v] w fun e w' => ∃ v', e = .returned v' ∧ Own w' w.heap.size v' (unitsL cs) ∧ Below w.heap.size w w' := by
  have hcc : Calls Tryz.prog 9 #[planV ep v] _ _ := right_any ep cs v B (w.alloc (.cells #[.int .i64 ep, v] 24)) (hv.below ((Below.refl _ _).alloc hB _)) (by simp; omega)
  rw [hR] at hcc
  have CR := Lib.hid hcc
  have HU := Lib.hid (units_sorted hR)
  have hfl : 0 < cs.flatten.length ∧ cs.flatten.length ≤ 1000 := by
    obtain ⟨_, _, n1, n3, hs, _⟩ := right_parts hR
    constructor
    · match cs, n1, hs with
      | c :: r, _, hs =>
        have := hs c (by simp)
        simp; omega
    · have h9 : ∀ (l : List (List Int)), (∀ c ∈ l, 1 ≤ c.length ∧ c.length ≤ 3) → l.flatten.length ≤ 3 * l.length := fun l => by
        induction l with
        | nil => simp
        | cons c r ih =>
          intro h
          have h1 := h c (by simp)
          have h2 := ih (fun x hx => h x (by simp [hx]))
          simp at h2 ⊢; omega
      have := h9 cs hs
      omega
  have CC := Lib.hid (fun W (h : Below w.heap.size w W) => concat_any cs v B W (hv.below (h.mono hB)) (Nat.le_trans hB h.size) hfl.1 hfl.2)
  have B0 := Lib.hid ((Below.refl w.heap.size w).alloc (Nat.le_refl _) (.cells #[.int .i64 ep, v] 24))
  have P0 := Lib.hid (Two.new w 24 (.int .i64 ep) v)
  have hne : cs.flatten ≠ [] := fun e => by rw [e] at hfl; simp at hfl
  have HNE := Lib.hid (And.intro hne hfl.2)
  clear hv hB hR hcc hfl hne
  go_enter Tryz.func10, Tryz.ntmps10
  go_wp2_with fail
  refine CR.out.mono ?_
  rintro e w1 ⟨rfl, hb⟩
  have B1 := Lib.hid (B0.out.trans (hb.mono B0.out.size))
  obtain ⟨_, hc0, hc1, _⟩ := (P0.out.below hb P0.out.lt).facts
  clear hb
  go_wp2_with fail
  refine (CC.out _ B1.out).mono ?_
  rintro e w2 ⟨v2, rfl, ho, hb⟩
  have HO := Lib.hid ho
  have B2 := Lib.hid (B1.out.trans (hb.mono B1.out.size))
  have CS := Lib.hid (sortI_any v2 _ _ w2 ho HNE.out.1 (by have := HNE.out.2; omega))
  clear hb ho hc0 hc1
  go_wp2_with fail
  refine CS.out.mono ?_
  rintro e w3 ⟨rfl, ho, hk⟩
  have O3 := Lib.hid (show Own w3 w.heap.size v2 (unitsL cs) from by rw [← HU.out]; exact own_later ho B1.out.size)
  have B3 := Lib.hid (B2.out.trans (hk.below B2.out.size (fun i hi => Nat.le_trans B1.out.size (HO.out.lt i hi).1)))
  clear ho hk
  go_wp2_with fail
  go_ret
  exact ⟨_, rfl, O3.out, B3.out⟩
end Go.Proofs.YtiafamacjpgjoaaGreatDoor
