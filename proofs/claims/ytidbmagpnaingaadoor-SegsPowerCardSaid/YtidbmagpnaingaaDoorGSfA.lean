/- The chapter's example: a record on a device of one segment. -/
import Derived.Test.YtidbmagpnaingaaDoorGStO
import Derived.Test.YtidbmagpnaingaaDoorGErr
import Derived.Lib.SlBytesConst
namespace Go.Proofs.YtidbmagpnaingaaDoor
open Go.RowKit Go.Shelf Tide

/-- All variables of the program are errors. -/
theorem Errs.ng {w : World} {a : Nat → Addr} (h : Errs w a) : 19 ≤ w.heap.size := by
  have h1 : ∃ i, i < 19 ∧ evars.getD i 0 + 1 = 19 := by decide
  obtain ⟨i, hi, h2⟩ := h1
  have := World.block_lt_of_cell? _ _ (h.var i hi)
  simp only at this
  omega
/-- The store behind the example. -/
def oneM : StoD := ⟨1, [⟨0, 0, 2, [[97]]⟩]⟩
theorem alive_store : ∃ d', appendDv [] ⟨noughts (64 * 64), [], none⟩ [97] = (none, 0, usOf oneM, d') ∧ d'.pend = [] ∧ LiesM 64 d'.img oneM := by
  have h := append_lies (d := ⟨noughts (64 * 64), [], none⟩) (blank_lies 64) (by decide) [97]
  have hm : appendD ⟨64 / 64, []⟩ [97] = (oneM, 0, 0) := rfl
  rw [hm] at h
  rcases h with ⟨e, _, h2, _⟩ | ⟨no, d', h1, h2, h3, h4, _⟩ | ⟨us', d', _, h2, _⟩
  · injection h2 with _ h2
    injection h2 with _ h2
    omega
  · injection h2 with h2 _
    have : no = 0 := by omega
    subst this
    exact ⟨d', h1, h4, h3⟩
  · exact absurd rfl h2
section
variable {D : DvP} {a : Nat → Addr} {w : World}
set_option maxRecDepth 100000 in
set_option maxHeartbeats 4000000 in
theorem salive_any (hD : DvSpec (three a) D) (hE : Errs w a) : Calls Tryd.prog 6 #[] w fun e w' => e = .returned (.bool true) ∧ Below w.heap.size w w' := by
  obtain ⟨d1, ha, hpe, hli⟩ := alive_store
  have HA := Lib.hid ha
  have HPe := Lib.hid hpe
  have HLi := Lib.hid hli
  have hng := hE.ng
  have kc := fun (w : World) (C : Array Value) (n c : Nat) => Lib.run_convert_bytes_const (P := Tryd.prog) w 52 5 C n c Tryd.underlying52 Tryd.underlying5
  have CN := Lib.hid (LD.new hD (Below.refl w.heap.size w) 64 (by omega) (by omega))
  clear ha hpe hli
  go_enter Tryd.func6, Tryd.ntmps6
  go_wp2_with fail
  refine CN.out.mono ?_
  rintro en w1 ⟨dev, rfl, hd⟩
  have CO := Lib.hid (hd.openBlank hD (by omega))
  clear CN hd
  go_wp2_with fail
  refine CO.out.mono ?_
  rintro en w2 ⟨p, rfl, hs⟩
  have hb2 : Bytes (w2.alloc (.cells #[.int .u8 97] 5 (1, 2))) (w2.alloc (.cells #[.int .u8 97] 5 (1, 2))).heap.size (.slice (some ⟨w2.heap.size, 0, none⟩) 1 1) [97] :=
    bytes_of_cells rfl (by omega) (by simp) (fun j hj => by
      obtain rfl : j = 0 := by simpa using hj
      rw [World.cell?_alloc_mark]
      rfl)
  have CA := Lib.hid (hs.append hD hE hng rfl ⟨by simp, fun u hu => by (cases hu), by decide⟩ ((Below.refl _ _).alloc (Nat.le_refl _) _) _ [97] hb2 (fun k e => by simp [Value.ownBlock] at e; omega))
  rw [HA.out] at CA
  clear CO hs hb2
  go_wp2_with fail
  refine CA.out.mono ?_
  rintro en w3 ⟨rfl, hs3⟩
  have HS3 := Lib.hid (show LS D w p dev (usOf oneM) d1 w3 from hs3)
  have CL := Lib.hid (HS3.out.last hD (by decide))
  clear hs3 CA
  dsimp only [errV]
  go_wp2_with fail
  refine CL.out.mono ?_
  rintro en w4 ⟨rfl, hs4⟩
  have CR := hs4.records hD (by decide) (by
    intro u hu
    have hl := HLi.out.len
    have : u = ⟨0, 0, 3⟩ := by simpa [usOf, oneM, endG] using hu
    subst this
    simp only
    omega) 0
  have hr : recsU (flushD d1.img d1.pend) (usOf oneM) 0 = [[97]] := by
    rw [HPe.out]
    exact (recs_is HLi.out 0).trans (by decide)
  rw [hr] at CR
  have CR2 := Lib.hid CR
  have hl0 : lastU (usOf oneM) = 0 := by decide
  rw [hl0]
  clear CR hr hs4 CL
  go_wp2_with fail
  refine CR2.out.mono ?_
  rintro en w5 ⟨v, rfl, hp, hs5⟩
  have HB := Lib.hid hs5.since
  obtain ⟨_, A, c, rfl, _⟩ := hp.form
  clear hp hs5 CR2
  go_wp2_with fail
  go_ret
  exact ⟨by simp, HB.out⟩
end
end Go.Proofs.YtidbmagpnaingaaDoor

/- The law of a device that is filled, walked over what devices and stores do. -/
namespace Go.Proofs.YtidbmagpnaingaaDoor
open Go.RowKit Go.Shelf Tide

theorem umod_of (x k : Int) (hk : 0 < k) (hk2 : k ≤ 100000) : ∃ n : Nat, (n : Int) < k ∧ wrap64 ((IntKind.u64.wrap x).tmod k) = (n : Int) ∧ (IntKind.u64.wrap x).tmod k = (n : Int) ∧ IntKind.u64.wrap (n : Int) = (n : Int) := by
  have h : IntKind.u64.wrap x = x % 18446744073709551616 := by
    unfold IntKind.wrap
    simp [IntKind.signed, IntKind.bits]
  rw [h]
  obtain ⟨m, hm⟩ : ∃ m : Nat, x % 18446744073709551616 = (m : Int) := ⟨(x % 18446744073709551616).toNat, by omega⟩
  rw [hm, Int.tmod_eq_emod_of_nonneg (by omega)]
  obtain ⟨n, hn⟩ : ∃ n : Nat, (m : Int) % k = (n : Int) := ⟨((m : Int) % k).toNat, by have := Int.emod_nonneg (m : Int) (show k ≠ 0 by omega); omega⟩
  have hlt := Int.emod_lt_of_pos (m : Int) hk
  refine ⟨n, by omega, ?_, by omega, ?_⟩
  · rw [hn]
    unfold wrap64
    omega
  · unfold IntKind.wrap
    simp [IntKind.signed, IntKind.bits]
    omega
section
variable {D : DvP} {a : Nat → Addr} {w : World}
/-- Noughts that were made just now. -/
theorem made_bytes (W : World) (n : Nat) (h : n ≤ 65536) : Bytes (W.alloc (.cells (u8s (noughts n)).toArray 5)) (W.alloc (.cells (u8s (noughts n)).toArray 5)).heap.size (.slice (some ⟨W.heap.size, 0, none⟩) n n) (noughts n) :=
  bytes_of_cells (noughts_len n) h (by simp) (fun j hj => by
    rw [cell_of_row _ _ j _ _ _ (heap_alloc_new W _)]
    have := u8s_get (noughts n) j hj
    simpa using this)
theorem FS.start {p dev n : Nat} {W : World} (h : LS D w p dev [] ⟨noughts (64 * n), [], none⟩ W) : FS D w p dev n [] W := ⟨_, ⟨rfl, rfl, noughts_len _⟩, h⟩
/-- The one of a number, where there is one alone. -/
theorem findU_one {us : List SegU} {n : Int} {i : Nat} (hi : i < us.length) (hn : ((us[i]).no : Int) = n) (hu : ∀ (k : Nat) (hk : k < us.length), ((us[k]).no : Int) = n → k = i) : findU us n = (i : Int) := by
  rcases findU_cases us n with h | ⟨k, hk, h, h2⟩
  · exfalso
    unfold findU at h
    split at h
    · rename_i h3
      have := List.find?_eq_none.1 h3 (i, us[i]) (by
        unfold backL
        rw [List.mem_reverse]
        exact List.mem_mapIdx.2 ⟨i, hi, rfl⟩)
      exact this (by simpa using hn)
    · omega
  · rw [h, hu k hk h2]
/-- Full segments from the j-th on. -/
def fullJ (r e j N : Nat) : List SegU := (List.range' j (N - j)).map fun i => segF r 0 i e
theorem fullJ_len (r e j N : Nat) : (fullJ r e j N).length = N - j := by unfold fullJ; rw [List.length_map, List.length_range']
theorem fullJ_at (r e j N k : Nat) (h : k < (fullJ r e j N).length) : (fullJ r e j N)[k] = segF r 0 (j + k) e := by
  simp only [fullJ, List.getElem_map, List.getElem_range', Nat.one_mul]
theorem fullJ_find (r e j N : Nat) (h : j < N) : findU (fullJ r e j N) (j : Int) = ((0 : Nat) : Int) := by
  refine findU_one (by rw [fullJ_len]; omega) ?_ fun k hk hk2 => ?_
  · rw [fullJ_at]; simp [segF]
  · rw [fullJ_at] at hk2
    simp only [segF] at hk2
    omega
theorem fullJ_drop (r e j N : Nat) (h : j < N) : (fullJ r e j N).eraseIdx 0 = fullJ r e (j + 1) N := by
  unfold fullJ
  rw [show N - j = (N - (j + 1)) + 1 by omega, List.range'_succ, List.map_cons]
  rfl
theorem fullJ_on {r e j N : Nat} : ∀ u ∈ fullJ r e j N, u.first + 1 ≤ 64 * N := by
  intro u hu
  unfold fullJ at hu
  obtain ⟨i, hi, rfl⟩ := List.mem_map.1 hu
  obtain ⟨k, hk, rfl⟩ := List.mem_range'.1 hi
  simp only [segF]
  omega
theorem fullJ_last (r e N : Nat) (h : 1 ≤ N) : fullJ r e (N - 1) N = [⟨N - 1, 64 * (N - 1), 64 * (N - 1) + 1 + r * e⟩] := by
  unfold fullJ
  rw [show N - (N - 1) = 1 by omega]
  simp [segF]
set_option maxRecDepth 100000 in
set_option maxHeartbeats 4000000 in
theorem segsFill_law (hD : DvSpec (three a) D) (hE : Errs w a) (n size : Int) : Calls Tryd.prog 5 #[.int .i64 n, .int .i64 size] w fun en w' => en = .returned (.bool true) ∧ Below w.heap.size w w' := by
  obtain ⟨n4, hn4, hq1, hq1', hq1''⟩ := umod_of n 4 (by omega) (by omega)
  obtain ⟨s4, hs4, hq2, hq2', hq2''⟩ := umod_of size 3968 (by omega) (by omega)
  have CA := Lib.hid (salive_any hD hE)
  have hng := hE.ng
  obtain ⟨N, hN⟩ : ∃ N, N = 1 + n4 := ⟨_, rfl⟩
  obtain ⟨z, hz⟩ : ∃ z, z = 1 + s4 := ⟨_, rfl⟩
  obtain ⟨q, hq⟩ : ∃ q, q = (z + 63) / 64 := ⟨_, rfl⟩
  obtain ⟨r, hr⟩ : ∃ r, r = 1 + q := ⟨_, rfl⟩
  obtain ⟨e, he⟩ : ∃ e, e = 63 / r := ⟨_, rfl⟩
  obtain ⟨S, hS⟩ : ∃ S, S = 64 * N := ⟨_, rfl⟩
  obtain ⟨T, hT⟩ : ∃ T, T = e * N := ⟨_, rfl⟩
  have b1 : 1 ≤ N ∧ N ≤ 4 := by omega
  have b2 : 1 ≤ z ∧ z ≤ 3968 := by omega
  have b3 : 1 ≤ q ∧ q ≤ 62 := by omega
  have b4 : 2 ≤ r ∧ r ≤ 63 := by omega
  have hre : r * e ≤ 63 ∧ 63 < r * e + r ∧ 1 ≤ e ∧ e ≤ 63 := by
    have h1 := Nat.div_add_mod 63 r
    have h2 := Nat.mod_lt 63 (show r > 0 by omega)
    rw [← he] at h1
    have h3 : 1 ≤ e := by rw [he]; exact (Nat.le_div_iff_mul_le (by omega)).2 (by omega)
    have h4 : e ≤ 63 := by rw [he]; exact Nat.div_le_self _ _
    exact ⟨by omega, by omega, h3, h4⟩
  have bT : T ≤ 252 := by rw [hT]; calc e * N ≤ 63 * 4 := Nat.mul_le_mul hre.2.2.2 b1.2
                                  _ = 252 := rfl
  have HP : PreF [] 0 r e N N := ⟨b4.1, ⟨hre.1, hre.2.1⟩, hre.2.2.1, ⟨by omega, by omega⟩, .inl ⟨rfl, rfl, rfl⟩⟩
  have hrz : r = 1 + (z + 63) / 64 := by rw [hr, hq]
  have e1 : (1 : Int) + (n4 : Int) = (N : Int) := by omega
  have e2 : (1 : Int) + (s4 : Int) = (z : Int) := by omega
  have e3 : (64 : Int) * (N : Int) = (S : Int) := by omega
  obtain ⟨y, hy⟩ : ∃ y, y = z + 63 := ⟨_, rfl⟩
  have e4 : (z : Int) + 63 = (y : Int) := by omega
  have e5 : (y : Int).tdiv 64 = (q : Int) := by rw [Int.tdiv_eq_ediv_of_nonneg (by omega)]; omega
  have e5' : (y : Int) / 64 = (q : Int) := by omega
  have e6 : (1 : Int) + (q : Int) = (r : Int) := by omega
  have e7 : (63 : Int).tdiv (r : Int) = (e : Int) := by rw [he]; rfl
  have e7' : (63 : Int) / (r : Int) = (e : Int) := by rw [he]; rfl
  have e8 : (e : Int) * (N : Int) = (T : Int) := by rw [hT]; rfl
  have be1 : (e : Int) ≤ 63 := by omega
  have be2 : (1 : Int) ≤ (e : Int) := by omega
  have bT2 : (T : Int) ≤ 252 := by omega
  have HN := Lib.hid hN
  have HZ := Lib.hid hz
  have HRz := Lib.hid hrz
  have HS := Lib.hid hS
  have HT := Lib.hid hT
  have HPr := Lib.hid HP
  have HRe := Lib.hid hre
  have mk := make_bytes z (by omega)
  clear hN hz hq hr he hS hT HP hrz hre hy
  go_enter Tryd.func5, Tryd.ntmps5
  go_wp2_with fail
  refine CA.out.mono ?_
  rintro en w1 ⟨rfl, hb1⟩
  have CN := Lib.hid (LD.new hD hb1 S (by have := HS.out; omega) (by have := HS.out; omega))
  clear hb1 CA
  go_wp2_with fail
  refine CN.out.mono ?_
  rintro en w2 ⟨dev, rfl, hd⟩
  have CO := Lib.hid (hd.openBlank hD (by have := HS.out; omega))
  clear hd CN
  go_wp2_with fail
  refine CO.out.mono ?_
  rintro en w3 ⟨p, rfl, hs⟩
  have HF3 := Lib.hid (FS.start hs)
  clear hs CO
  go_wp2_with fail
  go_loopw [52] (fun i wr => ∃ k : Nat, i = .int .i64 (k : Int) ∧ k ≤ T ∧ Hid (FS D w p dev S (usK [] 0 r e k) wr)) (fun i _ => T - (intOf i).toNat)
  case atStart => exact ⟨0, rfl, Nat.zero_le _, HF3⟩
  case round =>
    obtain ⟨k, rfl, hk, hF⟩ := hrel
    by_cases hlt : k < T
    · have q1 : decide ((k : Int) < (T : Int)) = true := decide_eq_true (by omega)
      have hS := HS.out
      have hok := usK_ok HPr.out (n := S) (k := k) (by omega) (by rw [← HT.out]; omega)
      have hap := append_k HPr.out HRz.out (k := k) (by rw [← HT.out]; exact hlt)
      have hNS : S / 64 = N := by omega
      have CA := hF.out.append_ok hD hE hng hok.1 ((Below.refl wr.heap.size wr).alloc (Nat.le_refl _) _) _ (noughts z) (made_bytes wr z (by omega)) (fun k e => by simp [Value.ownBlock] at e; omega) (by rw [noughts_len]; omega) (by rw [noughts_len]; omega) (by rw [noughts_len, hNS]; exact hap)
      obtain ⟨kq, hkq⟩ : ∃ kq, k / e = kq := ⟨_, rfl⟩
      rw [hkq, Nat.zero_add] at CA
      have CA2 := Lib.hid CA
      have q2 : (k : Int).tdiv (e : Int) = (kq : Int) := by rw [← hkq]; rfl
      have q3 : (k : Int) / (e : Int) = (kq : Int) := by rw [← hkq]; rfl
      have q4 : (kq : Int) ≤ 100000 := by have := Nat.div_le_self k e; omega
      have q5 : ¬ ((e : Int) = 0) := by have := HRe.out; omega
      clear CA hok hap hNS hS hkq hF
      go_wp2_with fail
      refine CA2.out.mono ?_
      rintro en w4 ⟨rfl, hF4⟩
      have HF4 := Lib.hid hF4
      clear hF4 CA2
      go_wp2_with fail
      clear q1 q2 q3 q4 q5
      go_roundw
      case rel => exact ⟨k + 1, by go_num, by omega, HF4⟩
      case measure => simp [intOf]; omega
    · have hkT : k = T := by omega
      subst hkT
      have q1 : decide ((k : Int) < (k : Int)) = false := decide_eq_false (by omega)
      have hS := HS.out
      have hNS : S / 64 = N := by omega
      have hok := usK_ok HPr.out (n := S) (k := k) (by omega) (by rw [← HT.out]; omega)
      have hfull := append_full HPr.out HRz.out
      rw [← HT.out] at hfull
      have hall := usK_all HPr.out
      rw [← HT.out, List.nil_append] at hall
      have hfr := free_none HPr.out
      rw [List.nil_append, ← hall] at hfr
      have CA := hF.out.append_full hD hE hng hok.1 ((Below.refl wr.heap.size wr).alloc (Nat.le_refl _) _) _ (noughts z) (made_bytes wr z (by omega)) (fun k e => by simp [Value.ownBlock] at e; omega) (by rw [noughts_len]; omega) (by rw [noughts_len]; omega) (by rw [noughts_len, hNS]; exact hfull)
      have CA2 := Lib.hid CA
      have hfj : usK [] 0 r e k = fullJ r e 0 N := by rw [hall]; unfold fullJ; rw [Nat.sub_zero, List.range_eq_range']
      have HFr := Lib.hid hfr
      have HFj := Lib.hid hfj
      have HLe := Lib.hid (show (usK [] 0 r e k).length ≤ 1000 by have := hok.1.len; omega)
      have HNs := Lib.hid hNS
      clear CA hok hfull hall hfr hNS hS hF hfj
      go_wp2_with fail
      refine CA2.out.mono ?_
      rintro en w4 ⟨rfl, hF4⟩
      have HF4 := Lib.hid hF4
      have CNum := Lib.hid (num_any a (errAt (a 12)) 13 w4 (hE.below hF4.since) (isErr_at a 12 (by omega)))
      clear hF4 CA2
      go_wp2_with fail
      refine CNum.out.mono ?_
      rintro en w5 ⟨rfl, hb5⟩
      have HF5 := HF4.out.below hD hb5
      have CFr := HF5.free hD HLe.out
      rw [HNs.out, HFr.out] at CFr
      have CFr2 := Lib.hid CFr
      clear CFr HF5 hb5 CNum
      go_wp2_with fail
      refine CFr2.out.mono ?_
      rintro en w6 ⟨rfl, hF6⟩
      rw [HFj.out] at hF6
      have HF6 := Lib.hid hF6
      obtain ⟨N1, hN1⟩ : ∃ N1, N1 = N - 1 := ⟨_, rfl⟩
      have f1 : (N : Int) - 1 = (N1 : Int) := by omega
      have HN1 := Lib.hid hN1
      clear hF6 CFr2 hN1
      go_wp2_with fail
      go_loopw [89] (fun i wr => ∃ j : Nat, i = .int .i64 (j : Int) ∧ j ≤ N1 ∧ Hid (FS D w p dev S (fullJ r e j N) wr)) (fun i _ => N1 - (intOf i).toNat)
      case atStart => exact ⟨0, rfl, Nat.zero_le _, HF6⟩
      case round =>
        obtain ⟨j, rfl, hj, hF⟩ := hrel
        by_cases hlt2 : j < N1
        · have q2 : decide ((j : Int) < (N1 : Int)) = true := decide_eq_true (by omega)
          have hjN : j + 1 < N := by have := HN1.out; omega
          have CD := hF.out.drop_ok hD hE hng (by rw [fullJ_len]; omega) (by have := HS.out; rw [this]; exact fullJ_on) (j : Int) (i := 0) (by rw [fullJ_len]; omega) (fullJ_find r e j N (by omega))
          rw [fullJ_drop r e j N (by omega)] at CD
          have CD2 := Lib.hid CD
          have hj2 : j ≤ 100 := by omega
          clear CD hF hjN
          go_wp2_with fail
          refine CD2.out.mono ?_
          rintro en w7 ⟨rfl, hF7⟩
          have HF7 := Lib.hid hF7
          clear hF7 CD2
          go_wp2_with fail
          go_roundw
          case rel => exact ⟨j + 1, by go_num, by omega, HF7⟩
          case measure => simp [intOf]; omega
        · have hjN : j = N1 := by omega
          subst hjN
          have q2 : decide ((j : Int) < (j : Int)) = false := decide_eq_false (by omega)
          obtain ⟨pre, hpre⟩ : ∃ pre, fullJ r e j N = pre := ⟨_, rfl⟩
          have hF' := hF.out
          rw [hpre] at hF'
          have hpre2 : pre = [⟨j, 64 * j, 64 * j + 1 + r * e⟩] := by
            rw [← hpre, HN1.out]
            exact fullJ_last r e N b1.1
          have HPr2 := Lib.hid (show PreF pre N r e j N from ⟨b4.1, ⟨HRe.out.1, HRe.out.2.1⟩, HRe.out.2.2.1, ⟨by omega, by omega⟩, .inr ⟨j, by have := HN1.out; omega, hpre2, by have := HN1.out; omega⟩⟩)
          have HF8 := Lib.hid (show FS D w p dev S (usK pre N r e 0) wr from hF')
          obtain ⟨T1, hT1⟩ : ∃ T1, T1 = e * j := ⟨_, rfl⟩
          have e9 : (e : Int) * (j : Int) = (T1 : Int) := by rw [hT1]; rfl
          have bT1 : T1 ≤ 252 := by
            rw [hT1]
            calc e * j ≤ 63 * 4 := Nat.mul_le_mul HRe.out.2.2.2 (by omega)
              _ = 252 := rfl
          have bT12 : (T1 : Int) ≤ 252 := by omega
          have HT1 := Lib.hid hT1
          clear hF hF' hpre hpre2 hT1 HF6 hj hlt2 HFj HFr
          go_wp2_with fail
          go_loopw [101] (fun i wr => ∃ k2 : Nat, i = .int .i64 (k2 : Int) ∧ k2 ≤ T1 ∧ Hid (FS D w p dev S (usK pre N r e k2) wr)) (fun i _ => T1 - (intOf i).toNat)
          case atStart => exact ⟨0, rfl, Nat.zero_le _, HF8⟩
          case round =>
            obtain ⟨k2, rfl, hk2, hF⟩ := hrel
            by_cases hlt3 : k2 < T1
            · have q3 : decide ((k2 : Int) < (T1 : Int)) = true := decide_eq_true (by omega)
              have hS := HS.out
              have hok := usK_ok HPr2.out (n := S) (k := k2) (by omega) (by rw [← HT1.out]; omega)
              have hap := append_k HPr2.out HRz.out (k := k2) (by rw [← HT1.out]; exact hlt3)
              have hNS : S / 64 = N := by omega
              have CA := hF.out.append_ok hD hE hng hok.1 ((Below.refl wr.heap.size wr).alloc (Nat.le_refl _) _) _ (noughts z) (made_bytes wr z (by omega)) (fun k e => by simp [Value.ownBlock] at e; omega) (by rw [noughts_len]; omega) (by rw [noughts_len]; omega) (by rw [noughts_len, hNS]; exact hap)
              generalize N + k2 / e = kq at CA
              have CA2 := Lib.hid CA
              clear CA hok hap hNS hS hF
              go_wp2_with fail
              refine CA2.out.mono ?_
              rintro en w7 ⟨rfl, hF7⟩
              have HF7 := Lib.hid hF7
              clear hF7 CA2
              go_wp2_with fail
              go_roundw
              case rel => exact ⟨k2 + 1, by go_num, by omega, HF7⟩
              case measure => simp [intOf]; omega
            · have hkT : k2 = T1 := by omega
              subst hkT
              have q3 : decide ((k2 : Int) < (k2 : Int)) = false := decide_eq_false (by omega)
              have hS := HS.out
              have hNS : S / 64 = N := by omega
              have hok := usK_ok HPr2.out (n := S) (k := k2) (by omega) (by rw [← HT1.out]; omega)
              have hfull := append_full HPr2.out HRz.out
              have hall := usK_all HPr2.out
              have hnx := next_full HPr2.out j
              rw [← HT1.out] at hfull hall
              rw [← hall] at hnx
              have hlen : (usK pre N r e k2).length = N := by
                rw [hall, List.length_append, List.length_map, List.length_range]
                rcases HPr2.out.is with ⟨_, h0, _⟩ | ⟨b, h1, h2, h3⟩
                · omega
                · rw [h2, List.length_singleton]; omega
              obtain ⟨N2, hN2⟩ : ∃ N2, N2 = 2 * N := ⟨_, rfl⟩
              obtain ⟨N3, hN3⟩ : ∃ N3, N3 = N2 - 2 := ⟨_, rfl⟩
              have g1 : (2 : Int) * (N : Int) = (N2 : Int) := by omega
              have g2 : (N2 : Int) - 2 = (N3 : Int) := by omega
              have hla : lastU (usK pre N r e k2) = (N3 : Int) := by
                have h1 := hok.1.last.1
                unfold nextU at hnx
                have := HN1.out
                omega
              have CA := hF.out.append_full hD hE hng hok.1 ((Below.refl wr.heap.size wr).alloc (Nat.le_refl _) _) _ (noughts z) (made_bytes wr z (by omega)) (fun k e => by simp [Value.ownBlock] at e; omega) (by rw [noughts_len]; omega) (by rw [noughts_len]; omega) (by rw [noughts_len, hNS]; exact hfull)
              have CA2 := Lib.hid CA
              have HLa := Lib.hid hla
              have HLe2 := Lib.hid hlen
              have b5 : N2 ≤ 8 ∧ N3 ≤ 8 := by omega
              clear CA hok hfull hall hnx hNS hS hF hla hlen hN2 hN3
              go_wp2_with fail
              refine CA2.out.mono ?_
              rintro en w7 ⟨rfl, hF7⟩
              have HF7 := Lib.hid hF7
              have CNum := Lib.hid (num_any a (errAt (a 12)) 13 w7 (hE.below hF7.since) (isErr_at a 12 (by omega)))
              clear hF7 CA2
              go_wp2_with fail
              refine CNum.out.mono ?_
              rintro en w8 ⟨rfl, hb8⟩
              have CLa := (HF7.out.below hD hb8).last hD (by have := HLe2.out; omega)
              rw [HLa.out] at CLa
              have CLa2 := Lib.hid CLa
              clear CLa hb8 CNum
              go_wp2_with fail
              refine CLa2.out.mono ?_
              rintro en w9 ⟨rfl, hF9⟩
              have CS := hF9.segments hD (by have := HLe2.out; omega)
              rw [HLe2.out] at CS
              have CS2 := Lib.hid CS
              clear CS hF9 CLa2
              go_wp2_with fail
              refine CS2.out.mono ?_
              rintro en w10 ⟨A, c, rfl, hF10⟩
              have HB := Lib.hid hF10.since
              clear hF10 CS2
              go_wp2_with fail
              go_ret
              exact ⟨by simp, HB.out⟩
end
end Go.Proofs.YtidbmagpnaingaaDoor
