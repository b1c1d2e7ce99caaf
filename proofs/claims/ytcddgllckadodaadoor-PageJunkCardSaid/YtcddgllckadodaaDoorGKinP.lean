/- Package entry's plain: operations with those fields alone that their kinds have. -/
import Derived.Test.YtcddgllckadodaaDoorGKinS
import Derived.Test.YtcddgllckadodaaDoorGKeep
import Derived.Test.YtcddgllckadodaaDoorGErr
import Derived.Deep.AppendLies
import Derived.Handy
namespace Go.Proofs.YtcddgllckadodaaDoor
open Go.RowKit Tide Utf

theorem infoOp : (Tryd.prog.info? 40).map (fun i => (i.zero, i.size, i.bytes)) = some (some (.agg #[.int .i64 0, .string ⟨#[]⟩, .string ⟨#[]⟩, .string ⟨#[]⟩, .int .i64 0]), 5, 64) := by kernel_rfl
theorem opV_len (o : OpD) : (opV o).length = 5 := rfl
theorem opvs_len (g : List OpD) : (g.flatMap opV).length = g.length * 5 := by
  induction g with
  | nil => rfl
  | cons o g ih => rw [List.flatMap_cons, List.length_append, ih, opV_len, List.length_cons]; omega
theorem opvs_at : ∀ (g : List OpD) (i j : Nat) (h : i < g.length), j < 5 → (g.flatMap opV)[i * 5 + j]? = (opV g[i])[j]?
  | [], _, _, h, _ => by simp at h
  | o :: g, 0, j, _, hj => by
    rw [List.flatMap_cons, List.getElem?_append_left (by rw [opV_len]; omega)]
    simp
  | o :: g, i + 1, j, h, hj => by
    rw [List.flatMap_cons, List.getElem?_append_right (by rw [opV_len]; omega), opV_len, show (i + 1) * 5 + j - 5 = i * 5 + j by omega]
    exact opvs_at g i j (by simpa using h) hj
theorem opV_one (o : OpD) : ∀ u ∈ opV o, u.oneCell' = true := by
  intro u hu
  simp only [opV, List.mem_cons, List.not_mem_nil, or_false] at hu
  rcases hu with rfl | rfl | rfl | rfl | rfl <;> rfl
theorem news_new {w : World} {n : Nat} {t : TypeId} {cs : List Value} (hn : n = w.heap.size) : ∀ j u, cs[j]? = some u → (w.alloc (.cells cs.toArray t)).cell? ((⟨n, 0, none⟩ : Addr).add j) = some u := by
  subst hn
  intro j u hu
  exact World.news_of_block (heap_alloc_new w _) j u (by simpa using hu)
theorem recs_ops {w : World} {base B : Nat} {e : TypeId} {v : Value} {g : List OpD} (h : w.ownsRow base e 5 v g.length (g.flatMap opV)) (hB : w.heap.size ≤ B) (hl : g.length ≤ 9223372036854775807) : Recs w B v 5 (g.map opV) := by
  refine ⟨by rw [List.length_map]; exact hl, ?_⟩
  rw [List.length_map]
  rcases Nat.eq_zero_or_pos g.length with h0 | h0
  · have hg : g = [] := List.eq_nil_of_length_eq_zero h0
    subst hg
    rcases h.2 with ⟨rfl, _⟩ | ⟨b, cap, cur, rfl, _⟩
    · exact ⟨none, 0, rfl, fun h => absurd rfl h⟩
    · exact ⟨_, _, rfl, fun h => absurd rfl h⟩
  · obtain ⟨b, cap, hv, _, hlt⟩ := h.form h0
    subst hv
    refine ⟨_, _, rfl, fun _ => ⟨b, 0, rfl, Nat.lt_of_lt_of_le hlt hB, fun i j e u he hu => ?_⟩⟩
    have hi : i < g.length := by
      have := (List.getElem?_eq_some_iff.1 he).1
      rwa [List.length_map] at this
    rw [List.getElem?_map, List.getElem?_eq_getElem hi, Option.map_some] at he
    injection he with he
    subst he
    have hj : j < 5 := by
      have := (List.getElem?_eq_some_iff.1 hu).1
      rwa [opV_len] at this
    have hc := h.cells (g := b) rfl (i * 5 + j) u (by rw [opvs_at g i j hi hj]; exact hu)
    have ea : (⟨b, 0, none⟩ : Addr).add (i * 5 + j) = ⟨b, 0 + (i * 5 + j), none⟩ := add_none b 0 (i * 5 + j)
    rwa [ea] at hc

set_option maxRecDepth 100000 in
set_option maxHeartbeats 2000000 in
theorem plain_any (ops : List OpD) (vo : Value) (B : Nat) (w : World) (hr : Recs w B vo 5 (ops.map opV)) (hB : B ≤ w.heap.size) (hlen : ops.length ≤ 1000) :
    Calls Tryd.prog 41 #[vo] w fun e w' => ∃ u, e = .returned u ∧ Recs w' w'.heap.size u 5 ((ops.map plainO).map opV) ∧ Below w.heap.size w w' := by
  obtain ⟨i0, hinf, hz0, hz1, hz2⟩ := info_parts infoOp
  have HIn := Lib.hid hinf
  obtain ⟨A, c, rfl, _, hcell⟩ := ops_form hr
  have HC := Lib.hid hcell
  clear hr hcell hinf
  go_enter Tryd.func41, Tryd.ntmps41
  go_wp2_with fail
  go_loopw [3, 12] (fun u i wr => ∃ k : Nat, i = .int .i64 k ∧ k ≤ ops.length ∧ Hid (wr.ownsRow w.heap.size 40 5 u k (((ops.take k).map plainO).flatMap opV)) ∧ Below w.heap.size w wr) (fun _ i _ => ops.length - (intOf i).toNat)
  case atStart => exact ⟨0, rfl, Nat.zero_le _, Lib.hid ⟨rfl, .inl ⟨rfl, rfl⟩⟩, Below.refl _ _⟩
  case round =>
    obtain ⟨k, rfl, hk, HO, hb⟩ := hrel
    have HL := Lib.hid hb
    have hsz := hb.size
    clear hb
    by_cases hlt : k < ops.length
    · obtain ⟨b, o, rfl, hbl, d0, d1, d2, d3, d4⟩ := HC.out k hlt
      have hbw : b < w.heap.size := Nat.lt_of_lt_of_le hbl hB
      have f0 := (HL.out.cell (p := ⟨b, o + k * 5, none⟩) hbw).trans d0
      have f1 := (HL.out.cell (p := ⟨b, o + k * 5 + 1, none⟩) hbw).trans d1
      have f2 := (HL.out.cell (p := ⟨b, o + k * 5 + 2, none⟩) hbw).trans d2
      have f3 := (HL.out.cell (p := ⟨b, o + k * 5 + 3, none⟩) hbw).trans d3
      have f4 := (HL.out.cell (p := ⟨b, o + k * 5 + 4, none⟩) hbw).trans d4
      have HSN := Lib.hid (show (((ops.take k).map plainO).flatMap opV) ++ opV (plainO ops[k]) = (((ops.take (k + 1)).map plainO).flatMap opV) by rw [List.take_succ_eq_append_getElem hlt, List.map_append, List.flatMap_append]; simp)
      clear d0 d1 d2 d3 d4
      generalize ops[k] = op at *
      have hgl : ((ops.take k).map plainO).length = k := by simp; omega
      generalize (ops.take k).map plainO = g at *
      have HGL := Lib.hid hgl
      clear hgl
      obtain ⟨okind, okey, oval, oold, over⟩ := op
      simp only at f0 f1 f2 f3 f4
      by_cases k1 : okind = 1
      · subst k1
        have FA := Lib.hid (show ∀ w, Calls Tryd.prog 40 #[.int .i64 1] w fun e w' => e = .returned (.tuple #[.bool false, .bool true, .bool false]) ∧ w = w' from fun w => fields_any 1 w)
        have HV := Lib.hid (show opV (plainO ⟨1, okey, oval, oold, over⟩) = [.int .i64 1, .string okey, .string oval, .string ⟨#[]⟩, .int .i64 0] from rfl)
        go_wp2_with fail
        refine (FA.out _).mono ?_
        rintro en w1 ⟨rfl, rfl⟩
        go_wp2_with (at_builtin; refine wpList_append_lies _ rfl (.tmp 40) (.tmp 42) _ rfl w.heap.size 40 i0 _ 5 64 Tryd.underlying23 HIn.out hz0 hz1 hz2 rfl (by omega) _ k (g.flatMap opV) rfl ?d0 _ 1 _ [.int .i64 1, .string okey, .string oval, .string ⟨#[]⟩, .int .i64 0] rfl rfl ?d2 ?d3 (by omega) ?d4 ?d5 ?d6 _ rfl ?_)
        case d0 => exact own_below HO.out (by go_grown)
        case d2 => exact news_new (by simp)
        case d3 => rw [← HV.out]; exact opV_one _
        case d4 => unfold maxLen; omega
        case d5 => omega
        case d6 => simp; omega
        intro gg cap w9 h1 h2 h3 h4
        have hb9 : Below w.heap.size w w9 := by
          refine Below.grown ?_ h2 ?_ (fun q hq => (HO.out.lt q hq).1)
          · have hbw := HL.out
            go_grown
          · simp; omega
        rw [← HV.out, HSN.out] at h1
        have H1 := Lib.hid h1
        have HB9 := Lib.hid hb9
        clear h1 h2 h3 h4 hb9
        go_wp2_with fail
        go_roundw
        case rel => exact ⟨k + 1, by go_num, by omega, H1, HB9.out⟩
        case measure => simp [intOf]; omega
      by_cases k3 : okind = 3
      · subst k3
        have FA := Lib.hid (show ∀ w, Calls Tryd.prog 40 #[.int .i64 3] w fun e w' => e = .returned (.tuple #[.bool true, .bool true, .bool false]) ∧ w = w' from fun w => fields_any 3 w)
        have HV := Lib.hid (show opV (plainO ⟨3, okey, oval, oold, over⟩) = [.int .i64 3, .string okey, .string oval, .string oold, .int .i64 0] from rfl)
        go_wp2_with fail
        refine (FA.out _).mono ?_
        rintro en w1 ⟨rfl, rfl⟩
        go_wp2_with (at_builtin; refine wpList_append_lies _ rfl (.tmp 40) (.tmp 42) _ rfl w.heap.size 40 i0 _ 5 64 Tryd.underlying23 HIn.out hz0 hz1 hz2 rfl (by omega) _ k (g.flatMap opV) rfl ?d0 _ 1 _ [.int .i64 3, .string okey, .string oval, .string oold, .int .i64 0] rfl rfl ?d2 ?d3 (by omega) ?d4 ?d5 ?d6 _ rfl ?_)
        case d0 => exact own_below HO.out (by go_grown)
        case d2 => exact news_new (by simp)
        case d3 => rw [← HV.out]; exact opV_one _
        case d4 => unfold maxLen; omega
        case d5 => omega
        case d6 => simp; omega
        intro gg cap w9 h1 h2 h3 h4
        have hb9 : Below w.heap.size w w9 := by
          refine Below.grown ?_ h2 ?_ (fun q hq => (HO.out.lt q hq).1)
          · have hbw := HL.out
            go_grown
          · simp; omega
        rw [← HV.out, HSN.out] at h1
        have H1 := Lib.hid h1
        have HB9 := Lib.hid hb9
        clear h1 h2 h3 h4 hb9
        go_wp2_with fail
        go_roundw
        case rel => exact ⟨k + 1, by go_num, by omega, H1, HB9.out⟩
        case measure => simp [intOf]; omega
      by_cases k4 : okind = 4
      · subst k4
        have FA := Lib.hid (show ∀ w, Calls Tryd.prog 40 #[.int .i64 4] w fun e w' => e = .returned (.tuple #[.bool false, .bool false, .bool true]) ∧ w = w' from fun w => fields_any 4 w)
        have HV := Lib.hid (show opV (plainO ⟨4, okey, oval, oold, over⟩) = [.int .i64 4, .string okey, .string ⟨#[]⟩, .string ⟨#[]⟩, .int .i64 over] from rfl)
        go_wp2_with fail
        refine (FA.out _).mono ?_
        rintro en w1 ⟨rfl, rfl⟩
        go_wp2_with (at_builtin; refine wpList_append_lies _ rfl (.tmp 40) (.tmp 42) _ rfl w.heap.size 40 i0 _ 5 64 Tryd.underlying23 HIn.out hz0 hz1 hz2 rfl (by omega) _ k (g.flatMap opV) rfl ?d0 _ 1 _ [.int .i64 4, .string okey, .string ⟨#[]⟩, .string ⟨#[]⟩, .int .i64 over] rfl rfl ?d2 ?d3 (by omega) ?d4 ?d5 ?d6 _ rfl ?_)
        case d0 => exact own_below HO.out (by go_grown)
        case d2 => exact news_new (by simp)
        case d3 => rw [← HV.out]; exact opV_one _
        case d4 => unfold maxLen; omega
        case d5 => omega
        case d6 => simp; omega
        intro gg cap w9 h1 h2 h3 h4
        have hb9 : Below w.heap.size w w9 := by
          refine Below.grown ?_ h2 ?_ (fun q hq => (HO.out.lt q hq).1)
          · have hbw := HL.out
            go_grown
          · simp; omega
        rw [← HV.out, HSN.out] at h1
        have H1 := Lib.hid h1
        have HB9 := Lib.hid hb9
        clear h1 h2 h3 h4 hb9
        go_wp2_with fail
        go_roundw
        case rel => exact ⟨k + 1, by go_num, by omega, H1, HB9.out⟩
        case measure => simp [intOf]; omega
      · have FA := Lib.hid (show ∀ w, Calls Tryd.prog 40 #[.int .i64 okind] w fun e w' => e = .returned (.tuple #[.bool false, .bool false, .bool false]) ∧ w = w' from fun w => by
          have h := fields_any okind w
          rw [decide_eq_false k3, decide_eq_false k4, decide_eq_false (by omega)] at h
          exact h)
        have HV := Lib.hid (show opV (plainO ⟨okind, okey, oval, oold, over⟩) = [.int .i64 okind, .string okey, .string ⟨#[]⟩, .string ⟨#[]⟩, .int .i64 0] by unfold opV plainO; simp [k1, k3, k4])
        clear k1 k3 k4
        go_wp2_with fail
        refine (FA.out _).mono ?_
        rintro en w1 ⟨rfl, rfl⟩
        go_wp2_with (at_builtin; refine wpList_append_lies _ rfl (.tmp 40) (.tmp 42) _ rfl w.heap.size 40 i0 _ 5 64 Tryd.underlying23 HIn.out hz0 hz1 hz2 rfl (by omega) _ k (g.flatMap opV) rfl ?d0 _ 1 _ [.int .i64 okind, .string okey, .string ⟨#[]⟩, .string ⟨#[]⟩, .int .i64 0] rfl rfl ?d2 ?d3 (by omega) ?d4 ?d5 ?d6 _ rfl ?_)
        case d0 => exact own_below HO.out (by go_grown)
        case d2 => exact news_new (by simp)
        case d3 => rw [← HV.out]; exact opV_one _
        case d4 => unfold maxLen; omega
        case d5 => omega
        case d6 => simp; omega
        intro gg cap w9 h1 h2 h3 h4
        have hb9 : Below w.heap.size w w9 := by
          refine Below.grown ?_ h2 ?_ (fun q hq => (HO.out.lt q hq).1)
          · have hbw := HL.out
            go_grown
          · simp; omega
        rw [← HV.out, HSN.out] at h1
        have H1 := Lib.hid h1
        have HB9 := Lib.hid hb9
        clear h1 h2 h3 h4 hb9
        go_wp2_with fail
        go_roundw
        case rel => exact ⟨k + 1, by go_num, by omega, H1, HB9.out⟩
        case measure => simp [intOf]; omega
    · have hall := Lib.hid (show Recs wr wr.heap.size _ 5 ((ops.map plainO).map opV) from by
        have h9 := HO.out
        rw [List.take_of_length_le (by omega), show k = (ops.map plainO).length by simp; omega] at h9
        exact recs_ops h9 (Nat.le_refl _) (by simp; omega))
      go_wp2_with fail
      go_ret
      exact ⟨_, rfl, hall.out, HL.out⟩
end Go.Proofs.YtcddgllckadodaaDoor

/- Package entry's wrongOp, over whatever runes.Key answers; slices' ContainsFunc at it. -/
namespace Go.Proofs.YtcddgllckadodaaDoor
open Go.RowKit Tide Utf

/-- What runes.Key answers of texts of at most 300 bytes, where T is what lies: the number of its error (0: none). -/
structure KeySpec (a : Nat → Addr) (T : World → Prop) (K : ByteArray → Nat) : Prop where
  keepT : ∀ W W', T W → Below W.heap.size W W' → T W'
  key : ∀ (W : World) s, s.size ≤ 300 → T W → Errs W a → Calls Tryd.prog 70 #[.string s] W fun en w' => ∃ x, en = .returned x ∧ IsErr a x (K s) ∧ Below W.heap.size W w'
section
variable {a : Nat → Addr} {T : World → Prop} {K : ByteArray → Nat}
theorem KeySpec.ok (hK : KeySpec a T K) {W : World} {s : ByteArray} (hs : s.size ≤ 300) (hT : T W) (hE : Errs W a) (h : K s = 0) : Calls Tryd.prog 70 #[.string s] W fun en w' => en = .returned .nilIface ∧ Below W.heap.size W w' :=
  (hK.key W s hs hT hE).mono fun en w' ⟨x, he, hx, hb⟩ => by
    rcases hx with ⟨_, rfl⟩ | ⟨m, _, h0, _⟩
    · exact ⟨he, hb⟩
    · omega
theorem KeySpec.bad (hK : KeySpec a T K) {W : World} {s : ByteArray} (hs : s.size ≤ 300) (hT : T W) (hE : Errs W a) (h : ¬ K s = 0) : Calls Tryd.prog 70 #[.string s] W fun en w' => (∃ b, en = .returned (errAt b)) ∧ Below W.heap.size W w' :=
  (hK.key W s hs hT hE).mono fun en w' ⟨x, he, hx, hb⟩ => by
    rcases hx with ⟨h0, _⟩ | ⟨m, _, _, rfl⟩
    · exact absurd h0 h
    · exact ⟨⟨_, he⟩, hb⟩
/-- What lies, and stays. -/
structure Lies2 (a : Nat → Addr) (T : World → Prop) (K : ByteArray → Nat) (w : World) : Prop where
  spec : KeySpec a T K
  tabs : T w
  errs : Errs w a
theorem Lies2.below {w w' : World} (h : Lies2 a T K w) (hb : Below w.heap.size w w') : Lies2 a T K w' := ⟨h.spec, h.spec.keepT _ _ h.tabs hb, h.errs.below hb⟩
end
/-- An operation's block, behind a call. -/
theorem op_cells (w : World) (k v : Int) (key val old : ByteArray) : ∀ w3, Below (w.heap.size + 1) (w.alloc (.cells #[.int .i64 k, .string key, .string val, .string old, .int .i64 v] 40)) w3 →
    w3.cell? ⟨w.heap.size, 0, none⟩ = some (.int .i64 k) ∧ w3.cell? ⟨w.heap.size, 1, none⟩ = some (.string key) ∧ w3.cell? ⟨w.heap.size, 2, none⟩ = some (.string val) ∧ w3.cell? ⟨w.heap.size, 3, none⟩ = some (.string old) ∧ w3.cell? ⟨w.heap.size, 4, none⟩ = some (.int .i64 v) := by
  intro w3 hb
  have hc : ∀ j u, (#[Value.int .i64 k, .string key, .string val, .string old, .int .i64 v])[j]? = some u → w3.cell? ⟨w.heap.size, j, none⟩ = some u := fun j u hv => by
    rw [hb.cell (p := ⟨w.heap.size, j, none⟩) (by simp), cell_of_row _ _ j _ _ _ (heap_alloc_new w _), hv]
  exact ⟨hc 0 _ rfl, hc 1 _ rfl, hc 2 _ rfl, hc 3 _ rfl, hc 4 _ rfl⟩

set_option maxRecDepth 100000 in
set_option maxHeartbeats 2000000 in
theorem wrongOp_any (a : Nat → Addr) (T : World → Prop) (K : ByteArray → Nat) (o : OpD) (w : World) (hL : Lies2 a T K w) (hs : o.key.size ≤ 300) :
    Calls Tryd.prog 68 #[.agg #[.int .i64 o.kind, .string o.key, .string o.value, .string o.old, .int .i64 o.version]] w fun e w' => e = .returned (.bool (wrongO K o)) ∧ Below w.heap.size w w' := by
  have HW := Lib.hid (show wrongO K o = (!(decide (1 ≤ o.kind) && decide (o.kind ≤ 4)) || (!decide (K o.key = 0) || (decide ((64 : Int) < (o.old.size : Int)) || (decide ((64 : Int) < (o.value.size : Int)) || !(decide (0 ≤ o.version) && decide (o.version ≤ 4096)))))) from rfl)
  obtain ⟨kind, key, value, old, version⟩ := o
  simp only at HW hs ⊢
  obtain ⟨w1, hw1⟩ : ∃ w1, w1 = w.alloc (.cells #[.int .i64 kind, .string key, .string value, .string old, .int .i64 version] 40) := ⟨_, rfl⟩
  have hb0 : Below w.heap.size w w1 := by rw [hw1]; exact (Below.refl _ _).alloc (Nat.le_refl _) _
  have h1s : w1.heap.size = w.heap.size + 1 := by rw [hw1]; simp
  have HC := Lib.hid (show ∀ w3, Below (w.heap.size + 1) w1 w3 → _ from fun w3 h => op_cells w kind version key value old w3 (hw1 ▸ h))
  have L1 := Lib.hid (hL.below hb0)
  have CKo := Lib.hid (fun (h : K key = 0) => L1.out.spec.ok hs L1.out.tabs L1.out.errs h)
  have CKb := Lib.hid (fun (h : ¬ K key = 0) => L1.out.spec.bad hs L1.out.tabs L1.out.errs h)
  have HB0 := Lib.hid hb0
  have H1S := Lib.hid h1s
  have CW1 := Lib.hid (show ∀ w, Calls Tryd.prog 66 #[.int .i64 kind, .int .i64 1, .int .i64 4] w fun e w' => e = .returned (.bool (decide (1 ≤ kind) && decide (kind ≤ 4))) ∧ w = w' from fun w => within_any kind 1 4 w)
  have CW2 := Lib.hid (show ∀ w, Calls Tryd.prog 66 #[.int .i64 version, .int .i64 0, .int .i64 4096] w fun e w' => e = .returned (.bool (decide (0 ≤ version) && decide (version ≤ 4096))) ∧ w = w' from fun w => within_any version 0 4096 w)
  clear hL hb0 h1s
  generalize (decide (1 ≤ kind) && decide (kind ≤ 4)) = b1 at HW CW1
  generalize (decide (0 ≤ version) && decide (version ≤ 4096)) = b5 at HW CW2
  cases b1 with
  | false =>
    have HR := Lib.hid (show wrongO K ⟨kind, key, value, old, version⟩ = true by rw [HW.out]; simp [])
    clear HW
    go_enter Tryd.func68, Tryd.ntmps68
    go_wp2_with fail
    refine (CW1.out _).mono ?_
    rintro en wz ⟨rfl, rfl⟩
    go_wp2_with fail
    go_ret
    exact ⟨by rw [HR.out] <;> rfl, by rw [hw1] at HB0; exact HB0.out⟩
  | true =>
    by_cases hk : K key = 0
    · by_cases ho : 64 < old.size
      · have q1 : decide ((64 : Int) < (old.size : Int)) = true := decide_eq_true (by omega)
        have HR := Lib.hid (show wrongO K ⟨kind, key, value, old, version⟩ = true by rw [HW.out]; simp [hk, q1])
        clear HW
        go_enter Tryd.func68, Tryd.ntmps68
        go_wp2_with fail
        refine (CW1.out _).mono ?_
        rintro en wz ⟨rfl, rfl⟩
        go_wp2_with fail
        rw [← hw1]
        refine (CKo.out hk).mono ?_
        rintro en w2 ⟨rfl, hb⟩
        have HB2 := Lib.hid hb
        obtain ⟨c0, c1, c2, c3, c4⟩ := HC.out w2 (H1S.out ▸ hb)
        clear hb
        go_wp2_with fail
        go_ret
        exact ⟨by rw [HR.out] <;> rfl, HB0.out.trans (HB2.out.mono (by rw [H1S.out]; omega))⟩
      · have q1 : decide ((64 : Int) < (old.size : Int)) = false := decide_eq_false (by omega)
        by_cases hv : 64 < value.size
        · have q2 : decide ((64 : Int) < (value.size : Int)) = true := decide_eq_true (by omega)
          have HR := Lib.hid (show wrongO K ⟨kind, key, value, old, version⟩ = true by rw [HW.out]; simp [hk, q1, q2])
          clear HW
          go_enter Tryd.func68, Tryd.ntmps68
          go_wp2_with fail
          refine (CW1.out _).mono ?_
          rintro en wz ⟨rfl, rfl⟩
          go_wp2_with fail
          rw [← hw1]
          refine (CKo.out hk).mono ?_
          rintro en w2 ⟨rfl, hb⟩
          have HB2 := Lib.hid hb
          obtain ⟨c0, c1, c2, c3, c4⟩ := HC.out w2 (H1S.out ▸ hb)
          clear hb
          go_wp2_with fail
          go_ret
          exact ⟨by rw [HR.out] <;> rfl, HB0.out.trans (HB2.out.mono (by rw [H1S.out]; omega))⟩
        · have q2 : decide ((64 : Int) < (value.size : Int)) = false := decide_eq_false (by omega)
          cases b5 with
          | false =>
            have HR := Lib.hid (show wrongO K ⟨kind, key, value, old, version⟩ = true by rw [HW.out]; simp [hk, q1, q2])
            clear HW
            go_enter Tryd.func68, Tryd.ntmps68
            go_wp2_with fail
            refine (CW1.out _).mono ?_
            rintro en wz ⟨rfl, rfl⟩
            go_wp2_with fail
            rw [← hw1]
            refine (CKo.out hk).mono ?_
            rintro en w2 ⟨rfl, hb⟩
            have HB2 := Lib.hid hb
            obtain ⟨c0, c1, c2, c3, c4⟩ := HC.out w2 (H1S.out ▸ hb)
            clear hb
            go_wp2_with fail
            refine (CW2.out _).mono ?_
            rintro en wz ⟨rfl, rfl⟩
            go_wp2_with fail
            go_ret
            exact ⟨by rw [HR.out] <;> rfl, HB0.out.trans (HB2.out.mono (by rw [H1S.out]; omega))⟩
          | true =>
            have HR := Lib.hid (show wrongO K ⟨kind, key, value, old, version⟩ = false by rw [HW.out]; simp [hk, q1, q2])
            clear HW
            go_enter Tryd.func68, Tryd.ntmps68
            go_wp2_with fail
            refine (CW1.out _).mono ?_
            rintro en wz ⟨rfl, rfl⟩
            go_wp2_with fail
            rw [← hw1]
            refine (CKo.out hk).mono ?_
            rintro en w2 ⟨rfl, hb⟩
            have HB2 := Lib.hid hb
            obtain ⟨c0, c1, c2, c3, c4⟩ := HC.out w2 (H1S.out ▸ hb)
            clear hb
            go_wp2_with fail
            refine (CW2.out _).mono ?_
            rintro en wz ⟨rfl, rfl⟩
            go_wp2_with fail
            go_ret
            exact ⟨by rw [HR.out] <;> rfl, HB0.out.trans (HB2.out.mono (by rw [H1S.out]; omega))⟩
    · have HR := Lib.hid (show wrongO K ⟨kind, key, value, old, version⟩ = true by rw [HW.out]; simp [hk])
      clear HW
      go_enter Tryd.func68, Tryd.ntmps68
      go_wp2_with fail
      refine (CW1.out _).mono ?_
      rintro en wz ⟨rfl, rfl⟩
      go_wp2_with fail
      rw [← hw1]
      refine (CKb.out hk).mono ?_
      rintro en w2 ⟨⟨bb, rfl⟩, hb⟩
      have HB2 := Lib.hid hb
      clear hb
      go_wp2_with fail
      go_ret
      exact ⟨by rw [HR.out] <;> rfl, HB0.out.trans (HB2.out.mono (by rw [H1S.out]; omega))⟩
end Go.Proofs.YtcddgllckadodaaDoor

/- slices' IndexFunc and ContainsFunc at package entry's wrongOp. -/
namespace Go.Proofs.YtcddgllckadodaaDoor
open Go.RowKit Tide Utf

theorem plains_sizes {l : List OpD} (h : ∀ o ∈ l, o.key.size ≤ 300) (k : Nat) (hk : k < l.length) : l[k].key.size ≤ 300 := h _ (List.getElem_mem hk)
theorem any_snoc (f : OpD → Bool) (l : List OpD) (k : Nat) (hk : k < l.length) (h0 : (l.take k).any f = false) (h1 : f l[k] = false) : (l.take (k + 1)).any f = false := by
  rw [List.take_succ_eq_append_getElem hk, List.any_append, h0]
  simp [h1]
theorem any_hit (f : OpD → Bool) (l : List OpD) (k : Nat) (hk : k < l.length) (h1 : f l[k] = true) : l.any f = true := List.any_eq_true.2 ⟨_, List.getElem_mem hk, h1⟩

set_option maxRecDepth 100000 in
set_option maxHeartbeats 2000000 in
theorem contains_any (a : Nat → Addr) (T : World → Prop) (K : ByteArray → Nat) (ops : List OpD) (vo : Value) (B : Nat) (w : World) (hr : Recs w B vo 5 (ops.map opV)) (hB : B ≤ w.heap.size) (hL : Lies2 a T K w) (hs : ∀ o ∈ ops, o.key.size ≤ 300) :
    Calls Tryd.prog 69 #[vo, .func (.func 68) #[] #[]] w fun e w' => ∃ i : Int, e = .returned (.int .i64 i) ∧ decide (0 ≤ i) = ops.any (wrongO K) ∧ Below w.heap.size w w' := by
  obtain ⟨A, c, rfl, _, hcell⟩ := ops_form hr
  have HC := Lib.hid hcell
  have HLI := Lib.hid hL
  have HS := Lib.hid hs
  clear hr hcell hL hs
  go_enter Tryd.func69, Tryd.ntmps69
  go_wp2_with fail
  go_loopw [8] (fun i wr => ∃ k : Nat, i = .int .i64 k ∧ k ≤ ops.length ∧ Hid ((ops.take k).any (wrongO K) = false) ∧ Below w.heap.size w wr) (fun i _ => ops.length - (intOf i).toNat)
  case atStart => exact ⟨0, rfl, Nat.zero_le _, Lib.hid rfl, Below.refl _ _⟩
  case round =>
    obtain ⟨k, rfl, hk, HA, hb⟩ := hrel
    have HL := Lib.hid hb
    have hsz := hb.size
    have LR := Lib.hid (HLI.out.below hb)
    clear hb
    by_cases hlt : k < ops.length
    · obtain ⟨b, o, rfl, hbl, d0, d1, d2, d3, d4⟩ := HC.out k hlt
      have hbw : b < w.heap.size := Nat.lt_of_lt_of_le hbl hB
      have f0 := (HL.out.cell (p := ⟨b, o + k * 5, none⟩) hbw).trans d0
      have f1 := (HL.out.cell (p := ⟨b, o + k * 5 + 1, none⟩) hbw).trans d1
      have f2 := (HL.out.cell (p := ⟨b, o + k * 5 + 2, none⟩) hbw).trans d2
      have f3 := (HL.out.cell (p := ⟨b, o + k * 5 + 3, none⟩) hbw).trans d3
      have f4 := (HL.out.cell (p := ⟨b, o + k * 5 + 4, none⟩) hbw).trans d4
      clear d0 d1 d2 d3 d4
      have CW := Lib.hid (wrongOp_any a T K ops[k] wr LR.out (plains_sizes HS.out k hlt))
      have HN := Lib.hid (any_snoc (wrongO K) ops k hlt HA.out)
      have HY := Lib.hid (any_hit (wrongO K) ops k hlt)
      generalize ops[k] = op at *
      generalize wrongO K op = bw at *
      cases bw with
      | false =>
        have HN2 := Lib.hid (HN.out rfl)
        clear HN HY HA
        go_wp2_with fail
        refine CW.out.mono ?_
        rintro en w1 ⟨rfl, hb⟩
        have HB1 := Lib.hid (HL.out.trans (hb.mono hsz))
        clear hb
        go_wp2_with fail
        go_roundw
        case rel => exact ⟨k + 1, by go_num, by omega, HN2, HB1.out⟩
        case measure => simp [intOf]; omega
      | true =>
        have HY2 := Lib.hid (HY.out rfl)
        clear HN HY HA
        go_wp2_with fail
        refine CW.out.mono ?_
        rintro en w1 ⟨rfl, hb⟩
        have HB1 := Lib.hid (HL.out.trans (hb.mono hsz))
        clear hb
        go_wp2_with fail
        go_ret
        exact ⟨k, rfl, by rw [HY2.out]; exact decide_eq_true (by omega), HB1.out⟩
    · have hall := Lib.hid (show ops.any (wrongO K) = false by
        have h := HA.out
        rwa [List.take_of_length_le (by omega)] at h)
      clear HA
      go_wp2_with fail
      go_ret
      exact ⟨-1, rfl, by rw [hall.out]; rfl, HL.out⟩
theorem containsF_any (a : Nat → Addr) (T : World → Prop) (K : ByteArray → Nat) (ops : List OpD) (vo : Value) (B : Nat) (w : World) (hr : Recs w B vo 5 (ops.map opV)) (hB : B ≤ w.heap.size) (hL : Lies2 a T K w) (hs : ∀ o ∈ ops, o.key.size ≤ 300) :
    Calls Tryd.prog 67 #[vo, .func (.func 68) #[] #[]] w fun e w' => e = .returned (.bool (ops.any (wrongO K))) ∧ Below w.heap.size w w' := by
  have CI := Lib.hid (contains_any a T K ops vo B w hr hB hL hs)
  clear hr hL hs
  generalize ops.any (wrongO K) = b at *
  go_enter Tryd.func67, Tryd.ntmps67
  go_wp2_with fail
  refine CI.out.mono ?_
  rintro en w1 ⟨i, rfl, hi, hb⟩
  have HB := Lib.hid hb
  have HI := Lib.hid hi
  clear hb hi
  go_wp2_with fail
  go_ret
  exact ⟨by rw [← HI.out] <;> rfl, HB.out⟩
end Go.Proofs.YtcddgllckadodaaDoor

/- Package entry's five kinds: whether what an entry has is right. -/
namespace Go.Proofs.YtcddgllckadodaaDoor
open Go.RowKit Tide Utf

set_option maxRecDepth 100000 in
set_option maxHeartbeats 2000000 in
theorem move_right_any (sh sv : Int) (w : World)  :
    Calls Tryd.prog 78 #[.agg #[.int .i64 sh, .int .i64 sv]] w fun e w' => e = .returned (.bool (withinB sh 1 12 && withinB sv 1 4)) ∧ Below w.heap.size w w' := by
  have HB0 := Lib.hid (show Below w.heap.size w (w.alloc (.cells #[.int .i64 sh, .int .i64 sv] 94)) from (Below.refl _ _).alloc (Nat.le_refl _) _)
  obtain ⟨b1, hb1⟩ : ∃ b, withinB sh 1 12 = b := ⟨_, rfl⟩
  have C1 := Lib.hid (fun w => within_any sh 1 12 w)
  rw [hb1] at C1
  obtain ⟨b2, hb2⟩ : ∃ b, withinB sv 1 4 = b := ⟨_, rfl⟩
  have C2 := Lib.hid (fun w => within_any sv 1 4 w)
  rw [hb2] at C2
  rw [hb1, hb2]
  clear hb1 hb2
  cases b1 with
  | false =>
    go_enter Tryd.func78, Tryd.ntmps78
    go_wp2_with fail
    refine (C1.out _).mono ?_
    rintro en wz ⟨rfl, rfl⟩
    go_wp2_with fail
    go_ret
    exact ⟨rfl, HB0.out⟩
  | true =>
    cases b2 with
    | false =>
      go_enter Tryd.func78, Tryd.ntmps78
      go_wp2_with fail
      refine (C1.out _).mono ?_
      rintro en wz ⟨rfl, rfl⟩
      go_wp2_with fail
      refine (C2.out _).mono ?_
      rintro en wz ⟨rfl, rfl⟩
      go_wp2_with fail
      go_ret
      exact ⟨rfl, HB0.out⟩
    | true =>
      go_enter Tryd.func78, Tryd.ntmps78
      go_wp2_with fail
      refine (C1.out _).mono ?_
      rintro en wz ⟨rfl, rfl⟩
      go_wp2_with fail
      refine (C2.out _).mono ?_
      rintro en wz ⟨rfl, rfl⟩
      go_wp2_with fail
      go_ret
      exact ⟨rfl, HB0.out⟩
set_option maxRecDepth 100000 in
set_option maxHeartbeats 2000000 in
theorem merge_right_any (sh ot : Int) (w : World)  :
    Calls Tryd.prog 90 #[.agg #[.int .i64 sh, .int .i64 ot]] w fun e w' => e = .returned (.bool (apartB sh ot)) ∧ Below w.heap.size w w' := by
  have HB0 := Lib.hid (show Below w.heap.size w (w.alloc (.cells #[.int .i64 sh, .int .i64 ot] 98)) from (Below.refl _ _).alloc (Nat.le_refl _) _)
  have C1 := Lib.hid (fun w => apart_any sh ot w)
  generalize apartB sh ot = b1 at *
  cases b1 with
  | false =>
    go_enter Tryd.func90, Tryd.ntmps90
    go_wp2_with fail
    refine (C1.out _).mono ?_
    rintro en wz ⟨rfl, rfl⟩
    go_wp2_with fail
    go_ret
    exact ⟨rfl, HB0.out⟩
  | true =>
    go_enter Tryd.func90, Tryd.ntmps90
    go_wp2_with fail
    refine (C1.out _).mono ?_
    rintro en wz ⟨rfl, rfl⟩
    go_wp2_with fail
    go_ret
    exact ⟨rfl, HB0.out⟩
set_option maxRecDepth 100000 in
set_option maxHeartbeats 2000000 in
theorem write_right_any (a : Nat → Addr) (T : World → Prop) (K : ByteArray → Nat) (sh cl sq : Int) (ops : List OpD) (vo : Value) (B : Nat) (w : World) (hr : Recs w B vo 5 (ops.map opV)) (hB : B ≤ w.heap.size) (hs : ∀ o ∈ ops, o.key.size ≤ 300) (hL : Lies2 a T K w) :
    Calls Tryd.prog 61 #[.agg #[.int .i64 sh, .int .i64 cl, .int .i64 sq, vo]] w fun e w' => e = .returned (.bool (withinB sh 1 12 && (withinB cl 1 4 && (withinB sq 1 1073741824 && (withinB ops.length 1 8 && !(ops.any (wrongO K))))))) ∧ Below w.heap.size w w' := by
  obtain ⟨A, c, rfl, _, _⟩ := ops_form hr
  have HB0 := Lib.hid (show Below w.heap.size w (w.alloc (.cells #[.int .i64 sh, .int .i64 cl, .int .i64 sq, .slice A ops.length c] 92)) from (Below.refl _ _).alloc (Nat.le_refl _) _)
  have CF := Lib.hid (containsF_any a T K ops _ B _ (hr.below (HB0.out.mono hB)) (Nat.le_trans hB HB0.out.size) (hL.below HB0.out) hs)
  clear hL hr hs
  obtain ⟨b1, hb1⟩ : ∃ b, withinB sh 1 12 = b := ⟨_, rfl⟩
  have C1 := Lib.hid (fun w => within_any sh 1 12 w)
  rw [hb1] at C1
  obtain ⟨b2, hb2⟩ : ∃ b, withinB cl 1 4 = b := ⟨_, rfl⟩
  have C2 := Lib.hid (fun w => within_any cl 1 4 w)
  rw [hb2] at C2
  obtain ⟨b3, hb3⟩ : ∃ b, withinB sq 1 1073741824 = b := ⟨_, rfl⟩
  have C3 := Lib.hid (fun w => within_any sq 1 1073741824 w)
  rw [hb3] at C3
  obtain ⟨b4, hb4⟩ : ∃ b, withinB ops.length 1 8 = b := ⟨_, rfl⟩
  have C4 := Lib.hid (fun w => within_any ops.length 1 8 w)
  rw [hb4] at C4
  rw [hb1, hb2, hb3, hb4]
  clear hb1 hb2 hb3 hb4
  generalize ops.any (wrongO K) = b5 at *
  cases b1 with
  | false =>
    go_enter Tryd.func61, Tryd.ntmps61
    go_wp2_with fail
    refine (C1.out _).mono ?_
    rintro en wz ⟨rfl, rfl⟩
    go_wp2_with fail
    go_ret
    exact ⟨rfl, HB0.out⟩
  | true =>
    cases b2 with
    | false =>
      go_enter Tryd.func61, Tryd.ntmps61
      go_wp2_with fail
      refine (C1.out _).mono ?_
      rintro en wz ⟨rfl, rfl⟩
      go_wp2_with fail
      refine (C2.out _).mono ?_
      rintro en wz ⟨rfl, rfl⟩
      go_wp2_with fail
      go_ret
      exact ⟨rfl, HB0.out⟩
    | true =>
      cases b3 with
      | false =>
        go_enter Tryd.func61, Tryd.ntmps61
        go_wp2_with fail
        refine (C1.out _).mono ?_
        rintro en wz ⟨rfl, rfl⟩
        go_wp2_with fail
        refine (C2.out _).mono ?_
        rintro en wz ⟨rfl, rfl⟩
        go_wp2_with fail
        refine (C3.out _).mono ?_
        rintro en wz ⟨rfl, rfl⟩
        go_wp2_with fail
        go_ret
        exact ⟨rfl, HB0.out⟩
      | true =>
        cases b4 with
        | false =>
          go_enter Tryd.func61, Tryd.ntmps61
          go_wp2_with fail
          refine (C1.out _).mono ?_
          rintro en wz ⟨rfl, rfl⟩
          go_wp2_with fail
          refine (C2.out _).mono ?_
          rintro en wz ⟨rfl, rfl⟩
          go_wp2_with fail
          refine (C3.out _).mono ?_
          rintro en wz ⟨rfl, rfl⟩
          go_wp2_with fail
          refine (C4.out _).mono ?_
          rintro en wz ⟨rfl, rfl⟩
          go_wp2_with fail
          go_ret
          exact ⟨rfl, HB0.out⟩
        | true =>
          cases b5 with
          | false =>
            go_enter Tryd.func61, Tryd.ntmps61
            go_wp2_with fail
            refine (C1.out _).mono ?_
            rintro en wz ⟨rfl, rfl⟩
            go_wp2_with fail
            refine (C2.out _).mono ?_
            rintro en wz ⟨rfl, rfl⟩
            go_wp2_with fail
            refine (C3.out _).mono ?_
            rintro en wz ⟨rfl, rfl⟩
            go_wp2_with fail
            refine (C4.out _).mono ?_
            rintro en wz ⟨rfl, rfl⟩
            go_wp2_with fail
            refine CF.out.mono ?_
            rintro en w2 ⟨rfl, hb⟩
            have HBF := Lib.hid (HB0.out.trans (hb.mono HB0.out.size))
            clear hb
            go_wp2_with fail
            go_ret
            exact ⟨rfl, HBF.out⟩
          | true =>
            go_enter Tryd.func61, Tryd.ntmps61
            go_wp2_with fail
            refine (C1.out _).mono ?_
            rintro en wz ⟨rfl, rfl⟩
            go_wp2_with fail
            refine (C2.out _).mono ?_
            rintro en wz ⟨rfl, rfl⟩
            go_wp2_with fail
            refine (C3.out _).mono ?_
            rintro en wz ⟨rfl, rfl⟩
            go_wp2_with fail
            refine (C4.out _).mono ?_
            rintro en wz ⟨rfl, rfl⟩
            go_wp2_with fail
            refine CF.out.mono ?_
            rintro en w2 ⟨rfl, hb⟩
            have HBF := Lib.hid (HB0.out.trans (hb.mono HB0.out.size))
            clear hb
            go_wp2_with fail
            go_ret
            exact ⟨rfl, HBF.out⟩
set_option maxRecDepth 100000 in
set_option maxHeartbeats 2000000 in
theorem split_right_any (a : Nat → Addr) (T : World → Prop) (K : ByteArray → Nat) (sh ot sv : Int) (key : ByteArray) (w : World) (hs : key.size ≤ 300) (hL : Lies2 a T K w) :
    Calls Tryd.prog 83 #[.agg #[.int .i64 sh, .int .i64 ot, .int .i64 sv, .string key]] w fun e w' => e = .returned (.bool (apartB sh ot && (withinB sv 1 4 && decide (K key = 0)))) ∧ Below w.heap.size w w' := by
  have HB0 := Lib.hid (show Below w.heap.size w (w.alloc (.cells #[.int .i64 sh, .int .i64 ot, .int .i64 sv, .string key] 96)) from (Below.refl _ _).alloc (Nat.le_refl _) _)
  have L1 := Lib.hid (hL.below HB0.out)
  have CKo := Lib.hid (fun (h : K key = 0) => L1.out.spec.ok hs L1.out.tabs L1.out.errs h)
  have CKb := Lib.hid (fun (h : ¬ K key = 0) => L1.out.spec.bad hs L1.out.tabs L1.out.errs h)
  clear hL hs
  have C1 := Lib.hid (fun w => apart_any sh ot w)
  generalize apartB sh ot = b1 at *
  obtain ⟨b2, hb2⟩ : ∃ b, withinB sv 1 4 = b := ⟨_, rfl⟩
  have C2 := Lib.hid (fun w => within_any sv 1 4 w)
  rw [hb2] at C2
  rw [hb2]
  clear hb2
  obtain ⟨b3, hb3⟩ : ∃ b3, decide (K key = 0) = b3 := ⟨_, rfl⟩
  rw [hb3]
  have HB3 := Lib.hid hb3
  clear hb3
  cases b1 with
  | false =>
    go_enter Tryd.func83, Tryd.ntmps83
    go_wp2_with fail
    refine (C1.out _).mono ?_
    rintro en wz ⟨rfl, rfl⟩
    go_wp2_with fail
    go_ret
    exact ⟨rfl, HB0.out⟩
  | true =>
    cases b2 with
    | false =>
      go_enter Tryd.func83, Tryd.ntmps83
      go_wp2_with fail
      refine (C1.out _).mono ?_
      rintro en wz ⟨rfl, rfl⟩
      go_wp2_with fail
      refine (C2.out _).mono ?_
      rintro en wz ⟨rfl, rfl⟩
      go_wp2_with fail
      go_ret
      exact ⟨rfl, HB0.out⟩
    | true =>
      cases b3 with
      | false =>
        go_enter Tryd.func83, Tryd.ntmps83
        go_wp2_with fail
        refine (C1.out _).mono ?_
        rintro en wz ⟨rfl, rfl⟩
        go_wp2_with fail
        refine (C2.out _).mono ?_
        rintro en wz ⟨rfl, rfl⟩
        go_wp2_with fail
        refine (CKb.out (of_decide_eq_false HB3.out)).mono ?_
        rintro en w2 ⟨⟨bb, rfl⟩, hb⟩
        have HBF := Lib.hid (HB0.out.trans (hb.mono HB0.out.size))
        clear hb
        go_wp2_with fail
        go_ret
        exact ⟨rfl, HBF.out⟩
      | true =>
        go_enter Tryd.func83, Tryd.ntmps83
        go_wp2_with fail
        refine (C1.out _).mono ?_
        rintro en wz ⟨rfl, rfl⟩
        go_wp2_with fail
        refine (C2.out _).mono ?_
        rintro en wz ⟨rfl, rfl⟩
        go_wp2_with fail
        refine (CKo.out (of_decide_eq_true HB3.out)).mono ?_
        rintro en w2 ⟨rfl, hb⟩
        have HBF := Lib.hid (HB0.out.trans (hb.mono HB0.out.size))
        clear hb
        go_wp2_with fail
        go_ret
        exact ⟨rfl, HBF.out⟩
set_option maxRecDepth 100000 in
set_option maxHeartbeats 2000000 in
theorem check_right_any (sh up ps pt : Int) (data : ByteArray) (w : World)  :
    Calls Tryd.prog 95 #[.agg #[.int .i64 sh, .int .i64 up, .int .i64 ps, .int .i64 pt, .string data]] w fun e w' => e = .returned (.bool (withinB sh 0 12 && (withinB up 0 4096 && (withinB ps 1 64 && (withinB pt 0 (ps - 1) && decide ((data.size : Int) ≤ 256)))))) ∧ Below w.heap.size w w' := by
  have HB0 := Lib.hid (show Below w.heap.size w (w.alloc (.cells #[.int .i64 sh, .int .i64 up, .int .i64 ps, .int .i64 pt, .string data] 100)) from (Below.refl _ _).alloc (Nat.le_refl _) _)
  obtain ⟨b1, hb1⟩ : ∃ b, withinB sh 0 12 = b := ⟨_, rfl⟩
  have C1 := Lib.hid (fun w => within_any sh 0 12 w)
  rw [hb1] at C1
  obtain ⟨b2, hb2⟩ : ∃ b, withinB up 0 4096 = b := ⟨_, rfl⟩
  have C2 := Lib.hid (fun w => within_any up 0 4096 w)
  rw [hb2] at C2
  have HP := Lib.hid (show withinB ps 1 64 = true → 1 ≤ ps ∧ ps ≤ 64 from fun h => by unfold withinB at h; simp at h; omega)
  obtain ⟨b3, hb3⟩ : ∃ b, withinB ps 1 64 = b := ⟨_, rfl⟩
  have C3 := Lib.hid (fun w => within_any ps 1 64 w)
  rw [hb3] at C3
  rw [hb3] at HP
  obtain ⟨b4, hb4⟩ : ∃ b, withinB pt 0 (ps - 1) = b := ⟨_, rfl⟩
  have C4 := Lib.hid (fun w => within_any pt 0 (ps - 1) w)
  rw [hb4] at C4
  have HD := Lib.hid (show decide ((data.size : Int) ≤ 256) = true → data.size ≤ 256 from fun h => by simp at h; omega)
  have HD2 := Lib.hid (show decide ((data.size : Int) ≤ 256) = false → ¬ data.size ≤ 256 from fun h => by simp at h; omega)
  obtain ⟨b5, hb5⟩ : ∃ b5, decide ((data.size : Int) ≤ 256) = b5 := ⟨_, rfl⟩
  rw [hb5] at HD HD2
  rw [hb1, hb2, hb3, hb4, hb5]
  clear hb1 hb2 hb3 hb4
  cases b1 with
  | false =>
    go_enter Tryd.func95, Tryd.ntmps95
    go_wp2_with fail
    refine (C1.out _).mono ?_
    rintro en wz ⟨rfl, rfl⟩
    go_wp2_with fail
    go_ret
    exact ⟨rfl, HB0.out⟩
  | true =>
    cases b2 with
    | false =>
      go_enter Tryd.func95, Tryd.ntmps95
      go_wp2_with fail
      refine (C1.out _).mono ?_
      rintro en wz ⟨rfl, rfl⟩
      go_wp2_with fail
      refine (C2.out _).mono ?_
      rintro en wz ⟨rfl, rfl⟩
      go_wp2_with fail
      go_ret
      exact ⟨rfl, HB0.out⟩
    | true =>
      cases b3 with
      | false =>
        go_enter Tryd.func95, Tryd.ntmps95
        go_wp2_with fail
        refine (C1.out _).mono ?_
        rintro en wz ⟨rfl, rfl⟩
        go_wp2_with fail
        refine (C2.out _).mono ?_
        rintro en wz ⟨rfl, rfl⟩
        go_wp2_with fail
        refine (C3.out _).mono ?_
        rintro en wz ⟨rfl, rfl⟩
        go_wp2_with fail
        go_ret
        exact ⟨rfl, HB0.out⟩
      | true =>
        obtain ⟨hp1, hp2⟩ := HP.out rfl
        cases b4 with
        | false =>
          go_enter Tryd.func95, Tryd.ntmps95
          go_wp2_with fail
          refine (C1.out _).mono ?_
          rintro en wz ⟨rfl, rfl⟩
          go_wp2_with fail
          refine (C2.out _).mono ?_
          rintro en wz ⟨rfl, rfl⟩
          go_wp2_with fail
          refine (C3.out _).mono ?_
          rintro en wz ⟨rfl, rfl⟩
          go_wp2_with fail
          refine (C4.out _).mono ?_
          rintro en wz ⟨rfl, rfl⟩
          go_wp2_with fail
          go_ret
          exact ⟨rfl, HB0.out⟩
        | true =>
          cases b5 with
          | false =>
            have hd := HD2.out rfl
            go_enter Tryd.func95, Tryd.ntmps95
            go_wp2_with fail
            refine (C1.out _).mono ?_
            rintro en wz ⟨rfl, rfl⟩
            go_wp2_with fail
            refine (C2.out _).mono ?_
            rintro en wz ⟨rfl, rfl⟩
            go_wp2_with fail
            refine (C3.out _).mono ?_
            rintro en wz ⟨rfl, rfl⟩
            go_wp2_with fail
            refine (C4.out _).mono ?_
            rintro en wz ⟨rfl, rfl⟩
            go_wp2_with fail
            go_wp2_with fail
            go_ret
            exact ⟨rfl, HB0.out⟩
          | true =>
            have hd := HD.out rfl
            go_enter Tryd.func95, Tryd.ntmps95
            go_wp2_with fail
            refine (C1.out _).mono ?_
            rintro en wz ⟨rfl, rfl⟩
            go_wp2_with fail
            refine (C2.out _).mono ?_
            rintro en wz ⟨rfl, rfl⟩
            go_wp2_with fail
            refine (C3.out _).mono ?_
            rintro en wz ⟨rfl, rfl⟩
            go_wp2_with fail
            refine (C4.out _).mono ?_
            rintro en wz ⟨rfl, rfl⟩
            go_wp2_with fail
            go_wp2_with fail
            go_ret
            exact ⟨rfl, HB0.out⟩
end Go.Proofs.YtcddgllckadodaaDoor
