/- Package entry's of: what an entry has, as a value of its kind. -/
import Derived.Test.YtcddgllckadodaaDoorGKinP
import Derived.Test.YtcddgllckadodaaDoorGConv
import Derived.Test.YtcddgllckadodaaDoorGApp
import Derived.Deep.RegionHeld
import Derived.Handy
namespace Go.Proofs.YtcddgllckadodaaDoor
open Go.RowKit Tide Utf

/-- The value h is what the entry e has in its kind. -/
def KindIs (w : World) (B : Nat) (h : Value) (e : EntD) : Prop :=
  (e.kind = 1 ∧ ∃ vo, h = .iface 92 (.agg #[.int .i64 e.shard, .int .i64 e.client, .int .i64 e.seq, vo]) ∧ Recs w B vo 5 ((e.ops.map plainO).map opV)) ∨
  (e.kind = 2 ∧ h = .iface 94 (.agg #[.int .i64 e.shard, .int .i64 e.server])) ∨
  (e.kind = 3 ∧ h = .iface 96 (.agg #[.int .i64 e.shard, .int .i64 e.other, .int .i64 e.server, .string e.key])) ∨
  (e.kind = 4 ∧ h = .iface 98 (.agg #[.int .i64 e.shard, .int .i64 e.other])) ∨
  (e.kind = 5 ∧ h = .iface 100 (.agg #[.int .i64 e.shard, .int .i64 e.upto, .int .i64 e.parts, .int .i64 e.part, .string (text e.data)]))
theorem KindIs.below {w w' : World} {B : Nat} {h : Value} {e : EntD} (hk : KindIs w B h e) (hb : Below B w w') : KindIs w' B h e := by
  rcases hk with ⟨k, vo, hv, hr⟩ | hk
  · exact .inl ⟨k, vo, hv, hr.below hb⟩
  · exact .inr hk
theorem KindIs.more {w : World} {B B' : Nat} {h : Value} {e : EntD} (hk : KindIs w B h e) (hB : B ≤ B') : KindIs w B' h e := by
  rcases hk with ⟨k, vo, hv, hr⟩ | hk
  · exact .inl ⟨k, vo, hv, hr.more hB⟩
  · exact .inr hk

/-- The block of an entry that came in. -/
abbrev entB (w : World) (e : EntD) (vo vd : Value) : World := w.alloc (.cells (entC e vo vd) 25)
theorem entB_cells {w W : World} {e : EntD} {vo vd : Value} (hb : Below (w.heap.size + 1) (entB w e vo vd) W) :
    W.cell? ⟨w.heap.size, 0, none⟩ = some (.int .i64 e.kind) ∧ W.cell? ⟨w.heap.size, 1, none⟩ = some (.int .i64 e.shard) ∧ W.cell? ⟨w.heap.size, 4, none⟩ = some (.int .i64 e.client) ∧ W.cell? ⟨w.heap.size, 5, none⟩ = some (.int .i64 e.seq) ∧ W.cell? ⟨w.heap.size, 6, none⟩ = some vo := by
  have hc : ∀ j v, (entC e vo vd)[j]? = some v → W.cell? ⟨w.heap.size, j, none⟩ = some v := fun j v hv => by
    rw [hb.cell (p := ⟨w.heap.size, j, none⟩) (Nat.lt_succ_self _), cell_of_row _ _ j _ _ _ (heap_alloc_new w _)]
    exact hv
  exact ⟨hc 0 _ rfl, hc 1 _ rfl, hc 4 _ rfl, hc 5 _ rfl, hc 6 _ rfl⟩

/-- What of answers. -/
def OfR (w : World) (e : EntD) (en : Ending) (w' : World) : Prop :=
  ∃ h, en = .returned h ∧ ((1 ≤ e.kind ∧ e.kind ≤ 5 ∧ KindIs w' w'.heap.size h e) ∨ ((e.kind < 1 ∨ 5 < e.kind) ∧ h = .nilIface)) ∧ Below w.heap.size w w'

set_option maxRecDepth 100000 in
set_option maxHeartbeats 2000000 in
theorem of_any (e : EntD) (vo vd : Value) (B : Nat) (w : World) (hi : ListsOf w B e vo vd) (hB : B ≤ w.heap.size) (hlen : e.ops.length ≤ 1000) :
    Calls Tryd.prog 38 #[.agg (entC e vo vd)] w (OfR w e) := by
  obtain ⟨A, c, rfl, hn, _⟩ := ops_form hi.1
  obtain ⟨Ad, cd, rfl, _, _, _⟩ := hi.2.form
  have HD := Lib.hid hi.2
  have KX := Lib.hid (fun W (h : Below (w.heap.size + 1) (entB w e (.slice A e.ops.length c) (.slice Ad e.data.length cd)) W) => entB_cells (w := w) (e := e) h)
  have CP := Lib.hid (show ∀ W, Below w.heap.size w W → Calls Tryd.prog 41 #[.slice A e.ops.length c] W fun en w' => ∃ A2 c2, en = .returned (.slice A2 e.ops.length c2) ∧ Recs w' w'.heap.size (.slice A2 e.ops.length c2) 5 ((e.ops.map plainO).map opV) ∧ Below W.heap.size W w' from fun W h =>
    (plain_any e.ops _ B W (hi.1.below (h.mono hB)) (Nat.le_trans hB h.size) hlen).mono fun en w' ⟨u, he, hu, hb⟩ => by
      obtain ⟨_, A2, c2, hv, _⟩ := id hu
      rw [List.length_map, List.length_map] at hv
      subst hv
      exact ⟨A2, c2, he, hu, hb⟩)
  have HB0 := Lib.hid (show Below w.heap.size w (entB w e (.slice A e.ops.length c) (.slice Ad e.data.length cd)) from (Below.refl _ _).alloc (Nat.le_refl _) _)
  have D0 := Lib.hid ((Below.refl (w.heap.size + 1) (entB w e (.slice A e.ops.length c) (.slice Ad e.data.length cd))).drew)
  have hs0 : (entB w e (.slice A e.ops.length c) (.slice Ad e.data.length cd)).heap.size = w.heap.size + 1 := by simp
  have UP := Lib.hid (show ∀ W, Below (w.heap.size + 1) (entB w e (.slice A e.ops.length c) (.slice Ad e.data.length cd)) W → Below w.heap.size w W from fun W h => HB0.out.trans (h.mono (by omega)))
  have cv := conv_bytes (HD.out.below (HB0.out.mono hB))
  clear hi
  obtain ⟨kind, shard, other, server, client, seq, ops, key, upto, part, parts, data⟩ := e
  unfold entB entC at *
  simp only at *
  by_cases k1 : kind = 1
  · subst k1
    have HF := Lib.hid (show ∀ u W, Recs W W.heap.size u 5 ((ops.map plainO).map opV) → Below w.heap.size w W → OfR w ⟨1, shard, other, server, client, seq, ops, key, upto, part, parts, data⟩ (.returned (.iface 92 (.agg #[.int .i64 shard, .int .i64 client, .int .i64 seq, u]))) W from
      fun u W hu hb => ⟨_, rfl, .inl ⟨Int.le_refl _, (show (1 : Int) ≤ 5 by omega), .inl ⟨rfl, u, rfl, hu⟩⟩, hb⟩)
    clear cv
    go_enter Tryd.func38, Tryd.ntmps38
    go_wp2_with fail
    generalize w.alloc (.cells #[.int .i64 1, .int .i64 shard, .int .i64 other, .int .i64 server, .int .i64 client, .int .i64 seq, .slice A ops.length c, .string key, .int .i64 upto, .int .i64 part, .int .i64 parts, .slice Ad data.length cd] 25) = w1 at *
    go_region_held (fun W => W.cell? ⟨w.heap.size, 1, none⟩ = some (.int .i64 shard) ∧ W.cell? ⟨w.heap.size, 4, none⟩ = some (.int .i64 client) ∧ W.cell? ⟨w.heap.size, 5, none⟩ = some (.int .i64 seq) ∧ W.cell? ⟨w.heap.size, 6, none⟩ = some (Value.slice A ops.length c))
      (first | exact (KX.out _ D0.out).2 | exact (KX.out _ D1.out).2 | assumption)
      (first
        | (go_at_call 41; (with_reducible refine (CP.out _ ?_).mono ?_); exact UP.out _ D0.out; rintro en w6 ⟨A2, c2, rfl, hu, hb⟩; have D1 := Lib.hid (D0.out.trans (hb.mono (by have := D0.out.size; omega))); have HU := Lib.hid hu; clear hb hu))
    all_goals
      go_wp2_with fail
      go_ret
      exact HF.out _ _ HU.out (UP.out _ D1.out)
  clear CP KX D0 UP
  by_cases k2 : kind = 2
  · subst k2
    clear k1
    go_enter Tryd.func38, Tryd.ntmps38
    go_wp2_with fail
    go_ret
    exact ⟨_, rfl, .inl ⟨(show (1 : Int) ≤ 2 by omega), (show (2 : Int) ≤ 5 by omega), .inr (.inl ⟨rfl, rfl⟩)⟩, HB0.out⟩
  by_cases k3 : kind = 3
  · subst k3
    clear k1 k2
    go_enter Tryd.func38, Tryd.ntmps38
    go_wp2_with fail
    go_ret
    exact ⟨_, rfl, .inl ⟨(show (1 : Int) ≤ 3 by omega), (show (3 : Int) ≤ 5 by omega), .inr (.inr (.inl ⟨rfl, rfl⟩))⟩, HB0.out⟩
  by_cases k4 : kind = 4
  · subst k4
    clear k1 k2 k3
    go_enter Tryd.func38, Tryd.ntmps38
    go_wp2_with fail
    go_ret
    exact ⟨_, rfl, .inl ⟨(show (1 : Int) ≤ 4 by omega), (show (4 : Int) ≤ 5 by omega), .inr (.inr (.inr (.inl ⟨rfl, rfl⟩)))⟩, HB0.out⟩
  by_cases k5 : kind = 5
  · subst k5
    clear k1 k2 k3 k4
    go_enter Tryd.func38, Tryd.ntmps38
    go_wp2_with fail
    go_ret
    exact ⟨_, rfl, .inl ⟨(show (1 : Int) ≤ 5 by omega), (show (5 : Int) ≤ 5 by omega), .inr (.inr (.inr (.inr ⟨rfl, rfl⟩)))⟩, HB0.out⟩
  have q1 : (kind == 1) = false := by simp [k1]
  have q2 : (kind == 2) = false := by simp [k2]
  have q3 : (kind == 3) = false := by simp [k3]
  have q4 : (kind == 4) = false := by simp [k4]
  have q5 : (kind == 5) = false := by simp [k5]
  have HO := Lib.hid (show kind < 1 ∨ 5 < kind by omega)
  clear k1 k2 k3 k4 k5
  go_enter Tryd.func38, Tryd.ntmps38
  go_wp2_with fail
  go_ret
  exact ⟨_, rfl, .inr ⟨HO.out, rfl⟩, HB0.out⟩
end Go.Proofs.YtcddgllckadodaaDoor

/- Package entry's rightOf and Right. -/
namespace Go.Proofs.YtcddgllckadodaaDoor
open Go.RowKit Tide Utf

section
variable {a : Nat → Addr} {T : World → Prop} {K : ByteArray → Nat} {w : World} {B : Nat}
theorem text_size (l : List UInt8) : (text l).size = l.length := by
  show (text l).data.size = _
  simp [text]
theorem write_right (e : EntD) (vo : Value) (hk : e.kind = 1) (hr : Recs w B vo 5 ((e.ops.map plainO).map opV)) (hB : B ≤ w.heap.size) (hz : SizeE e) (hL : Lies2 a T K w) :
    Calls Tryd.prog 61 #[.agg #[.int .i64 e.shard, .int .i64 e.client, .int .i64 e.seq, vo]] w fun en w' => en = .returned (.bool (entRK K e)) ∧ Below w.heap.size w w' := by
  have h := write_right_any a T K e.shard e.client e.seq (e.ops.map plainO) vo B w hr hB (fun o ho => by
    obtain ⟨o', ho', rfl⟩ := List.mem_map.1 ho
    exact (hz.1 o' ho').1) hL
  have hb : (withinB e.shard 1 12 && (withinB e.client 1 4 && (withinB e.seq 1 1073741824 && (withinB ((e.ops.map plainO).length : Nat) 1 8 && !((e.ops.map plainO).any (wrongO K)))))) = entRK K e := by
    rw [right_1 hk, plains_wrong, List.length_map, Bool.not_not]
    unfold headW uptoB withinB
    simp only [Bool.and_assoc]
  rw [hb] at h
  exact h
theorem move_right (e : EntD) (hk : e.kind = 2) :
    Calls Tryd.prog 78 #[.agg #[.int .i64 e.shard, .int .i64 e.server]] w fun en w' => en = .returned (.bool (entRK K e)) ∧ Below w.heap.size w w' := by
  have h := move_right_any e.shard e.server w
  rw [right_2 hk]
  exact h
theorem split_right (e : EntD) (hk : e.kind = 3) (hz : SizeE e) (hL : Lies2 a T K w) :
    Calls Tryd.prog 83 #[.agg #[.int .i64 e.shard, .int .i64 e.other, .int .i64 e.server, .string e.key]] w fun en w' => en = .returned (.bool (entRK K e)) ∧ Below w.heap.size w w' := by
  have h := split_right_any a T K e.shard e.other e.server e.key w hz.2.1 hL
  rw [right_3 hk]
  exact h
theorem merge_right (e : EntD) (hk : e.kind = 4) :
    Calls Tryd.prog 90 #[.agg #[.int .i64 e.shard, .int .i64 e.other]] w fun en w' => en = .returned (.bool (entRK K e)) ∧ Below w.heap.size w w' := by
  have h := merge_right_any e.shard e.other w
  rw [right_4 hk]
  exact h
theorem check_right (e : EntD) (hk : e.kind = 5) :
    Calls Tryd.prog 95 #[.agg #[.int .i64 e.shard, .int .i64 e.upto, .int .i64 e.parts, .int .i64 e.part, .string (text e.data)]] w fun en w' => en = .returned (.bool (entRK K e)) ∧ Below w.heap.size w w' := by
  have h := check_right_any e.shard e.upto e.parts e.part (text e.data) w
  have hb : (withinB e.shard 0 12 && (withinB e.upto 0 4096 && (withinB e.parts 1 64 && (withinB e.part 0 (e.parts - 1) && decide (((text e.data).size : Int) ≤ 256))))) = entRK K e := by
    rw [right_5 hk, text_size, show withinB e.part 0 (e.parts - 1) = (decide (0 ≤ e.part) && decide (e.part < e.parts)) by unfold withinB; rw [show decide (e.part ≤ e.parts - 1) = decide (e.part < e.parts) from decide_eq_decide.2 (by omega)]]
    unfold partB uptoB withinB
    simp only [Bool.and_assoc]
  rw [hb] at h
  exact h
end

/-- What rightOf answers. -/
def RightOfR (K : ByteArray → Nat) (w : World) (e : EntD) (en : Ending) (w' : World) : Prop :=
  ∃ h, en = .returned h ∧ ((entRK K e = true ∧ KindIs w' w'.heap.size h e) ∨ (entRK K e = false ∧ h = .nilIface)) ∧ Below w.heap.size w w'

set_option maxRecDepth 100000 in
set_option maxHeartbeats 2000000 in
theorem rightOf_any (a : Nat → Addr) (T : World → Prop) (K : ByteArray → Nat) (e : EntD) (vo vd : Value) (B : Nat) (w : World) (hi : ListsOf w B e vo vd) (hB : B ≤ w.heap.size) (hz : SizeE e) (hL : Lies2 a T K w) :
    Calls Tryd.prog 29 #[.agg (entC e vo vd)] w (RightOfR K w e) := by
  obtain ⟨A, c, rfl, _, _⟩ := ops_form hi.1
  obtain ⟨Ad, cd, rfl, _, _, _⟩ := hi.2.form
  have HB0 := Lib.hid (show Below w.heap.size w (entB w e (.slice A e.ops.length c) (.slice Ad e.data.length cd)) from (Below.refl _ _).alloc (Nat.le_refl _) _)
  have CO := Lib.hid (of_any e _ _ B (entB w e (.slice A e.ops.length c) (.slice Ad e.data.length cd)) (hi.below (HB0.out.mono hB)) (Nat.le_trans hB HB0.out.size) (by have := hz.2.2.2; omega))
  have HZ := Lib.hid hz
  have HLI := Lib.hid hL
  clear hi hz hL
  unfold entC at *
  go_enter Tryd.func29, Tryd.ntmps29
  go_wp2_with fail
  refine CO.out.mono ?_
  rintro en w1 ⟨h, rfl, hk, hb⟩
  have HB1 := Lib.hid (HB0.out.trans (hb.mono HB0.out.size))
  clear hb CO
  rcases hk with ⟨h1, h5, hk⟩ | ⟨hn, rfl⟩
  · rcases hk with ⟨k1, u, rfl, hu⟩ | ⟨k1, rfl⟩ | ⟨k1, rfl⟩ | ⟨k1, rfl⟩ | ⟨k1, rfl⟩
    · obtain ⟨_, A2, c2, hu2, _⟩ := id hu
      rw [List.length_map, List.length_map] at hu2
      subst hu2
      have CR := Lib.hid (write_right (a := a) (T := T) (K := K) e _ k1 hu (Nat.le_refl _) HZ.out (HLI.out.below HB1.out))
      have KI := Lib.hid (show ∀ W, Below w1.heap.size w1 W → KindIs W W.heap.size (.iface 92 (.agg #[.int .i64 e.shard, .int .i64 e.client, .int .i64 e.seq, .slice A2 e.ops.length c2])) e from fun W hb => (KindIs.more (.inl ⟨k1, _, rfl, hu.below hb⟩ : KindIs W w1.heap.size _ e) hb.size))
      clear k1 hu
      cases hR : entRK K e with
      | false =>
        rw [hR] at CR
        go_wp2_with fail
        refine CR.out.mono ?_
        rintro en w2 ⟨rfl, hb⟩
        have HB2 := Lib.hid (HB1.out.trans (hb.mono HB1.out.size))
        clear hb
        go_wp2_with fail
        go_ret
        exact ⟨_, rfl, .inr ⟨hR, rfl⟩, HB2.out⟩
      | true =>
        rw [hR] at CR
        go_wp2_with fail
        refine CR.out.mono ?_
        rintro en w2 ⟨rfl, hb⟩
        have HB2 := Lib.hid (HB1.out.trans (hb.mono HB1.out.size))
        have KI2 := Lib.hid (KI.out _ hb)
        clear hb
        go_wp2_with fail
        go_ret
        exact ⟨_, rfl, .inl ⟨hR, KI2.out⟩, HB2.out⟩
    · have CR := Lib.hid (move_right (K := K) (w := w1) e k1)
      have KI := Lib.hid (show ∀ W, Below w1.heap.size w1 W → KindIs W W.heap.size (.iface 94 (.agg #[.int .i64 e.shard, .int .i64 e.server])) e from fun W hb => .inr (.inl ⟨k1, rfl⟩))
      clear k1
      cases hR : entRK K e with
      | false =>
        rw [hR] at CR
        go_wp2_with fail
        refine CR.out.mono ?_
        rintro en w2 ⟨rfl, hb⟩
        have HB2 := Lib.hid (HB1.out.trans (hb.mono HB1.out.size))
        clear hb
        go_wp2_with fail
        go_ret
        exact ⟨_, rfl, .inr ⟨hR, rfl⟩, HB2.out⟩
      | true =>
        rw [hR] at CR
        go_wp2_with fail
        refine CR.out.mono ?_
        rintro en w2 ⟨rfl, hb⟩
        have HB2 := Lib.hid (HB1.out.trans (hb.mono HB1.out.size))
        have KI2 := Lib.hid (KI.out _ hb)
        clear hb
        go_wp2_with fail
        go_ret
        exact ⟨_, rfl, .inl ⟨hR, KI2.out⟩, HB2.out⟩
    · have CR := Lib.hid (split_right (a := a) (T := T) (K := K) (w := w1) e k1 HZ.out (HLI.out.below HB1.out))
      have KI := Lib.hid (show ∀ W, Below w1.heap.size w1 W → KindIs W W.heap.size (.iface 96 (.agg #[.int .i64 e.shard, .int .i64 e.other, .int .i64 e.server, .string e.key])) e from fun W hb => .inr (.inr (.inl ⟨k1, rfl⟩)))
      clear k1
      cases hR : entRK K e with
      | false =>
        rw [hR] at CR
        go_wp2_with fail
        refine CR.out.mono ?_
        rintro en w2 ⟨rfl, hb⟩
        have HB2 := Lib.hid (HB1.out.trans (hb.mono HB1.out.size))
        clear hb
        go_wp2_with fail
        go_ret
        exact ⟨_, rfl, .inr ⟨hR, rfl⟩, HB2.out⟩
      | true =>
        rw [hR] at CR
        go_wp2_with fail
        refine CR.out.mono ?_
        rintro en w2 ⟨rfl, hb⟩
        have HB2 := Lib.hid (HB1.out.trans (hb.mono HB1.out.size))
        have KI2 := Lib.hid (KI.out _ hb)
        clear hb
        go_wp2_with fail
        go_ret
        exact ⟨_, rfl, .inl ⟨hR, KI2.out⟩, HB2.out⟩
    · have CR := Lib.hid (merge_right (K := K) (w := w1) e k1)
      have KI := Lib.hid (show ∀ W, Below w1.heap.size w1 W → KindIs W W.heap.size (.iface 98 (.agg #[.int .i64 e.shard, .int .i64 e.other])) e from fun W hb => .inr (.inr (.inr (.inl ⟨k1, rfl⟩))))
      clear k1
      cases hR : entRK K e with
      | false =>
        rw [hR] at CR
        go_wp2_with fail
        refine CR.out.mono ?_
        rintro en w2 ⟨rfl, hb⟩
        have HB2 := Lib.hid (HB1.out.trans (hb.mono HB1.out.size))
        clear hb
        go_wp2_with fail
        go_ret
        exact ⟨_, rfl, .inr ⟨hR, rfl⟩, HB2.out⟩
      | true =>
        rw [hR] at CR
        go_wp2_with fail
        refine CR.out.mono ?_
        rintro en w2 ⟨rfl, hb⟩
        have HB2 := Lib.hid (HB1.out.trans (hb.mono HB1.out.size))
        have KI2 := Lib.hid (KI.out _ hb)
        clear hb
        go_wp2_with fail
        go_ret
        exact ⟨_, rfl, .inl ⟨hR, KI2.out⟩, HB2.out⟩
    · have CR := Lib.hid (check_right (K := K) (w := w1) e k1)
      have KI := Lib.hid (show ∀ W, Below w1.heap.size w1 W → KindIs W W.heap.size (.iface 100 (.agg #[.int .i64 e.shard, .int .i64 e.upto, .int .i64 e.parts, .int .i64 e.part, .string (text e.data)])) e from fun W hb => .inr (.inr (.inr (.inr ⟨k1, rfl⟩))))
      clear k1
      cases hR : entRK K e with
      | false =>
        rw [hR] at CR
        go_wp2_with fail
        refine CR.out.mono ?_
        rintro en w2 ⟨rfl, hb⟩
        have HB2 := Lib.hid (HB1.out.trans (hb.mono HB1.out.size))
        clear hb
        go_wp2_with fail
        go_ret
        exact ⟨_, rfl, .inr ⟨hR, rfl⟩, HB2.out⟩
      | true =>
        rw [hR] at CR
        go_wp2_with fail
        refine CR.out.mono ?_
        rintro en w2 ⟨rfl, hb⟩
        have HB2 := Lib.hid (HB1.out.trans (hb.mono HB1.out.size))
        have KI2 := Lib.hid (KI.out _ hb)
        clear hb
        go_wp2_with fail
        go_ret
        exact ⟨_, rfl, .inl ⟨hR, KI2.out⟩, HB2.out⟩
  · have HF := Lib.hid (show entRK K e = false from right_0 (by omega) (by omega) (by omega) (by omega) (by omega))
    clear hn
    go_wp2_with fail
    go_ret
    exact ⟨_, rfl, .inr ⟨HF.out, rfl⟩, HB1.out⟩
end Go.Proofs.YtcddgllckadodaaDoor

/- Package entry's Streams. -/
namespace Go.Proofs.YtcddgllckadodaaDoor
open Go.RowKit Tide Utf

theorem filter_1 : ∀ n : Fin 13, (List.range 13).filter (fun i => decide (i = n.val)) = [n.val] := by decide
theorem filter_2 : ∀ n : Fin 13, n.val ≠ 0 → (List.range 13).filter (fun i => decide (i = 0) || decide (i = n.val)) = [0, n.val] := by decide
theorem filter_3 : ∀ n m : Fin 13, n.val ≠ 0 → m.val ≠ 0 → n.val ≠ m.val → (List.range 13).filter (fun i => decide (i = 0) || (decide (i = n.val) || decide (i = m.val))) = [0, min n.val m.val, max n.val m.val] := by decide
theorem int_eq (i n : Nat) : decide ((i : Int) = (n : Int)) = decide (i = n) := decide_eq_decide.2 (by omega)
/-- A right entry's streams, as numbers. -/
def strZ (e : EntD) : List Int := if e.kind = 1 ∨ e.kind = 5 then [e.shard] else if e.kind = 2 then [0, e.shard] else [0, min e.shard e.other, max e.shard e.other]
theorem streams_Z {K : ByteArray → Nat} {e : EntD} (h : entRK K e = true) : (streamsE e).map Int.ofNat = strZ e := by
  unfold streamsE strZ
  rcases kindsK h with k | k | k | k | k
  · rw [right_1 k] at h
    simp [headW, uptoB] at h
    rw [if_pos (Or.inl k)]
    obtain ⟨n, hn⟩ : ∃ n : Nat, e.shard = (n : Nat) := ⟨e.shard.toNat, by omega⟩
    have hf : inStream e = fun i => decide (i = n) := by
      funext i
      unfold inStream
      rw [k, hn, int_eq]
      simp
    rw [hf, filter_1 ⟨n, by omega⟩, hn]
    rfl
  · rw [right_2 k] at h
    simp [uptoB] at h
    rw [if_neg (by omega), if_pos k]
    obtain ⟨n, hn⟩ : ∃ n : Nat, e.shard = (n : Nat) := ⟨e.shard.toNat, by omega⟩
    have hf : inStream e = fun i => decide (i = 0) || decide (i = n) := by
      funext i
      unfold inStream
      rw [k, hn, int_eq]
      simp
    rw [hf, filter_2 ⟨n, by omega⟩ (by show n ≠ 0; omega), hn]
    rfl
  · rw [right_3 k] at h
    rw [Bool.and_eq_true] at h
    have h := h.1
    simp [twoB, uptoB] at h
    rw [if_neg (by omega), if_neg (by omega)]
    obtain ⟨n, hn⟩ : ∃ n : Nat, e.shard = (n : Nat) := ⟨e.shard.toNat, by omega⟩
    obtain ⟨m, hm⟩ : ∃ m : Nat, e.other = (m : Nat) := ⟨e.other.toNat, by omega⟩
    have hf : inStream e = fun i => decide (i = 0) || (decide (i = n) || decide (i = m)) := by
      funext i
      unfold inStream
      rw [k, hn, hm, int_eq, int_eq]
      simp
    rw [hf, filter_3 ⟨n, by omega⟩ ⟨m, by omega⟩ (by show n ≠ 0; omega) (by show m ≠ 0; omega) (by show n ≠ m; omega), hn, hm]
    simp
    omega
  · rw [right_4 k] at h
    simp [twoB, uptoB] at h
    rw [if_neg (by omega), if_neg (by omega)]
    obtain ⟨n, hn⟩ : ∃ n : Nat, e.shard = (n : Nat) := ⟨e.shard.toNat, by omega⟩
    obtain ⟨m, hm⟩ : ∃ m : Nat, e.other = (m : Nat) := ⟨e.other.toNat, by omega⟩
    have hf : inStream e = fun i => decide (i = 0) || (decide (i = n) || decide (i = m)) := by
      funext i
      unfold inStream
      rw [k, hn, hm, int_eq, int_eq]
      simp
    rw [hf, filter_3 ⟨n, by omega⟩ ⟨m, by omega⟩ (by show n ≠ 0; omega) (by show m ≠ 0; omega) (by show n ≠ m; omega), hn, hm]
    simp
    omega
  · rw [right_5 k] at h
    simp [partB, uptoB] at h
    rw [if_pos (Or.inr k)]
    obtain ⟨n, hn⟩ : ∃ n : Nat, e.shard = (n : Nat) := ⟨e.shard.toNat, by omega⟩
    have hf : inStream e = fun i => decide (i = n) := by
      funext i
      unfold inStream
      rw [k, hn, int_eq]
      simp
    rw [hf, filter_1 ⟨n, by omega⟩, hn]
    rfl

/-- Numbers in a new row. -/
def IntsR (w : World) (zs : List Int) (en : Ending) (w' : World) : Prop := ∃ u, en = .returned u ∧ Row w' w'.heap.size u (int64s zs) ∧ Below w.heap.size w w'
theorem both_any (x y : Int) (w : World) : Calls Tryd.prog 87 #[.int .i64 x, .int .i64 y] w (IntsR w [0, min x y, max x y]) := by
  rcases Int.lt_trichotomy x y with h | h | h
  · rw [show min x y = x by omega, show max x y = y by omega]
    go_enter Tryd.func87, Tryd.ntmps87
    go_wp2_with fail
    go_ret
    exact ⟨_, rfl, (Row.new w 3 #[.int .i64 0, .int .i64 x, .int .i64 y] (0, 0) w.heap.size 3 rfl rfl (by omega)).more (by simp), (Below.refl _ _).alloc (Nat.le_refl _) _⟩
  · subst h
    rw [show min x x = x by omega, show max x x = x by omega]
    go_enter Tryd.func87, Tryd.ntmps87
    go_wp2_with fail
    go_ret
    exact ⟨_, rfl, (Row.new w 3 #[.int .i64 0, .int .i64 x, .int .i64 x] (0, 0) w.heap.size 3 rfl rfl (by omega)).more (by simp), (Below.refl _ _).alloc (Nat.le_refl _) _⟩
  · rw [show min x y = y by omega, show max x y = x by omega]
    go_enter Tryd.func87, Tryd.ntmps87
    go_wp2_with fail
    go_ret
    exact ⟨_, rfl, (Row.new w 3 #[.int .i64 0, .int .i64 y, .int .i64 x] (0, 0) w.heap.size 3 rfl rfl (by omega)).more (by simp), (Below.refl _ _).alloc (Nat.le_refl _) _⟩
theorem write_streams (sh cl sq : Int) (vo : Value) (hvo : ∃ A n c, vo = .slice A n c) (w : World) : Calls Tryd.prog 63 #[.agg #[.int .i64 sh, .int .i64 cl, .int .i64 sq, vo]] w (IntsR w [sh]) := by
  obtain ⟨A, n, c, rfl⟩ := hvo
  go_enter Tryd.func63, Tryd.ntmps63
  go_wp2_with fail
  go_ret
  exact ⟨_, rfl, (Row.new (w.alloc _) 3 #[.int .i64 sh] (0, 0) (w.heap.size + 1) 1 (by simp) rfl (by omega)).more (by simp), ((Below.refl _ _).alloc (Nat.le_refl _) _).alloc (by simp) _⟩
theorem check_streams (sh up ps pt : Int) (s : ByteArray) (w : World) : Calls Tryd.prog 97 #[.agg #[.int .i64 sh, .int .i64 up, .int .i64 ps, .int .i64 pt, .string s]] w (IntsR w [sh]) := by
  go_enter Tryd.func97, Tryd.ntmps97
  go_wp2_with fail
  go_ret
  exact ⟨_, rfl, (Row.new (w.alloc _) 3 #[.int .i64 sh] (0, 0) (w.heap.size + 1) 1 (by simp) rfl (by omega)).more (by simp), ((Below.refl _ _).alloc (Nat.le_refl _) _).alloc (by simp) _⟩
theorem move_streams (sh sv : Int) (w : World) : Calls Tryd.prog 80 #[.agg #[.int .i64 sh, .int .i64 sv]] w (IntsR w [0, sh]) := by
  go_enter Tryd.func80, Tryd.ntmps80
  go_wp2_with fail
  go_ret
  exact ⟨_, rfl, (Row.new (w.alloc _) 3 #[.int .i64 0, .int .i64 sh] (0, 0) (w.heap.size + 1) 2 (by simp) rfl (by omega)).more (by simp), ((Below.refl _ _).alloc (Nat.le_refl _) _).alloc (by simp) _⟩
theorem split_streams (sh ot sv : Int) (key : ByteArray) (w : World) : Calls Tryd.prog 85 #[.agg #[.int .i64 sh, .int .i64 ot, .int .i64 sv, .string key]] w (IntsR w [0, min sh ot, max sh ot]) := by
  have HB0 := Lib.hid (show Below w.heap.size w (w.alloc (.cells #[.int .i64 sh, .int .i64 ot, .int .i64 sv, .string key] 96)) from (Below.refl _ _).alloc (Nat.le_refl _) _)
  have CB := Lib.hid (fun w => both_any sh ot w)
  generalize min sh ot = mi at *
  generalize max sh ot = ma at *
  go_enter Tryd.func85, Tryd.ntmps85
  go_wp2_with fail
  refine (CB.out _).mono ?_
  rintro en w1 ⟨u, rfl, hu, hb⟩
  have HU := Lib.hid hu
  have HB1 := Lib.hid (HB0.out.trans (hb.mono HB0.out.size))
  clear hu hb
  go_wp2_with fail
  go_ret
  exact ⟨_, rfl, HU.out, HB1.out⟩
theorem merge_streams (sh ot : Int) (w : World) : Calls Tryd.prog 92 #[.agg #[.int .i64 sh, .int .i64 ot]] w (IntsR w [0, min sh ot, max sh ot]) := by
  have HB0 := Lib.hid (show Below w.heap.size w (w.alloc (.cells #[.int .i64 sh, .int .i64 ot] 98)) from (Below.refl _ _).alloc (Nat.le_refl _) _)
  have CB := Lib.hid (fun w => both_any sh ot w)
  generalize min sh ot = mi at *
  generalize max sh ot = ma at *
  go_enter Tryd.func92, Tryd.ntmps92
  go_wp2_with fail
  refine (CB.out _).mono ?_
  rintro en w1 ⟨u, rfl, hu, hb⟩
  have HU := Lib.hid hu
  have HB1 := Lib.hid (HB0.out.trans (hb.mono HB0.out.size))
  clear hu hb
  go_wp2_with fail
  go_ret
  exact ⟨_, rfl, HU.out, HB1.out⟩

set_option maxRecDepth 100000 in
set_option maxHeartbeats 2000000 in
theorem streams_any (a : Nat → Addr) (T : World → Prop) (K : ByteArray → Nat) (e : EntD) (vo vd : Value) (B : Nat) (w : World) (hi : ListsOf w B e vo vd) (hB : B ≤ w.heap.size) (hz : SizeE e) (hL : Lies2 a T K w) :
    Calls Tryd.prog 14 #[.agg (entC e vo vd)] w (IntsR w (if entRK K e then strZ e else [])) := by
  obtain ⟨A, c, rfl, _, _⟩ := ops_form hi.1
  obtain ⟨Ad, cd, rfl, _, _, _⟩ := hi.2.form
  have HB0 := Lib.hid (show Below w.heap.size w (entB w e (.slice A e.ops.length c) (.slice Ad e.data.length cd)) from (Below.refl _ _).alloc (Nat.le_refl _) _)
  have CO := Lib.hid (rightOf_any a T K e _ _ B (entB w e (.slice A e.ops.length c) (.slice Ad e.data.length cd)) (hi.below (HB0.out.mono hB)) (Nat.le_trans hB HB0.out.size) hz (hL.below HB0.out))
  clear hi hz hL
  obtain ⟨zz, hzz⟩ : ∃ zz, zz = (if entRK K e then strZ e else []) := ⟨_, rfl⟩
  rw [← hzz]
  have HZZ := Lib.hid hzz
  clear hzz
  unfold entC at *
  go_enter Tryd.func14, Tryd.ntmps14
  go_wp2_with fail
  refine CO.out.mono ?_
  rintro en w1 ⟨h, rfl, hk, hb⟩
  have HB1 := Lib.hid (HB0.out.trans (hb.mono HB0.out.size))
  clear hb CO
  rcases hk with ⟨hR, hk⟩ | ⟨hR, rfl⟩
  · have HR := Lib.hid hR
    clear hR
    rcases hk with ⟨k1, u, rfl, hu⟩ | ⟨k1, rfl⟩ | ⟨k1, rfl⟩ | ⟨k1, rfl⟩ | ⟨k1, rfl⟩
    · obtain ⟨_, A2, c2, hu2, _⟩ := id hu
      rw [List.length_map, List.length_map] at hu2
      subst hu2
      clear hu
      have HZ := Lib.hid (show strZ e = [e.shard] by unfold strZ; rw [if_pos (Or.inl k1)])
      have CS := Lib.hid (write_streams e.shard e.client e.seq (.slice A2 e.ops.length c2) ⟨_, _, _, rfl⟩ w1)
      clear k1
      go_wp2_with fail
      refine CS.out.mono ?_
      rintro en w2 ⟨u2, rfl, hu2, hb⟩
      have HB2 := Lib.hid (HB1.out.trans (hb.mono HB1.out.size))
      have HU2 := Lib.hid hu2
      clear hb hu2
      go_wp2_with fail
      go_ret
      exact ⟨_, rfl, by rw [HZZ.out, HR.out, if_pos rfl, HZ.out]; exact HU2.out, HB2.out⟩
    · have HZ := Lib.hid (show strZ e = [0, e.shard] by unfold strZ; rw [if_neg (by omega), if_pos k1])
      have CS := Lib.hid (move_streams e.shard e.server w1)
      clear k1
      go_wp2_with fail
      refine CS.out.mono ?_
      rintro en w2 ⟨u2, rfl, hu2, hb⟩
      have HB2 := Lib.hid (HB1.out.trans (hb.mono HB1.out.size))
      have HU2 := Lib.hid hu2
      clear hb hu2
      go_wp2_with fail
      go_ret
      exact ⟨_, rfl, by rw [HZZ.out, HR.out, if_pos rfl, HZ.out]; exact HU2.out, HB2.out⟩
    · have HZ := Lib.hid (show strZ e = [0, min e.shard e.other, max e.shard e.other] by unfold strZ; rw [if_neg (by omega), if_neg (by omega)])
      have CS := Lib.hid (split_streams e.shard e.other e.server e.key w1)
      clear k1
      go_wp2_with fail
      refine CS.out.mono ?_
      rintro en w2 ⟨u2, rfl, hu2, hb⟩
      have HB2 := Lib.hid (HB1.out.trans (hb.mono HB1.out.size))
      have HU2 := Lib.hid hu2
      clear hb hu2
      go_wp2_with fail
      go_ret
      exact ⟨_, rfl, by rw [HZZ.out, HR.out, if_pos rfl, HZ.out]; exact HU2.out, HB2.out⟩
    · have HZ := Lib.hid (show strZ e = [0, min e.shard e.other, max e.shard e.other] by unfold strZ; rw [if_neg (by omega), if_neg (by omega)])
      have CS := Lib.hid (merge_streams e.shard e.other w1)
      clear k1
      go_wp2_with fail
      refine CS.out.mono ?_
      rintro en w2 ⟨u2, rfl, hu2, hb⟩
      have HB2 := Lib.hid (HB1.out.trans (hb.mono HB1.out.size))
      have HU2 := Lib.hid hu2
      clear hb hu2
      go_wp2_with fail
      go_ret
      exact ⟨_, rfl, by rw [HZZ.out, HR.out, if_pos rfl, HZ.out]; exact HU2.out, HB2.out⟩
    · have HZ := Lib.hid (show strZ e = [e.shard] by unfold strZ; rw [if_pos (Or.inr k1)])
      have CS := Lib.hid (check_streams e.shard e.upto e.parts e.part (text e.data) w1)
      clear k1
      go_wp2_with fail
      refine CS.out.mono ?_
      rintro en w2 ⟨u2, rfl, hu2, hb⟩
      have HB2 := Lib.hid (HB1.out.trans (hb.mono HB1.out.size))
      have HU2 := Lib.hid hu2
      clear hb hu2
      go_wp2_with fail
      go_ret
      exact ⟨_, rfl, by rw [HZZ.out, HR.out, if_pos rfl, HZ.out]; exact HU2.out, HB2.out⟩
  · have HR := Lib.hid hR
    clear hR
    go_wp2_with fail
    go_ret
    exact ⟨_, rfl, by rw [HZZ.out, HR.out, if_neg (by simp)]; exact ⟨by simp [int64s], none, 0, by simp [int64s], by simp [int64s], by simp, fun h => absurd rfl h⟩, HB1.out⟩
end Go.Proofs.YtcddgllckadodaaDoor
