/- Package token: Next, Epoch, Newest, back, Copy. -/
import Derived.Test.YtfgpjelnijeoaaaDoorTkJ
import Derived.Test.YtfgpjelnijeoaaaDoorTkK
import Derived.Test.YtfgpjelnijeoaaaDoorNumA
namespace Go.Proofs.YtfgpjelnijeoaaaDoor
open Go Go.RowKit Tide

/-- The five errors that a sequencer names lie where the nineteen would. -/
structure E5 (a : Nat → Addr) (W : World) : Prop where
  range : W.cell? ⟨1, 0, none⟩ = some (errAt (a 0))
  form : W.cell? ⟨2, 0, none⟩ = some (errAt (a 3))
  sealed : W.cell? ⟨8, 0, none⟩ = some (errAt (a 7))
  full : W.cell? ⟨13, 0, none⟩ = some (errAt (a 12))
  epoch : W.cell? ⟨0, 0, none⟩ = some (errAt (a 13))
theorem E5.of_errs {a : Nat → Addr} {W : World} (h : Errs W a) : E5 a W := by
  have h0 := h.var 0 (by omega)
  have h3 := h.var 3 (by omega)
  have h7 := h.var 7 (by omega)
  have h12 := h.var 12 (by omega)
  have h13 := h.var 13 (by omega)
  simp only [evars, List.getD_cons_zero, List.getD_cons_succ] at h0 h3 h7 h12 h13
  exact ⟨h0, h3, h7, h12, h13⟩
theorem E5.below {a : Nat → Addr} {W W' : World} (h : E5 a W) (hb : Below W.heap.size W W') : E5 a W' := by
  have hc : ∀ (b : Nat) (v : Value), W.cell? ⟨b, 0, none⟩ = some v → W'.cell? ⟨b, 0, none⟩ = some v := fun b v hv => (hb.cell (p := ⟨b, 0, none⟩) (World.block_lt_of_cell? _ _ hv)).trans hv
  exact ⟨hc _ _ h.range, hc _ _ h.form, hc _ _ h.sealed, hc _ _ h.full, hc _ _ h.epoch⟩
section
variable {a : Nat → Addr} {w w' : World} {g : Nat} {s : SeqD}

theorem epoch_tok (h : TokIs w g s) : Calls Tryd.prog 28 #[.pointer (some ⟨g, 0, none⟩)] w fun e w' => e = .returned (.int .i64 s.ep) ∧ w' = w := by
  obtain ⟨cs, hb, hc⟩ := h
  have c0 := hb.cell hc.ep
  have hg := hb.lt
  go_enter Tryd.func28, Tryd.ntmps28
  go_wp2_with fail
  go_ret
  exact ⟨rfl, rfl⟩

theorem next_tok (h : TokIs w g s) (hE : E5 a w) (ep : Int) : Calls Tryd.prog 18 #[.pointer (some ⟨g, 0, none⟩), .int .i64 ep] w fun e w' => e = .returned (.tuple #[.int .i64 (if ep = s.ep then (s.nx : Int) else 0), if ep = s.ep then .nilIface else errAt (a 7)]) ∧ Below w.heap.size w w' := by
  obtain ⟨cs, hb, hc⟩ := h
  have c0 := hb.cell hc.ep
  have c1 := hb.cell hc.nx
  have hg := hb.lt
  have ce := hE.sealed
  obtain ⟨sep, nx, all⟩ := s
  by_cases he : ep = sep
  · subst he
    rw [if_pos rfl, if_pos rfl]
    clear hc hb
    go_enter Tryd.func18, Tryd.ntmps18
    go_wp2_with fail
    go_ret2
    exact ⟨rfl, Below.refl _ _⟩
  · have q0 : (ep == sep) = false := by simp [he]
    have q1 : (ep != sep) = true := by simp [he]
    rw [if_neg he, if_neg he]
    clear he hc hb
    go_enter Tryd.func18, Tryd.ntmps18
    go_wp2_with fail
    go_quiet (fail)
    go_wp2_with fail
    go_ret2
    exact ⟨rfl, below_drewN (Below.refl _ _) _⟩

theorem tokInfo : (Tryd.prog.info? 66).map (fun i => (i.zero, i.size)) = some (some (.agg (List.replicate 67 (.int .i64 0)).toArray), 67) := by kernel_rfl
theorem TokC.one {cs : List Value} {s : SeqD} (h : TokC cs s) : ∀ v ∈ cs, v.oneCell' = true := by
  intro v hv
  obtain ⟨i, hi, rfl⟩ := List.getElem_of_mem hv
  have hn := h.n
  have key : ∀ u : Value, (∃ z, u = .int .i64 z) → u.oneCell' = true := fun u ⟨z, h⟩ => by rw [h]; rfl
  apply key
  rcases Nat.lt_or_ge i 2 with h2 | h2
  · rcases (show i = 0 ∨ i = 1 by omega) with rfl | rfl
    · have := h.ep; rw [List.getElem?_eq_getElem hi] at this; injection this with e; exact ⟨_, e⟩
    · have := h.nx; rw [List.getElem?_eq_getElem hi] at this; injection this with e; exact ⟨_, e⟩
  · obtain ⟨z0, z1, z2, z3, h0, h1, h2', h3, h4, _⟩ := h.row ((i - 2) / 5) _ (List.getElem?_eq_getElem (show (i - 2) / 5 < s.all.length by rw [h.na]; omega))
    have hget : ∀ (k : Nat) (z : Int), cs[k]? = some (.int .i64 z) → k = i → ∃ z, cs[i] = .int .i64 z := fun k z hk e => by
      subst e
      rw [List.getElem?_eq_getElem hi] at hk
      injection hk with hk
      exact ⟨z, hk⟩
    rcases (show (i - 2) % 5 = 0 ∨ (i - 2) % 5 = 1 ∨ (i - 2) % 5 = 2 ∨ (i - 2) % 5 = 3 ∨ (i - 2) % 5 = 4 by omega) with e | e | e | e | e
    · exact hget _ _ h0 (by omega)
    · exact hget _ _ h1 (by omega)
    · exact hget _ _ h2' (by omega)
    · exact hget _ _ h3 (by omega)
    · exact hget _ _ h4 (by omega)
theorem setCells_heap (b : Nat) (t : TypeId) : ∀ (vs : List Value) (o : Nat) (w : World) (pre post : List Value), pre.length = o → post.length = vs.length → w.heap[b]? = some (.cells (pre ++ post).toArray t (0, 0)) → (w.setCells b o vs).heap[b]? = some (.cells (pre ++ vs).toArray t (0, 0))
  | [], _, w, pre, post, _, hp, h => by
    have : post = [] := List.eq_nil_of_length_eq_zero hp
    subst this
    exact h
  | v :: r, o, w, pre, post, ho, hp, h => by
    match post, hp with
    | p :: ps, hp =>
      have h1 : (w.setCell ⟨b, o, none⟩ v).heap[b]? = some (.cells ((pre ++ [v]) ++ ps).toArray t (0, 0)) := by
        rw [heap_setCell_same _ _ _ _ _ _ h]
        simp [← ho]
      have := setCells_heap b t r (o + 1) _ (pre ++ [v]) ps (by simp [ho]) (by simpa using hp) h1
      rw [World.setCells]
      simpa using this
theorem setCells_keeps (b : Nat) : ∀ (vs : List Value) (o : Nat) (w : World), Kept (fun k => k = b) w (w.setCells b o vs)
  | [], _, w => Kept.refl _ w
  | v :: r, o, w => (Kept.setCell (F := fun k => k = b) (Kept.refl _ w) (p := ⟨b, o, none⟩) (.inl rfl) v).trans (setCells_keeps b r (o + 1) _) (fun _ h => .inl h)
theorem there_new (w : World) (arr : Array Value) (t : TypeId) (n : Nat) (h : arr.size = n) : (w.alloc (.cells arr t)).there w.heap.size 0 n := fun j hj => by
  have hat := heap_alloc_new w (.cells arr t)
  rw [Nat.zero_add]
  refine ⟨?_, ?_⟩
  · rw [cell_of_row _ _ j _ _ _ hat, Array.getElem?_eq_getElem (by omega)]
    rfl
  · simp only [World.frozen?, hat]
    simp
/-- A block that was made and filled as a whole. -/
theorem TokB.filled (w : World) (arr : Array Value) (cs : List Value) (h : arr.size = cs.length) : TokB ((w.alloc (.cells arr 66)).setCells w.heap.size 0 cs) w.heap.size cs := by
  have hat := heap_alloc_new w (.cells arr 66)
  exact setCells_heap _ _ cs 0 _ [] arr.toList rfl (by simpa using h) (by simpa using hat)
theorem below_filled (w : World) (arr : Array Value) (cs : List Value) (t : TypeId) : Below w.heap.size w ((w.alloc (.cells arr t)).setCells w.heap.size 0 cs) :=
  Tide.Below.kept ((Below.refl _ _).alloc (Nat.le_refl _) _) (setCells_keeps _ _ _ _) (by simp) (fun i h => Nat.le_of_eq h.symm)
set_option maxRecDepth 100000 in
theorem copy_tok (h : TokIs w g s) : Calls Tryd.prog 11 #[.pointer (some ⟨g, 0, none⟩)] w fun e w' => e = .returned (.pointer (some ⟨w.heap.size, 0, none⟩)) ∧ TokIs w' w.heap.size s ∧ Below w.heap.size w w' := by
  obtain ⟨cs, hb, hc⟩ := h
  have hg := hb.lt
  obtain ⟨i0, hi, hz0⟩ := Option.map_eq_some_iff.1 tokInfo
  injection hz0 with hz0 hz1
  have hsz : (Tryd.prog.info? 66).map (·.size) = some cs.length := by rw [hi, hc.n]; simp [hz1]
  have HSz := Lib.hid hsz
  have HSz2 := Lib.hid (show (Tryd.prog.info? 66).map (·.size) = some cs.toArray.size from by rw [hsz]; simp)
  have HN := Lib.hid hc.n
  have HRa := Lib.hid (show w.rangeAt g 0 cs from fun j v hj => by rw [Nat.zero_add]; exact hb.cell hj)
  have HO := Lib.hid (all_oneCell_toArray hc.one)
  have HB := Lib.hid hb
  have HC := Lib.hid hc
  clear hb hc hi hz0 hz1 hsz
  go_enter Tryd.func11, Tryd.ntmps11
  go_wp2_with (first
    | (refine wpList_load_mid rfl 66 (.tmp 5) rfl g 0 rfl cs _ HRa.out Tryd.underlying66 rfl HSz.out ?_)
    | (refine wpList_store_mid rfl 66 (.tmp 3) (.tmp 6) rfl w.heap.size 0 cs.toArray rfl rfl (there_new w _ _ _ (by have := HN.out; simp [this])) HSz2.out HO.out ?_))
  go_ret
  exact ⟨rfl, ⟨cs, TokB.filled w _ cs (by have := HN.out; simp [this]), HC.out⟩, below_filled w _ cs _⟩

theorem newest_tok (h : TokIs w g s) (hE : E5 a w) (ep x : Int) : Calls Tryd.prog 17 #[.pointer (some ⟨g, 0, none⟩), .int .i64 ep, .int .i64 x] w fun e w' => ∃ v, e = .returned (.tuple #[v, if ep = s.ep then (if 0 ≤ x ∧ x ≤ 12 then .nilIface else errAt (a 0)) else errAt (a 7)]) ∧ Own w' w.heap.size v (if ep = s.ep ∧ 0 ≤ x ∧ x ≤ 12 then (s.all.getD x.toNat []).take 4 else []) ∧ Below w.heap.size w w' := by
  obtain ⟨cs, hb, hc⟩ := h
  have c0 := hb.cell hc.ep
  have hg := hb.lt
  have ce := hE.sealed
  have cr := hE.range
  have O0 := Lib.hid (show ∀ W, Own W w.heap.size (.slice none 0 0) [] from fun W => World.ownsRow_nil _ _ _ 1)
  by_cases he : ep = s.ep
  · by_cases h0 : x < 0
    · rw [if_pos he, if_neg (by omega), if_neg (by omega)]
      have q0 : (ep == s.ep) = true := by simp [he]
      have q1 : (ep != s.ep) = false := by simp [he]
      clear hc hb
      go_enter Tryd.func17, Tryd.ntmps17
      go_wp2_with fail
      go_quiet (fail)
      go_wp2_with fail
      go_ret2
      exact ⟨_, rfl, O0.out _, below_drewN (Below.refl _ _) _⟩
    · by_cases h1 : 12 < x
      · rw [if_pos he, if_neg (by omega), if_neg (by omega)]
        have q0 : (ep == s.ep) = true := by simp [he]
        have q1 : (ep != s.ep) = false := by simp [he]
        clear hc hb
        go_enter Tryd.func17, Tryd.ntmps17
        go_wp2_with fail
        go_quiet (fail)
        go_wp2_with fail
        go_ret2
        exact ⟨_, rfl, O0.out _, below_drewN (Below.refl _ _) _⟩
      · rw [if_pos he, if_pos (by omega), if_pos (by omega)]
        obtain ⟨y, rfl⟩ : ∃ y : Nat, x = (y : Int) := ⟨x.toNat, by omega⟩
        have e : s.all[y]? = some (s.all.getD y []) := by rw [List.getD_eq_getElem?_getD, List.getElem?_eq_getElem (by rw [hc.na]; omega)]; rfl
        rw [Int.toNat_natCast]
        have CL := Lib.hid (list_any hb (hc.row y _ e))
        generalize s.all.getD y [] = l at *
        have i1 : (y : Int) < 13 := by omega
        have q0 : (ep == s.ep) = true := by simp [he]
        have q1 : (ep != s.ep) = false := by simp [he]
        clear hc hb e
        go_enter Tryd.func17, Tryd.ntmps17
        go_wp2_with fail
        refine CL.out.mono ?_
        rintro en w1 ⟨v, rfl, ho, hb1⟩
        have O1 := Lib.hid ho
        have B1 := Lib.hid hb1
        clear ho hb1 CL
        go_wp2_with fail
        go_ret2
        exact ⟨_, rfl, O1.out, B1.out⟩
  · have q0 : (ep == s.ep) = false := by simp [he]
    have q1 : (ep != s.ep) = true := by simp [he]
    rw [if_neg he, if_neg (fun h => he h.1)]
    clear he hc hb
    go_enter Tryd.func17, Tryd.ntmps17
    go_wp2_with fail
    go_quiet (fail)
    go_wp2_with fail
    go_ret2
    exact ⟨_, rfl, O0.out _, below_drewN (Below.refl _ _) _⟩

theorem back_tok (h : TokIs w g s) (x : Nat) (hx : x < 13) : Calls Tryd.prog 25 #[.pointer (some ⟨g, 0, none⟩), .int .i64 (x : Int)] w fun e w' => ∃ v, e = .returned (.agg #[.int .i64 (x : Int), v]) ∧ Own w' w.heap.size v ((s.all.getD x []).take 4) ∧ Below w.heap.size w w' := by
  obtain ⟨cs, hb, hc⟩ := h
  have hg := hb.lt
  have e : s.all[x]? = some (s.all.getD x []) := by rw [List.getD_eq_getElem?_getD, List.getElem?_eq_getElem (by rw [hc.na]; exact hx)]; rfl
  have B0 := Lib.hid ((Below.refl w.heap.size w).alloc (Nat.le_refl _) (.cells #[.int .i64 0, .slice none 0 0] 51))
  have CL := Lib.hid (list_any (hb.kept (Kept.of_below (F := fun _ => False) B0.out) (fun h => h)) (hc.row x _ e))
  generalize s.all.getD x [] = l at *
  have i1 : (x : Int) < 13 := by omega
  go_enter Tryd.func25, Tryd.ntmps25
  go_wp2_with fail
  refine CL.out.mono ?_
  rintro en w1 ⟨v, rfl, ho, hb1⟩
  obtain ⟨Av, nv, cv, rfl⟩ := ho.form
  have hw1 : w1.heap[w.heap.size]? = some (.cells #[.int .i64 0, .slice none 0 0] 51) := by
    rw [hb1.block _ (by simp)]; exact heap_alloc_new w _
  have d0 := cell_of_row _ _ 0 _ _ _ hw1
  have d1 := cell_of_row _ _ 1 _ _ _ hw1
  have f0 : w1.frozen? ⟨w.heap.size, 0, none⟩ = false := by simp [World.frozen?, hw1]
  have f1 : w1.frozen? ⟨w.heap.size, 1, none⟩ = false := by simp [World.frozen?, hw1]
  have K1 := Lib.hid (((Kept.refl (fun k => k = w.heap.size) w1).setCell (p := ⟨w.heap.size, 0, none⟩) (.inl rfl) (.int .i64 (x : Int))).setCell (p := ⟨w.heap.size, 1, none⟩) (.inl rfl) (.slice Av nv cv))
  have B2 := Lib.hid (Tide.Below.kept (B0.out.trans (hb1.mono (by simp))) K1.out (Nat.le_trans (by simp) hb1.size) (fun i h => Nat.le_of_eq h.symm))
  have O2 := Lib.hid (K1.out.own (own_later ho (by simp : w.heap.size ≤ _)) (fun k hk e => by
    have := (ho.lt k hk).1
    rw [World.size_alloc] at this
    omega))
  have hg1 : w.heap.size < w1.heap.size := (Array.getElem?_eq_some_iff.1 hw1).1
  have hw2 : ((w1.setCell ⟨w.heap.size, 0, none⟩ (.int .i64 (x : Int))).setCell ⟨w.heap.size, 1, none⟩ (.slice Av nv cv)).heap[w.heap.size]? = some (.cells #[.int .i64 (x : Int), .slice Av nv cv] 51) := by
    have h1 := heap_setCell_same w1 w.heap.size 0 _ _ (.int .i64 (x : Int)) hw1
    rw [heap_setCell_same _ _ _ _ _ _ h1]
    simp
  have e0 := cell_of_row _ _ 0 _ _ _ hw2
  have e1 := cell_of_row _ _ 1 _ _ _ hw2
  have e0 : World.cell? _ ⟨w.heap.size, 0, none⟩ = some (.int .i64 (x : Int)) := e0
  have e1 : World.cell? _ ⟨w.heap.size, 1, none⟩ = some (.slice Av nv cv) := e1
  clear ho hb1 CL hb hc hw1 hw2
  go_wp2_with fail
  exact bodyPost_ret (v := .agg #[.int .i64 (x : Int), .slice Av nv cv]) (by simp [results, Tryd.results25, go_sem, e0, e1]) rfl ⟨_, rfl, O2.out, B2.out⟩
end
end Go.Proofs.YtfgpjelnijeoaaaDoor
