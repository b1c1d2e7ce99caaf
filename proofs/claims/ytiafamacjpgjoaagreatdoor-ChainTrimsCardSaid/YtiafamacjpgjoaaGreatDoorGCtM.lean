/- A play of the landed side alone, beside a box of twenty-four texts. -/
import Derived.Test.YtiafamacjpgjoaaGreatDoorGCiS
import Derived.Test.YtiafamacjpgjoaaGreatDoorGConv
import Derived.Great.Walk
import Derived.Great.BuildSlice
namespace Go.Proofs.YtiafamacjpgjoaaGreatDoor
open Go Go.RowKit Tide

theorem kmodT (x : Int) (n : Nat) (h0 : 0 < n) (h1 : n ≤ 1000) : ∃ i : Nat, i < n ∧ wrap64 ((IntKind.u64.wrap x).tmod (n : Int)) = (i : Int) := by
  have hx : 0 ≤ IntKind.u64.wrap x := by
    simp [IntKind.wrap, IntKind.signed, IntKind.bits]
    omega
  obtain ⟨y, hy⟩ : ∃ y : Nat, IntKind.u64.wrap x = (y : Int) := ⟨(IntKind.u64.wrap x).toNat, by omega⟩
  refine ⟨y % n, Nat.mod_lt _ h0, ?_⟩
  rw [hy, Int.tmod_eq_emod_of_nonneg (by omega)]
  have h2 : ((y : Int) % (n : Int)) = ((y % n : Nat) : Int) := by push_cast; rfl
  have h3 := Nat.mod_lt y h0
  rw [h2]
  unfold wrap64
  omega
theorem setRow_newT (w : World) (ys : Array Value) (t : TypeId) : (w.alloc (.cells ys t)).setRow w.heap.size ys = w.alloc (.cells ys t) := by
  have h : ((w.alloc (.cells ys t)).heap.modify w.heap.size fun
      | .cells _ elem frozen => .cells ys elem frozen
      | o => o) = (w.alloc (.cells ys t)).heap := by
    refine Array.ext (by simp) fun i h1 h2 => ?_
    rw [Array.getElem_modify]
    split
    · rename_i e
      subst e
      have h3 := heap_alloc_new w (.cells ys t)
      rw [Array.getElem?_eq_getElem h2] at h3
      injection h3 with h3
      rw [h3]
    · rfl
  exact congrArg (fun hp => ({ w.alloc (.cells ys t) with heap := hp } : World)) h
def textsV (ss : Nat → List UInt8) : List Value := (List.range 24).map fun i => .string (text (ss i))
structure TrimS (D : DvP) (w W : World) (K : PlayK) (F H : Nat → Nat → Prop) (us vs : Nat → UnitD) (N b : Nat) (ss : Nat → List UInt8) : Prop where
  play : PlayW D w W K F H us vs allUp N
  row : W.ownsRow K.lo 48 1 (.slice (some ⟨b, 0, none⟩) 24 24) 24 (textsV ss)
  out : ¬ AllM 6 F b ∧ ¬ AllC H b ∧ ¬ K.mine b
section
variable {D : DvP} {x a : Nat → Addr} {w W W' : World} {K : PlayK} {F H : Nat → Nat → Prop} {us vs us' : Nat → UnitD} {up : Nat → Bool} {N M b : Nat} {ss : Nat → List UInt8}
theorem TrimS.below (hD : DvSpec x D) (h : TrimS D w W K F H us vs N b ss) (hb : Below W.heap.size W W') : TrimS D w W' K F H us vs N b ss :=
  ⟨h.play.below hD hb, own_kept1 h.row (Kept.of_below (F := fun _ => False) hb) (fun e => e), h.out⟩
theorem TrimS.landed (h : TrimS D w W K F H us vs N b ss) (hs : UnimStep D w W K.g F 6 128 M us' W') : ∃ F', TrimS D w W' K F' H us' vs M b ss := by
  obtain ⟨F', g1, g2, g3⟩ := hs
  refine ⟨F', ?_, own_kept1 h.row g3 h.out.1, fun ⟨i, hi, e⟩ => ?_, h.out.2⟩
  · refine h.play.keep g3 (fun k e => ⟨fun e2 => (h.play.free k e2).1 e, h.play.above k (.inl e)⟩) g1 (h.play.refs.kept g3 (fun k e e2 => h.play.apart k e2 e)) g2 (fun _ _ e => .inl e) fun k ⟨i, hi, e⟩ e2 => ?_
    rcases g2 i k e with e3 | e3
    · exact h.play.apart k ⟨i, hi, e3⟩ e2
    · have := h.play.refs.lt k e2; omega
  · rcases g2 i b e with e3 | e3
    · exact h.out.1 ⟨i, hi, e3⟩
    · have := (own_ge h.row b rfl).2; omega
theorem TrimS.mono (h : TrimS D w W K F H us vs N b ss) (hM : N ≤ M) : TrimS D w W K F H us vs M b ss := ⟨h.play.mono hM, h.row, h.out⟩
theorem TrimS.new (hD : DvSpec x D) (h : PlayW D w W K F H us vs allUp N) (hb : b = W.heap.size) (ys : Array Value) (hys : ys.toList = textsV fun _ => []) : TrimS D w (W.alloc (.cells ys 48)) K F H us vs N b (fun _ => []) := by
  subst hb
  refine ⟨h.below hD ((Below.refl W.heap.size W).alloc (Nat.le_refl _) _), ⟨rfl, .inr ⟨_, 24, ys, rfl, h.low.2, heap_alloc_new W _, Nat.le_refl _, by simp [maxLen], ?_, ?_⟩⟩, fun e => ?_, fun e => ?_, fun e => ?_⟩
  · rw [← Array.length_toList, hys]; rfl
  · rw [hys]; rfl
  · have := (h.unis.lt _ e).2; omega
  · have := h.refs.lt _ e; omega
  · have := (h.free _ e).2.2; omega
theorem TrimS.cell (h : TrimS D w W K F H us vs N b ss) {i : Nat} (hi : i < 24) : W.cell? ⟨b, i, none⟩ = some (.string (text (ss i))) ∧ W.frozen? ⟨b, i, none⟩ = false := by
  rcases h.row.2 with ⟨e, _⟩ | ⟨g, cap, cur, e, _, hg, _, _, hl, ht⟩
  · cases e
  · injection e with e _ _
    injection e with e
    injection e with e _
    subst e
    have h1 : ((cur.toList.take (24 * 1))[i]?) = some (.string (text (ss i))) := by rw [ht]; simp [textsV, hi]
    rw [List.getElem?_take_of_lt (by omega)] at h1
    have h2 : cur[i]? = some (.string (text (ss i))) := by simpa using h1
    exact ⟨(cell_of_row _ _ i _ _ _ hg).trans h2, frozen_of_row _ _ i _ _ hg⟩
theorem TrimS.set (hD : DvSpec x D) (h : TrimS D w W K F H us vs N b ss) (i : Nat) (t : List UInt8) : TrimS D w (W.setCell ⟨b, i, none⟩ (.string (text t))) K F H us vs N b (fun j => if j = i then t else ss j) := by
  have hk : Kept (fun k => k = b) W (W.setCell ⟨b, i, none⟩ (.string (text t))) := (Kept.refl (fun k => k = b) W).setCell (p := ⟨b, i, none⟩) (.inl rfl) _
  have hlo := (own_ge h.row b rfl).1
  have hr := own_set h.row i (.string (text t))
  have hset : (textsV ss).set i (.string (text t)) = textsV (fun j => if j = i then t else ss j) := by
    refine List.ext_getElem (by simp [textsV]) fun j h1 h2 => ?_
    rw [List.getElem_set]
    simp only [textsV, List.getElem_map, List.getElem_range]
    by_cases e : i = j
    · subst e; rw [if_pos rfl, if_pos rfl]
    · rw [if_neg e, if_neg (fun h : j = i => e h.symm)]
  rw [hset] at hr
  refine ⟨h.play.keep hk (fun k e => by subst e; exact ⟨h.out.2.2, hlo⟩) (h.play.unis.kept hD hk (fun k e => by subst e; exact ⟨h.out.1, Nat.le_trans h.play.low.1 hlo⟩)) (h.play.refs.kept hk (fun k e e2 => by subst e2; exact h.out.2.1 e)) (fun _ _ e => .inl e) (fun _ _ e => .inl e) h.play.apart, hr, h.out⟩
theorem PlayB.tWrite (hD : DvSpec (three a) D) (hE : Errs w a) {y : ActC} (h : PlayB D w W K F H us vs allUp N b y) (hN : N + 3 ≤ 90000) {v vu : Value} {cs : List (List Int)} (hu : K.vu = vu) (hv : K.vp = v) (hc : K.cs = cs) (ep q : Int) (vb : Value) (l : List UInt8) (hvb : Bytes W W.heap.size vb l) (hap : ∀ j, vb.ownBlock = some j → ¬ AllM 6 F j ∧ j < W.heap.size) :
    Calls Tryz.prog 11 #[vu, planV ep v, .int .i64 q, vb] W fun e w' => ∃ x F', e = .returned x ∧ PlayB D w w' K F' H (writeC allUp ep cs q l us).1 vs allUp (N + 3) b y := by
  subst hu hv hc
  refine (cwrite_any hD hE h.play.ucall hN ep q vb l hvb hap).mono ?_
  rintro e w' ⟨x, rfl, _, hs⟩
  obtain ⟨F', h'⟩ := h.landed hs
  exact ⟨x, F', rfl, h'⟩
theorem TrimS.tRead (hD : DvSpec (three a) D) (hE : Errs w a) (h : TrimS D w W K F H us vs N b ss) (hN : N + 3 ≤ 90000) {v vu : Value} {cs : List (List Int)} (hu : K.vu = vu) (hv : K.vp = v) (hc : K.cs = cs) (ep q : Int) (r : (Nat → UnitD) × List UInt8 × Nat) (hr : readC14 allUp ep cs q us = r) :
    Calls Tryz.prog 12 #[vu, planV ep v, .int .i64 q] W fun e w' => ∃ vb y F', e = .returned (.tuple #[vb, y]) ∧ Bytes w' w'.heap.size vb r.2.1 ∧ IsErr a y r.2.2 ∧ TrimS D w w' K F' H r.1 vs (N + 3) b ss := by
  subst hu hv hc hr
  refine (cread_any hD hE h.play.ucall hN ep q).mono ?_
  rintro e w' ⟨vb, y, rfl, hb, _, hy, hs⟩
  obtain ⟨F', h'⟩ := h.landed hs
  exact ⟨vb, y, F', rfl, hb, hy, h'⟩
theorem TrimS.tTrim (hD : DvSpec (three a) D) (hE : Errs w a) (h : TrimS D w W K F H us vs N b ss) (hN : N + 10 ≤ 90000) {v vu : Value} {cs : List (List Int)} (hu : K.vu = vu) (hv : K.vp = v) (hc : K.cs = cs) (ep q : Int) (r : (Nat → UnitD) × Nat) (hr : trimC14 allUp ep cs q us = r) :
    Calls Tryz.prog 13 #[vu, planV ep v, .int .i64 q] W fun e w' => ∃ y F', e = .returned y ∧ IsErr a y r.2 ∧ TrimS D w w' K F' H r.1 vs (N + 10) b ss := by
  subst hu hv hc hr
  refine (ctrim_any hD hE h.play.ucall hN ep q).mono ?_
  rintro e w' ⟨y, rfl, hy, hs⟩
  obtain ⟨F', h'⟩ := h.landed hs
  exact ⟨y, F', rfl, hy, h'⟩
end
end Go.Proofs.YtiafamacjpgjoaaGreatDoor
