/- A device, its store and the document's own one, side by side: what a step of the laws does to each. -/
import Derived.Test.YtidbmagpnaingaaDoorGSpS
import Derived.Test.YtidbmagpnaingaaDoorGStD
import Derived.Test.YtidbmagpnaingaaDoorGSfA
namespace Go.Proofs.YtidbmagpnaingaaDoor
open Go.RowKit Go.Shelf Tide

theorem erase_map {α β : Type} (f : α → β) : ∀ (l : List α) (i : Nat), (l.map f).eraseIdx i = (l.eraseIdx i).map f
  | [], _ => rfl
  | _ :: _, 0 => rfl
  | x :: l, i + 1 => by
    have ih := erase_map f l i
    rw [List.map_cons, List.eraseIdx_cons_succ, List.eraseIdx_cons_succ, List.map_cons, ih]
/-- Numbers are at most so great. -/
def NumLe (N : Nat) (m : StoD) : Prop := ∀ g ∈ m.segs, g.number ≤ N
theorem NumLe.last {N : Nat} {m : StoD} (h : NumLe N m) : lastNo m.segs ≤ N := by
  unfold lastNo
  cases hg : m.segs.getLast? with
  | none => simp only; omega
  | some g => have := h g (List.mem_of_getLast? hg); simp only; omega
theorem NumLe.mono {N M : Nat} {m : StoD} (h : NumLe N m) (hNM : N ≤ M) : NumLe M m := fun g hg => Nat.le_trans (h g hg) hNM
theorem pushD_num {N : Nat} {gs : List SegD} {b : List UInt8} (h : ∀ g ∈ gs, g.number ≤ N) : ∀ g ∈ pushD gs b, g.number ≤ N := by
  rcases List.eq_nil_or_concat gs with rfl | ⟨l, x, hc⟩
  · exact h
  · rw [List.concat_eq_append] at hc
    subst hc
    rw [push_snoc]
    intro g hg
    rcases List.mem_append.1 hg with hg | hg
    · exact h g (by simp [hg])
    · simp only [List.mem_singleton] at hg
      subst hg
      exact h x (by simp)
theorem takeD_num {N : Nat} {m t : StoD} (h : NumLe N m) (ht : takeD m = some t) : NumLe (N + 1) t := by
  unfold takeD at ht
  split at ht
  · cases ht
  · injection ht with ht
    subst ht
    intro g hg
    rcases List.mem_append.1 hg with hg | hg
    · exact Nat.le_succ_of_le (h g hg)
    · simp only [List.mem_singleton] at hg
      subst hg
      have := h.last
      simp only
      omega
theorem append_num {N : Nat} {m : StoD} {b : List UInt8} (h : NumLe N m) : NumLe (N + 1) (appendD m b).1 := by
  unfold appendD
  split
  · exact h.mono (Nat.le_succ _)
  · split
    · exact (show NumLe N { m with segs := pushD m.segs b } from pushD_num h).mono (Nat.le_succ _)
    · cases ht : takeD m with
      | none => exact h.mono (Nat.le_succ _)
      | some t => exact pushD_num (takeD_num h ht)
theorem drop_num {N : Nat} {m : StoD} {k : Int} (h : NumLe N m) : NumLe N (dropD m k).1 := by
  unfold dropD
  split
  · exact h
  · split
    · exact h
    · exact fun g hg => h g (List.mem_of_mem_eraseIdx hg)
theorem sum_ge (bs : List (List UInt8)) : bs.length ≤ (bs.map fun b => needD b.length).sum := by
  induction bs with
  | nil => simp
  | cons b bs ih => rw [List.map_cons, List.sum_cons, List.length_cons]; unfold needD; unfold needD at ih; omega
theorem wf_len {m : StoD} (h : m.Wf) : m.segs.length ≤ m.places := by
  have h2 : (m.segs.map SegD.place).Subset (List.range m.places) := fun y hy => by
    obtain ⟨g, hg, rfl⟩ := List.mem_map.1 hy
    exact List.mem_range.2 (h.place g hg)
  have h3 := h.apart.length_le_of_subset h2
  rwa [List.length_map, List.length_range] at h3
theorem small_of {N : Nat} {m : StoD} (h : m.Wf) (hp : m.places ≤ 900) (hN : NumLe N m) (hNl : N ≤ 100000) : Small m where
  places := by omega
  segs := by have := wf_len h; omega
  each := fun g hg => by
    obtain ⟨h1, h2, _⟩ := h.recs g hg
    have := hN g hg
    have := sum_ge g.recs
    exact ⟨h2, by omega, by omega⟩
/-- A device, its store, the document's own one, each apart, made since w, and blocks of others (bx); the device has power and holds what its store does. -/
def PS (D : DvP) (w : World) (bx : Nat → Obj → Prop) (p dev q n : Nat) (m v : StoD) (W : World) : Prop :=
  ∃ Fd Fs G vs d, (∀ b o, bx b o → W.heap[b]? = some o ∧ ¬ (Fd b ∨ Fs b ∨ G b)) ∧ D W Fd dev d ∧ StW W Fs p dev (usOf m) vs ∧ RefIs W G q v ∧ (∀ k, Fd k → ¬ Fs k) ∧ (∀ k, Fd k ∨ Fs k → ¬ G k) ∧ (∀ k, Fd k ∨ Fs k ∨ G k → w.heap.size ≤ k ∧ k < W.heap.size) ∧ Below w.heap.size w W ∧ d.pend = [] ∧ d.stop = none ∧ LiesM n d.img m
section
variable {D : DvP} {a x : Nat → Addr} {w W W' : World} {p dev q n N : Nat} {m v : StoD} {bx bx' : Nat → Obj → Prop}
theorem PS.below (hD : DvSpec x D) (h : PS D w bx p dev q n m v W) (hb : Below W.heap.size W W') : PS D w bx p dev q n m v W' := by
  obtain ⟨Fd, Fs, G, vs, d, h0, h1, h2, h3, h4, h5, h6, h7, h8⟩ := h
  have hz := hb.size
  exact ⟨Fd, Fs, G, vs, d, fun b o h => ⟨(hb.block b (Array.getElem?_eq_some_iff.1 (h0 b o h).1).1).trans (h0 b o h).1, (h0 b o h).2⟩, hD.keep _ _ _ (fun _ => False) _ _ h1 (Kept.of_below hb) (fun _ _ h => h), h2.below hb, h3.below hb, h4, h5, fun k hk => ⟨(h6 k hk).1, Nat.lt_of_lt_of_le (h6 k hk).2 hz⟩, h7.trans (hb.mono h7.size), h8⟩
/-- A block of others more. -/
theorem PS.more (hD : DvSpec x D) (h : PS D w bx p dev q n m v W) (o : Obj) : PS D w (fun b u => bx b u ∨ (b = W.heap.size ∧ u = o)) p dev q n m v (W.alloc o) := by
  have hb := (Below.refl W.heap.size W).alloc (Nat.le_refl _) o
  obtain ⟨Fd, Fs, G, vs, d, h0, h1, h2, h3, h4, h5, h6, h7, h8⟩ := h
  refine ⟨Fd, Fs, G, vs, d, fun b u hu => ?_, hD.keep _ _ _ (fun _ => False) _ _ h1 (Kept.of_below hb) (fun _ _ h => h), h2.below hb, h3.below hb, h4, h5, fun k hk => ⟨(h6 k hk).1, Nat.lt_of_lt_of_le (h6 k hk).2 hb.size⟩, h7.trans (hb.mono h7.size), h8⟩
  rcases hu with hu | ⟨rfl, rfl⟩
  · exact ⟨(hb.block b (Array.getElem?_eq_some_iff.1 (h0 b u hu).1).1).trans (h0 b u hu).1, (h0 b u hu).2⟩
  · exact ⟨heap_alloc_new W _, fun hk => by have := (h6 _ hk).2; omega⟩
theorem PS.fewer (h : PS D w bx p dev q n m v W) (hb : ∀ b o, bx' b o → bx b o) : PS D w bx' p dev q n m v W := by
  obtain ⟨Fd, Fs, G, vs, d, h0, h1⟩ := h
  exact ⟨Fd, Fs, G, vs, d, fun b o h => h0 b o (hb b o h), h1⟩
theorem PS.boxed (h : PS D w bx p dev q n m v W) {b : Nat} {o : Obj} (hb : bx b o) : W.heap[b]? = some o := by
  obtain ⟨Fd, Fs, G, vs, d, h0, h1⟩ := h
  exact (h0 b o hb).1
theorem PS.since (h : PS D w bx p dev q n m v W) : Below w.heap.size w W := by
  obtain ⟨Fd, Fs, G, vs, d, h0, h1, h2, h3, h4, h5, h6, h7, h8⟩ := h
  exact h7
theorem PS.wf (h : PS D w bx p dev q n m v W) : m.Wf ∧ m.places = n / 64 := by
  obtain ⟨Fd, Fs, G, vs, d, h0, h1, h2, h3, h4, h5, h6, h7, h8, h9, h10⟩ := h
  exact ⟨h10.wf, h10.places⟩
/-- Behind a call of the program's that changes device and store. -/
theorem PS.of_rs (hD : DvSpec x D) {Fd Fs G : Nat → Prop} {d' : Dv} {m' : StoD} (h0 : ∀ b o, bx b o → W.heap[b]? = some o ∧ ¬ (Fd b ∨ Fs b ∨ G b)) (h3 : RefIs W G q v) (h5 : ∀ k, Fd k ∨ Fs k → ¬ G k) (h6 : ∀ k, Fd k ∨ Fs k ∨ G k → w.heap.size ≤ k ∧ k < W.heap.size) (h7 : Below w.heap.size w W)
    (h : RS D W Fd Fs p dev (usOf m') d' W') (hp : d'.pend = []) (hs : d'.stop = none) (hL : LiesM n d'.img m') : PS D w bx p dev q n m' v W' := by
  obtain ⟨F', G', vs', g1, g2, g3, g4, g5, g6⟩ := h
  have hz := h7.size
  have hzz := g6.size
  have hlt1 := hD.lt _ _ _ _ g1
  have hlt2 := g2.lt
  have hbx : ∀ b o, bx b o → W'.heap[b]? = some o ∧ ¬ (F' b ∨ G' b ∨ G b) := fun b o h => by
    obtain ⟨k1, k2⟩ := h0 b o h
    have hbl := (Array.getElem?_eq_some_iff.1 k1).1
    refine ⟨g6.heap k1 (fun hf => k2 (hf.elim .inl (fun h => .inr (.inl h)))), fun hf => ?_⟩
    rcases hf with hf | hf | hf
    · rcases g4 b hf with h | h
      · exact k2 (.inl h)
      · omega
    · rcases g5 b hf with h | h
      · exact k2 (.inr (.inl h))
      · omega
    · exact k2 (.inr (.inr hf))
  refine ⟨F', G', G, vs', d', hbx, g1, g2, h3.keep g6 (fun k hk hf => h5 k hf hk), g3, fun k hk hg => ?_, fun k hk => ?_, h7.trans (g6.below hz (fun k hk => ?_)), hp, hs, hL⟩
  · rcases hk with hk | hk
    · rcases g4 k hk with h | h
      · exact h5 k (.inl h) hg
      · have := (h6 k (.inr (.inr hg))).2; omega
    · rcases g5 k hk with h | h
      · exact h5 k (.inr h) hg
      · have := (h6 k (.inr (.inr hg))).2; omega
  · rcases hk with hk | hk | hk
    · refine ⟨?_, hlt1 k hk⟩
      rcases g4 k hk with h | h
      · exact (h6 k (.inl h)).1
      · omega
    · refine ⟨?_, hlt2 k hk⟩
      rcases g5 k hk with h | h
      · exact (h6 k (.inr (.inl h))).1
      · omega
    · have := h6 k (.inr (.inr hk))
      exact ⟨this.1, by omega⟩
  · rcases hk with hk | hk
    · exact (h6 k (.inl hk)).1
    · exact (h6 k (.inr (.inl hk))).1
/-- Behind a call of the document's. -/
theorem PS.of_ref (hD : DvSpec x D) {Fd Fs G G' : Nat → Prop} {vs : Value} {d : Dv} {v' : StoD} (h0 : ∀ b o, bx b o → W.heap[b]? = some o ∧ ¬ (Fd b ∨ Fs b ∨ G b)) (h1 : D W Fd dev d) (h2 : StW W Fs p dev (usOf m) vs) (h4 : ∀ k, Fd k → ¬ Fs k) (h5 : ∀ k, Fd k ∨ Fs k → ¬ G k) (h6 : ∀ k, Fd k ∨ Fs k ∨ G k → w.heap.size ≤ k ∧ k < W.heap.size) (h7 : Below w.heap.size w W)
    (h8 : d.pend = []) (h9 : d.stop = none) (h10 : LiesM n d.img m) (hr : RefIs W' G' q v') (hg : ∀ k, G' k → G k ∨ W.heap.size ≤ k) (hk : Kept G W W') : PS D w bx p dev q n m v' W' := by
  have hz := h7.size
  have hzz := hk.size
  have hlt : ∀ k, G' k → k < W'.heap.size := by
    obtain ⟨_, _, _, hl, _⟩ := hr
    exact hl
  have hbx : ∀ b o, bx b o → W'.heap[b]? = some o ∧ ¬ (Fd b ∨ Fs b ∨ G' b) := fun b o h => by
    obtain ⟨k1, k2⟩ := h0 b o h
    have hbl := (Array.getElem?_eq_some_iff.1 k1).1
    refine ⟨hk.heap k1 (fun hf => k2 (.inr (.inr hf))), fun hf => ?_⟩
    rcases hf with hf | hf | hf
    · exact k2 (.inl hf)
    · exact k2 (.inr (.inl hf))
    · rcases hg b hf with h | h
      · exact k2 (.inr (.inr h))
      · omega
  refine ⟨Fd, Fs, G', vs, d, hbx, hD.keep _ _ _ _ _ _ h1 hk (fun k hf hgk => h5 k (.inl hf) hgk), h2.keep hk (fun k hf hgk => h5 k (.inr hf) hgk), hr, h4, fun k hf hgk => ?_, fun k hf => ?_, h7.trans (hk.below hz (fun k hgk => (h6 k (.inr (.inr hgk))).1)), h8, h9, h10⟩
  · rcases hg k hgk with h | h
    · exact h5 k hf h
    · have := (h6 k (hf.elim .inl (fun h => .inr (.inl h)))).2; omega
  · rcases hf with hf | hf | hf
    · have := h6 k (.inl hf); exact ⟨this.1, by omega⟩
    · have := h6 k (.inr (.inl hf)); exact ⟨this.1, by omega⟩
    · refine ⟨?_, hlt k hf⟩
      rcases hg k hf with h | h
      · exact (h6 k (.inr (.inr h))).1
      · omega
theorem usOf_ok {d : Dv} (hL : LiesM n d.img m) (hn : n ≤ 1000) (hN : NumLe N m) (hNl : N ≤ 100000) : OkU (d.img.length / 64) (usOf m) where
  len := by rw [usOf_len]; have := wf_len hL.wf; have := hL.places; omega
  on := fun u hu => by
    obtain ⟨g, hg, rfl⟩ := List.mem_map.1 hu
    have := hL.on hg
    have := hL.len
    have := (hL.wf.recs g hg).2.1
    simp only
    unfold endG
    omega
  last := by rw [lastU_is]; have := hN.last; have := last_ge m.segs; omega
theorem PS.append (hD : DvSpec (three a) D) (hE : Errs w a) (hn : n ≤ 1000) (hN : NumLe N m) (hNl : N ≤ 100000) (h : PS D w bx p dev q n m v W) (hb : Below W.heap.size W W') (vb : Value) (b : List UInt8) (hv : Bytes W' W'.heap.size vb b) (hvb : ∀ k, vb.ownBlock = some k → W.heap.size ≤ k) :
    Calls Tryd.prog 14 #[.pointer (some ⟨p, 0, none⟩), vb] W' fun e w' => ∃ y, e = .returned (.tuple #[.int .i64 (appendD m b).2.1, y]) ∧ IsErr a y (appendD m b).2.2.toNat ∧ PS D w bx p dev q n (appendD m b).1 v w' := by
  obtain ⟨Fd, Fs, G, vs, d, h0, h1, h2, h3, h4, h5, h6, h7, h8, h9, h10⟩ := h
  have hng := hE.ng
  have hz := h7.size
  have h7' := h7.trans (hb.mono hz)
  have hzb := hb.size
  have h6' : ∀ k, Fd k ∨ Fs k ∨ G k → w.heap.size ≤ k ∧ k < W'.heap.size := fun k hk => ⟨(h6 k hk).1, Nat.lt_of_lt_of_le (h6 k hk).2 hzb⟩
  have h0' : ∀ b o, bx b o → W'.heap[b]? = some o ∧ ¬ (Fd b ∨ Fs b ∨ G b) := fun b o h => ⟨(hb.block b (Array.getElem?_eq_some_iff.1 (h0 b o h).1).1).trans (h0 b o h).1, (h0 b o h).2⟩
  have hap := append_any hD (hE.below h7') (hD.keep _ _ _ (fun _ => False) _ _ h1 (Kept.of_below hb) (fun _ _ h => h)) h8 (h2.below hb) h4 (fun k hk => Nat.le_trans hng (h6 k (hk.elim .inl (fun h => .inr (.inl h)))).1) (Nat.le_trans hng h7'.size) (usOf_ok h10 hn hN hNl) vb b W'.heap.size hv (Nat.le_refl _) (fun k e hk => by
    have := hvb k e
    have := (h6 k (hk.elim .inl (fun h => .inr (.inl h)))).2
    omega)
  refine hap.mono ?_
  rcases append_lies h10 (by have := hN.last; omega) b with ⟨er, e1, e2, e3⟩ | ⟨no, d', e1, e2, e3, e4, e5⟩ | ⟨us', d', _, e2, _⟩
  · rw [e1, e2]
    rintro e w' ⟨rfl, hr⟩
    refine ⟨_, rfl, ?_, PS.of_rs hD h0' (h3.below hb) h5 h6' h7' hr h8 h9 h10⟩
    simp only [Int.toNat_natCast]
    rcases e3 with rfl | rfl
    · exact isErr_at a 3 (by omega)
    · exact isErr_at a 12 (by omega)
  · rw [e1]
    rintro e w' ⟨rfl, hr⟩
    have e6 : (appendD m b).2.1 = (no : Int) := by rw [e2]
    have e7 : (appendD m b).2.2 = 0 := by rw [e2]
    rw [e6, e7]
    exact ⟨_, rfl, isErr_nil a, PS.of_rs hD h0' (h3.below hb) h5 h6' h7' hr e4 (e5 h9) e3⟩
  · exact absurd h9 e2
theorem PS.drop (hD : DvSpec (three a) D) (hE : Errs w a) (hn : n ≤ 1000) (h : PS D w bx p dev q n m v W) (k : Int) :
    Calls Tryd.prog 17 #[.pointer (some ⟨p, 0, none⟩), .int .i64 k] W fun e w' => ∃ y, e = .returned y ∧ IsErr a y (dropD m k).2.toNat ∧ PS D w bx p dev q n (dropD m k).1 v w' := by
  have hPS := h
  obtain ⟨Fd, Fs, G, vs, d, h0, h1, h2, h3, h4, h5, h6, h7, h8, h9, h10⟩ := h
  obtain ⟨img, pend, st⟩ := d
  simp only at h8 h9 h10
  subst h8 h9
  have hng := hE.ng
  have hz := h7.size
  have hil : img.length / 64 = n := by have := h10.len; omega
  have hul : (usOf m).length ≤ 1000 := by rw [usOf_len]; have := wf_len h10.wf; have := h10.places; omega
  have hus : ∀ u ∈ usOf m, u.first < img.length / 64 := fun u hu => by
    obtain ⟨g, hg, rfl⟩ := List.mem_map.1 hu
    have := h10.on hg
    simp only
    omega
  refine (drop_any hD (hE.below h7) h1 h2 h4 (fun k hk => Nat.le_trans hng (h6 k (.inl hk)).1) (Nat.le_trans hng hz) hul hus k).mono ?_
  have hfind := find_is h10.wf k
  rintro e w' (⟨e1, rfl, hb⟩ | ⟨i, e1, e2, rfl, hb⟩ | ⟨i, hi, e1, hr⟩)
  · rcases hfind with ⟨_, f1, _⟩ | ⟨i, hi, _, f1, f2, _⟩
    · have e : dropD m k = (m, 16) := by unfold dropD; rw [f1]
      rw [e]
      exact ⟨_, rfl, isErr_at a 15 (by omega), hPS.below hD hb⟩
    · rw [f2] at e1; omega
  · rcases hfind with ⟨_, f1, f2, _⟩ | ⟨j, hj, _, f1, f2, _⟩
    · rw [f2] at e1; omega
    · have hij : j = i := by rw [f2] at e1; omega
      subst hij
      rw [usOf_len] at e2
      have e : dropD m k = (m, 17) := by unfold dropD; rw [f1]; simp only; rw [if_pos e2]
      rw [e]
      exact ⟨_, rfl, isErr_at a 16 (by omega), hPS.below hD hb⟩
  · rcases hfind with ⟨_, f1, f2, _⟩ | ⟨j, hj, _, f1, f2, _⟩
    · rw [f2] at e1; omega
    · have hij : j = i := by rw [f2] at e1; omega
      subst hij
      have hi' := hi
      rw [usOf_len] at hi'
      have e : dropD m k = ({ m with segs := m.segs.eraseIdx j }, 0) := by unfold dropD; rw [f1]; simp only; rw [if_neg (by omega)]
      have hwf := drop_wf h10.wf k
      rw [e] at hwf ⊢
      have hat : (usOf m)[j]'(by omega) = ⟨(m.segs[j]).number, 64 * (m.segs[j]).place, endG m.segs[j]⟩ := by simp only [usOf, List.getElem_map]
      rw [hat] at hr
      simp only at hr
      rcases hr with ⟨_, rfl, F', vs', g1, g2, g3, g4⟩ | ⟨s, e3, _⟩
      · have hdl := drop_lies (d := ⟨img, [], none⟩) h10 hj hwf
        have hput : putD ⟨img, [], none⟩ (64 * (m.segs[j]).place) ((sect img (64 * (m.segs[j]).place)).set 63 2) 1 = (true, ⟨flushD img (chunksD (64 * (m.segs[j]).place) ((sect img (64 * (m.segs[j]).place)).set 63 2) 1), [], none⟩) := rfl
        simp only [hput] at hdl
        rcases hdl with ⟨_, hl⟩ | ⟨hl, _⟩
        · have hue : (usOf m).eraseIdx j = usOf { m with segs := m.segs.eraseIdx j } := by unfold usOf; rw [erase_map]
          rw [hue] at g2
          refine ⟨_, rfl, isErr_nil a, PS.of_rs hD h0 h3 h5 h6 h7 ⟨F', Fs, vs', g1, g2, fun k hk hs => ?_, g3, fun k hk => .inl hk, g4⟩ rfl rfl hl⟩
          rcases g3 k hk with h | h
          · exact h4 k h hs
          · have := (h6 k (.inr (.inl hs))).2; omega
        · cases hl
      · cases e3
theorem PS.rappend (hD : DvSpec x D) (hs : Small v) (h : PS D w bx p dev q n m v W) (hb : Below W.heap.size W W') (vb : Value) (b : List UInt8) (hv : Bytes W' W'.heap.size vb b) (hvb : ∀ k, vb.ownBlock = some k → W.heap.size ≤ k) :
    Calls Tryd.prog 23 #[.pointer (some ⟨q, 0, none⟩), vb] W' fun e w' => e = .returned (.tuple #[.int .i64 (appendD v b).2.1, .int .i64 (appendD v b).2.2]) ∧ PS D w bx p dev q n m (appendD v b).1 w' := by
  obtain ⟨Fd', Fs', G', vs', d', h0', h1', h2', h3', h4', h5', h6', h7', h8', h9', h10'⟩ := h
  have hzb := hb.size
  refine (rappend_any (h3'.below hb) hs hv (Nat.le_refl _) (fun k e hk => by
    have := hvb k e
    have := (h6' k (.inr (.inr hk))).2
    omega)).mono ?_
  rintro e w' ⟨rfl, G2, g1, g2, g3⟩
  exact ⟨rfl, PS.of_ref hD (fun b o h => ⟨(hb.block b (Array.getElem?_eq_some_iff.1 (h0' b o h).1).1).trans (h0' b o h).1, (h0' b o h).2⟩) (hD.keep _ _ _ (fun _ => False) _ _ h1' (Kept.of_below hb) (fun _ _ h => h)) (h2'.below hb) h4' h5' (fun k hk => ⟨(h6' k hk).1, Nat.lt_of_lt_of_le (h6' k hk).2 hzb⟩) (h7'.trans (hb.mono h7'.size)) h8' h9' h10' g1 g2 g3⟩
theorem PS.rdrop (hD : DvSpec x D) (hs : Small v) (h : PS D w bx p dev q n m v W) (k : Int) :
    Calls Tryd.prog 21 #[.pointer (some ⟨q, 0, none⟩), .int .i64 k] W fun e w' => e = .returned (.int .i64 (dropD v k).2) ∧ PS D w bx p dev q n m (dropD v k).1 w' := by
  obtain ⟨Fd, Fs, G, vs, d, h0, h1, h2, h3, h4, h5, h6, h7, h8, h9, h10⟩ := h
  refine (rdrop_any h3 hs k).mono ?_
  rintro e w' ⟨rfl, G2, g1, g2, g3⟩
  exact ⟨rfl, PS.of_ref hD h0 h1 h2 h4 h5 h6 h7 h8 h9 h10 g1 g2 g3⟩
theorem PS.open (hD : DvSpec x D) (hn : 64 ≤ n) (hn2 : n ≤ 1000) (hN : NumLe N m) (hNl : N ≤ 100000) (h : PS D w bx p dev q n m v W) :
    Calls Tryd.prog 11 #[.pointer (some ⟨dev, 0, none⟩)] W fun e w' => ∃ p', e = .returned (.tuple #[.pointer (some ⟨p', 0, none⟩), .nilIface]) ∧ PS D w bx p' dev q n m v w' := by
  obtain ⟨Fd, Fs, G, vs, d, h0, h1, h2, h3, h4, h5, h6, h7, h8, h9, h10⟩ := h
  have hz := h7.size
  refine (open_raw hD h1 h8 h10 hn hn2 (fun g hg => by have := hN g hg; omega)).mono ?_
  rintro e w' ⟨p', Fs', vs', rfl, g1, g2, g3, g4⟩
  have hz4 := g4.size
  have hlt2 := g2.lt
  have hbx : ∀ b o, bx b o → w'.heap[b]? = some o ∧ ¬ (Fd b ∨ Fs' b ∨ G b) := fun b o h => by
    obtain ⟨k1, k2⟩ := h0 b o h
    have hbl := (Array.getElem?_eq_some_iff.1 k1).1
    refine ⟨(g4.block b hbl).trans k1, fun hf => ?_⟩
    rcases hf with hf | hf | hf
    · exact k2 (.inl hf)
    · have := g3 b hf; omega
    · exact k2 (.inr (.inr hf))
  refine ⟨p', rfl, Fd, Fs', G, vs', d, hbx, g1, g2, h3.below g4, fun k hk hs => ?_, fun k hk hg => ?_, fun k hk => ?_, h7.trans (g4.mono hz), h8, h9, h10⟩
  · have := (h6 k (.inl hk)).2
    have := g3 k hs
    omega
  · rcases hk with hk | hk
    · exact h5 k (.inl hk) hg
    · have := (h6 k (.inr (.inr hg))).2
      have := g3 k hk
      omega
  · rcases hk with hk | hk | hk
    · have := h6 k (.inl hk); exact ⟨this.1, by omega⟩
    · have := g3 k hk; exact ⟨by omega, hlt2 k hk⟩
    · have := h6 k (.inr (.inr hk)); exact ⟨this.1, by omega⟩
theorem PS.same (hD : DvSpec x D) (hn : n ≤ 1000) (hv : v.Wf) (hvp : v.places ≤ 900) (hN : NumLe N v) (hNl : N ≤ 100000) (h : PS D w bx p dev q n m v W) :
    Calls Tryd.prog 9 #[.pointer (some ⟨p, 0, none⟩), .pointer (some ⟨q, 0, none⟩)] W fun e w' => e = .returned (.bool (sameB m v)) ∧ PS D w bx p dev q n m v w' := by
  have hPS := h
  obtain ⟨Fd, Fs, G, vs, d, h0, h1, h2, h3, h4, h5, h6, h7, h8, h9, h10⟩ := h
  refine (same_store hD h1 h8 h10 h2 h3 hn (by have := wf_len hv; omega) (by omega) (fun g hg => by have := hN g hg; omega)).mono ?_
  rintro e w' ⟨rfl, hb⟩
  exact ⟨rfl, hPS.below hD hb⟩
end
end Go.Proofs.YtidbmagpnaingaaDoor

/- A step of the laws on stores: what the program answers is what the document's own store does. -/
namespace Go.Proofs.YtidbmagpnaingaaDoor
open Go.RowKit Go.Shelf Tide

/-- What an act makes of a store. -/
def actM (m : StoD) (a : ActS) : StoD := if a.opens = true then m else if a.drops = true then (dropD m a.n).1 else (appendD m a.bs).1
theorem act_wf {m : StoD} (h : m.Wf) (a : ActS) : (actM m a).Wf := by
  unfold actM
  split
  · exact h
  · split
    · exact drop_wf h _
    · exact append_wf h _
theorem act_num {N : Nat} {m : StoD} (h : NumLe N m) (a : ActS) : NumLe (N + 1) (actM m a) := by
  unfold actM
  split
  · exact h.mono (Nat.le_succ _)
  · split
    · exact (drop_num h).mono (Nat.le_succ _)
    · exact append_num h
theorem take_places {m t : StoD} (h : takeD m = some t) : t.places = m.places := by
  unfold takeD at h
  split at h
  · cases h
  · injection h with h; rw [← h]
theorem append_places (m : StoD) (b : List UInt8) : (appendD m b).1.places = m.places := by
  unfold appendD
  split
  · rfl
  · split
    · rfl
    · cases ht : takeD m with
      | none => rfl
      | some t => exact (show t.places = m.places from take_places ht)
theorem drop_places (m : StoD) (k : Int) : (dropD m k).1.places = m.places := by
  unfold dropD
  split
  · rfl
  · split <;> rfl
theorem act_places (m : StoD) (a : ActS) : (actM m a).places = m.places := by
  unfold actM
  split
  · rfl
  · split
    · exact drop_places _ _
    · exact append_places _ _
theorem append_err (m : StoD) (b : List UInt8) : 0 ≤ (appendD m b).2.2 ∧ (appendD m b).2.2 ≤ 100 := by
  unfold appendD
  split
  · exact ⟨show (0 : Int) ≤ 4 by decide, show (4 : Int) ≤ 100 by decide⟩
  · split
    · exact ⟨show (0 : Int) ≤ 0 by decide, show (0 : Int) ≤ 100 by decide⟩
    · cases takeD m with
      | none => exact ⟨show (0 : Int) ≤ 13 by decide, show (13 : Int) ≤ 100 by decide⟩
      | some t => exact ⟨show (0 : Int) ≤ 0 by decide, show (0 : Int) ≤ 100 by decide⟩
theorem drop_err (m : StoD) (k : Int) : 0 ≤ (dropD m k).2 ∧ (dropD m k).2 ≤ 100 := by
  unfold dropD
  split
  · exact ⟨show (0 : Int) ≤ 16 by decide, show (16 : Int) ≤ 100 by decide⟩
  · split
    · exact ⟨show (0 : Int) ≤ 17 by decide, show (17 : Int) ≤ 100 by decide⟩
    · exact ⟨show (0 : Int) ≤ 0 by decide, show (0 : Int) ≤ 100 by decide⟩
section
variable {D : DvP} {a : Nat → Addr} {w W : World} {bx : Nat → Obj → Prop} {p dev q n N : Nat} {m : StoD}
set_option maxRecDepth 100000 in
set_option maxHeartbeats 4000000 in
theorem do_any (hD : DvSpec (three a) D) (hE : Errs w a) (hn : 64 ≤ n) (hn2 : n ≤ 1000) (hN : NumLe N m) (hNl : N ≤ 90000) (h : PS D w bx p dev q n m m W) (c : ActS) :
    Calls Tryd.prog 8 #[.pointer (some ⟨dev, 0, none⟩), .pointer (some ⟨p, 0, none⟩), .pointer (some ⟨q, 0, none⟩), .agg c.cells] W fun e w' => ∃ p', e = .returned (.tuple #[.pointer (some ⟨p', 0, none⟩), .bool true]) ∧ PS D w bx p' dev q n (actM m c) (actM m c) w' := by
  have hwf := h.wf
  have hsm := small_of hwf.1 (by have := hwf.2; omega) hN (by omega)
  obtain ⟨len, k, byte, drops, opens⟩ := c
  have h1 := h.more hD (.cells #[.int .i64 len, .int .i64 k, .int .u8 (byte.toNat : Int), .bool drops, .bool opens] 30)
  obtain ⟨W1, hW1⟩ : ∃ W1, W.alloc (.cells #[.int .i64 len, .int .i64 k, .int .u8 (byte.toNat : Int), .bool drops, .bool opens] 30) = W1 := ⟨_, rfl⟩
  have HW1 := Lib.hid hW1
  rw [hW1] at h1
  obtain ⟨bx1, hbx1⟩ : ∃ bx1, bx1 = fun b u => bx b u ∨ (b = W.heap.size ∧ u = .cells #[.int .i64 len, .int .i64 k, .int .u8 (byte.toNat : Int), .bool drops, .bool opens] 30) := ⟨_, rfl⟩
  have hin : bx1 W.heap.size (.cells #[.int .i64 len, .int .i64 k, .int .u8 (byte.toNat : Int), .bool drops, .bool opens] 30) := by rw [hbx1]; exact .inr ⟨rfl, rfl⟩
  have HBx := Lib.hid (show ∀ b o, bx b o → bx1 b o by rw [hbx1]; exact fun b o h => .inl h)
  rw [← hbx1] at h1
  have HC := Lib.hid (fun (X : World) (ho : X.heap[W.heap.size]? = some (.cells #[.int .i64 len, .int .i64 k, .int .u8 (byte.toNat : Int), .bool drops, .bool opens] 30)) =>
    show X.cell? ⟨W.heap.size, 0, none⟩ = some (.int .i64 len) ∧ X.cell? ⟨W.heap.size, 1, none⟩ = some (.int .i64 k) ∧ X.cell? ⟨W.heap.size, 2, none⟩ = some (.int .u8 (byte.toNat : Int)) ∧ X.cell? ⟨W.heap.size, 3, none⟩ = some (.bool drops) ∧ X.cell? ⟨W.heap.size, 4, none⟩ = some (.bool opens) from
      ⟨by rw [cell_of_row _ _ 0 _ _ _ ho]; rfl, by rw [cell_of_row _ _ 1 _ _ _ ho]; rfl, by rw [cell_of_row _ _ 2 _ _ _ ho]; rfl, by rw [cell_of_row _ _ 3 _ _ _ ho]; rfl, by rw [cell_of_row _ _ 4 _ _ _ ho]; rfl⟩)
  have HIn := Lib.hid hin
  have H1 := Lib.hid h1
  obtain ⟨c0, c1, c2, c3, c4⟩ := HC.out W1 (h1.boxed hin)
  have HSm := Lib.hid hsm
  have HN := Lib.hid hN
  clear hbx1 hin h h1 hsm hN hwf hW1
  cases opens with
  | true =>
    have CO := Lib.hid (H1.out.open hD hn hn2 HN.out (by omega))
    go_enter Tryd.func8, Tryd.ntmps8
    go_wp2_with fail
    rw [HW1.out]
    go_wp2_with fail
    refine CO.out.mono ?_
    rintro e w2 ⟨p', rfl, h2⟩
    have H2 := Lib.hid (h2.fewer HBx.out)
    clear h2 CO
    go_wp2_with fail
    go_ret2
    exact ⟨p', by simp, H2.out⟩
  | false =>
    cases drops with
    | true =>
      have hE1 := hE.below H1.out.since
      have CD := Lib.hid ((show Calls Tryd.prog 17 #[.pointer (some ⟨p, 0, none⟩), .int .i64 k] W1.drew _ from (H1.out.below hD (below_drawn W1 1)).drop hD hE hn2 k))
      have CN := Lib.hid (fun (y : Value) (r : Nat) (X : World) (hX : PS D w bx1 p dev q n (dropD m k).1 m X) (hy : IsErr a y r) => num_any a y r X (hE.below hX.since) hy)
      have CR := Lib.hid (fun (X : World) (hX : PS D w bx1 p dev q n (dropD m k).1 m X) => hX.rdrop hD HSm.out k)
      have her := drop_err m k
      have e5 : (((dropD m k).2.toNat : Nat) : Int) = (dropD m k).2 := by omega
      obtain ⟨r, hr⟩ : ∃ r, (dropD m k).2 = r := ⟨_, rfl⟩
      obtain ⟨m', hm'⟩ : ∃ m', (dropD m k).1 = m' := ⟨_, rfl⟩
      rw [hr] at CD CR e5
      rw [hm'] at CD CN CR
      obtain ⟨rn, hrn⟩ : ∃ rn, r.toNat = rn := ⟨_, rfl⟩
      rw [hrn] at CD e5
      have HM := Lib.hid (show actM m ⟨len, k, byte, true, false⟩ = m' by rw [← hm']; rfl)
      have HHold := Lib.hid (fun (X : World) (mm vv : StoD) (hX : PS D w bx1 p dev q n mm vv X) => (HC.out X (hX.boxed HIn.out)).2.1)
      have c1d : W1.drew.cell? ⟨W.heap.size, 1, none⟩ = some (.int .i64 k) := c1
      subst e5
      have her2 := her
      clear her hr hm' hrn hE1 her2
      go_enter Tryd.func8, Tryd.ntmps8
      go_wp2_with fail
      rw [HW1.out]
      go_wp2_with fail
      go_region_held3 (fun w' => w'.cell? ⟨W.heap.size, 1, none⟩ = some (.int .i64 k)) (first | assumption | exact hS) (first
        | (go_at_call 17; (with_reducible refine (CD.out).mono ?_); rintro en w2 ⟨y, rfl, hy, h2⟩; have hS := HHold.out _ _ _ h2)
        | (go_at_call 15; (with_reducible refine (CN.out y rn w2 h2 hy).mono ?_); rintro en w3 ⟨rfl, hb3⟩; have h3 := h2.below hD hb3; have hS := HHold.out _ _ _ h3)
        | (go_at_call 21; (with_reducible refine (CR.out w3 h3).mono ?_); rintro en w4 ⟨rfl, h4⟩; have hS := HHold.out _ _ _ h4))
      have H4 := Lib.hid (h4.fewer HBx.out)
      rename_i hHx
      clear hHx h4 h3 h2 hS CD CN CR
      go_wp2_with fail
      go_ret2
      exact ⟨p, by simp, by rw [HM.out]; exact H4.out⟩
    | false =>
      obtain ⟨c, hc⟩ : ∃ c : ActS, c = ⟨len, k, byte, false, false⟩ := ⟨_, rfl⟩
      have HRec := Lib.hid (fun X => show Calls Tryd.prog 22 #[.agg #[.int .i64 len, .int .i64 k, .int .u8 (byte.toNat : Int), .bool false, .bool false]] X (fun e w' => ∃ v, e = .returned v ∧ Hid (w'.ownsRow X.heap.size 5 1 v c.size (u8s c.bs)) ∧ Below X.heap.size X w') from by
        rw [hc]
        refine (record_any ⟨len, k, byte, false, false⟩ X).mono ?_
        rintro e w' ⟨v, rfl, h1, h2⟩
        exact ⟨v, rfl, Lib.hid h1, h2⟩)
      have CAp := Lib.hid (fun (X X' : World) (vb : Value) (hX : PS D w bx1 p dev q n m m X) (hb : Below X.heap.size X X') (ho : X'.ownsRow X.heap.size 5 1 vb c.size (u8s c.bs)) => hX.append hD hE hn2 HN.out (by omega) hb vb c.bs (Bytes.of_own ho) (fun k e => (ho.lt k e).1))
      have CRa := Lib.hid (fun (X X' : World) (vb : Value) (hX : PS D w bx1 p dev q n (appendD m c.bs).1 m X) (hb : Below X.heap.size X X') (ho : X'.ownsRow X.heap.size 5 1 vb c.size (u8s c.bs)) => hX.rappend hD HSm.out hb vb c.bs (Bytes.of_own ho) (fun k e => (ho.lt k e).1))
      have HM := Lib.hid (show actM m ⟨len, k, byte, false, false⟩ = (appendD m c.bs).1 by rw [hc]; rfl)
      have her := append_err m c.bs
      have e5 : (((appendD m c.bs).2.2.toNat : Nat) : Int) = (appendD m c.bs).2.2 := by omega
      obtain ⟨no, hno⟩ : ∃ no, (appendD m c.bs).2.1 = no := ⟨_, rfl⟩
      obtain ⟨r, hr⟩ : ∃ r, (appendD m c.bs).2.2 = r := ⟨_, rfl⟩
      obtain ⟨m', hm'⟩ : ∃ m', (appendD m c.bs).1 = m' := ⟨_, rfl⟩
      rw [hno, hr, hm'] at CAp CRa
      rw [hr] at e5
      obtain ⟨rn, hrn⟩ : ∃ rn, r.toNat = rn := ⟨_, rfl⟩
      rw [hrn] at CAp e5
      rw [hm'] at HM
      have CN := Lib.hid (fun (y : Value) (X : World) (hX : PS D w bx1 p dev q n m' m' X) (hy : IsErr a y rn) => num_any a y rn X (hE.below hX.since) hy)
      have HHold := Lib.hid (fun (X : World) (mm vv : StoD) (hX : PS D w bx1 p dev q n mm vv X) => HC.out X (hX.boxed HIn.out))
      subst e5
      clear her hr hm' hrn hno hc
      go_enter Tryd.func8, Tryd.ntmps8
      go_wp2_with fail
      rw [HW1.out]
      go_wp2_with fail
      refine (HRec.out W1).mono ?_
      rintro en w2 ⟨v2, rfl, ho2, hb2⟩
      have CA2 := Lib.hid (CAp.out W1 w2 v2 H1.out hb2 ho2.out)
      clear ho2 hb2 c0 c1 c2 c3 c4
      go_wp2_with fail
      refine (CA2.out).mono ?_
      rintro en w3 ⟨y, rfl, hy, h3⟩
      obtain ⟨d0, d1, d2, d3, d4⟩ := HHold.out _ _ _ h3
      have H3 := Lib.hid h3
      have HY := Lib.hid hy
      clear h3 hy CA2
      go_wp2_with fail
      refine (HRec.out w3).mono ?_
      rintro en w4 ⟨v4, rfl, ho4, hb4⟩
      have CR2 := Lib.hid (CRa.out w3 w4 v4 H3.out hb4 ho4.out)
      clear ho4 hb4 d0 d1 d2 d3 d4
      go_wp2_with fail
      refine (CR2.out).mono ?_
      rintro en w5 ⟨rfl, h5⟩
      have CN2 := Lib.hid (CN.out y w5 h5 HY.out)
      have H5 := Lib.hid h5
      clear h5 CR2
      go_wp2_with fail
      refine (CN2.out).mono ?_
      rintro en w6 ⟨rfl, hb6⟩
      have H6 := Lib.hid ((H5.out.below hD hb6).fewer HBx.out)
      clear hb6 CN2
      go_wp2_with fail
      go_ret2
      exact ⟨p, by simp, by rw [HM.out]; exact H6.out⟩
end
end Go.Proofs.YtidbmagpnaingaaDoor

/- The beginning of the laws on stores: a device, its store, the document's own one. -/
namespace Go.Proofs.YtidbmagpnaingaaDoor
open Go.RowKit Go.Shelf Tide

/-- Acts that lie in memory. -/
def ActsS (w : World) (B : Nat) (v : Value) (ks : List ActS) : Prop := Recs w B v 5 (ks.map fun k => k.cells.toList)
theorem ActsS.form {w : World} {B : Nat} {v : Value} {ks : List ActS} (h : ActsS w B v ks) : ∃ A c, v = .slice A ks.length c ∧ ks.length ≤ 9223372036854775807 ∧ ∀ i (hi : i < ks.length), ∃ b o, A = some ⟨b, o, none⟩ ∧ b < B ∧
    w.cell? ⟨b, o + i * 5, none⟩ = some (.int .i64 ks[i].len) ∧ w.cell? ⟨b, o + i * 5 + 1, none⟩ = some (.int .i64 ks[i].n) ∧ w.cell? ⟨b, o + i * 5 + 2, none⟩ = some (.int .u8 (ks[i].byte.toNat : Int)) ∧ w.cell? ⟨b, o + i * 5 + 3, none⟩ = some (.bool ks[i].drops) ∧ w.cell? ⟨b, o + i * 5 + 4, none⟩ = some (.bool ks[i].opens) := by
  obtain ⟨hn, A, c, rfl, hc⟩ := h
  refine ⟨A, c, by rw [List.length_map], by simpa using hn, fun i hi => ?_⟩
  obtain ⟨b, o, rfl, hb, hcell⟩ := hc (by
    intro e
    have h9 : (ks.map fun k => k.cells.toList).length = 0 := by rw [e]; rfl
    rw [List.length_map] at h9
    omega)
  have he : (ks.map fun k => k.cells.toList)[i]? = some (ks[i]).cells.toList := by simp [hi]
  have e : ∀ j, o + i * 5 + j = o + (i * 5 + j) := fun j => Nat.add_assoc _ _ _
  exact ⟨b, o, rfl, hb, hcell i 0 _ _ he rfl, by rw [e]; exact hcell i 1 _ _ he rfl, by rw [e]; exact hcell i 2 _ _ he rfl, by rw [e]; exact hcell i 3 _ _ he rfl, by rw [e]; exact hcell i 4 _ _ he rfl⟩
theorem recs_own {m : StoD} (h : m.Wf) {g : SegD} (hg : g ∈ m.segs) : recsOf m.segs (g.number : Int) = g.recs := by
  obtain ⟨k, hk, rfl⟩ := List.mem_iff_getElem.1 hg
  rcases find_is h ((m.segs[k]).number : Int) with ⟨h1, _⟩ | ⟨i, hi, h1, _, _, h2, _⟩
  · exact absurd rfl (h1 _ hg)
  · unfold recsOf
    rw [h2]
    have : i = k := by
      have hr := List.pairwise_iff_getElem.1 h.rise
      rcases Nat.lt_trichotomy i k with h3 | h3 | h3
      · have := hr i k (by simpa using hi) (by simpa using hk) h3
        simp only [List.getElem_map] at this
        omega
      · exact h3
      · have := hr k i (by simpa using hk) (by simpa using hi) h3
        simp only [List.getElem_map] at this
        omega
    subst this
    rfl
theorem same_refl {m : StoD} (h : m.Wf) : sameB m m = true := by
  have h1 : (m.segs.all fun g => decide (recsOf m.segs (g.number : Int) = g.recs)) = true := List.all_eq_true.2 fun g hg => decide_eq_true (recs_own h hg)
  have h2 : recsOf m.segs (lastNo m.segs + 1) = [] := by
    rcases find_is h (lastNo m.segs + 1) with ⟨_, _, _, h2, _⟩ | ⟨i, hi, h1, _⟩
    · unfold recsOf; rw [h2]
    · have := last_max h.rise _ (List.getElem_mem hi)
      omega
  unfold sameB
  rw [h1, h2]
  simp
section
variable {D : DvP} {a x : Nat → Addr} {w W : World} {bx : Nat → Obj → Prop} {p dev q n N : Nat} {m v : StoD}
theorem PS.pending (hD : DvSpec x D) (h : PS D w bx p dev q n m v W) : Calls Tryd.prog 10 #[.pointer (some ⟨dev, 0, none⟩)] W fun e w' => e = .returned (.int .i64 0) ∧ PS D w bx p dev q n m v w' := by
  have hPS := h
  obtain ⟨Fd, Fs, G, vs, d, h0, h1, h2, h3, h4, h5, h6, h7, h8, h9⟩ := h
  refine (hD.pending _ _ _ _ h1).mono ?_
  rw [h8]
  rintro e w' ⟨rfl, rfl⟩
  exact ⟨rfl, hPS⟩
/-- A store of the document's that is new. -/
theorem new_ref (W : World) (k : Nat) : RefIs (W.alloc (.cells #[.int .i64 (k : Int), .slice none 0 0] 62)) (fun b => b = W.heap.size) W.heap.size ⟨k, []⟩ := by
  refine ⟨fun b => b = W.heap.size, fun _ => False, fun k hk => hk.elim id False.elim, fun k hk => ?_, [], .slice none 0 0, rfl, ?_, ?_, ?_, ?_, ?_, ?_⟩
  · rw [World.size_alloc]; omega
  · exact Two.new W _ _ _
  · exact ⟨rfl, .inl ⟨rfl, rfl⟩⟩
  · intro g hg; cases hg
  · exact ⟨rfl, fun k e => by cases e⟩
  · intro b hb
    rw [World.size_alloc]
    rcases hb with hb | hb
    · omega
    · exact hb.elim
  · exact List.Pairwise.nil
set_option maxRecDepth 100000 in
set_option maxHeartbeats 4000000 in
theorem begin_any (hD : DvSpec x D) (W : World) (hb : Below w.heap.size w W) (nn : Int) : Calls Tryd.prog 7 #[.int .i64 nn] W fun e w' => ∃ k dev p q : Nat, 1 ≤ k ∧ k ≤ 5 ∧ e = .returned (.tuple #[.pointer (some ⟨dev, 0, none⟩), .pointer (some ⟨p, 0, none⟩), .pointer (some ⟨q, 0, none⟩)]) ∧ PS D w (fun _ _ => False) p dev q (64 * k + 5) ⟨k, []⟩ ⟨k, []⟩ w' := by
  obtain ⟨n5, hn5, hq1, hq1', hq1''⟩ := umod_of nn 5 (by omega) (by omega)
  obtain ⟨k, hk⟩ : ∃ k, k = 1 + n5 := ⟨_, rfl⟩
  obtain ⟨S, hS⟩ : ∃ S, S = 64 * k + 5 := ⟨_, rfl⟩
  have b1 : 1 ≤ k ∧ k ≤ 5 := by omega
  have e1 : (1 : Int) + (n5 : Int) = (k : Int) := by omega
  obtain ⟨y, hy⟩ : ∃ y, y = 64 * k := ⟨_, rfl⟩
  have e2 : (64 : Int) * (k : Int) = (y : Int) := by omega
  have e3 : (y : Int) + 5 = (S : Int) := by omega
  have CN := Lib.hid (LD.new hD hb S (by omega) (by omega))
  have HS := Lib.hid hS
  have HSL := Lib.hid (show 64 ≤ S ∧ S ≤ 400 by omega)
  have b2 : (k : Int) ≤ 5 := by omega
  have b3 : (y : Int) ≤ 320 := by omega
  have b4 : (S : Int) ≤ 325 := by omega
  clear hk hS hy
  go_enter Tryd.func7, Tryd.ntmps7
  go_wp2_with fail
  refine CN.out.mono ?_
  rintro en w2 ⟨dev, rfl, hd⟩
  have CO := Lib.hid (hd.openBlank hD HSL.out.1)
  clear hd CN
  go_wp2_with fail
  refine CO.out.mono ?_
  rintro en w3 ⟨p, rfl, hs⟩
  have HF := Lib.hid hs
  clear hs CO
  go_wp2_with fail
  go_ret3
  refine ⟨k, dev, p, w3.heap.size, b1.1, b1.2, rfl, ?_⟩
  obtain ⟨Fd, Fs, vs, h1, h2, h3, h4, h5⟩ := HF.out
  have hbl : Below w3.heap.size w3 (w3.alloc (.cells #[.int .i64 (k : Int), .slice none 0 0] 62)) := (Below.refl _ _).alloc (Nat.le_refl _) _
  have hz := h5.size
  have hlt := hD.lt _ _ _ _ h1
  have hlt2 := h2.lt
  rw [HS.out] at h1
  refine ⟨Fd, Fs, _, vs, _, fun b o hf => hf.elim, hD.keep _ _ _ (fun _ => False) _ _ h1 (Kept.of_below hbl) (fun _ _ h => h), h2.below hbl, new_ref w3 k, h3, fun b hb hg => ?_, fun b hb => ?_, h5.trans (hbl.mono hz), rfl, rfl, ?_⟩
  · subst hg
    rcases hb with hb | hb
    · have := hlt _ hb; omega
    · have := hlt2 _ hb; omega
  · have hsz : w3.heap.size < (w3.alloc (.cells #[.int .i64 (k : Int), .slice none 0 0] 62)).heap.size := by rw [World.size_alloc]; omega
    rcases hb with hb | hb | hb
    · have := hlt _ hb; exact ⟨h4 b (.inl hb), by omega⟩
    · have := hlt2 _ hb; exact ⟨h4 b (.inr hb), by omega⟩
    · subst hb; exact ⟨hz, hsz⟩
  · have := blank_lies (64 * k + 5)
    rw [show (64 * k + 5) / 64 = k by omega] at this
    exact this
end
end Go.Proofs.YtidbmagpnaingaaDoor

/- The law of plays, walked over what devices and stores do. -/
namespace Go.Proofs.YtidbmagpnaingaaDoor
open Go.RowKit Go.Shelf Tide

/-- A store behind acts. -/
def actsM (m : StoD) (l : List ActS) : StoD := l.foldl actM m
theorem acts_snoc (m : StoD) (l : List ActS) (i : Nat) (h : i < l.length) : actsM m (l.take (i + 1)) = actM (actsM m (l.take i)) l[i] := by
  unfold actsM
  rw [List.take_add_one, List.getElem?_eq_getElem h, List.foldl_append]
  rfl
theorem acts_ok {m : StoD} (h : m.Wf) (hn : NumLe 0 m) : ∀ (l : List ActS), (actsM m l).Wf ∧ NumLe l.length (actsM m l) ∧ (actsM m l).places = m.places := by
  intro l
  rw [← List.reverse_reverse l]
  generalize l.reverse = r
  induction r with
  | nil => exact ⟨h, hn, rfl⟩
  | cons x r ih =>
    obtain ⟨h1, h2, h3⟩ := ih
    rw [List.reverse_cons]
    have e : actsM m (r.reverse ++ [x]) = actM (actsM m r.reverse) x := by unfold actsM; rw [List.foldl_append]; rfl
    rw [e, List.length_append]
    exact ⟨act_wf h1 x, act_num h2 x, (act_places _ _).trans h3⟩
section
variable {D : DvP} {a : Nat → Addr} {w : World}
set_option maxRecDepth 100000 in
set_option maxHeartbeats 4000000 in
theorem segsPlays_law (hD : DvSpec (three a) D) (hE : Errs w a) (n : Int) (v : Value) (ks : List ActS) (hk : ActsS w w.heap.size v ks) : Calls Tryd.prog 3 #[.int .i64 n, v] w fun en w' => en = .returned (.bool true) ∧ Below w.heap.size w w' := by
  have CA := Lib.hid (salive_any hD hE)
  obtain ⟨A, c, rfl, _, hcell⟩ := hk.form
  have HC := Lib.hid (fun i hi (W : World) (hb : Below w.heap.size w W) => show ∃ b o, A = some ⟨b, o, none⟩ ∧ W.cell? ⟨b, o + i * 5, none⟩ = some (.int .i64 ks[i].len) ∧ W.cell? ⟨b, o + i * 5 + 1, none⟩ = some (.int .i64 ks[i].n) ∧ W.cell? ⟨b, o + i * 5 + 2, none⟩ = some (.int .u8 (ks[i].byte.toNat : Int)) ∧ W.cell? ⟨b, o + i * 5 + 3, none⟩ = some (.bool ks[i].drops) ∧ W.cell? ⟨b, o + i * 5 + 4, none⟩ = some (.bool ks[i].opens) from by
    obtain ⟨b, o, e, hlt, c0, c1, c2, c3, c4⟩ := hcell i hi
    have hc := below_cells hb
    exact ⟨b, o, e, (hc _ _ hlt).trans c0, (hc _ _ hlt).trans c1, (hc _ _ hlt).trans c2, (hc _ _ hlt).trans c3, (hc _ _ hlt).trans c4⟩)
  clear hk hcell
  by_cases h1 : 60 < ks.length
  · have q1 : decide ((60 : Int) < (ks.length : Int)) = true := decide_eq_true (by omega)
    clear h1
    go_enter Tryd.func3, Tryd.ntmps3
    go_wp2_with fail
    refine CA.out.mono ?_
    rintro en w1 ⟨rfl, hb⟩
    have HB := Lib.hid hb
    clear hb
    go_wp2_with fail
    go_ret
    exact ⟨rfl, HB.out⟩
  have q1 : decide ((60 : Int) < (ks.length : Int)) = false := decide_eq_false (by omega)
  obtain ⟨L, hL⟩ : ∃ L, ks.length = L := ⟨_, rfl⟩
  have hLe : L ≤ 60 := by omega
  rw [hL] at q1 ⊢
  have HL := Lib.hid hL
  clear h1 hL
  go_enter Tryd.func3, Tryd.ntmps3
  go_wp2_with fail
  refine CA.out.mono ?_
  rintro en w1 ⟨rfl, hb1⟩
  have CB := Lib.hid (begin_any (w := w) hD w1 hb1 n)
  clear hb1 CA
  go_wp2_with fail
  refine CB.out.mono ?_
  rintro en w2 ⟨k, dev, p, q, hk1, hk2, rfl, h2⟩
  obtain ⟨m0, hm0⟩ : ∃ m0 : StoD, m0 = ⟨k, []⟩ := ⟨_, rfl⟩
  rw [← hm0] at h2
  have HOk := Lib.hid (acts_ok h2.wf.1 (show NumLe 0 m0 by rw [hm0]; intro g hg; cases hg))
  obtain ⟨S, hS⟩ : ∃ S, 64 * k + 5 = S := ⟨_, rfl⟩
  rw [hS] at h2
  have HS := Lib.hid (show 64 ≤ S ∧ S ≤ 1000 by omega)
  have HP := Lib.hid (show m0.places ≤ 5 by rw [hm0]; exact hk2)
  have H2 := Lib.hid h2
  clear hm0 hS hk1 hk2 h2 CB
  go_wp2_with fail
  go_loopw [32, 6] (fun i pp wr => ∃ (k p' : Nat), i = .int .i64 (k : Int) ∧ pp = .pointer (some ⟨p', 0, none⟩) ∧ k ≤ L ∧ Hid (PS D w (fun _ _ => False) p' dev q S (actsM m0 (ks.take k)) (actsM m0 (ks.take k)) wr)) (fun i _ _ => L - (intOf i).toNat)
  case atStart => exact ⟨0, p, rfl, rfl, Nat.zero_le _, H2⟩
  case round =>
    obtain ⟨k, p', rfl, rfl, hk, hPS⟩ := hrel
    by_cases hlt : k < L
    · have q2 : decide ((k : Int) < (L : Int)) = true := decide_eq_true (by omega)
      obtain ⟨b, o, rfl, c0, c1, c2, c3, c4⟩ := HC.out k (by rw [HL.out]; exact hlt) wr hPS.out.since
      have hok := HOk.out (ks.take k)
      have hok2 := HOk.out (ks.take (k + 1))
      have hst := acts_snoc m0 ks k (by rw [HL.out]; exact hlt)
      obtain ⟨m, hm⟩ : ∃ m, actsM m0 (ks.take k) = m := ⟨_, rfl⟩
      obtain ⟨m', hm'⟩ : ∃ m', actsM m0 (ks.take (k + 1)) = m' := ⟨_, rfl⟩
      rw [hm] at hPS hok hst
      rw [hm'] at hok2 hst
      have HM' := Lib.hid hm'
      obtain ⟨c, hc⟩ : ∃ c : ActS, c = ks[k]'(by rw [HL.out]; exact hlt) := ⟨_, rfl⟩
      rw [← hc] at c0 c1 c2 c3 c4 hst
      have hNk : NumLe 60 m := hok.2.1.mono (by rw [List.length_take]; omega)
      have hNk2 : NumLe 61 m' := hok2.2.1.mono (by rw [List.length_take]; omega)
      have CD := Lib.hid (fun (X : World) (hX : PS D w (fun _ _ => False) p' dev q S m m X) => do_any hD hE HS.out.1 HS.out.2 hNk (by omega) hX c)
      rw [← hst] at CD
      have CS := Lib.hid (fun (X : World) (pp : Nat) (hX : PS D w (fun _ _ => False) pp dev q S m' m' X) => by
        have := hX.same hD HS.out.2 hok2.1 (by rw [hok2.2.2]; have := HP.out; omega) hNk2 (by omega)
        rwa [same_refl hok2.1] at this)
      have HPs := Lib.hid (fun (X : World) (hX : Below wr.heap.size wr X) => hPS.out.below hD hX)
      have bk : (k : Int) ≤ 60 := by omega
      clear hok hok2 hst hm hm' hNk hNk2 hPS hc
      go_wp2_with fail
      refine (CD.out _ (HPs.out _ ((Below.refl _ _).alloc (Nat.le_refl _) _))).mono ?_
      rintro en w4 ⟨p2, rfl, h4⟩
      have hst := HM'
      have CS4 := Lib.hid (CS.out w4 p2 h4)
      have CP4 := Lib.hid (fun (X : World) (hX : PS D w (fun _ _ => False) p2 dev q S m' m' X) => hX.pending hD)
      clear CD CS HPs h4 hst c0 c1 c2 c3 c4
      go_wp2_with fail
      refine CS4.out.mono ?_
      rintro en w5 ⟨rfl, h5⟩
      have CP5 := Lib.hid (CP4.out w5 h5)
      clear h5 CS4 CP4
      go_wp2_with fail
      refine CP5.out.mono ?_
      rintro en w6 ⟨rfl, h6⟩
      have H6 := Lib.hid h6
      clear h6 CP5
      go_wp2_with fail
      clear q2
      go_roundw
      case rel => exact ⟨k + 1, p2, by go_num, rfl, by omega, by rw [HM'.out]; exact H6⟩
      case measure => simp [intOf]; omega
    · have hkT : k = L := by omega
      subst hkT
      have q2 : decide ((k : Int) < (k : Int)) = false := decide_eq_false (by omega)
      have hok := HOk.out (ks.take k)
      obtain ⟨m, hm⟩ : ∃ m, actsM m0 (ks.take k) = m := ⟨_, rfl⟩
      rw [hm] at hPS hok
      have hNk : NumLe 60 m := hok.2.1.mono (by rw [List.length_take]; omega)
      have CO := Lib.hid (hPS.out.open hD HS.out.1 HS.out.2 hNk (by omega))
      have CS := Lib.hid (fun (X : World) (pp : Nat) (hX : PS D w (fun _ _ => False) pp dev q S m m X) => by
        have := hX.same hD HS.out.2 hok.1 (by rw [hok.2.2]; have := HP.out; omega) hNk (by omega)
        rwa [same_refl hok.1] at this)
      clear hok hm hNk hPS
      go_wp2_with fail
      refine CO.out.mono ?_
      rintro en w4 ⟨p2, rfl, h4⟩
      have CS4 := Lib.hid (CS.out w4 p2 h4)
      clear CO CS h4
      go_wp2_with fail
      refine CS4.out.mono ?_
      rintro en w5 ⟨rfl, h5⟩
      have HB := Lib.hid h5.since
      clear h5 CS4
      go_wp2_with fail
      go_ret
      exact ⟨by simp, HB.out⟩
end
end Go.Proofs.YtidbmagpnaingaaDoor
