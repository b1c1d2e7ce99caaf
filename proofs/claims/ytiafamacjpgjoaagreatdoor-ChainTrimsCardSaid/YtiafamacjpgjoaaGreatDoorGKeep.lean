/- What a call leaves as it was, but for the blocks that it may write: a footprint, as a set of blocks. It speaks of no program. -/
import Derived.Test.YtiafamacjpgjoaaGreatDoorGMem
import Derived.Test.YtiafamacjpgjoaaGreatDoorRows
import Derived.OwnWalk
import Derived.ProofKit
import Derived.LaidMore
import Derived.OpenShut
import Derived.Stop.Joined
import Derived.Stop.LaidErr
import Derived.Lib.LaidTab
import Derived.Deep.Slices
import Derived.Deep.Fields
import Derived.ChangeSlices
namespace Tide
open Go Go.RowKit

structure Kept (F : Nat → Prop) (w w' : World) : Prop where
  os : w'.os = w.os
  tape : w'.tape = w.tape
  output : w'.output = w.output
  size : w.heap.size ≤ w'.heap.size
  block : ∀ k, k < w.heap.size → ¬ F k → w'.heap[k]? = w.heap[k]?

variable {F G : Nat → Prop} {a w w' w'' : World} {B : Nat}
theorem Kept.refl (F : Nat → Prop) (w : World) : Kept F w w := ⟨rfl, rfl, rfl, Nat.le_refl _, fun _ _ _ => rfl⟩
theorem Kept.trans (h : Kept F w w') (k : Kept G w' w'') (hG : ∀ i, G i → F i ∨ w.heap.size ≤ i) : Kept F w w'' :=
  ⟨k.os.trans h.os, k.tape.trans h.tape, k.output.trans h.output, Nat.le_trans h.size k.size, fun i hi hf =>
    (k.block i (Nat.lt_of_lt_of_le hi h.size) (fun hg => (hG i hg).elim hf (fun h' => absurd hi (Nat.not_lt.2 h')))).trans (h.block i hi hf)⟩
theorem Kept.mono (h : Kept F w w') (hG : ∀ i, i < w.heap.size → F i → G i) : Kept G w w' := ⟨h.os, h.tape, h.output, h.size, fun i hi hg => h.block i hi (fun hf => hg (hG i hi hf))⟩
theorem Kept.of_below (h : Below w.heap.size w w') : Kept F w w' := ⟨h.os, h.tape, h.output, h.size, fun i hi _ => h.block i hi⟩
theorem Kept.below (h : Kept F w w') (hB : B ≤ w.heap.size) (hF : ∀ i, F i → B ≤ i) : Below B w w' :=
  ⟨h.os, h.tape, h.output, h.size, fun i hi => h.block i (Nat.lt_of_lt_of_le hi hB) (fun hf => absurd (hF i hf) (Nat.not_le.2 hi))⟩
theorem Below.kept (h : Below B a w) (k : Kept F w w') (hB : B ≤ w.heap.size) (hF : ∀ i, F i → B ≤ i) : Below B a w' := h.trans (k.below hB hF)
theorem Kept.alloc (h : Kept F w w') (o : Obj) : Kept F w (w'.alloc o) := h.trans (G := fun _ => False) ⟨rfl, rfl, rfl, by simp, fun k hk _ => Below.heap_alloc _ _ _ hk⟩ (fun _ h => h.elim)
theorem Kept.drew (h : Kept F w w') : Kept F w w'.drew := ⟨h.os, h.tape, h.output, h.size, h.block⟩
theorem Kept.setCell (h : Kept F w w') {p : Addr} (hp : F p.block ∨ w.heap.size ≤ p.block) (v : Value) : Kept F w (w'.setCell p v) :=
  h.trans (G := fun k => k = p.block) ⟨rfl, rfl, rfl, by simp [World.setCell], fun k _ hk => Below.heap_setCell _ _ _ _ hk⟩ (fun i hi => by subst hi; exact hp)
theorem Kept.grown {row : Option Nat} (h : Kept F w w') (hg : w'.grownBy w'' row) (hr : ∀ k, row = some k → F k ∨ w.heap.size ≤ k) : Kept F w w'' :=
  h.trans (G := fun k => row = some k) ⟨hg.os, hg.tape, hg.output, hg.size, fun k hk hne => hg.block k hk (fun e => hne e.symm)⟩ hr
theorem Kept.heap (h : Kept F w w') {b : Nat} {o : Obj} (hb : w.heap[b]? = some o) (hf : ¬ F b) : w'.heap[b]? = some o :=
  (h.block b (by
    rcases Nat.lt_or_ge b w.heap.size with hlt | hge
    · exact hlt
    · rw [Array.getElem?_eq_none hge] at hb; cases hb) hf).trans hb
theorem Kept.cell (h : Kept F w w') {p : Addr} (hp : p.block < w.heap.size) (hf : ¬ F p.block) : w'.cell? p = w.cell? p := World.cell?_of_block (w := w) (h.block p.block hp hf)
theorem Kept.own {base : Nat} {e : TypeId} {size : Nat} {v : Value} {n : Nat} {xs : List Value} (h : Kept F w w') (ho : w.ownsRow base e size v n xs) (hf : ∀ k, v.ownBlock = some k → ¬ F k) : w'.ownsRow base e size v n xs := by
  refine ⟨ho.1, ?_⟩
  rcases ho.2 with h0 | ⟨g, cap, cur, rfl, hb, hg, h1, h2, h3, h4⟩
  · exact .inl h0
  · exact .inr ⟨g, cap, cur, rfl, hb, h.heap hg (hf g rfl), h1, h2, h3, h4⟩
theorem own_below {base : Nat} {e : TypeId} {size : Nat} {v : Value} {n : Nat} {xs : List Value} (ho : w.ownsRow base e size v n xs) (h : Below w.heap.size w w') : w'.ownsRow base e size v n xs :=
  (Kept.of_below (F := fun _ => False) h).own ho (fun _ _ h => h)
theorem own_later {base base' : Nat} {e : TypeId} {size : Nat} {v : Value} {n : Nat} {xs : List Value} (ho : w.ownsRow base' e size v n xs) (hb : base ≤ base') : w.ownsRow base e size v n xs :=
  ⟨ho.1, ho.2.elim .inl fun ⟨g, cap, cur, h0, h1, h2⟩ => .inr ⟨g, cap, cur, h0, Nat.le_trans hb h1, h2⟩⟩
end Tide

/- The last step of every law's row: the call answers true and leaves what there was as it was, so each argument reads as it read. It speaks of no law. -/
namespace Go.Proofs.YtiafamacjpgjoaaGreatDoor
open Go.ChangeShapes Go.WideShapes Go.ChangeAt Go.RowKit

theorem infoB : (Tryz.prog.info? 5).map (fun i => (i.zero, i.size, i.bytes)) = some (some (.int .u8 0), 1, 1) := by kernel_rfl
theorem own : ownKnob Tryz.prog.godebug = none := by kernel_rfl
theorem laidOut : laidOutB Tryz.prog = true := by kernel_rfl
def rowed (P : Program) (ts : List TypeId) : Bool := ts.all fun t => P.readableRec t && decide (t < P.types.size)

theorem trodAll_kept {H : Type} {enc : TypeId × Value → H} {P : Program} (hl : laidOutB P = true) {W W' : World} (hb : Below W.heap.size W W') :
    ∀ {ts : List TypeId} {vs : List Value} {ds : List (DataW H)} {ps : List MemPlace}, rowed P ts = true → (∀ x ∈ ps, x.block < W.heap.size) → DataW.TrodAll enc P W 0 (fun _ => true) true ts vs ds ps →
      DataW.TrodAll enc P W' 0 (fun b => decide (b < W.heap.size)) true ts vs ds ps
  | [], [], [], _, _, _, h => h
  | _ :: _, [], _, _, _, _, h => h.elim
  | _ :: _, _ :: _, [], _, _, _, h => h.elim
  | [], _ :: _, _, _, _, _, h => h.elim
  | [], [], _ :: _, _, _, _, h => h.elim
  | t :: ts, v :: vs, d :: ds, ps, hr, hlt, h => by
    obtain ⟨p, q, h1, h2, rfl⟩ := h
    simp only [rowed, List.all_cons, Bool.and_eq_true, decide_eq_true_eq] at hr
    exact ⟨p, q, Below.trod hl hr.1.1 hr.1.2 h1 hb (fun x hx => hlt x (List.mem_append_left _ hx)),
      trodAll_kept hl hb (by simpa only [rowed] using hr.2) (fun x hx => hlt x (List.mem_append_right _ hx)) h2, rfl⟩

theorem post_true {H : Type} {enc : TypeId × Value → H} {f : Func} {s : ChangeSpec} {W W' : World} {args : Array Value} {ds gs : List (DataW H)} {before : List MemPlace}
    (hW : DataW.Whole enc Tryz.prog f.params.toList s.vars false W args.toList ds gs before) (hv : s.vars = []) (hr : rowed Tryz.prog f.params.toList = true) (hres : f.resultTypes = #[4])
    (hs : ∀ ds' : List (DataW H), ds'.length = f.params.size → s.fn H ds' = { results := [.lit (.bool true)], args := ds' }) (hb : Below W.heap.size W W') :
    s.post enc Tryz.prog f false true false false W args (.bool true) W' := by
  have hlt : ∀ p ∈ before, p.block < W.heap.size := fun p hp => hW.lt p hp
  have hW' := hW
  obtain ⟨p, q, hA, hV, rfl, _, _⟩ := hW
  have hg : gs = [] ∧ q = [] := by
    rw [hv] at hV
    cases gs with
    | nil => exact ⟨rfl, hV⟩
    | cons _ _ => exact hV.elim
  obtain ⟨rfl, rfl⟩ := hg
  have hlen : ∀ {ts : List TypeId} {vs : List Value} {es : List (DataW H)} {ps : List MemPlace}, DataW.TrodAll enc Tryz.prog W 0 (fun _ => true) true ts vs es ps → es.length = ts.length := by
    intro ts
    induction ts with
    | nil =>
      intro vs es ps h
      cases vs <;> cases es <;> first | rfl | exact h.elim
    | cons t ts ih =>
      intro vs es ps h
      cases vs with
      | nil => exact h.elim
      | cons v vs =>
        cases es with
        | nil => exact h.elim
        | cons e es =>
          obtain ⟨_, _, _, h2, _⟩ := h
          simp [ih h2]
  have e1 := hs (ds ++ []) (by rw [List.append_nil, hlen hA]; simp)
  refine ⟨ds, [], p ++ [], [], p, [], hW', ?_, ?_, ?_, World.keptBut_mono (fun x hx => ⟨hx, ?_⟩) (hb.frame (· ∈ p ++ [])), fun h => by cases h⟩
  · rw [e1, hres]
    exact trodAll_mk1 (shut_bool Tryz.underlying4 true)
  · rw [e1]
    simpa using trodAll_kept laidOut hb hr (fun x hx => hlt x (List.mem_append_left _ hx)) hA
  · rw [hv, e1]
    exact rfl
  · rw [List.append_nil] at hx
    exact .inr (.inl hx)
end Go.Proofs.YtiafamacjpgjoaaGreatDoor

/- Arguments opened: a slice of structs of fields of a cell each, and a slice of whole numbers, that came in. They speak of no law. -/
namespace Go.Proofs.YtiafamacjpgjoaaGreatDoor
open Go Go.ChangeShapes Go.WideShapes Go.ChangeAt Go.RowKit Go.Deep Tide

def Recs (w : World) (B : Nat) (v : Value) (k : Nat) (es : List (List Value)) : Prop :=
  es.length ≤ 9223372036854775807 ∧ ∃ A c, v = .slice A es.length c ∧
    (es ≠ [] → ∃ b o, A = some ⟨b, o, none⟩ ∧ b < B ∧ ∀ (i j : Nat) (e : List Value) (u : Value), es[i]? = some e → e[j]? = some u → w.cell? ⟨b, o + (i * k + j), none⟩ = some u)
theorem add_none (b o j : Nat) : (⟨b, o, none⟩ : Addr).add j = ⟨b, o + j, none⟩ := by unfold Addr.add; split <;> simp_all

section
variable {H : Type} {enc : TypeId × Value → H} {P : Program} {W : World}
theorem open_recs {t e : TypeId} {fs : Array Field} {v : Value} {d : DataW H} {p : List MemPlace} (ht : P.underlying t = some (.slice e)) (he : P.underlying e = some (.struct fs)) (hone : oneCellFields P fs = true) (hC : P.cellsOf e = fs.size) (hpos : 0 < fs.size)
    {base : Nat} (hok : Value.okWide P W .any base t v) (h : DataW.Trod enc P W 0 (fun _ => true) true t v d p) :
    ∃ es, Recs W W.heap.size v fs.size es ∧ ∀ x ∈ es, x.length = fs.size ∧ ∀ (j : Nat) (f : Field), fs[j]? = some f → ∃ (u : Value) (n : Nat) (y : DataW H × List MemPlace), x[j]? = some u ∧ DataW.trod enc P W 0 (fun _ => true) true n f.type [u] = some y := by
  obtain ⟨a0, len0, cap0, rfl⟩ := okWide_slice ht hok
  obtain ⟨fuel, hf⟩ := h
  rcases open_slice ht hf with ⟨hcs, _⟩ | ⟨a, len, cap, m, n, D, Pl, hcs, _, hl, hm, hmm, _, hx⟩
  · have : Value.slice a0 len0 cap0 = .slice none 0 0 := by simpa [Value.cells] using hcs
    rw [this]
    exact ⟨[], ⟨by simp, none, 0, rfl, fun h => absurd rfl h⟩, fun x hx => by cases hx⟩
  · have : Value.slice a0 len0 cap0 = .slice (some a) len cap := by simpa [Value.cells] using hcs
    rw [this]
    simp only [if_true] at hmm
    rw [hmm] at hx
    clear hmm
    unfold maxLen at hm
    obtain ⟨C, hCh⟩ := choose_lt (α := List Value) (p := fun i cs => W.cells? 0 (a.add (i * P.cellsOf e)) (P.cellsOf e) = some cs ∧ DataW.trod enc P W 0 (fun _ => true) true n e cs = some (D i, Pl i)) hx
    have hmem : ∀ i, i < len → (C i).length = fs.size ∧ (∀ j, j < fs.size → W.cell? (a.add (i * fs.size + j)) = (C i)[j]?) ∧ ∀ (j : Nat) (f : Field), fs[j]? = some f → ∃ (u : Value) (n : Nat) (y : DataW H × List MemPlace), (C i)[j]? = some u ∧ DataW.trod enc P W 0 (fun _ => true) true n f.type [u] = some y := by
      intro i hi
      obtain ⟨h1, h2⟩ := hCh i (by omega)
      rw [hC] at h1
      obtain ⟨_, hlen, hat⟩ := World.cells?_some h1
      refine ⟨hlen, fun j hj => ?_, fun j f hj => ?_⟩
      · rw [← Go.Deep.add_add]
        exact hat j hj
      · obtain ⟨xs, n', _, _, _, hxl, hfs⟩ := DataW.trod_struct he h2
        obtain ⟨ho, hk⟩ := hone_of hone j f hj
        have hjl : j < fs.size := (Array.getElem?_eq_some_iff.1 hj).1
        have h3 := hfs j f hj
        rw [ho, hk, List.drop_eq_getElem_cons (by omega)] at h3
        refine ⟨_, n', xs[j]'(by omega), List.getElem?_eq_getElem (by omega), ?_⟩
        rw [show ((C i)[j]'(by omega) :: (C i).drop (j + 1)).take 1 = [(C i)[j]'(by omega)] from rfl] at h3
        rw [h3, List.getElem?_eq_getElem (by omega)]
    refine ⟨(List.range len).map C, ⟨by simp; omega, some a, cap, by simp, fun hne => ?_⟩, fun x hx => ?_⟩
    · have hlp : 0 < len := by
        rcases Nat.eq_zero_or_pos len with h0 | h0
        · subst h0; exact absurd rfl hne
        · exact h0
      obtain ⟨b, off, spot⟩ := a
      obtain ⟨hl0, hc0, _⟩ := hmem 0 hlp
      have hc00 := hc0 0 hpos
      rw [List.getElem?_eq_getElem (by omega)] at hc00
      have hspot : spot = none := by simpa [Addr.add] using World.cell?_spot hc00
      subst hspot
      rw [add_none] at hc00
      refine ⟨b, off, rfl, World.block_lt_of_cell? _ _ hc00, fun i j e u he hu => ?_⟩
      have hi : i < len := by
        have := (List.getElem?_eq_some_iff.1 he).1
        simpa using this
      simp [hi] at he
      subst he
      obtain ⟨h1, h2, _⟩ := hmem i hi
      have hj : j < fs.size := by rw [← h1]; exact (List.getElem?_eq_some_iff.1 hu).1
      have := h2 j hj
      rw [add_none] at this
      rw [this, hu]
    · simp only [List.mem_map, List.mem_range] at hx
      obtain ⟨i, hi, rfl⟩ := hx
      exact ⟨(hmem i hi).1, (hmem i hi).2.2⟩

def int64s (zs : List Int) : List Value := zs.map (Value.int .i64)
theorem int64s_length (zs : List Int) : (int64s zs).length = zs.length := by simp [int64s]
theorem open_int64 {t : TypeId} {u : Value} {n : Nat} {y : DataW H × List MemPlace} (ht : P.underlying t = some (.int .i64)) (h : DataW.trod enc P W 0 (fun _ => true) true n t [u] = some y) : ∃ z, u = .int .i64 z ∧ -9223372036854775808 ≤ z ∧ z ≤ 9223372036854775807 := by
  obtain ⟨z, hz, _, hw⟩ := DataW.trod_int ht h
  exact ⟨z, by simpa using hz, bounds_i64 hw⟩
theorem open_text {t : TypeId} {u : Value} {n : Nat} {y : DataW H × List MemPlace} (ht : P.underlying t = some .string) (h : DataW.trod enc P W 0 (fun _ => true) true n t [u] = some y) : ∃ s, u = .string s := by
  obtain ⟨s, hs, _, _⟩ := DataW.trod_string ht h
  exact ⟨s, by simpa using hs⟩
end
end Go.Proofs.YtiafamacjpgjoaaGreatDoor

/- Plans as lists: which are right, where addresses stand, tails; rows of rows of numbers in memory. No walk stands here. -/
namespace Go.Proofs.YtiafamacjpgjoaaGreatDoor
open Go.RowKit Tide

def goodU (l : List Int) : Bool := decide ((∀ u ∈ l, 0 ≤ u ∧ u ≤ 11) ∧ l.Nodup)
def takeB (l : List Int) (u : Int) : Bool := decide (0 ≤ u) && (decide (u < 12) && !decide (u ∈ l))
def sizeC (c : List Int) : Bool := decide (1 ≤ c.length) && decide (c.length ≤ 3)
def rightB (ep : Int) (cs : List (List Int)) : Bool := decide (0 ≤ ep) && (decide (ep ≤ 1073741824) && (decide (1 ≤ cs.length) && (decide (cs.length ≤ 3) && (cs.all sizeC && goodU cs.flatten))))

theorem good_nil : goodU [] = true := by decide
theorem good_snoc (l : List Int) (u : Int) : goodU (l ++ [u]) = (goodU l && takeB l u) := by
  unfold goodU takeB
  rw [Bool.eq_iff_iff]
  simp only [Bool.and_eq_true, decide_eq_true_eq, Bool.not_eq_true', decide_eq_false_iff_not, List.nodup_append, List.mem_append, List.mem_singleton]
  constructor
  · rintro ⟨h1, h2, _, h3⟩
    have := h1 u (.inr rfl)
    exact ⟨⟨fun x hx => h1 x (.inl hx), h2⟩, this.1, by omega, fun hu => h3 u hu u rfl rfl⟩
  · rintro ⟨⟨h1, h2⟩, h3, h4, h5⟩
    refine ⟨fun x hx => ?_, h2, by simp, fun a ha b hb => ?_⟩
    · rcases hx with hx | rfl
      · exact h1 x hx
      · omega
    · subst hb; rintro rfl; exact h5 ha
theorem good_pre {l m : List Int} (h : goodU (l ++ m) = true) : goodU l = true := by
  unfold goodU at h ⊢
  simp only [decide_eq_true_eq, List.nodup_append] at h ⊢
  exact ⟨fun u hu => h.1 u (List.mem_append_left _ hu), h.2.1⟩
theorem good_false {l m : List Int} (h : goodU l = false) : goodU (l ++ m) = false := by
  cases e : goodU (l ++ m) with
  | false => rfl
  | true => rw [good_pre e] at h; cases h
theorem take_flat (cs : List (List Int)) (k : Nat) (h : k < cs.length) : (cs.take (k + 1)).flatten = (cs.take k).flatten ++ cs[k] := by
  rw [List.take_succ_eq_append_getElem h, List.flatten_append]; simp
theorem flat_split (cs : List (List Int)) (k : Nat) : cs.flatten = (cs.take k).flatten ++ (cs.drop k).flatten := by
  rw [← List.flatten_append, List.take_append_drop]
theorem take_one (c : List Int) (j : Nat) (h : j < c.length) : c.take (j + 1) = c.take j ++ [c[j]] := List.take_succ_eq_append_getElem h
theorem right_size {ep : Int} {cs : List (List Int)} {k : Nat} (hk : k < cs.length) (h : sizeC cs[k] = false) : rightB ep cs = false := by
  have : cs.all sizeC = false := by
    rw [Bool.eq_false_iff]
    intro e
    have := List.all_eq_true.1 e _ (List.getElem_mem hk)
    rw [h] at this; cases this
  unfold rightB
  rw [this]; simp
theorem right_unit {ep : Int} {cs : List (List Int)} {k j : Nat} (hk : k < cs.length) (hj : j < cs[k].length) (h : takeB ((cs.take k).flatten ++ cs[k].take j) cs[k][j] = false) : rightB ep cs = false := by
  have : goodU cs.flatten = false := by
    have e : cs.flatten = ((cs.take k).flatten ++ cs[k].take j ++ [cs[k][j]]) ++ (cs[k].drop (j + 1) ++ (cs.drop (k + 1)).flatten) := by
      have e2 : cs[k].take j ++ [cs[k][j]] = cs[k].take (j + 1) := (take_one _ _ hj).symm
      rw [List.append_assoc (cs.take k).flatten, e2, List.append_assoc, ← List.append_assoc (cs[k].take (j + 1)), List.take_append_drop, ← List.append_assoc, ← take_flat cs k hk, ← flat_split]
    rw [e]
    apply good_false
    rw [good_snoc, h, Bool.and_false]
  unfold rightB
  rw [this]; simp
theorem right_all {ep : Int} {cs : List (List Int)} (h0 : decide (ep < 0) = false) (h1 : decide (1073741824 < ep) = false) (h2 : decide ((cs.length : Int) < 1) = false) (h3 : decide ((3 : Int) < (cs.length : Int)) = false) (h4 : cs.all sizeC = true) (h5 : goodU cs.flatten = true) : rightB ep cs = true := by
  unfold rightB
  rw [h4, h5]
  simp at h0 h1 h2 h3 ⊢
  omega
theorem right_parts {ep : Int} {cs : List (List Int)} (h : rightB ep cs = true) : 0 ≤ ep ∧ ep ≤ 1073741824 ∧ 1 ≤ cs.length ∧ cs.length ≤ 3 ∧ (∀ c ∈ cs, 1 ≤ c.length ∧ c.length ≤ 3) ∧ (∀ u ∈ cs.flatten, 0 ≤ u ∧ u ≤ 11) ∧ cs.flatten.Nodup := by
  unfold rightB goodU at h
  simp only [Bool.and_eq_true, decide_eq_true_eq, List.all_eq_true, sizeC] at h
  obtain ⟨a, b, c, d, e, f, g⟩ := h
  exact ⟨a, b, c, d, e, f, g⟩

def Grid (w : World) (B : Nat) (v : Value) (cs : List (List Int)) : Prop :=
  ∃ vs : List Value, Row w B v vs ∧ vs.length = cs.length ∧ ∀ (i : Nat) (u : Value) (c : List Int), vs[i]? = some u → cs[i]? = some c → Row w B u (int64s c)
section
variable {w w' : World} {B B' : Nat} {v : Value} {cs : List (List Int)}
theorem Grid.keep (h : Grid w B v cs) (hk : ∀ b o, b < B → w'.cell? ⟨b, o, none⟩ = w.cell? ⟨b, o, none⟩) : Grid w' B v cs := by
  obtain ⟨vs, h1, h2, h3⟩ := h
  exact ⟨vs, h1.keep hk, h2, fun i u c hu hc => (h3 i u c hu hc).keep hk⟩
theorem Grid.more (h : Grid w B v cs) (hB : B ≤ B') : Grid w B' v cs := by
  obtain ⟨vs, h1, h2, h3⟩ := h
  exact ⟨vs, h1.more hB, h2, fun i u c hu hc => (h3 i u c hu hc).more hB⟩
theorem Grid.below (h : Grid w B v cs) (hb : Below B w w') : Grid w' B v cs := h.keep (below_cells hb)
theorem Grid.form (h : Grid w B v cs) : cs.length ≤ 9223372036854775807 ∧ ∃ A c, v = .slice A cs.length c ∧
    ∀ i (hi : i < cs.length), ∃ b o u, A = some ⟨b, o, none⟩ ∧ b < B ∧ w.cell? ⟨b, o + i, none⟩ = some u ∧ Row w B u (int64s cs[i]) := by
  obtain ⟨vs, ⟨hn, A, c, rfl, h1, h2, hc⟩, hl, h3⟩ := h
  refine ⟨by omega, A, c, by rw [hl], fun i hi => ?_⟩
  have hi' : i < vs.length := by omega
  obtain ⟨b, o, e, hb, hcell⟩ := hc (by intro e; subst e; simp at hi')
  exact ⟨b, o, vs[i], e, hb, hcell i _ (List.getElem?_eq_getElem hi'), h3 i _ _ (List.getElem?_eq_getElem hi') (List.getElem?_eq_getElem hi)⟩
theorem row_ints {l : List Int} (h : Row w B v (int64s l)) : l.length ≤ 9223372036854775807 ∧ ∃ A c, v = .slice A l.length c ∧ ∀ j (hj : j < l.length), ∃ b o, A = some ⟨b, o, none⟩ ∧ b < B ∧ w.cell? ⟨b, o + j, none⟩ = some (.int .i64 l[j]) := by
  obtain ⟨hn, A, c, rfl, _, _, hc⟩ := h
  rw [int64s_length] at hn
  refine ⟨hn, A, c, by rw [int64s_length], fun j hj => ?_⟩
  obtain ⟨b, o, e, hb, hcell⟩ := hc (by intro e; have := int64s_length l; rw [e] at this; simp at this; omega)
  exact ⟨b, o, e, hb, hcell j _ (by simp [int64s, hj])⟩
end

def marks (l : List Int) : Array Value := ((List.range 12).map fun (i : Nat) => Value.bool (decide ((i : Int) ∈ l))).toArray
theorem marks_nil : marks [] = #[.bool false, .bool false, .bool false, .bool false, .bool false, .bool false, .bool false, .bool false, .bool false, .bool false, .bool false, .bool false] := by
  unfold marks; simp [List.range, List.range.loop]
theorem marks_get (l : List Int) (n : Nat) (h : n < 12) : (marks l)[n]? = some (.bool (decide ((n : Int) ∈ l))) := by
  unfold marks; simp [h]
theorem marks_set (l : List Int) (n : Nat) (h : n < 12) : (marks l).setIfInBounds n (.bool true) = marks (l ++ [(n : Int)]) := by
  apply Array.ext_getElem?
  intro i
  rw [Array.getElem?_setIfInBounds]
  by_cases hi : i < 12
  · rw [marks_get _ _ hi, marks_get _ _ hi]
    by_cases e : n = i
    · subst e
      have hs : n < (marks l).size := by unfold marks; simpa using h
      simp [hs]
    · rw [if_neg e]
      have : ¬ (i : Int) = (n : Int) := by omega
      simp [this]
  · have h1 : (marks l).size = 12 := by unfold marks; simp
    have h2 : (marks (l ++ [(n : Int)])).size = 12 := by unfold marks; simp
    rw [if_neg (by omega), Array.getElem?_eq_none (by omega), Array.getElem?_eq_none (by omega)]
end Go.Proofs.YtiafamacjpgjoaaGreatDoor

/- Where addresses stand on a plan, and back; tails of chains' tails: the numbers. No walk stands here. -/
namespace Go.Proofs.YtiafamacjpgjoaaGreatDoor
open Go.RowKit Tide

def addrI (ep : Int) (cs : List (List Int)) (ch at' : Int) : Int := if rightB ep cs = true ∧ 0 ≤ ch ∧ ch < cs.length ∧ 0 ≤ at' ∧ at' ≤ 4096 then at' * cs.length + ch else -1
end Go.Proofs.YtiafamacjpgjoaaGreatDoor

/- Where an address of a plan stands: a chain, and its units' own address. No walk stands here. -/
namespace Go.Proofs.YtiafamacjpgjoaaGreatDoor
open Go.RowKit Tide

def placeE (ep : Int) (cs : List (List Int)) (a : Int) : Nat := if rightB ep cs = false then 4 else if a < 0 ∨ 4095 < a then 1 else 0
def chainAt (cs : List (List Int)) (a : Int) : List Int := cs.getD (a.toNat % cs.length) []
end Go.Proofs.YtiafamacjpgjoaaGreatDoor
