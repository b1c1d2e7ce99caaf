/- Words for bytes that lie in memory: a slice of bytes that reads as a list, nil let in; a slice of such slices; and how they are kept while new memory is made. They speak of no program. -/
import Derived.Below
import Derived.Laws.OwnMore
import Derived.Deep.AppendLies
import Derived.Deep.Draws
import Derived.Laws.Rows
import Derived.Lib.Hide
import Derived.WalkSpells
namespace Tide
open Go Go.RowKit

/-- The cells of bytes. -/
def u8s (l : List UInt8) : List Value := l.map fun c => Value.int .u8 (c.toNat : Int)
theorem u8s_length (l : List UInt8) : (u8s l).length = l.length := by simp [u8s]
theorem u8s_append (a b : List UInt8) : u8s (a ++ b) = u8s a ++ u8s b := by simp [u8s]
theorem u8s_get (l : List UInt8) (j : Nat) (h : j < l.length) : (u8s l)[j]? = some (.int .u8 (l[j].toNat : Int)) := by simp [u8s, h]
theorem u8s_one (l : List UInt8) : ∀ u ∈ u8s l, u.oneCell' = true := by
  intro u hu
  simp only [u8s, List.mem_map] at hu
  obtain ⟨c, _, rfl⟩ := hu
  rfl
/-- The slice value v reads as the values xs, a cell each, in blocks below B. -/
def Row (w : World) (B : Nat) (v : Value) (xs : List Value) : Prop :=
  xs.length ≤ 9223372036854775807 ∧ ∃ A c, v = .slice A xs.length c ∧ xs.length ≤ c ∧ c ≤ 9223372036854775807 ∧
    (xs ≠ [] → ∃ b o, A = some ⟨b, o, none⟩ ∧ b < B ∧ ∀ j u, xs[j]? = some u → w.cell? ⟨b, o + j, none⟩ = some u)
/-- The slice value v reads as the bytes l. -/
def Bytes (w : World) (B : Nat) (v : Value) (l : List UInt8) : Prop := Row w B v (u8s l)
/-- The slice value v reads as slices of bytes. -/
def Parts (w : World) (B : Nat) (v : Value) (ps : List (List UInt8)) : Prop :=
  ∃ vs : List Value, Row w B v vs ∧ vs.length = ps.length ∧ ∀ (i : Nat) (u : Value) (p : List UInt8), vs[i]? = some u → ps[i]? = some p → Bytes w B u p

section
variable {w w' : World} {B B' : Nat} {v : Value} {xs : List Value} {l : List UInt8} {ps : List (List UInt8)}
theorem Row.keep (h : Row w B v xs) (hk : ∀ b o, b < B → w'.cell? ⟨b, o, none⟩ = w.cell? ⟨b, o, none⟩) : Row w' B v xs := by
  obtain ⟨hn, A, c, rfl, h1, h2, hc⟩ := h
  refine ⟨hn, A, c, rfl, h1, h2, fun hx => ?_⟩
  obtain ⟨b, o, e, hb, hcell⟩ := hc hx
  exact ⟨b, o, e, hb, fun j u hu => (hk _ _ hb).trans (hcell j u hu)⟩
theorem Row.more (h : Row w B v xs) (hB : B ≤ B') : Row w B' v xs := by
  obtain ⟨hn, A, c, rfl, h1, h2, hc⟩ := h
  refine ⟨hn, A, c, rfl, h1, h2, fun hx => ?_⟩
  obtain ⟨b, o, e, hb, hcell⟩ := hc hx
  exact ⟨b, o, e, by omega, hcell⟩
theorem Bytes.keep (h : Bytes w B v l) (hk : ∀ b o, b < B → w'.cell? ⟨b, o, none⟩ = w.cell? ⟨b, o, none⟩) : Bytes w' B v l := Row.keep h hk
theorem Bytes.more (h : Bytes w B v l) (hB : B ≤ B') : Bytes w B' v l := Row.more h hB
theorem Parts.keep (h : Parts w B v ps) (hk : ∀ b o, b < B → w'.cell? ⟨b, o, none⟩ = w.cell? ⟨b, o, none⟩) : Parts w' B v ps := by
  obtain ⟨vs, h1, h2, h3⟩ := h
  exact ⟨vs, h1.keep hk, h2, fun i u p hu hp => (h3 i u p hu hp).keep hk⟩
theorem Parts.more (h : Parts w B v ps) (hB : B ≤ B') : Parts w B' v ps := by
  obtain ⟨vs, h1, h2, h3⟩ := h
  exact ⟨vs, h1.more hB, h2, fun i u p hu hp => (h3 i u p hu hp).more hB⟩
theorem below_cells (hb : Below B w w') : ∀ b o, b < B → w'.cell? ⟨b, o, none⟩ = w.cell? ⟨b, o, none⟩ := fun b o h => hb.cell (p := ⟨b, o, none⟩) h
theorem Bytes.below (h : Bytes w B v l) (hb : Below B w w') : Bytes w' B v l := h.keep (below_cells hb)
theorem Parts.below (h : Parts w B v ps) (hb : Below B w w') : Parts w' B v ps := h.keep (below_cells hb)
theorem Bytes.len (h : Bytes w B v l) : l.length ≤ 9223372036854775807 := by simpa [u8s_length] using h.1
theorem Bytes.form (h : Bytes w B v l) : ∃ A c, v = .slice A l.length c ∧ l.length ≤ c ∧ c ≤ 9223372036854775807 ∧
    ∀ j, j < l.length → ∃ b o, A = some ⟨b, o, none⟩ ∧ b < B ∧ ∀ j (h : j < l.length), w.cell? ⟨b, o + j, none⟩ = some (.int .u8 (l[j].toNat : Int)) := by
  obtain ⟨_, A, c, rfl, h1, h2, hc⟩ := h
  refine ⟨A, c, by rw [u8s_length], by simpa [u8s_length] using h1, h2, fun j hj => ?_⟩
  obtain ⟨b, o, e, hb, hcell⟩ := hc (by intro e; have := u8s_length l; rw [e] at this; simp at this; omega)
  exact ⟨b, o, e, hb, fun i hi => hcell i _ (u8s_get l i hi)⟩
theorem Parts.form (h : Parts w B v ps) : ps.length ≤ 9223372036854775807 ∧ ∃ A c, v = .slice A ps.length c ∧
    ∀ i (hi : i < ps.length), ∃ b o u, A = some ⟨b, o, none⟩ ∧ w.cell? ⟨b, o + i, none⟩ = some u ∧ Bytes w B u ps[i] := by
  obtain ⟨vs, ⟨hn, A, c, rfl, h1, h2, hc⟩, hl, h3⟩ := h
  refine ⟨by omega, A, c, by rw [hl], fun i hi => ?_⟩
  have hi' : i < vs.length := by omega
  obtain ⟨b, o, e, hb, hcell⟩ := hc (by intro e; subst e; simp at hi')
  exact ⟨b, o, vs[i], e, hcell i _ (List.getElem?_eq_getElem hi'), h3 i _ _ (List.getElem?_eq_getElem hi') (List.getElem?_eq_getElem hi)⟩
theorem bytes_nil' (w : World) (B : Nat) : Bytes w B (.slice none 0 0) [] := ⟨by simp [u8s], none, 0, by simp [u8s], by simp [u8s], by simp, fun h => absurd rfl h⟩
theorem Row.of_own {base : Nat} {e : TypeId} {n : Nat} (h : w.ownsRow base e 1 v n xs) (hB : w.heap.size ≤ B) : Row w B v xs := by
  have hl := h.1
  have hlt := h.lt
  simp at hl
  subst hl
  have h' := h
  rcases h.2 with ⟨rfl, h0⟩ | ⟨g, cap, cur, rfl, _, _, h1, h2, _⟩
  · have : xs = [] := List.eq_nil_of_length_eq_zero h0
    subst this
    exact ⟨by simp, none, 0, by simp, by simp, by simp, fun e => absurd rfl e⟩
  · unfold maxLen at h2
    have := (hlt g rfl).2
    refine ⟨by omega, some ⟨g, 0, none⟩, cap, rfl, h1, h2, fun hx => ⟨g, 0, rfl, by omega, fun j u hu => ?_⟩⟩
    have hj := (List.getElem?_eq_some_iff.1 hu).1
    rw [Nat.zero_add, h'.cellAt j (by omega)]
    exact hu
theorem Bytes.of_own {base : Nat} {e : TypeId} {n : Nat} (h : w.ownsRow base e 1 v n (u8s l)) : Bytes w w.heap.size v l := Row.of_own h (Nat.le_refl _)
theorem Row.new (w : World) (e : TypeId) (cs : Array Value) (fr : Nat × Nat) (g n : Nat) (hg : g = w.heap.size) (hn : n = cs.size) (hm : n ≤ 9223372036854775807) :
    Row (w.alloc (.cells cs e fr)) (w.heap.size + 1) (.slice (some ⟨g, 0, none⟩) n n) cs.toList := by
  subst hg hn
  refine ⟨by simpa using hm, some ⟨w.heap.size, 0, none⟩, cs.size, by simp, by simp, hm, fun _ => ⟨w.heap.size, 0, rfl, Nat.lt_succ_self _, fun j x hx => ?_⟩⟩
  rw [Nat.zero_add, cell_of_row _ _ j _ _ _ (heap_alloc_new w (.cells cs e fr))]
  simpa using hx
theorem Bytes.new (w : World) (e : TypeId) (cs : Array Value) (fr : Nat × Nat) (g n : Nat) (l : List UInt8) (hg : g = w.heap.size) (hl : cs.toList = u8s l) (hn : n = l.length) (hm : n ≤ 9223372036854775807) :
    Bytes (w.alloc (.cells cs e fr)) (w.heap.size + 1) (.slice (some ⟨g, 0, none⟩) n n) l := by
  unfold Bytes
  rw [← hl]
  exact Row.new w e cs fr g n hg (by rw [hn, ← Array.length_toList, hl, u8s_length]) hm
theorem Bytes.alloc {o : Obj} (h : Bytes w B v l) (hB : B ≤ w.heap.size) : Bytes (w.alloc o) B v l := h.keep fun b o' hb => World.cell?_alloc_lt w o ⟨b, o', none⟩ (by show b < w.heap.size; omega)
theorem Bytes.drewN (h : Bytes w B v l) (k : Nat) : Bytes (w.drewN k) B v l := h
theorem Bytes.drew (h : Bytes w B v l) : Bytes w.drew B v l := h
theorem Parts.new1 (e : TypeId) (g : Nat) (hg : g = w.heap.size) (hB : B ≤ w.heap.size) (h : Bytes w B v l) :
    Parts (w.alloc (.cells #[v] e)) (w.heap.size + 1) (.slice (some ⟨g, 0, none⟩) 1 1) [l] :=
  ⟨[v], Row.new w e #[v] (0, 0) g 1 hg rfl (by omega), rfl, fun i u p hu hp => by
    have hj := (List.getElem?_eq_some_iff.1 hu).1
    have : i = 0 := by simp at hj; omega
    subst this
    simp at hu hp; subst hu hp
    exact (h.alloc hB).more (by omega)⟩
theorem Parts.new2 {v2 : Value} {l2 : List UInt8} (e : TypeId) (g : Nat) (hg : g = w.heap.size) (hB : B ≤ w.heap.size) (h : Bytes w B v l) (h2 : Bytes w B v2 l2) :
    Parts (w.alloc (.cells #[v, v2] e)) (w.heap.size + 1) (.slice (some ⟨g, 0, none⟩) 2 2) [l, l2] :=
  ⟨[v, v2], Row.new w e #[v, v2] (0, 0) g 2 hg rfl (by omega), rfl, fun i u p hu hp => by
    have hj := (List.getElem?_eq_some_iff.1 hu).1
    have : i = 0 ∨ i = 1 := by simp at hj; omega
    rcases this with rfl | rfl
    · simp at hu hp; subst hu hp
      exact (h.alloc hB).more (by omega)
    · simp at hu hp; subst hu hp
      exact (h2.alloc hB).more (by omega)⟩
theorem Bytes.sub {b o n c : Nat} (h : Bytes w B (.slice (some ⟨b, o, none⟩) n c) l) {lo hi m c' : Nat} {l' : List UInt8} (hlo : lo ≤ hi) (hhi : hi ≤ l.length) (hl : l' = (l.take hi).drop lo) (hm : m = hi - lo) (h1 : m ≤ c') (h2 : c' ≤ 9223372036854775807) :
    Bytes w B (.slice (some ⟨b, o + lo, none⟩) m c') l' := by
  subst hl hm
  obtain ⟨_, A, c0, he, _, _, hc⟩ := h
  have hlen : (u8s ((l.take hi).drop lo)).length = hi - lo := by rw [u8s_length, List.length_drop, List.length_take]; omega
  refine ⟨by omega, some ⟨b, o + lo, none⟩, c', by rw [hlen], by omega, h2, fun hne => ?_⟩
  have hpos : 0 < hi - lo := by rw [← hlen]; exact List.length_pos_iff.2 hne
  obtain ⟨b', o', e, hb, hcell⟩ := hc (by intro e; have := u8s_length l; rw [e] at this; simp at this; omega)
  injection he with he1
  rw [e] at he1
  injection he1 with he1
  injection he1 with hb' ho'
  subst hb' ho'
  refine ⟨_, _, rfl, hb, fun j u hu => ?_⟩
  have hj : j < hi - lo := by rw [← hlen]; exact (List.getElem?_eq_some_iff.1 hu).1
  rw [Nat.add_assoc]
  apply hcell
  rw [← hu]
  simp only [u8s, List.getElem?_map, List.getElem?_drop]
  rw [List.getElem?_take_of_lt (by omega)]
theorem Bytes.take {b o n c : Nat} (h : Bytes w B (.slice (some ⟨b, o, none⟩) n c) l) {hi m c' : Nat} {l' : List UInt8} (hhi : hi ≤ l.length) (hl : l' = l.take hi) (hm : m = hi) (h1 : m ≤ c') (h2 : c' ≤ 9223372036854775807) :
    Bytes w B (.slice (some ⟨b, o, none⟩) m c') l' := h.sub (lo := 0) (Nat.zero_le _) hhi (by simpa using hl) (by omega) h1 h2
theorem bcell (hb : Below w.heap.size w w') : (∀ b o, b < w.heap.size → w'.cell? ⟨b, o, none⟩ = w.cell? ⟨b, o, none⟩) ∧ (∀ b o, b < w.heap.size → w'.frozen? ⟨b, o, none⟩ = w.frozen? ⟨b, o, none⟩) :=
  ⟨below_cells hb, fun b o h => hb.frozen (p := ⟨b, o, none⟩) h⟩
end
end Tide
