/- Words for bytes that lie in memory: a slice of bytes that reads as a list, nil let in; a slice of such slices; and how they are kept while new memory is made. They speak of no program. -/
import Derived.Below
import Derived.Laws.OwnMore
import Derived.Deep.AppendLies
import Derived.Deep.Draws
import Derived.Laws.Rows
import Derived.Lib.Hide
import Derived.WalkSpells
namespace Tide
open Go Go.RowKit

/-- The cells of bytes. -/
def u8s (l : List UInt8) : List Value := l.map fun c => Value.int .u8 (c.toNat : Int)
theorem u8s_length (l : List UInt8) : (u8s l).length = l.length := by simp [u8s]
theorem u8s_append (a b : List UInt8) : u8s (a ++ b) = u8s a ++ u8s b := by simp [u8s]
theorem u8s_get (l : List UInt8) (j : Nat) (h : j < l.length) : (u8s l)[j]? = some (.int .u8 (l[j].toNat : Int)) := by simp [u8s, h]
theorem u8s_one (l : List UInt8) : ∀ u ∈ u8s l, u.oneCell' = true := by
  intro u hu
  simp only [u8s, List.mem_map] at hu
  obtain ⟨c, _, rfl⟩ := hu
  rfl
/-- The slice value v reads as the values xs, a cell each, in blocks below B. -/
def Row (w : World) (B : Nat) (v : Value) (xs : List Value) : Prop :=
  xs.length ≤ 9223372036854775807 ∧ ∃ A c, v = .slice A xs.length c ∧ xs.length ≤ c ∧ c ≤ 9223372036854775807 ∧
    (xs ≠ [] → ∃ b o, A = some ⟨b, o, none⟩ ∧ b < B ∧ ∀ j u, xs[j]? = some u → w.cell? ⟨b, o + j, none⟩ = some u)
/-- The slice value v reads as the bytes l. -/
def Bytes (w : World) (B : Nat) (v : Value) (l : List UInt8) : Prop := Row w B v (u8s l)
/-- The slice value v reads as slices of bytes. -/
def Parts (w : World) (B : Nat) (v : Value) (ps : List (List UInt8)) : Prop :=
  ∃ vs : List Value, Row w B v vs ∧ vs.length = ps.length ∧ ∀ (i : Nat) (u : Value) (p : List UInt8), vs[i]? = some u → ps[i]? = some p → Bytes w B u p

section
variable {w w' : World} {B B' : Nat} {v : Value} {xs : List Value} {l : List UInt8} {ps : List (List UInt8)}
theorem Row.keep (h : Row w B v xs) (hk : ∀ b o, b < B → w'.cell? ⟨b, o, none⟩ = w.cell? ⟨b, o, none⟩) : Row w' B v xs := by
  obtain ⟨hn, A, c, rfl, h1, h2, hc⟩ := h
  refine ⟨hn, A, c, rfl, h1, h2, fun hx => ?_⟩
  obtain ⟨b, o, e, hb, hcell⟩ := hc hx
  exact ⟨b, o, e, hb, fun j u hu => (hk _ _ hb).trans (hcell j u hu)⟩
theorem Row.more (h : Row w B v xs) (hB : B ≤ B') : Row w B' v xs := by
  obtain ⟨hn, A, c, rfl, h1, h2, hc⟩ := h
  refine ⟨hn, A, c, rfl, h1, h2, fun hx => ?_⟩
  obtain ⟨b, o, e, hb, hcell⟩ := hc hx
  exact ⟨b, o, e, by omega, hcell⟩
theorem Bytes.keep (h : Bytes w B v l) (hk : ∀ b o, b < B → w'.cell? ⟨b, o, none⟩ = w.cell? ⟨b, o, none⟩) : Bytes w' B v l := Row.keep h hk
theorem Bytes.more (h : Bytes w B v l) (hB : B ≤ B') : Bytes w B' v l := Row.more h hB
theorem Parts.keep (h : Parts w B v ps) (hk : ∀ b o, b < B → w'.cell? ⟨b, o, none⟩ = w.cell? ⟨b, o, none⟩) : Parts w' B v ps := by
  obtain ⟨vs, h1, h2, h3⟩ := h
  exact ⟨vs, h1.keep hk, h2, fun i u p hu hp => (h3 i u p hu hp).keep hk⟩
theorem Parts.more (h : Parts w B v ps) (hB : B ≤ B') : Parts w B' v ps := by
  obtain ⟨vs, h1, h2, h3⟩ := h
  exact ⟨vs, h1.more hB, h2, fun i u p hu hp => (h3 i u p hu hp).more hB⟩
theorem below_cells (hb : Below B w w') : ∀ b o, b < B → w'.cell? ⟨b, o, none⟩ = w.cell? ⟨b, o, none⟩ := fun b o h => hb.cell (p := ⟨b, o, none⟩) h
theorem Bytes.below (h : Bytes w B v l) (hb : Below B w w') : Bytes w' B v l := h.keep (below_cells hb)
theorem Parts.below (h : Parts w B v ps) (hb : Below B w w') : Parts w' B v ps := h.keep (below_cells hb)
theorem Bytes.len (h : Bytes w B v l) : l.length ≤ 9223372036854775807 := by simpa [u8s_length] using h.1
theorem Bytes.form (h : Bytes w B v l) : ∃ A c, v = .slice A l.length c ∧ l.length ≤ c ∧ c ≤ 9223372036854775807 ∧
    ∀ j, j < l.length → ∃ b o, A = some ⟨b, o, none⟩ ∧ b < B ∧ ∀ j (h : j < l.length), w.cell? ⟨b, o + j, none⟩ = some (.int .u8 (l[j].toNat : Int)) := by
  obtain ⟨_, A, c, rfl, h1, h2, hc⟩ := h
  refine ⟨A, c, by rw [u8s_length], by simpa [u8s_length] using h1, h2, fun j hj => ?_⟩
  obtain ⟨b, o, e, hb, hcell⟩ := hc (by intro e; have := u8s_length l; rw [e] at this; simp at this; omega)
  exact ⟨b, o, e, hb, fun i hi => hcell i _ (u8s_get l i hi)⟩
theorem Parts.form (h : Parts w B v ps) : ps.length ≤ 9223372036854775807 ∧ ∃ A c, v = .slice A ps.length c ∧
    ∀ i (hi : i < ps.length), ∃ b o u, A = some ⟨b, o, none⟩ ∧ w.cell? ⟨b, o + i, none⟩ = some u ∧ Bytes w B u ps[i] := by
  obtain ⟨vs, ⟨hn, A, c, rfl, h1, h2, hc⟩, hl, h3⟩ := h
  refine ⟨by omega, A, c, by rw [hl], fun i hi => ?_⟩
  have hi' : i < vs.length := by omega
  obtain ⟨b, o, e, hb, hcell⟩ := hc (by intro e; subst e; simp at hi')
  exact ⟨b, o, vs[i], e, hcell i _ (List.getElem?_eq_getElem hi'), h3 i _ _ (List.getElem?_eq_getElem hi') (List.getElem?_eq_getElem hi)⟩
theorem bytes_nil' (w : World) (B : Nat) : Bytes w B (.slice none 0 0) [] := ⟨by simp [u8s], none, 0, by simp [u8s], by simp [u8s], by simp, fun h => absurd rfl h⟩
theorem Row.of_own {base : Nat} {e : TypeId} {n : Nat} (h : w.ownsRow base e 1 v n xs) (hB : w.heap.size ≤ B) : Row w B v xs := by
  have hl := h.1
  have hlt := h.lt
  simp at hl
  subst hl
  have h' := h
  rcases h.2 with ⟨rfl, h0⟩ | ⟨g, cap, cur, rfl, _, _, h1, h2, _⟩
  · have : xs = [] := List.eq_nil_of_length_eq_zero h0
    subst this
    exact ⟨by simp, none, 0, by simp, by simp, by simp, fun e => absurd rfl e⟩
  · unfold maxLen at h2
    have := (hlt g rfl).2
    refine ⟨by omega, some ⟨g, 0, none⟩, cap, rfl, h1, h2, fun hx => ⟨g, 0, rfl, by omega, fun j u hu => ?_⟩⟩
    have hj := (List.getElem?_eq_some_iff.1 hu).1
    rw [Nat.zero_add, h'.cellAt j (by omega)]
    exact hu
theorem Bytes.of_own {base : Nat} {e : TypeId} {n : Nat} (h : w.ownsRow base e 1 v n (u8s l)) : Bytes w w.heap.size v l := Row.of_own h (Nat.le_refl _)
theorem Row.new (w : World) (e : TypeId) (cs : Array Value) (fr : Nat × Nat) (g n : Nat) (hg : g = w.heap.size) (hn : n = cs.size) (hm : n ≤ 9223372036854775807) :
    Row (w.alloc (.cells cs e fr)) (w.heap.size + 1) (.slice (some ⟨g, 0, none⟩) n n) cs.toList := by
  subst hg hn
  refine ⟨by simpa using hm, some ⟨w.heap.size, 0, none⟩, cs.size, by simp, by simp, hm, fun _ => ⟨w.heap.size, 0, rfl, Nat.lt_succ_self _, fun j x hx => ?_⟩⟩
  rw [Nat.zero_add, cell_of_row _ _ j _ _ _ (heap_alloc_new w (.cells cs e fr))]
  simpa using hx
theorem Bytes.new (w : World) (e : TypeId) (cs : Array Value) (fr : Nat × Nat) (g n : Nat) (l : List UInt8) (hg : g = w.heap.size) (hl : cs.toList = u8s l) (hn : n = l.length) (hm : n ≤ 9223372036854775807) :
    Bytes (w.alloc (.cells cs e fr)) (w.heap.size + 1) (.slice (some ⟨g, 0, none⟩) n n) l := by
  unfold Bytes
  rw [← hl]
  exact Row.new w e cs fr g n hg (by rw [hn, ← Array.length_toList, hl, u8s_length]) hm
theorem Bytes.alloc {o : Obj} (h : Bytes w B v l) (hB : B ≤ w.heap.size) : Bytes (w.alloc o) B v l := h.keep fun b o' hb => World.cell?_alloc_lt w o ⟨b, o', none⟩ (by show b < w.heap.size; omega)
theorem Bytes.drewN (h : Bytes w B v l) (k : Nat) : Bytes (w.drewN k) B v l := h
theorem Bytes.drew (h : Bytes w B v l) : Bytes w.drew B v l := h
theorem Parts.new1 (e : TypeId) (g : Nat) (hg : g = w.heap.size) (hB : B ≤ w.heap.size) (h : Bytes w B v l) :
    Parts (w.alloc (.cells #[v] e)) (w.heap.size + 1) (.slice (some ⟨g, 0, none⟩) 1 1) [l] :=
  ⟨[v], Row.new w e #[v] (0, 0) g 1 hg rfl (by omega), rfl, fun i u p hu hp => by
    have hj := (List.getElem?_eq_some_iff.1 hu).1
    have : i = 0 := by simp at hj; omega
    subst this
    simp at hu hp; subst hu hp
    exact (h.alloc hB).more (by omega)⟩
theorem Parts.new2 {v2 : Value} {l2 : List UInt8} (e : TypeId) (g : Nat) (hg : g = w.heap.size) (hB : B ≤ w.heap.size) (h : Bytes w B v l) (h2 : Bytes w B v2 l2) :
    Parts (w.alloc (.cells #[v, v2] e)) (w.heap.size + 1) (.slice (some ⟨g, 0, none⟩) 2 2) [l, l2] :=
  ⟨[v, v2], Row.new w e #[v, v2] (0, 0) g 2 hg rfl (by omega), rfl, fun i u p hu hp => by
    have hj := (List.getElem?_eq_some_iff.1 hu).1
    have : i = 0 ∨ i = 1 := by simp at hj; omega
    rcases this with rfl | rfl
    · simp at hu hp; subst hu hp
      exact (h.alloc hB).more (by omega)
    · simp at hu hp; subst hu hp
      exact (h2.alloc hB).more (by omega)⟩
theorem Bytes.sub {b o n c : Nat} (h : Bytes w B (.slice (some ⟨b, o, none⟩) n c) l) {lo hi m c' : Nat} {l' : List UInt8} (hlo : lo ≤ hi) (hhi : hi ≤ l.length) (hl : l' = (l.take hi).drop lo) (hm : m = hi - lo) (h1 : m ≤ c') (h2 : c' ≤ 9223372036854775807) :
    Bytes w B (.slice (some ⟨b, o + lo, none⟩) m c') l' := by
  subst hl hm
  obtain ⟨_, A, c0, he, _, _, hc⟩ := h
  have hlen : (u8s ((l.take hi).drop lo)).length = hi - lo := by rw [u8s_length, List.length_drop, List.length_take]; omega
  refine ⟨by omega, some ⟨b, o + lo, none⟩, c', by rw [hlen], by omega, h2, fun hne => ?_⟩
  have hpos : 0 < hi - lo := by rw [← hlen]; exact List.length_pos_iff.2 hne
  obtain ⟨b', o', e, hb, hcell⟩ := hc (by intro e; have := u8s_length l; rw [e] at this; simp at this; omega)
  injection he with he1
  rw [e] at he1
  injection he1 with he1
  injection he1 with hb' ho'
  subst hb' ho'
  refine ⟨_, _, rfl, hb, fun j u hu => ?_⟩
  have hj : j < hi - lo := by rw [← hlen]; exact (List.getElem?_eq_some_iff.1 hu).1
  rw [Nat.add_assoc]
  apply hcell
  rw [← hu]
  simp only [u8s, List.getElem?_map, List.getElem?_drop]
  rw [List.getElem?_take_of_lt (by omega)]
theorem Bytes.take {b o n c : Nat} (h : Bytes w B (.slice (some ⟨b, o, none⟩) n c) l) {hi m c' : Nat} {l' : List UInt8} (hhi : hi ≤ l.length) (hl : l' = l.take hi) (hm : m = hi) (h1 : m ≤ c') (h2 : c' ≤ 9223372036854775807) :
    Bytes w B (.slice (some ⟨b, o, none⟩) m c') l' := h.sub (lo := 0) (Nat.zero_le _) hhi (by simpa using hl) (by omega) h1 h2
theorem bcell (hb : Below w.heap.size w w') : (∀ b o, b < w.heap.size → w'.cell? ⟨b, o, none⟩ = w.cell? ⟨b, o, none⟩) ∧ (∀ b o, b < w.heap.size → w'.frozen? ⟨b, o, none⟩ = w.frozen? ⟨b, o, none⟩) :=
  ⟨below_cells hb, fun b o h => hb.frozen (p := ⟨b, o, none⟩) h⟩
end
end Tide

/- Voters and who proposes, as values: what a voter promises and accepts, what who proposes counts; and that in whatever order four of them ask whichever voters, by ballots of their own, all texts that are decided are one. It speaks of no program. -/
namespace Tide

/-- What a voter has of a matter. -/
structure HeldV where
  promised : Int
  accepted : Int
  text : ByteArray
def noneV : HeldV := ⟨-1, -1, ⟨#[]⟩⟩
/-- Prepare: is it promised? -/
def prepYes (h : HeldV) (b : Int) : Bool := decide (h.promised < b)
def prepV (h : HeldV) (b : Int) : HeldV := if prepYes h b then ⟨b, h.accepted, h.text⟩ else h
/-- Accept: is it accepted? -/
def accYes (h : HeldV) (b : Int) : Bool := decide (0 ≤ b) && decide (h.promised ≤ b)
def accV (h : HeldV) (b : Int) (t : ByteArray) : HeldV := if accYes h b then ⟨b, b, t⟩ else h

/-- Who proposes: of how many voters, which text, by which ballot that was told; who has promised, and accepted. -/
structure PropV where
  voters : Nat
  text : ByteArray
  greatest : Int
  prom : Int → Option Bool
  acc : Int → Option Bool
def newV (n : Nat) (t : ByteArray) : PropV := ⟨n, t, -1, fun _ => none, fun _ => none⟩
/-- How many of n voters have said yes. -/
def countV (n : Nat) (g : Int → Option Bool) : Nat := (List.range n).countP fun k : Nat => g (k : Int) == some true
def mostV (n : Nat) (g : Int → Option Bool) : Bool := decide (n / 2 < countV n g)
def awaitsV (n : Nat) (g : Int → Option Bool) (k : Int) : Bool := (g k).isNone && (decide (0 ≤ k) && decide (k < (n : Int)))
def setV {α : Type} (g : Int → Option α) (k : Int) (x : α) : Int → Option α := fun a => if a = k then some x else g a
/-- That ballot and text count: none, or those that are told. -/
def betterV (p : PropV) (yes : Bool) (b : Int) : Bool := yes && (!mostV p.voters p.prom && decide (p.greatest < b))
def promV (p : PropV) (k : Int) (yes : Bool) (b : Int) (t : ByteArray) : PropV :=
  if awaitsV p.voters p.prom k then
    (if betterV p yes b then ⟨p.voters, t, b, setV p.prom k yes, p.acc⟩ else ⟨p.voters, p.text, p.greatest, setV p.prom k yes, p.acc⟩)
  else p
def accpV (p : PropV) (k : Int) (yes : Bool) : PropV :=
  if mostV p.voters p.prom && awaitsV p.voters p.acc k then ⟨p.voters, p.text, p.greatest, p.prom, setV p.acc k yes⟩ else p
def asksV (p : PropV) : Bool := mostV p.voters p.prom
def decV (p : PropV) : Bool := mostV p.voters p.acc

theorem setV_same {α : Type} (g : Int → Option α) (k : Int) (x : α) : setV g k x k = some x := by simp [setV]
theorem setV_other {α : Type} (g : Int → Option α) {k a : Int} (x : α) (h : a ≠ k) : setV g k x a = g a := by simp [setV, h]
theorem countV_none (n : Nat) : countV n (fun _ => none) = 0 := by
  unfold countV
  rw [List.countP_eq_zero]
  intro k _ h
  simp at h
theorem mostV_none (n : Nat) : mostV n (fun _ => none) = false := by
  unfold mostV
  rw [countV_none]
  simp
/-- More than half of n voters. -/
def maj (n : Nat) (Q : Nat → Bool) : Prop := n < 2 * (List.range n).countP Q
theorem maj_most {n : Nat} {g : Int → Option Bool} (h : mostV n g = true) : maj n (fun k => g (k : Int) == some true) := by
  unfold mostV countV at h
  unfold maj
  have := of_decide_eq_true h
  omega
theorem countP_two (Q R : Nat → Bool) : ∀ l : List Nat, (∀ k ∈ l, Q k = true → R k = true → False) → l.countP Q + l.countP R ≤ l.length
  | [], _ => by simp
  | k :: l, h => by
    have := countP_two Q R l (fun j hj => h j (by simp [hj]))
    have h1 := h k (by simp)
    rw [List.countP_cons, List.countP_cons, List.length_cons]
    cases hq : Q k <;> cases hr : R k
    · simp; omega
    · simp; omega
    · simp; omega
    · exact (h1 hq hr).elim
theorem maj_two {n : Nat} {Q R : Nat → Bool} (h : maj n Q) (h' : maj n R) : ∃ k, k < n ∧ Q k = true ∧ R k = true := by
  apply Classical.byContradiction
  intro hn
  have := countP_two Q R (List.range n) (fun k hk hq hr => hn ⟨k, List.mem_range.1 hk, hq, hr⟩)
  rw [List.length_range] at this
  unfold maj at h h'
  omega
/-- A further answer takes no yes away. -/
theorem most_set {n : Nat} {g : Int → Option Bool} {k : Int} (x : Bool) (h : mostV n g = true) (hk : g k = none) : mostV n (setV g k x) = true := by
  unfold mostV at h ⊢
  have h1 : countV n g ≤ countV n (setV g k x) := by
    unfold countV
    refine List.countP_mono_left fun j _ hj => ?_
    by_cases e : (j : Int) = k
    · rw [e, hk] at hj
      simp at hj
    · rw [setV_other g x e]; exact hj
  exact decide_eq_true (by have := of_decide_eq_true h; omega)

/-! ### all texts that are decided are one -/
/-- The texts of four who propose. -/
def txtV (i : Nat) : ByteArray := ⟨#[UInt8.ofNat (97 + i)]⟩
def OkT (t : ByteArray) : Prop := ∃ i, i < 4 ∧ t = txtV i
def upd {α : Type} (f : Nat → α) (i : Nat) (x : α) : Nat → α := fun j => if j = i then x else f j
theorem upd_same {α : Type} (f : Nat → α) (i : Nat) (x : α) : upd f i x i = x := by simp [upd]
theorem upd_other {α : Type} (f : Nat → α) {i j : Nat} (x : α) (h : j ≠ i) : upd f i x j = f j := by simp [upd, h]

/-- What is so behind whatever was asked: E: who has accepted by which ballot; val: for which text each ballot has asked. -/
structure InvG (n : Nat) (V : Nat → HeldV) (S : Nat → PropV) (B : Nat → Nat) (E : Nat → Nat → Prop) (val : Nat → Option ByteArray) : Prop where
  events : ∀ k b, E k b → (∃ t, val b = some t) ∧ (b : Int) ≤ (V k).accepted
  last : ∀ k, ((V k).accepted = -1 ∨ ∃ m : Nat, (V k).accepted = (m : Int) ∧ val m = some (V k).text) ∧ (V k).accepted ≤ (V k).promised
  safe : ∀ b t, val b = some t → ∃ Q, maj n Q ∧ (∀ k, Q k = true → (b : Int) ≤ (V k).promised) ∧
    ((∀ k b', Q k = true → E k b' → b ≤ b') ∨ ∃ m, m < b ∧ val m = some t ∧ ∀ k b', Q k = true → E k b' → b' < b → b' ≤ m)
  okt : ∀ b t, val b = some t → OkT t
  fresh : ∀ i, i < 4 → ∀ b, b % 4 = i → B i < b → val b = none
  mod : ∀ i, i < 4 → B i % 4 = i
  voters : ∀ i, i < 4 → (S i).voters = n
  none : ∀ i, i < 4 → mostV n (S i).prom = false → val (B i) = .none
  prom : ∀ i, i < 4 → ∀ k : Nat, (S i).prom (k : Int) = some true → (B i : Int) ≤ (V k).promised
  pre : ∀ i, i < 4 → mostV n (S i).prom = false → ∀ k b' : Nat, (S i).prom (k : Int) = some true → E k b' → b' < B i → (b' : Int) ≤ (S i).greatest
  great : ∀ i, i < 4 → mostV n (S i).prom = false → ((S i).greatest = -1 ∧ (S i).text = txtV i) ∨ ∃ m : Nat, m < B i ∧ (S i).greatest = (m : Int) ∧ val m = some (S i).text
  post : ∀ i, i < 4 → mostV n (S i).prom = true → val (B i) = some (S i).text
  acc : ∀ i, i < 4 → ∀ k : Nat, (S i).acc (k : Int) = some true → E k (B i)
  late : ∀ i, i < 4 → mostV n (S i).acc = true → mostV n (S i).prom = true
/-- A text is decided. -/
def DecV (n : Nat) (E : Nat → Nat → Prop) (val : Nat → Option ByteArray) (t : ByteArray) : Prop := ∃ b Q, val b = some t ∧ maj n Q ∧ ∀ k, Q k = true → E k b
section
variable {n : Nat} {V : Nat → HeldV} {S : Nat → PropV} {B : Nat → Nat} {E : Nat → Nat → Prop} {val : Nat → Option ByteArray}
theorem InvG.above (h : InvG n V S B E val) {b : Nat} {t : ByteArray} {Q : Nat → Bool} (hv : val b = some t) (hQ : maj n Q) (hE : ∀ k, Q k = true → E k b) : ∀ b' t', b ≤ b' → val b' = some t' → t' = t := by
  intro b'
  induction b' using Nat.strongRecOn with
  | _ b' ih =>
    intro t' hb hv'
    by_cases e : b' = b
    · subst e
      rw [hv] at hv'
      injection hv' with e
      exact e.symm
    · obtain ⟨Q', hQ', _, h2⟩ := h.safe b' t' hv'
      obtain ⟨k, _, hq, hq'⟩ := maj_two hQ hQ'
      rcases h2 with h2 | ⟨m, hm, hvm, h3⟩
      · have := h2 k b hq' (hE k hq)
        omega
      · exact ih m hm t' (h3 k b hq' (hE k hq) (by omega)) hvm
theorem InvG.one (h : InvG n V S B E val) {t t' : ByteArray} (h1 : DecV n E val t) (h2 : DecV n E val t') : t = t' := by
  obtain ⟨b, Q, hv, hQ, hE⟩ := h1
  obtain ⟨b', Q', hv', hQ', hE'⟩ := h2
  rcases Nat.le_total b b' with hb | hb
  · exact (h.above hv hQ hE b' t' hb hv').symm
  · exact h.above hv' hQ' hE' b t hb hv
theorem InvG.decided (h : InvG n V S B E val) {i : Nat} (hi : i < 4) (hd : decV (S i) = true) : DecV n E val (S i).text ∧ OkT (S i).text := by
  unfold decV at hd
  rw [h.voters i hi] at hd
  have hv := h.post i hi (h.late i hi hd)
  exact ⟨⟨B i, _, hv, maj_most hd, fun k hk => h.acc i hi k (by simpa using hk)⟩, h.okt _ _ hv⟩
theorem InvG.begin (h : InvG n V S B E val) {i : Nat} (hi : i < 4) : InvG n V (upd S i (newV n (txtV i))) (upd B i (B i + 4)) E val := by
  have hB := h.fresh i hi (B i + 4) (by have := h.mod i hi; omega) (by omega)
  constructor
  · exact h.events
  · exact h.last
  · exact h.safe
  · exact h.okt
  · intro j hj b hb hlt
    by_cases e : j = i
    · subst e; rw [upd_same] at hlt; exact h.fresh j hj b hb (by omega)
    · rw [upd_other _ _ e] at hlt; exact h.fresh j hj b hb hlt
  · intro j hj
    by_cases e : j = i
    · subst e; rw [upd_same]; have := h.mod j hj; omega
    · rw [upd_other _ _ e]; exact h.mod j hj
  · intro j hj
    by_cases e : j = i
    · subst e; rw [upd_same]; rfl
    · rw [upd_other _ _ e]; exact h.voters j hj
  · intro j hj
    by_cases e : j = i
    · subst e; rw [upd_same, upd_same]; exact fun _ => hB
    · rw [upd_other _ _ e, upd_other _ _ e]; exact h.none j hj
  · intro j hj
    by_cases e : j = i
    · subst e; rw [upd_same, upd_same]; intro k hk; cases hk
    · rw [upd_other _ _ e, upd_other _ _ e]; exact h.prom j hj
  · intro j hj
    by_cases e : j = i
    · subst e; rw [upd_same, upd_same]; intro _ k b' hk; cases hk
    · rw [upd_other _ _ e, upd_other _ _ e]; exact h.pre j hj
  · intro j hj
    by_cases e : j = i
    · subst e; rw [upd_same]; exact fun _ => .inl ⟨rfl, rfl⟩
    · rw [upd_other _ _ e, upd_other _ _ e]; exact h.great j hj
  · intro j hj
    by_cases e : j = i
    · subst e; rw [upd_same]; intro hm; rw [show (newV n (txtV j)).prom = fun _ => Option.none from rfl, mostV_none] at hm; cases hm
    · rw [upd_other _ _ e, upd_other _ _ e]; exact h.post j hj
  · intro j hj
    by_cases e : j = i
    · subst e; rw [upd_same, upd_same]; intro k hk; cases hk
    · rw [upd_other _ _ e, upd_other _ _ e]; exact h.acc j hj
  · intro j hj
    by_cases e : j = i
    · subst e; rw [upd_same]; intro hm; rw [show (newV n (txtV j)).acc = fun _ => Option.none from rfl, mostV_none] at hm; cases hm
    · rw [upd_other _ _ e]; exact h.late j hj
/-- What hangs on the voters goes on where they promise more. -/
theorem InvG.voter (h : InvG n V S B E val) {k : Nat} {x : HeldV} (h1 : x.accepted = (V k).accepted) (h2 : x.text = (V k).text) (h3 : (V k).promised ≤ x.promised) : InvG n (upd V k x) S B E val := by
  have hp : ∀ j, (V j).promised ≤ (upd V k x j).promised := fun j => by
    by_cases e : j = k
    · subst e; rw [upd_same]; exact h3
    · rw [upd_other _ _ e]; exact Int.le_refl _
  have ha : ∀ j, (upd V k x j).accepted = (V j).accepted := fun j => by
    by_cases e : j = k
    · subst e; rw [upd_same]; exact h1
    · rw [upd_other _ _ e]
  have ht : ∀ j, (upd V k x j).text = (V j).text := fun j => by
    by_cases e : j = k
    · subst e; rw [upd_same]; exact h2
    · rw [upd_other _ _ e]
  exact { h with
    events := fun j b hj => by rw [ha]; exact h.events j b hj
    last := fun j => by rw [ha, ht]; exact ⟨(h.last j).1, Int.le_trans (h.last j).2 (hp j)⟩
    safe := fun b t hv => by
      obtain ⟨Q, hQ, hq, hr⟩ := h.safe b t hv
      exact ⟨Q, hQ, fun j hj => Int.le_trans (hq j hj) (hp j), hr⟩
    prom := fun i hi j hj => Int.le_trans (h.prom i hi j hj) (hp j) }
theorem InvG.prepare (h : InvG n V S B E val) {i k : Nat} (hi : i < 4) : ∃ val', InvG n (upd V k (prepV (V k) (B i))) (upd S i (promV (S i) k (prepYes (V k) (B i)) (V k).accepted (V k).text)) B E val' ∧ ∀ b t, val b = some t → val' b = some t := by
  have hn := h.voters i hi
  obtain ⟨yes, hyes⟩ : ∃ y, prepYes (V k) (B i) = y := ⟨_, rfl⟩
  have hV : InvG n (upd V k (prepV (V k) (B i))) S B E val := by
    refine h.voter ?_ ?_ ?_
    · unfold prepV; split <;> rfl
    · unfold prepV; split <;> rfl
    · unfold prepV
      split
      · rename_i hy; unfold prepYes at hy; have := of_decide_eq_true hy; simp; omega
      · exact Int.le_refl _
  rw [hyes]
  by_cases hw : awaitsV (S i).voters (S i).prom k = true
  rotate_left
  · refine ⟨val, ?_, fun _ _ h => h⟩
    have : promV (S i) k yes (V k).accepted (V k).text = S i := by unfold promV; rw [if_neg hw]
    rw [this]
    have : upd S i (S i) = S := by funext j; unfold upd; split <;> simp_all
    rw [this]
    exact hV
  obtain ⟨P, hP⟩ : ∃ P, promV (S i) k yes (V k).accepted (V k).text = P := ⟨_, rfl⟩
  rw [hP]
  have hk : (S i).prom (k : Int) = Option.none := by
    unfold awaitsV at hw
    simp at hw
    exact hw.1
  have hPv : P.voters = n := by rw [← hP]; unfold promV; rw [if_pos hw]; split <;> exact hn
  have hPa : P.acc = (S i).acc := by rw [← hP]; unfold promV; rw [if_pos hw]; split <;> rfl
  have hPp : P.prom = setV (S i).prom k yes := by rw [← hP]; unfold promV; rw [if_pos hw]; split <;> rfl
  have hV1 : ∀ y : Nat, P.prom (y : Int) = some true → (B i : Int) ≤ (upd V k (prepV (V k) (B i)) y).promised := fun y hy => by
    rw [hPp] at hy
    by_cases e : y = k
    · subst e
      rw [setV_same] at hy
      injection hy with hy
      rw [upd_same]
      unfold prepV
      rw [hyes, if_pos hy]
      exact Int.le_refl _
    · rw [setV_other _ _ (by omega)] at hy
      exact hV.prom i hi y hy
  by_cases hm : mostV n (S i).prom = true
  · have hP2 : P.text = (S i).text := by
      rw [← hP]; unfold promV betterV; rw [if_pos hw, hn, hm]; simp
    have hm2 : mostV n P.prom = true := by rw [hPp]; exact most_set yes hm hk
    refine ⟨val, ?_, fun _ _ h => h⟩
    constructor
    · exact hV.events
    · exact hV.last
    · exact hV.safe
    · exact hV.okt
    · exact hV.fresh
    · exact hV.mod
    · intro j hj
      by_cases e : j = i
      · subst e; rw [upd_same]; exact hPv
      · rw [upd_other _ _ e]; exact hV.voters j hj
    · intro j hj
      by_cases e : j = i
      · subst e; rw [upd_same, hm2]; intro h; cases h
      · rw [upd_other _ _ e]; exact hV.none j hj
    · intro j hj
      by_cases e : j = i
      · subst e; rw [upd_same]; exact hV1
      · rw [upd_other _ _ e]; exact hV.prom j hj
    · intro j hj
      by_cases e : j = i
      · subst e; rw [upd_same, hm2]; intro h; cases h
      · rw [upd_other _ _ e]; exact hV.pre j hj
    · intro j hj
      by_cases e : j = i
      · subst e; rw [upd_same, hm2]; intro h; cases h
      · rw [upd_other _ _ e]; exact hV.great j hj
    · intro j hj
      by_cases e : j = i
      · subst e; rw [upd_same, hP2]; intro _; exact hV.post j hj hm
      · rw [upd_other _ _ e]; exact hV.post j hj
    · intro j hj
      by_cases e : j = i
      · subst e; rw [upd_same, hPa]; exact hV.acc j hj
      · rw [upd_other _ _ e]; exact hV.acc j hj
    · intro j hj
      by_cases e : j = i
      · subst e; rw [upd_same]; exact fun _ => hm2
      · rw [upd_other _ _ e]; exact hV.late j hj
  have hm : mostV n (S i).prom = false := by simpa using hm
  have hg0 : (S i).greatest ≤ P.greatest := by
    rw [← hP]; unfold promV betterV; rw [if_pos hw]
    split
    · rename_i hb; simp at hb; exact Int.le_of_lt hb.2.2
    · exact Int.le_refl _
  have hlow : (S i).greatest ≥ -1 := by
    rcases h.great i hi hm with h1 | ⟨m, _, h1, _⟩
    · omega
    · omega
  have hg : (P.greatest = -1 ∧ P.text = txtV i) ∨ ∃ m : Nat, m < B i ∧ P.greatest = (m : Int) ∧ val m = some P.text := by
    rw [← hP]; unfold promV betterV; rw [if_pos hw]
    split
    · rename_i hb
      simp at hb
      right
      rcases (h.last k).1 with h1 | ⟨m, h1, h2⟩
      · omega
      · refine ⟨m, ?_, h1, h2⟩
        have h3 := (h.last k).2
        have h4 : (V k).promised < (B i : Int) := by
          have := hyes; rw [hb.1] at this; unfold prepYes at this; exact of_decide_eq_true this
        omega
    · exact h.great i hi hm
  have hgk : yes = true → (V k).accepted ≤ P.greatest := fun hy => by
    rw [← hP]; unfold promV betterV; rw [if_pos hw, hn, hm, hy]
    split
    · exact Int.le_refl _
    · rename_i hb; simp at hb; exact hb
  have hpre : ∀ j b' : Nat, P.prom (j : Int) = some true → E j b' → b' < B i → (b' : Int) ≤ P.greatest := fun j b' hj hE hb => by
    rw [hPp] at hj
    by_cases e : j = k
    · subst e
      rw [setV_same] at hj
      injection hj with hj
      exact Int.le_trans (h.events _ _ hE).2 (hgk hj)
    · rw [setV_other _ _ (by omega)] at hj
      exact Int.le_trans (h.pre i hi hm j b' hj hE hb) hg0
  have hlate : mostV n (S i).acc = false := by
    cases e : mostV n (S i).acc with
    | false => rfl
    | true => have := h.late i hi e; rw [hm] at this; cases this
  by_cases hm2 : mostV n P.prom = true
  rotate_left
  · have hm2 : mostV n P.prom = false := by simpa using hm2
    refine ⟨val, ?_, fun _ _ h => h⟩
    constructor
    · exact hV.events
    · exact hV.last
    · exact hV.safe
    · exact hV.okt
    · exact hV.fresh
    · exact hV.mod
    · intro j hj
      by_cases e : j = i
      · subst e; rw [upd_same]; exact hPv
      · rw [upd_other _ _ e]; exact hV.voters j hj
    · intro j hj
      by_cases e : j = i
      · subst e; intro _; exact hV.none j hj hm
      · rw [upd_other _ _ e]; exact hV.none j hj
    · intro j hj
      by_cases e : j = i
      · subst e; rw [upd_same]; exact hV1
      · rw [upd_other _ _ e]; exact hV.prom j hj
    · intro j hj
      by_cases e : j = i
      · subst e; rw [upd_same]; exact fun _ => hpre
      · rw [upd_other _ _ e]; exact hV.pre j hj
    · intro j hj
      by_cases e : j = i
      · subst e; rw [upd_same]; exact fun _ => hg
      · rw [upd_other _ _ e]; exact hV.great j hj
    · intro j hj
      by_cases e : j = i
      · subst e; rw [upd_same, hm2]; intro h; cases h
      · rw [upd_other _ _ e]; exact hV.post j hj
    · intro j hj
      by_cases e : j = i
      · subst e; rw [upd_same, hPa]; exact hV.acc j hj
      · rw [upd_other _ _ e]; exact hV.acc j hj
    · intro j hj
      by_cases e : j = i
      · subst e; rw [upd_same, hPa, hlate]; intro h; cases h
      · rw [upd_other _ _ e]; exact hV.late j hj
  have hnone := h.none i hi hm
  have hle : ∀ b t, val b = some t → upd val (B i) (some P.text) b = some t := fun b t hv => by
    rw [upd_other _ _ (fun e => by rw [e, hnone] at hv; cases hv)]; exact hv
  have hok : OkT P.text := by
    rcases hg with ⟨_, h1⟩ | ⟨m, _, _, h1⟩
    · exact ⟨i, hi, h1⟩
    · exact h.okt _ _ h1
  refine ⟨upd val (B i) (some P.text), ?_, hle⟩
  constructor
  · intro j b hj
    obtain ⟨⟨t, ht⟩, h2⟩ := hV.events j b hj
    exact ⟨⟨t, hle _ _ ht⟩, h2⟩
  · intro j
    refine ⟨(hV.last j).1.imp id ?_, (hV.last j).2⟩
    rintro ⟨m, h1, h2⟩
    exact ⟨m, h1, hle _ _ h2⟩
  · intro b t hv
    by_cases e : b = B i
    · subst e
      rw [upd_same] at hv
      injection hv with hv
      subst hv
      refine ⟨_, maj_most hm2, fun j hj => hV1 j (by simpa using hj), ?_⟩
      rcases hg with ⟨h1, _⟩ | ⟨m, h1, h2, h3⟩
      · refine .inl fun j b' hj hE => ?_
        rcases Nat.lt_or_ge b' (B i) with hlt | hge
        · have := hpre j b' (by simpa using hj) hE hlt
          omega
        · exact hge
      · exact .inr ⟨m, h1, hle _ _ h3, fun j b' hj hE hb => by
          have := hpre j b' (by simpa using hj) hE hb
          omega⟩
    · rw [upd_other _ _ e] at hv
      obtain ⟨Q, h1, h2, h3⟩ := hV.safe b t hv
      refine ⟨Q, h1, h2, h3.imp id ?_⟩
      rintro ⟨m, h4, h5, h6⟩
      exact ⟨m, h4, hle _ _ h5, h6⟩
  · intro b t hv
    by_cases e : b = B i
    · subst e
      rw [upd_same] at hv
      injection hv with hv
      subst hv
      exact hok
    · rw [upd_other _ _ e] at hv
      exact h.okt b t hv
  · intro j hj b hb hlt
    have : b ≠ B i := fun e => by
      have h1 := h.mod i hi
      have h2 : j = i := by rw [← hb, e, h1]
      subst h2
      omega
    rw [upd_other _ _ this]
    exact h.fresh j hj b hb hlt
  · exact hV.mod
  · intro j hj
    by_cases e : j = i
    · subst e; rw [upd_same]; exact hPv
    · rw [upd_other _ _ e]; exact hV.voters j hj
  · intro j hj
    by_cases e : j = i
    · subst e; rw [upd_same, hm2]; intro h; cases h
    · rw [upd_other _ _ e]
      intro hmj
      rw [upd_other _ _ (fun hb => e (by rw [← h.mod j hj, hb, h.mod i hi]))]
      exact hV.none j hj hmj
  · intro j hj
    by_cases e : j = i
    · subst e; rw [upd_same]; exact hV1
    · rw [upd_other _ _ e]; exact hV.prom j hj
  · intro j hj
    by_cases e : j = i
    · subst e; rw [upd_same, hm2]; intro h; cases h
    · rw [upd_other _ _ e]; exact hV.pre j hj
  · intro j hj
    by_cases e : j = i
    · subst e; rw [upd_same, hm2]; intro h; cases h
    · rw [upd_other _ _ e]
      intro hmj
      refine (hV.great j hj hmj).imp id ?_
      rintro ⟨m, h1, h2, h3⟩
      exact ⟨m, h1, h2, hle _ _ h3⟩
  · intro j hj
    by_cases e : j = i
    · subst e; rw [upd_same, upd_same]; exact fun _ => rfl
    · rw [upd_other S _ e]
      intro hmj
      exact hle _ _ (hV.post j hj hmj)
  · intro j hj
    by_cases e : j = i
    · subst e; rw [upd_same, hPa]; exact hV.acc j hj
    · rw [upd_other _ _ e]; exact hV.acc j hj
  · intro j hj
    by_cases e : j = i
    · subst e; rw [upd_same]; exact fun _ => hm2
    · rw [upd_other _ _ e]; exact hV.late j hj
theorem InvG.accept (h : InvG n V S B E val) {i k : Nat} (hi : i < 4) (ha : asksV (S i) = true) : ∃ E', InvG n (upd V k (accV (V k) (B i) (S i).text)) (upd S i (accpV (S i) k (accYes (V k) (B i)))) B E' val ∧ ∀ j b, E j b → E' j b := by
  have hn := h.voters i hi
  unfold asksV at ha
  rw [hn] at ha
  have hpost := h.post i hi ha
  obtain ⟨yes, hyes⟩ : ∃ y, accYes (V k) (B i) = y := ⟨_, rfl⟩
  rw [hyes]
  obtain ⟨P, hP⟩ : ∃ P, accpV (S i) k yes = P := ⟨_, rfl⟩
  rw [hP]
  have hPv : P.voters = n := by rw [← hP]; unfold accpV; split <;> exact hn
  have hPp : P.prom = (S i).prom := by rw [← hP]; unfold accpV; split <;> rfl
  have hPt : P.text = (S i).text := by rw [← hP]; unfold accpV; split <;> rfl
  have hPg : P.greatest = (S i).greatest := by rw [← hP]; unfold accpV; split <;> rfl
  have hPa : ∀ j : Nat, P.acc (j : Int) = some true → (S i).acc (j : Int) = some true ∨ (j = k ∧ yes = true) := fun j hj => by
    rw [← hP] at hj
    unfold accpV at hj
    split at hj
    · by_cases e : j = k
      · subst e
        right
        have : setV (S i).acc (j : Int) yes (j : Int) = some true := hj
        rw [setV_same] at this
        injection this with this
        exact ⟨rfl, this⟩
      · left
        have : setV (S i).acc (k : Int) yes (j : Int) = some true := hj
        rw [setV_other _ _ (by omega)] at this
        exact this
    · exact .inl hj
  -- whoever proposes else, and what was asked, stay
  have hS : ∀ (V' : Nat → HeldV) (E' : Nat → Nat → Prop), InvG n V' S B E' val → (yes = true → E' k (B i)) → InvG n V' (upd S i P) B E' val := fun V' E' hV hE => by
    constructor
    · exact hV.events
    · exact hV.last
    · exact hV.safe
    · exact hV.okt
    · exact hV.fresh
    · exact hV.mod
    · intro j hj
      by_cases e : j = i
      · subst e; rw [upd_same]; exact hPv
      · rw [upd_other _ _ e]; exact hV.voters j hj
    · intro j hj
      by_cases e : j = i
      · subst e; rw [upd_same, hPp]; exact hV.none j hj
      · rw [upd_other _ _ e]; exact hV.none j hj
    · intro j hj
      by_cases e : j = i
      · subst e; rw [upd_same, hPp]; exact hV.prom j hj
      · rw [upd_other _ _ e]; exact hV.prom j hj
    · intro j hj
      by_cases e : j = i
      · subst e; rw [upd_same, hPp, hPg]; exact hV.pre j hj
      · rw [upd_other _ _ e]; exact hV.pre j hj
    · intro j hj
      by_cases e : j = i
      · subst e; rw [upd_same, hPp, hPg, hPt]; exact hV.great j hj
      · rw [upd_other _ _ e]; exact hV.great j hj
    · intro j hj
      by_cases e : j = i
      · subst e; rw [upd_same, hPp, hPt]; exact hV.post j hj
      · rw [upd_other _ _ e]; exact hV.post j hj
    · intro j hj
      by_cases e : j = i
      · subst e
        rw [upd_same]
        intro y hy
        rcases hPa y hy with h1 | ⟨rfl, h1⟩
        · exact hV.acc j hj y h1
        · exact hE h1
      · rw [upd_other _ _ e]; exact hV.acc j hj
    · intro j hj
      by_cases e : j = i
      · subst e; rw [upd_same, hPp]; exact fun _ => ha
      · rw [upd_other _ _ e]; exact hV.late j hj
  cases hy : yes with
  | false =>
    rw [hy] at hyes
    refine ⟨E, hS _ _ ?_ (fun h => by rw [hy] at h; cases h), fun _ _ h => h⟩
    have : accV (V k) (B i) (S i).text = V k := by unfold accV; rw [hyes]; rfl
    rw [this]
    have : upd V k (V k) = V := by funext j; unfold upd; split <;> simp_all
    rw [this]
    exact h
  | true =>
    rw [hy] at hyes
    have hV : accV (V k) (B i) (S i).text = ⟨B i, B i, (S i).text⟩ := by unfold accV; rw [hyes]; rfl
    have hle : (V k).promised ≤ (B i : Int) := by
      unfold accYes at hyes; simp at hyes; exact hyes
    have hla := (h.last k).2
    rw [hV]
    have hp : ∀ j, (V j).promised ≤ (upd V k ⟨B i, B i, (S i).text⟩ j).promised := fun j => by
      by_cases e : j = k
      · subst e; rw [upd_same]; exact hle
      · rw [upd_other _ _ e]; exact Int.le_refl _
    refine ⟨fun j b => E j b ∨ (j = k ∧ b = B i), hS _ _ ?_ (fun _ => .inr ⟨rfl, rfl⟩), fun _ _ h => .inl h⟩
    exact { h with
      events := fun j b hj => by
        rcases hj with hj | ⟨rfl, rfl⟩
        · obtain ⟨h1, h2⟩ := h.events j b hj
          refine ⟨h1, ?_⟩
          by_cases e : j = k
          · subst e; rw [upd_same]; simp; omega
          · rw [upd_other _ _ e]; exact h2
        · rw [upd_same]; exact ⟨⟨_, hpost⟩, Int.le_refl _⟩
      last := fun j => by
        by_cases e : j = k
        · subst e; rw [upd_same]; exact ⟨.inr ⟨B i, rfl, hpost⟩, Int.le_refl _⟩
        · rw [upd_other _ _ e]; exact h.last j
      safe := fun b t hv => by
        obtain ⟨Q, h1, h2, h3⟩ := h.safe b t hv
        refine ⟨Q, h1, fun j hj => Int.le_trans (h2 j hj) (hp j), ?_⟩
        rcases h3 with h3 | ⟨m, h4, h5, h6⟩
        · refine .inl fun j b' hj hE => ?_
          rcases hE with hE | ⟨rfl, rfl⟩
          · exact h3 j b' hj hE
          · have := h2 j hj; omega
        · refine .inr ⟨m, h4, h5, fun j b' hj hE hb => ?_⟩
          rcases hE with hE | ⟨rfl, rfl⟩
          · exact h6 j b' hj hE hb
          · have := h2 j hj; omega
      prom := fun j hj y hy => Int.le_trans (h.prom j hj y hy) (hp y)
      pre := fun j hj hm y b' hy hE hb => by
        rcases hE with hE | ⟨rfl, rfl⟩
        · exact h.pre j hj hm y b' hy hE hb
        · have := h.prom j hj y hy; omega
      acc := fun j hj y hy => .inl (h.acc j hj y hy) }
end
/-- Both together, and what was decided ahead: nothing, or the text. -/
def InvV (n : Nat) (V : Nat → HeldV) (S : Nat → PropV) (B : Nat → Nat) (dec : ByteArray) : Prop :=
  ∃ E val, InvG n V S B E val ∧ (dec = ⟨#[]⟩ ∨ DecV n E val dec)
section
variable {n : Nat} {V : Nat → HeldV} {S : Nat → PropV} {B : Nat → Nat} {dec : ByteArray}
theorem InvV.start (n : Nat) : InvV n (fun _ => noneV) (fun i => newV n (txtV i)) (fun i => i) ⟨#[]⟩ := by
  refine ⟨fun _ _ => False, fun _ => none, ?_, .inl rfl⟩
  constructor
  · intro _ _ h; exact h.elim
  · intro _; exact ⟨.inl rfl, Int.le_refl _⟩
  · intro _ _ h; cases h
  · intro _ _ h; cases h
  · intro _ _ _ _ _; rfl
  · intro i hi; exact Nat.mod_eq_of_lt hi
  · intro _ _; rfl
  · intro _ _ _; rfl
  · intro _ _ _ h; cases h
  · intro _ _ _ _ _ h; cases h
  · intro _ _ _; exact .inl ⟨rfl, rfl⟩
  · intro i _ hm; rw [show (newV n (txtV i)).prom = fun _ => none from rfl, mostV_none] at hm; cases hm
  · intro _ _ _ h; cases h
  · intro i _ hm; rw [show (newV n (txtV i)).acc = fun _ => none from rfl, mostV_none] at hm; cases hm
theorem InvV.begin (h : InvV n V S B dec) {i : Nat} (hi : i < 4) : InvV n V (upd S i (newV n (txtV i))) (upd B i (B i + 4)) dec := by
  obtain ⟨E, val, h1, h2⟩ := h
  exact ⟨E, val, h1.begin hi, h2⟩
theorem InvV.prepare (h : InvV n V S B dec) {i : Nat} (k : Nat) (hi : i < 4) : InvV n (upd V k (prepV (V k) (B i))) (upd S i (promV (S i) k (prepYes (V k) (B i)) (V k).accepted (V k).text)) B dec := by
  obtain ⟨E, val, h1, h2⟩ := h
  obtain ⟨val', h3, h4⟩ := h1.prepare (k := k) hi
  refine ⟨E, val', h3, h2.imp id ?_⟩
  rintro ⟨b, Q, hv, hQ, hE⟩
  exact ⟨b, Q, h4 _ _ hv, hQ, hE⟩
theorem InvV.accept (h : InvV n V S B dec) {i : Nat} (k : Nat) (hi : i < 4) (ha : asksV (S i) = true) : InvV n (upd V k (accV (V k) (B i) (S i).text)) (upd S i (accpV (S i) k (accYes (V k) (B i)))) B dec := by
  obtain ⟨E, val, h1, h2⟩ := h
  obtain ⟨E', h3, h4⟩ := h1.accept (k := k) hi ha
  refine ⟨E', val, h3, h2.imp id ?_⟩
  rintro ⟨b, Q, hv, hQ, hE⟩
  exact ⟨b, Q, hv, hQ, fun k hk => h4 _ _ (hE k hk)⟩
theorem InvV.decided (h : InvV n V S B dec) {i : Nat} (hi : i < 4) (hd : decV (S i) = true) : (dec = ⟨#[]⟩ ∨ (S i).text = dec) ∧ OkT (S i).text ∧ InvV n V S B (S i).text := by
  obtain ⟨E, val, h1, h2⟩ := h
  obtain ⟨h3, h4⟩ := h1.decided hi hd
  refine ⟨h2.imp id (fun h2 => h1.one h3 h2), h4, E, val, h1, .inr h3⟩
end
end Tide

/- A book's voters as values: voters with many matters, who are asked one by one to prepare and to accept. What is accepted was proposed for its matter; and by a first ballot what is proposed is decided where more than half are asked, and nothing where they aren't. It speaks of no program. -/
namespace Tide

/-- All voters' matters: voter, matter. -/
abbrev BookV := Nat → Int → HeldV
def setB (V : BookV) (k : Nat) (e : Int) (h : HeldV) : BookV := fun j m => if j = k ∧ m = e then h else V j m
theorem setB_same (V : BookV) (k : Nat) (e : Int) (h : HeldV) : setB V k e h k e = h := by simp [setB]
theorem setB_other (V : BookV) {k j : Nat} {e m : Int} (h : HeldV) (hn : ¬ (j = k ∧ m = e)) : setB V k e h j m = V j m := by simp [setB, hn]
/-- A voter is asked to prepare, and the answer told. -/
def prepB (e b : Int) (s : BookV × PropV) (k : Nat) : BookV × PropV :=
  (setB s.1 k e (prepV (s.1 k e) b), promV s.2 k (prepYes (s.1 k e) b) (s.1 k e).accepted (s.1 k e).text)
/-- A voter is asked to accept, and the answer told. -/
def accB (e b : Int) (s : BookV × PropV) (k : Nat) : BookV × PropV :=
  (setB s.1 k e (accV (s.1 k e) b s.2.text), accpV s.2 k (accYes (s.1 k e) b))
/-- All that are asked prepare, then accept if something is asked. -/
def askB (n : Nat) (t : ByteArray) (e b : Int) (V : BookV) (ups : List Nat) : BookV × PropV :=
  let s := ups.foldl (prepB e b) (V, newV n t)
  if asksV s.2 then ups.foldl (accB e b) s else s

/-- What is accepted is one of T. -/
def InvB (T : Int → ByteArray → Prop) (V : BookV) : Prop := ∀ k e, 0 ≤ (V k e).accepted → T e (V k e).text
def TxtB (Q : ByteArray → Prop) (p : PropV) : Prop := -1 ≤ p.greatest ∧ Q p.text
theorem InvB.start (T : Int → ByteArray → Prop) : InvB T (fun _ _ => noneV) := fun _ _ h => by simp [noneV] at h
theorem InvB.more {T T' : Int → ByteArray → Prop} {V : BookV} (h : InvB T V) (hT : ∀ e t, T e t → T' e t) : InvB T' V := fun k e h0 => hT _ _ (h k e h0)
theorem TxtB.prom {Q : ByteArray → Prop} {p : PropV} (h : TxtB Q p) (k : Int) (yes : Bool) (b : Int) (t : ByteArray) (ht : 0 ≤ b → Q t) : TxtB Q (promV p k yes b t) := by
  unfold promV
  split
  · split
    · next hb =>
      have h1 : p.greatest < b := by
        unfold betterV at hb
        simp only [Bool.and_eq_true, decide_eq_true_eq] at hb
        exact hb.2.2
      have := h.1
      exact ⟨by simp only; omega, ht (by omega)⟩
    · exact h
  · exact h
theorem accp_text (p : PropV) (k : Int) (yes : Bool) : (accpV p k yes).text = p.text := by unfold accpV; split <;> rfl
theorem InvB.prep {T : Int → ByteArray → Prop} {s : BookV × PropV} {e : Int} (b : Int) (k : Nat) (h : InvB T s.1) (ht : TxtB (T e) s.2) : InvB T (prepB e b s k).1 ∧ TxtB (T e) (prepB e b s k).2 := by
  refine ⟨fun j m h0 => ?_, ht.prom _ _ _ _ (h k e)⟩
  by_cases hj : j = k ∧ m = e
  · obtain ⟨rfl, rfl⟩ := hj
    simp only [prepB, setB_same] at h0 ⊢
    unfold prepV at h0 ⊢
    split at h0
    · next hp => rw [if_pos hp]; exact h j m h0
    · next hp => rw [if_neg hp]; exact h j m h0
  · simp only [prepB, setB_other _ _ hj] at h0 ⊢
    exact h j m h0
theorem InvB.acc {T : Int → ByteArray → Prop} {s : BookV × PropV} {e : Int} (b : Int) (k : Nat) (h : InvB T s.1) (ht : T e s.2.text) : InvB T (accB e b s k).1 ∧ T e (accB e b s k).2.text := by
  refine ⟨fun j m h0 => ?_, by simp only [accB, accp_text]; exact ht⟩
  by_cases hj : j = k ∧ m = e
  · obtain ⟨rfl, rfl⟩ := hj
    simp only [accB, setB_same] at h0 ⊢
    unfold accV at h0 ⊢
    split at h0
    · next hp => rw [if_pos hp]; exact ht
    · next hp => rw [if_neg hp]; exact h j m h0
  · simp only [accB, setB_other _ _ hj] at h0 ⊢
    exact h j m h0
theorem InvB.prepAll {T : Int → ByteArray → Prop} {e : Int} (b : Int) : ∀ (ups : List Nat) (s : BookV × PropV), InvB T s.1 → TxtB (T e) s.2 → InvB T (ups.foldl (prepB e b) s).1 ∧ TxtB (T e) (ups.foldl (prepB e b) s).2
  | [], _, h, ht => ⟨h, ht⟩
  | k :: ups, s, h, ht => by
    obtain ⟨h1, h2⟩ := h.prep b k ht
    exact InvB.prepAll b ups (prepB e b s k) h1 h2
theorem InvB.accAll {T : Int → ByteArray → Prop} {e : Int} (b : Int) : ∀ (ups : List Nat) (s : BookV × PropV), InvB T s.1 → T e s.2.text → InvB T (ups.foldl (accB e b) s).1 ∧ T e (ups.foldl (accB e b) s).2.text
  | [], _, h, ht => ⟨h, ht⟩
  | k :: ups, s, h, ht => by
    obtain ⟨h1, h2⟩ := h.acc b k ht
    exact InvB.accAll b ups (accB e b s k) h1 h2
/-- Whatever is decided was proposed for its matter. -/
theorem InvB.ask {T : Int → ByteArray → Prop} {V : BookV} (n : Nat) (t : ByteArray) (e b : Int) (ups : List Nat) (h : InvB T V) (ht : T e t) : InvB T (askB n t e b V ups).1 ∧ T e (askB n t e b V ups).2.text := by
  obtain ⟨h1, h2⟩ := InvB.prepAll (e := e) b ups (V, newV n t) h ⟨by simp [newV], ht⟩
  unfold askB
  simp only
  split
  · exact InvB.accAll b ups _ h1 h2.2
  · exact ⟨h1, h2.2⟩

theorem count_put {g : Int → Option Bool} {k : Nat} (h : g (k : Int) = none) : ∀ n, countV n (setV g k true) = countV n g + if k < n then 1 else 0
  | 0 => by simp [countV]
  | n + 1 => by
    have ih := count_put h n
    have e : ∀ f : Int → Option Bool, countV (n + 1) f = countV n f + if f (n : Int) == some true then 1 else 0 := by
      intro f
      unfold countV
      rw [List.range_succ, List.countP_append, List.countP_singleton]
    rw [e, e, ih]
    by_cases hk : k = n
    · subst hk
      rw [setV_same, h]
      simp
    · rw [setV_other _ _ (show (n : Int) ≠ (k : Int) by omega)]
      by_cases h2 : k < n
      · have h3 : k < n + 1 := by omega
        simp only [h2, h3, if_true]; omega
      · have h3 : ¬ k < n + 1 := by omega
        simp only [h2, h3, if_false]; omega
/-- Who has said yes, and nobody else has been asked. -/
def yesV (l : List Nat) : Int → Option Bool := fun a => if ∃ k ∈ l, (k : Int) = a then some true else none
theorem yes_nil : yesV [] = fun _ => none := by funext a; simp [yesV]
theorem yes_none {l : List Nat} {k : Nat} (h : k ∉ l) : yesV l (k : Int) = none := by
  unfold yesV
  rw [if_neg]
  rintro ⟨j, hj, e⟩
  obtain rfl : j = k := by omega
  exact h hj
theorem yes_set (l : List Nat) (k : Nat) : setV (yesV l) k true = yesV (l ++ [k]) := by
  funext a
  unfold setV yesV
  by_cases h : a = (k : Int)
  · subst h
    rw [if_pos rfl, if_pos ⟨k, by simp, rfl⟩]
  · rw [if_neg h]
    by_cases h2 : ∃ j ∈ l, (j : Int) = a
    · rw [if_pos h2, if_pos]
      obtain ⟨j, hj, e⟩ := h2
      exact ⟨j, by simp [hj], e⟩
    · rw [if_neg h2, if_neg]
      rintro ⟨j, hj, e⟩
      rcases List.mem_append.1 hj with hj | hj
      · exact h2 ⟨j, hj, e⟩
      · obtain rfl : j = k := by simpa using hj
        exact h e.symm
theorem count_none (n : Nat) (l : List Nat) (h : l = []) : countV n (yesV l) = 0 := by subst h; rw [yes_nil]; exact countV_none n
theorem count_yes (n : Nat) : ∀ (m l : List Nat), (l ++ m).Nodup → (∀ k ∈ l ++ m, k < n) → countV n (yesV l) = l.length → countV n (yesV (l ++ m)) = (l ++ m).length
  | [], l, _, _, h => by simpa using h
  | k :: m, l, hd, hn, h => by
    have e : l ++ k :: m = (l ++ [k]) ++ m := by simp
    rw [e] at hd hn ⊢
    refine count_yes n m (l ++ [k]) hd hn ?_
    have hk : k ∉ l := by
      intro hm
      rw [List.append_assoc, List.nodup_append] at hd
      exact hd.2.2 k hm k (by simp) rfl
    rw [← yes_set, count_put (yes_none hk), if_pos (hn k (by simp)), h]
    simp
theorem most_yes {n : Nat} {l : List Nat} (hd : l.Nodup) (hn : ∀ k ∈ l, k < n) : mostV n (yesV l) = decide (n < 2 * l.length) := by
  have h := count_yes n l [] (by simpa using hd) (by simpa using hn) (count_none n [] rfl)
  rw [List.nil_append] at h
  unfold mostV
  rw [h]
  simp only [decide_eq_decide]
  omega
theorem awaits_yes {n : Nat} {l : List Nat} {k : Nat} (hk : k ∉ l) (hn : k < n) : awaitsV n (yesV l) k = true := by
  unfold awaitsV
  rw [yes_none hk]
  simp
  omega
/-- Fresh voters asked to prepare: all say yes, and none tells a text. -/
theorem fresh_prep (n : Nat) (t : ByteArray) (e b : Int) (hb : 0 ≤ b) : ∀ (m l : List Nat) (V : BookV), (l ++ m).Nodup → (∀ k ∈ l ++ m, k < n) → (∀ k ∈ l, V k e = ⟨b, -1, ⟨#[]⟩⟩) → (∀ k ∈ m, V k e = noneV) →
    ∃ V', m.foldl (prepB e b) (V, ⟨n, t, -1, yesV l, fun _ => none⟩) = (V', ⟨n, t, -1, yesV (l ++ m), fun _ => none⟩) ∧ ∀ k ∈ l ++ m, V' k e = ⟨b, -1, ⟨#[]⟩⟩
  | [], l, V, _, _, h1, _ => ⟨V, by simp, by simpa using h1⟩
  | k :: m, l, V, hd, hn, h1, h2 => by
    have eq : l ++ k :: m = (l ++ [k]) ++ m := by simp
    have hkl : k ∉ l := by
      intro hm
      rw [List.nodup_append] at hd
      exact hd.2.2 k hm k (by simp) rfl
    have hkm : k ∉ m := by
      rw [List.nodup_append] at hd
      exact (List.nodup_cons.1 hd.2.1).1
    have hk := h2 k (by simp)
    have hy : prepYes noneV b = true := by unfold prepYes noneV; simp; omega
    have hs : prepB e b (V, ⟨n, t, -1, yesV l, fun _ => none⟩) k = (setB V k e ⟨b, -1, ⟨#[]⟩⟩, ⟨n, t, -1, yesV (l ++ [k]), fun _ => none⟩) := by
      unfold prepB
      simp only [hk]
      unfold prepV promV
      simp only [hy, if_true]
      rw [if_pos (awaits_yes hkl (hn k (by simp)))]
      unfold betterV
      simp only [noneV, Int.lt_irrefl, decide_false, Bool.and_false, Bool.false_eq_true, if_false, yes_set]
    rw [List.foldl_cons, hs]
    rw [eq] at hd hn ⊢
    refine fresh_prep n t e b hb m (l ++ [k]) _ hd hn (fun j hj => ?_) (fun j hj => ?_)
    · rcases List.mem_append.1 hj with hl | hl
      · rw [setB_other _ _ (by rintro ⟨rfl, _⟩; exact hkl hl)]; exact h1 j hl
      · obtain rfl : j = k := by simpa using hl
        rw [setB_same]
    · rw [setB_other _ _ (by rintro ⟨rfl, _⟩; exact hkm hj)]
      exact h2 j (by simp [hj])
/-- Voters that have promised a ballot accept by it. -/
theorem fresh_acc (n : Nat) (t : ByteArray) (e b : Int) (hb : 0 ≤ b) (g : Int → Option Bool) (hg : mostV n g = true) : ∀ (m l : List Nat) (V : BookV), (l ++ m).Nodup → (∀ k ∈ l ++ m, k < n) → (∀ k ∈ m, V k e = ⟨b, -1, ⟨#[]⟩⟩) →
    ∃ V', m.foldl (accB e b) (V, ⟨n, t, -1, g, yesV l⟩) = (V', ⟨n, t, -1, g, yesV (l ++ m)⟩)
  | [], l, V, _, _, _ => ⟨V, by simp⟩
  | k :: m, l, V, hd, hn, h2 => by
    have eq : l ++ k :: m = (l ++ [k]) ++ m := by simp
    have hkl : k ∉ l := by
      intro hm
      rw [List.nodup_append] at hd
      exact hd.2.2 k hm k (by simp) rfl
    have hkm : k ∉ m := by
      rw [List.nodup_append] at hd
      exact (List.nodup_cons.1 hd.2.1).1
    have hy : accYes (V k e) b = true := by rw [h2 k (by simp)]; unfold accYes; simp; omega
    have hs : (accB e b (V, ⟨n, t, -1, g, yesV l⟩) k).2 = ⟨n, t, -1, g, yesV (l ++ [k])⟩ := by
      unfold accB accpV
      simp only [hy, hg, Bool.true_and]
      rw [if_pos (awaits_yes hkl (hn k (by simp))), yes_set]
    rw [List.foldl_cons]
    have hs2 : accB e b (V, ⟨n, t, -1, g, yesV l⟩) k = ((accB e b (V, ⟨n, t, -1, g, yesV l⟩) k).1, ⟨n, t, -1, g, yesV (l ++ [k])⟩) := by rw [← hs]
    rw [hs2, eq]
    rw [eq] at hd hn
    refine fresh_acc n t e b hb g hg m (l ++ [k]) _ hd hn (fun j hj => ?_)
    simp only [accB]
    rw [setB_other _ _ (by rintro ⟨rfl, _⟩; exact hkm hj)]
    exact h2 j (by simp [hj])
/-- A first ballot: what is proposed is decided, just where more than half are asked. -/
theorem fresh_ask (n : Nat) (t : ByteArray) (e b : Int) (hb : 0 ≤ b) (ups : List Nat) (hd : ups.Nodup) (hn : ∀ k ∈ ups, k < n) (V : BookV) (hV : ∀ k ∈ ups, V k e = noneV) :
    (askB n t e b V ups).2.text = t ∧ decV (askB n t e b V ups).2 = decide (n < 2 * ups.length) := by
  obtain ⟨V1, h1, h2⟩ := fresh_prep n t e b hb ups [] V (by simpa using hd) (by simpa using hn) (fun k hk => by cases hk) hV
  rw [yes_nil, List.nil_append] at h1
  rw [List.nil_append] at h2
  have hm := most_yes hd hn
  unfold askB newV
  simp only [h1]
  by_cases hh : n < 2 * ups.length
  · rw [decide_eq_true hh] at hm
    unfold asksV
    simp only [hm, if_true]
    obtain ⟨V2, h3⟩ := fresh_acc n t e b hb (yesV ups) hm ups [] V1 (by simpa using hd) (by simpa using hn) h2
    rw [yes_nil, List.nil_append] at h3
    rw [h3]
    unfold decV
    simp only [hm, decide_eq_true hh, and_self]
  · rw [decide_eq_false hh] at hm
    unfold asksV
    simp only [hm, Bool.false_eq_true, if_false]
    unfold decV
    simp only [mostV_none, decide_eq_false hh, and_self]
end Tide

/- Who proposes, as the document's own answer tells it: all answers in order, the first one of each voter; that it asks and decides the same as one that counts. It speaks of no program. -/
namespace Tide

/-- An answer of a voter. -/
structure AnsV where
  frm : Int
  yes : Bool
  ballot : Int
  text : ByteArray
/-- Nobody's answer, or a second one. -/
def oldV (n : Nat) (out : List AnsV) (k : Int) : Bool := (decide (k < 0) || decide ((n : Int) ≤ k)) || out.any fun b => b.frm == k
def firstV (n : Nat) (out : List AnsV) (a : AnsV) : List AnsV := if oldV n out a.frm then out else out ++ [a]
def firstsV (n : Nat) (l : List AnsV) : List AnsV := l.foldl (firstV n) []
theorem firsts_snoc (n : Nat) (l : List AnsV) (a : AnsV) : firstsV n (l ++ [a]) = firstV n (firstsV n l) a := by unfold firstsV; rw [List.foldl_append]; rfl
theorem firsts_len (n : Nat) (l : List AnsV) : (firstsV n l).length ≤ l.length := by
  have : ∀ (l : List AnsV) (out : List AnsV), (l.foldl (firstV n) out).length ≤ out.length + l.length := by
    intro l
    induction l with
    | nil => intro out; simp
    | cons a l ih =>
      intro out
      rw [List.foldl_cons]
      have h1 := ih (firstV n out a)
      have h2 : (firstV n out a).length ≤ out.length + 1 := by unfold firstV; split <;> simp
      simp
      omega
  have h := this l []
  simpa [firstsV] using h
/-- How many have promised, the greatest ballot told, and the text: so far. -/
structure AskV where
  cnt : Nat
  best : Int
  text : ByteArray
def askV (n : Nat) (s : AskV) (a : AnsV) : AskV := if !a.yes || decide (n < 2 * s.cnt) then s else if s.best < a.ballot then ⟨s.cnt + 1, a.ballot, a.text⟩ else ⟨s.cnt + 1, s.best, s.text⟩
def asksOf (n : Nat) (own : ByteArray) (l : List AnsV) : AskV := l.foldl (askV n) ⟨0, -1, own⟩
def yesOf (l : List AnsV) : Nat := l.countP fun a => a.yes
theorem yesOf_le (l : List AnsV) : yesOf l ≤ l.length := List.countP_le_length
theorem asks_cnt (n : Nat) (own : ByteArray) (l : List AnsV) : (asksOf n own l).cnt ≤ l.length := by
  have : ∀ (l : List AnsV) (s : AskV), (l.foldl (askV n) s).cnt ≤ s.cnt + l.length := by
    intro l
    induction l with
    | nil => intro s; simp
    | cons a l ih =>
      intro s
      rw [List.foldl_cons]
      have h1 := ih (askV n s a)
      have h2 : (askV n s a).cnt ≤ s.cnt + 1 := by
        unfold askV
        split
        · omega
        · split <;> simp
      simp
      omega
  have h := this l ⟨0, -1, own⟩
  unfold asksOf
  simpa using h

theorem count_one (p q : Nat → Bool) (k : Nat) : ∀ l : List Nat, l.Nodup → k ∈ l → (∀ j ∈ l, j ≠ k → q j = p j) → p k = false → l.countP q = l.countP p + if q k then 1 else 0
  | [], _, h, _, _ => by cases h
  | j :: l, hn, hk, h, hp => by
    rw [List.nodup_cons] at hn
    rw [List.countP_cons, List.countP_cons]
    by_cases e : j = k
    · subst e
      have : l.countP q = l.countP p := List.countP_congr fun i hi => by
        rw [h i (by simp [hi]) (fun e => hn.1 (e ▸ hi))]
      rw [this, hp]
      simp
    · rw [h j (by simp) e]
      have hk' : k ∈ l := (List.mem_cons.1 hk).resolve_left fun h1 => e h1.symm
      have := count_one p q k l hn.2 hk' (fun i hi => h i (by simp [hi])) hp
      omega
theorem count_set {n : Nat} {g : Int → Option Bool} {k : Int} (x : Bool) (hk : g k = none) (h0 : 0 ≤ k) (h1 : k < (n : Int)) : countV n (setV g k x) = countV n g + if x then 1 else 0 := by
  obtain ⟨m, rfl⟩ : ∃ m : Nat, k = (m : Int) := ⟨k.toNat, by omega⟩
  unfold countV
  rw [count_one (fun k : Nat => g (k : Int) == some true) (fun k : Nat => setV g (m : Int) x (k : Int) == some true) m (List.range n) List.nodup_range (List.mem_range.2 (by omega)) (fun j _ hj => by
    show (setV g (m : Int) x (j : Int) == some true) = _
    rw [setV_other g x (by omega)]) (by show (g (m : Int) == some true) = false; rw [hk]; rfl)]
  show _ = countV n g + _
  unfold countV
  rw [setV_same]
  cases x <;> simp
theorem awaits_old {n : Nat} {g : Int → Option Bool} {out : List AnsV} {k : Int} (h : awaitsV n g k = !oldV n out k) : (awaitsV n g k = true → oldV n out k = false) ∧ (awaitsV n g k = false → oldV n out k = true) := by
  rw [h]
  cases oldV n out k <;> simp
theorem awaits_set {n : Nat} {g : Int → Option Bool} {out : List AnsV} {a : AnsV} (x : Bool) (h : ∀ k, awaitsV n g k = !oldV n out k) : ∀ k, awaitsV n (setV g a.frm x) k = !oldV n (out ++ [a]) k := fun k => by
  have h1 := h k
  unfold awaitsV oldV at h1 ⊢
  rw [List.any_append]
  by_cases e : k = a.frm
  · subst e
    rw [setV_same]
    simp
  · rw [setV_other g x e]
    have : (a.frm == k) = false := by simpa using fun h => e h.symm
    simp only [List.any_cons, List.any_nil, this, Bool.or_false]
    exact h1

/-- One that counts, and one that has all answers, tell the same. -/
structure ProR (n : Nat) (own : ByteArray) (p : PropV) (ans accs : List AnsV) : Prop where
  voters : p.voters = n
  seen : ∀ k, awaitsV n p.prom k = !oldV n (firstsV n ans) k
  asked : asksOf n own (firstsV n ans) = ⟨min (countV n p.prom) (n / 2 + 1), p.greatest, p.text⟩
  taken : ∀ k, awaitsV n p.acc k = !oldV n (firstsV n accs) k
  count : yesOf (firstsV n accs) = countV n p.acc
  late : mostV n p.acc = true → mostV n p.prom = true
theorem awaits_none (n : Nat) (k : Int) : awaitsV n (fun _ => none) k = !oldV n (firstsV n []) k := by
  show (true && (decide (0 ≤ k) && decide (k < (n : Int)))) = !((decide (k < 0) || decide ((n : Int) ≤ k)) || false)
  rw [Bool.eq_iff_iff]
  simp only [Bool.true_and, Bool.or_false, Bool.and_eq_true, decide_eq_true_eq, Bool.not_eq_true', Bool.or_eq_false_iff, decide_eq_false_iff_not]
  omega
theorem ProR.new (n : Nat) (own : ByteArray) : ProR n own (newV n own) [] [] where
  voters := rfl
  seen := awaits_none n
  asked := by
    show asksOf n own [] = ⟨min (countV n fun _ => none) _, -1, own⟩
    rw [countV_none]
    simp [asksOf]
  taken := awaits_none n
  count := by show yesOf [] = countV n fun _ => none; rw [countV_none]; rfl
  late := fun h => by rw [show (newV n own).acc = fun _ => none from rfl, mostV_none] at h; cases h
section
variable {n : Nat} {own : ByteArray} {p : PropV} {ans accs : List AnsV}
theorem ProR.asks (h : ProR n own p ans accs) : asksV p = decide (n < 2 * (asksOf n own (firstsV n ans)).cnt) := by
  unfold asksV mostV
  rw [h.asked, h.voters]
  rw [Bool.eq_iff_iff]
  simp only [decide_eq_true_eq]
  omega
theorem ProR.text (h : ProR n own p ans accs) : (asksOf n own (firstsV n ans)).text = p.text := by rw [h.asked]
theorem ProR.dec (h : ProR n own p ans accs) : decV p = decide (n < 2 * yesOf (firstsV n accs)) := by
  unfold decV mostV
  rw [h.count, h.voters, Bool.eq_iff_iff]
  simp only [decide_eq_true_eq]
  omega
theorem ProR.dec_asks (h : ProR n own p ans accs) (hd : decV p = true) : asksV p = true := by
  unfold decV at hd
  unfold asksV
  rw [h.voters] at hd ⊢
  exact h.late hd
theorem awaits_bounds {n : Nat} {g : Int → Option Bool} {k : Int} (h : awaitsV n g k = true) : g k = none ∧ 0 ≤ k ∧ k < (n : Int) := by
  unfold awaitsV at h
  simp at h
  exact h
theorem ProR.promise (h : ProR n own p ans accs) (a : AnsV) : ProR n own (promV p a.frm a.yes a.ballot a.text) (ans ++ [a]) accs := by
  unfold promV
  rw [h.voters]
  by_cases hw : awaitsV n p.prom a.frm = true
  rotate_left
  · rw [if_neg hw]
    have ho := (awaits_old (h.seen a.frm)).2 (by simpa using hw)
    have : firstsV n (ans ++ [a]) = firstsV n ans := by rw [firsts_snoc]; unfold firstV; rw [if_pos ho]
    exact { h with seen := by rw [this]; exact h.seen, asked := by rw [this]; exact h.asked }
  rw [if_pos hw]
  have ho := (awaits_old (h.seen a.frm)).1 hw
  obtain ⟨hk, h0, h1⟩ := awaits_bounds hw
  have hf : firstsV n (ans ++ [a]) = firstsV n ans ++ [a] := by rw [firsts_snoc]; unfold firstV; rw [ho]; rfl
  have hs : asksOf n own (firstsV n (ans ++ [a])) = askV n ⟨min (countV n p.prom) (n / 2 + 1), p.greatest, p.text⟩ a := by
    rw [hf]
    unfold asksOf
    rw [List.foldl_append]
    show askV n (asksOf n own (firstsV n ans)) a = _
    rw [h.asked]
  have hc := count_set a.yes hk h0 h1
  have hl : mostV n p.acc = true → mostV n (setV p.prom a.frm a.yes) = true := fun hm => most_set a.yes (h.late hm) hk
  by_cases hb : betterV p a.yes a.ballot = true
  · rw [if_pos hb]
    refine { voters := rfl, seen := ?_, asked := ?_, taken := h.taken, count := h.count, late := hl }
    · rw [hf]; exact awaits_set a.yes h.seen
    · unfold betterV at hb
      rw [h.voters] at hb
      simp at hb
      obtain ⟨hy, hm, hg⟩ := hb
      have hm : ¬ n / 2 < countV n p.prom := by unfold mostV at hm; exact of_decide_eq_false hm
      rw [hs]
      show _ = (⟨min (countV n (setV p.prom a.frm a.yes)) (n / 2 + 1), a.ballot, a.text⟩ : AskV)
      rw [hc]
      unfold askV
      rw [hy, if_neg (by simp; omega), if_pos hg]
      simp only [if_true, AskV.mk.injEq, and_true]
      omega
  · rw [if_neg hb]
    refine { voters := rfl, seen := ?_, asked := ?_, taken := h.taken, count := h.count, late := hl }
    · rw [hf]; exact awaits_set a.yes h.seen
    · rw [hs]
      show _ = (⟨min (countV n (setV p.prom a.frm a.yes)) (n / 2 + 1), p.greatest, p.text⟩ : AskV)
      rw [hc]
      unfold askV
      cases hy : a.yes with
      | false => simp
      | true =>
        unfold betterV at hb
        rw [h.voters, hy] at hb
        by_cases hm : n / 2 < countV n p.prom
        · rw [if_pos (by simp; omega)]
          simp only [AskV.mk.injEq, and_true, if_true]
          omega
        · have hm2 : mostV n p.prom = false := by unfold mostV; exact decide_eq_false hm
          rw [hm2] at hb
          simp at hb
          rw [if_neg (by simp; omega), if_neg (by show ¬ p.greatest < a.ballot; omega)]
          simp only [AskV.mk.injEq, and_true, if_true]
          omega
theorem ProR.accepted (h : ProR n own p ans accs) (k : Int) (yes : Bool) : ProR n own (accpV p k yes) ans (if asksV p then accs ++ [⟨k, yes, 0, ⟨#[]⟩⟩] else accs) := by
  unfold accpV asksV
  rw [h.voters]
  cases hm : mostV n p.prom with
  | false => exact h
  | true =>
    rw [if_pos (show true = true from rfl), Bool.true_and]
    by_cases hw : awaitsV n p.acc k = true
    rotate_left
    · rw [if_neg hw]
      have ho := (awaits_old (h.taken k)).2 (by simpa using hw)
      have : firstsV n (accs ++ [⟨k, yes, 0, ⟨#[]⟩⟩]) = firstsV n accs := by rw [firsts_snoc]; unfold firstV; rw [if_pos ho]
      exact { h with taken := by rw [this]; exact h.taken, count := by rw [this]; exact h.count }
    rw [if_pos hw]
    have ho := (awaits_old (h.taken k)).1 hw
    obtain ⟨hk, h0, h1⟩ := awaits_bounds hw
    have hf : firstsV n (accs ++ [⟨k, yes, 0, ⟨#[]⟩⟩]) = firstsV n accs ++ [⟨k, yes, 0, ⟨#[]⟩⟩] := by rw [firsts_snoc]; unfold firstV; rw [ho]; rfl
    refine { voters := rfl, seen := h.seen, asked := h.asked, taken := ?_, count := ?_, late := fun _ => hm }
    · rw [hf]; exact awaits_set (a := ⟨k, yes, 0, ⟨#[]⟩⟩) yes h.taken
    · rw [hf]
      show _ = countV n (setV p.acc k yes)
      rw [count_set yes hk h0 h1, ← h.count]
      unfold yesOf
      rw [List.countP_append]
      cases yes <;> simp
end
/-- Only those are kept that may answer. -/
def SuppV (n : Nat) (g : Int → Option Bool) : Prop := ∀ k x, g k = some x → 0 ≤ k ∧ k < (n : Int)
theorem SuppV.set {n : Nat} {g : Int → Option Bool} (h : SuppV n g) {k : Int} (h0 : 0 ≤ k) (h1 : k < (n : Int)) (x : Bool) : SuppV n (setV g k x) := fun a y hy => by
  by_cases e : a = k
  · subst e; exact ⟨h0, h1⟩
  · rw [setV_other g x e] at hy; exact h a y hy
/-- Who proposes is one that may be. -/
structure OkPr (p : PropV) : Prop where
  small : p.voters ≤ 5
  prom : SuppV p.voters p.prom
  acc : SuppV p.voters p.acc
theorem OkPr.new {n : Nat} (hn : n ≤ 5) (t : ByteArray) : OkPr (newV n t) := ⟨hn, (fun _ _ h => nomatch h), (fun _ _ h => nomatch h)⟩
theorem OkPr.promise {p : PropV} (h : OkPr p) (k : Int) (yes : Bool) (b : Int) (t : ByteArray) : OkPr (promV p k yes b t) := by
  unfold promV
  split
  · rename_i hw
    obtain ⟨_, h0, h1⟩ := awaits_bounds hw
    split
    · exact ⟨h.small, h.prom.set h0 h1 yes, h.acc⟩
    · exact ⟨h.small, h.prom.set h0 h1 yes, h.acc⟩
  · exact h
theorem OkPr.accepted {p : PropV} (h : OkPr p) (k : Int) (yes : Bool) : OkPr (accpV p k yes) := by
  unfold accpV
  split
  · rename_i hw
    rw [Bool.and_eq_true] at hw
    obtain ⟨_, h0, h1⟩ := awaits_bounds hw.2
    exact ⟨h.small, h.prom, h.acc.set h0 h1 yes⟩
  · exact h
end Tide
