/- Words for bytes that lie in memory: a slice of bytes that reads as a list, nil let in; a slice of such slices; and how they are kept while new memory is made. They speak of no program. -/
import Derived.Below
import Derived.Laws.OwnMore
import Derived.Deep.AppendLies
import Derived.Deep.Draws
import Derived.Laws.Rows
import Derived.Lib.Hide
import Derived.WalkSpells
namespace Tide
open Go Go.RowKit

def u8s (l : List UInt8) : List Value := l.map fun c => Value.int .u8 (c.toNat : Int)
theorem u8s_length (l : List UInt8) : (u8s l).length = l.length := by simp [u8s]
theorem u8s_append (a b : List UInt8) : u8s (a ++ b) = u8s a ++ u8s b := by simp [u8s]
theorem u8s_get (l : List UInt8) (j : Nat) (h : j < l.length) : (u8s l)[j]? = some (.int .u8 (l[j].toNat : Int)) := by simp [u8s, h]
theorem u8s_one (l : List UInt8) : ∀ u ∈ u8s l, u.oneCell' = true := by
  intro u hu
  simp only [u8s, List.mem_map] at hu
  obtain ⟨c, _, rfl⟩ := hu
  rfl
def Row (w : World) (B : Nat) (v : Value) (xs : List Value) : Prop :=
  xs.length ≤ 9223372036854775807 ∧ ∃ A c, v = .slice A xs.length c ∧ xs.length ≤ c ∧ c ≤ 9223372036854775807 ∧
    (xs ≠ [] → ∃ b o, A = some ⟨b, o, none⟩ ∧ b < B ∧ ∀ j u, xs[j]? = some u → w.cell? ⟨b, o + j, none⟩ = some u)
def Bytes (w : World) (B : Nat) (v : Value) (l : List UInt8) : Prop := Row w B v (u8s l)
def Parts (w : World) (B : Nat) (v : Value) (ps : List (List UInt8)) : Prop :=
  ∃ vs : List Value, Row w B v vs ∧ vs.length = ps.length ∧ ∀ (i : Nat) (u : Value) (p : List UInt8), vs[i]? = some u → ps[i]? = some p → Bytes w B u p

section
variable {w w' : World} {B B' : Nat} {v : Value} {xs : List Value} {l : List UInt8} {ps : List (List UInt8)}
theorem Row.keep (h : Row w B v xs) (hk : ∀ b o, b < B → w'.cell? ⟨b, o, none⟩ = w.cell? ⟨b, o, none⟩) : Row w' B v xs := by
  obtain ⟨hn, A, c, rfl, h1, h2, hc⟩ := h
  refine ⟨hn, A, c, rfl, h1, h2, fun hx => ?_⟩
  obtain ⟨b, o, e, hb, hcell⟩ := hc hx
  exact ⟨b, o, e, hb, fun j u hu => (hk _ _ hb).trans (hcell j u hu)⟩
theorem Row.more (h : Row w B v xs) (hB : B ≤ B') : Row w B' v xs := by
  obtain ⟨hn, A, c, rfl, h1, h2, hc⟩ := h
  refine ⟨hn, A, c, rfl, h1, h2, fun hx => ?_⟩
  obtain ⟨b, o, e, hb, hcell⟩ := hc hx
  exact ⟨b, o, e, by omega, hcell⟩
theorem Bytes.keep (h : Bytes w B v l) (hk : ∀ b o, b < B → w'.cell? ⟨b, o, none⟩ = w.cell? ⟨b, o, none⟩) : Bytes w' B v l := Row.keep h hk
theorem Bytes.more (h : Bytes w B v l) (hB : B ≤ B') : Bytes w B' v l := Row.more h hB
theorem Parts.keep (h : Parts w B v ps) (hk : ∀ b o, b < B → w'.cell? ⟨b, o, none⟩ = w.cell? ⟨b, o, none⟩) : Parts w' B v ps := by
  obtain ⟨vs, h1, h2, h3⟩ := h
  exact ⟨vs, h1.keep hk, h2, fun i u p hu hp => (h3 i u p hu hp).keep hk⟩
theorem below_cells (hb : Below B w w') : ∀ b o, b < B → w'.cell? ⟨b, o, none⟩ = w.cell? ⟨b, o, none⟩ := fun b o h => hb.cell (p := ⟨b, o, none⟩) h
theorem Bytes.below (h : Bytes w B v l) (hb : Below B w w') : Bytes w' B v l := h.keep (below_cells hb)
theorem Parts.below (h : Parts w B v ps) (hb : Below B w w') : Parts w' B v ps := h.keep (below_cells hb)
theorem Bytes.form (h : Bytes w B v l) : ∃ A c, v = .slice A l.length c ∧ l.length ≤ c ∧ c ≤ 9223372036854775807 ∧
    ∀ j, j < l.length → ∃ b o, A = some ⟨b, o, none⟩ ∧ b < B ∧ ∀ j (h : j < l.length), w.cell? ⟨b, o + j, none⟩ = some (.int .u8 (l[j].toNat : Int)) := by
  obtain ⟨_, A, c, rfl, h1, h2, hc⟩ := h
  refine ⟨A, c, by rw [u8s_length], by simpa [u8s_length] using h1, h2, fun j hj => ?_⟩
  obtain ⟨b, o, e, hb, hcell⟩ := hc (by intro e; have := u8s_length l; rw [e] at this; simp at this; omega)
  exact ⟨b, o, e, hb, fun i hi => hcell i _ (u8s_get l i hi)⟩
theorem Parts.form (h : Parts w B v ps) : ps.length ≤ 9223372036854775807 ∧ ∃ A c, v = .slice A ps.length c ∧
    ∀ i (hi : i < ps.length), ∃ b o u, A = some ⟨b, o, none⟩ ∧ w.cell? ⟨b, o + i, none⟩ = some u ∧ Bytes w B u ps[i] := by
  obtain ⟨vs, ⟨hn, A, c, rfl, h1, h2, hc⟩, hl, h3⟩ := h
  refine ⟨by omega, A, c, by rw [hl], fun i hi => ?_⟩
  have hi' : i < vs.length := by omega
  obtain ⟨b, o, e, hb, hcell⟩ := hc (by intro e; subst e; simp at hi')
  exact ⟨b, o, vs[i], e, hcell i _ (List.getElem?_eq_getElem hi'), h3 i _ _ (List.getElem?_eq_getElem hi') (List.getElem?_eq_getElem hi)⟩
theorem bytes_nil' (w : World) (B : Nat) : Bytes w B (.slice none 0 0) [] := ⟨by simp [u8s], none, 0, by simp [u8s], by simp [u8s], by simp, fun h => absurd rfl h⟩
theorem Row.of_own {base : Nat} {e : TypeId} {n : Nat} (h : w.ownsRow base e 1 v n xs) (hB : w.heap.size ≤ B) : Row w B v xs := by
  have hl := h.1
  have hlt := h.lt
  simp at hl
  subst hl
  have h' := h
  rcases h.2 with ⟨rfl, h0⟩ | ⟨g, cap, cur, rfl, _, _, h1, h2, _⟩
  · have : xs = [] := List.eq_nil_of_length_eq_zero h0
    subst this
    exact ⟨by simp, none, 0, by simp, by simp, by simp, fun e => absurd rfl e⟩
  · unfold maxLen at h2
    have := (hlt g rfl).2
    refine ⟨by omega, some ⟨g, 0, none⟩, cap, rfl, h1, h2, fun hx => ⟨g, 0, rfl, by omega, fun j u hu => ?_⟩⟩
    have hj := (List.getElem?_eq_some_iff.1 hu).1
    rw [Nat.zero_add, h'.cellAt j (by omega)]
    exact hu
theorem Bytes.of_own {base : Nat} {e : TypeId} {n : Nat} (h : w.ownsRow base e 1 v n (u8s l)) : Bytes w w.heap.size v l := Row.of_own h (Nat.le_refl _)
theorem Row.new (w : World) (e : TypeId) (cs : Array Value) (fr : Nat × Nat) (g n : Nat) (hg : g = w.heap.size) (hn : n = cs.size) (hm : n ≤ 9223372036854775807) :
    Row (w.alloc (.cells cs e fr)) (w.heap.size + 1) (.slice (some ⟨g, 0, none⟩) n n) cs.toList := by
  subst hg hn
  refine ⟨by simpa using hm, some ⟨w.heap.size, 0, none⟩, cs.size, by simp, by simp, hm, fun _ => ⟨w.heap.size, 0, rfl, Nat.lt_succ_self _, fun j x hx => ?_⟩⟩
  rw [Nat.zero_add, cell_of_row _ _ j _ _ _ (heap_alloc_new w (.cells cs e fr))]
  simpa using hx
theorem Bytes.new (w : World) (e : TypeId) (cs : Array Value) (fr : Nat × Nat) (g n : Nat) (l : List UInt8) (hg : g = w.heap.size) (hl : cs.toList = u8s l) (hn : n = l.length) (hm : n ≤ 9223372036854775807) :
    Bytes (w.alloc (.cells cs e fr)) (w.heap.size + 1) (.slice (some ⟨g, 0, none⟩) n n) l := by
  unfold Bytes
  rw [← hl]
  exact Row.new w e cs fr g n hg (by rw [hn, ← Array.length_toList, hl, u8s_length]) hm
theorem Bytes.alloc {o : Obj} (h : Bytes w B v l) (hB : B ≤ w.heap.size) : Bytes (w.alloc o) B v l := h.keep fun b o' hb => World.cell?_alloc_lt w o ⟨b, o', none⟩ (by show b < w.heap.size; omega)
theorem Bytes.sub {b o n c : Nat} (h : Bytes w B (.slice (some ⟨b, o, none⟩) n c) l) {lo hi m c' : Nat} {l' : List UInt8} (hlo : lo ≤ hi) (hhi : hi ≤ l.length) (hl : l' = (l.take hi).drop lo) (hm : m = hi - lo) (h1 : m ≤ c') (h2 : c' ≤ 9223372036854775807) :
    Bytes w B (.slice (some ⟨b, o + lo, none⟩) m c') l' := by
  subst hl hm
  obtain ⟨_, A, c0, he, _, _, hc⟩ := h
  have hlen : (u8s ((l.take hi).drop lo)).length = hi - lo := by rw [u8s_length, List.length_drop, List.length_take]; omega
  refine ⟨by omega, some ⟨b, o + lo, none⟩, c', by rw [hlen], by omega, h2, fun hne => ?_⟩
  have hpos : 0 < hi - lo := by rw [← hlen]; exact List.length_pos_iff.2 hne
  obtain ⟨b', o', e, hb, hcell⟩ := hc (by intro e; have := u8s_length l; rw [e] at this; simp at this; omega)
  injection he with he1
  rw [e] at he1
  injection he1 with he1
  injection he1 with hb' ho'
  subst hb' ho'
  refine ⟨_, _, rfl, hb, fun j u hu => ?_⟩
  have hj : j < hi - lo := by rw [← hlen]; exact (List.getElem?_eq_some_iff.1 hu).1
  rw [Nat.add_assoc]
  apply hcell
  rw [← hu]
  simp only [u8s, List.getElem?_map, List.getElem?_drop]
  rw [List.getElem?_take_of_lt (by omega)]
theorem Bytes.take {b o n c : Nat} (h : Bytes w B (.slice (some ⟨b, o, none⟩) n c) l) {hi m c' : Nat} {l' : List UInt8} (hhi : hi ≤ l.length) (hl : l' = l.take hi) (hm : m = hi) (h1 : m ≤ c') (h2 : c' ≤ 9223372036854775807) :
    Bytes w B (.slice (some ⟨b, o, none⟩) m c') l' := h.sub (lo := 0) (Nat.zero_le _) hhi (by simpa using hl) (by omega) h1 h2
end
end Tide

/- What a storage unit's records tell, without memory: pages, how far it is trimmed, its epoch; what a Trim, and a segment given back, leave. It speaks of no program. -/
namespace Tide

structure RecU where
  kind : Nat
  adr : Nat
  ep : Nat
  page : List UInt8
structure PageU where
  adr : Nat
  bs : List UInt8
  seg : Nat
structure StU where
  pages : List PageU
  trimmed : Nat
  epoch : Nat
def hasU (s : StU) (a : Nat) : Bool := s.pages.any fun p => p.adr == a
def countU (s : StU) (r : RecU) (g : Nat) : StU :=
  if r.kind = 1 then (if hasU s r.adr then s else { s with pages := s.pages ++ [⟨r.adr, r.page, g⟩] })
  else if r.kind = 2 then { s with trimmed := r.adr, epoch := r.ep } else { s with epoch := r.ep }
def forgetU (s : StU) : StU := { s with pages := s.pages.filter fun p => decide (s.trimmed ≤ p.adr) }
def replayU (l : List (RecU × Nat)) : StU := l.foldl (fun s x => countU s x.1 x.2) ⟨[], 0, 0⟩
def pagesU (l : List (RecU × Nat)) : List PageU := l.filterMap fun x => if x.1.kind = 1 then some ⟨x.1.adr, x.1.page, x.2⟩ else none
theorem replay_snoc (l : List (RecU × Nat)) (x : RecU × Nat) : replayU (l ++ [x]) = countU (replayU l) x.1 x.2 := by unfold replayU; rw [List.foldl_append]; rfl
theorem pages_app (l m : List (RecU × Nat)) : pagesU (l ++ m) = pagesU l ++ pagesU m := by unfold pagesU; rw [List.filterMap_append]
theorem snoc_cases {α : Type} (P : List α → Prop) (h0 : P []) (h1 : ∀ l x, P l → P (l ++ [x])) : ∀ l, P l := by
  intro l
  rw [← List.reverse_reverse l]
  induction l.reverse with
  | nil => exact h0
  | cons x r ih => rw [List.reverse_cons]; exact h1 _ _ ih
theorem replay_pages : ∀ l : List (RecU × Nat), ((pagesU l).map PageU.adr).Nodup → (replayU l).pages = pagesU l := by
  refine snoc_cases _ (fun _ => rfl) fun l x ih hn => ?_
  rw [pages_app, List.map_append] at hn
  have h1 := ih (List.nodup_append.1 hn).1
  rw [replay_snoc, pages_app]
  unfold countU
  by_cases hk : x.1.kind = 1
  · rw [if_pos hk]
    have hp : pagesU [x] = [⟨x.1.adr, x.1.page, x.2⟩] := by simp [pagesU, hk]
    rw [hp] at hn ⊢
    have hh : hasU (replayU l) x.1.adr = false := by
      unfold hasU
      rw [h1, List.any_eq_false]
      intro p hpm he
      exact (List.nodup_append.1 hn).2.2 p.adr (List.mem_map.2 ⟨p, hpm, rfl⟩) x.1.adr (by simp) (by simpa using he)
    rw [hh]
    simp [h1]
  · rw [if_neg hk]
    have hp : pagesU [x] = [] := by simp [pagesU, hk]
    rw [hp, List.append_nil]
    split
    · exact h1
    · exact h1
theorem forget_count (s : StU) (r : RecU) (g : Nat) (h1 : r.kind = 1 ∨ r.kind = 2 → s.trimmed ≤ r.adr) : forgetU (countU s r g) = forgetU (countU (forgetU s) r g) := by
  unfold countU
  by_cases hk : r.kind = 1
  · rw [if_pos hk, if_pos hk]
    have ha := h1 (.inl hk)
    have hh : hasU (forgetU s) r.adr = hasU s r.adr := by
      unfold hasU forgetU
      simp only [List.any_filter]
      congr 1
      funext p
      by_cases e : p.adr = r.adr
      · rw [e]; simp [ha]
      · simp [e]
    rw [hh]
    split
    · unfold forgetU
      simp
    · unfold forgetU
      simp [List.filter_append]
  · rw [if_neg hk, if_neg hk]
    by_cases hk2 : r.kind = 2
    · rw [if_pos hk2, if_pos hk2]
      have ha := h1 (.inr hk2)
      unfold forgetU
      simp only [List.filter_filter]
      congr 1
      apply List.filter_congr
      intro p _
      by_cases e : r.adr ≤ p.adr
      · have : s.trimmed ≤ p.adr := by omega
        simp [e, this]
      · simp [e]
    · rw [if_neg hk2, if_neg hk2]
      unfold forgetU
      simp
end Tide

/- A number as bytes of seven bits each, the low ones first. It speaks of no program. -/
namespace Tide

def num7 (n : Nat) : List UInt8 := if h : n < 128 then [UInt8.ofNat n] else UInt8.ofNat (n % 128 + 128) :: num7 (n / 128)
termination_by n
decreasing_by omega
theorem num7_lt {n : Nat} (h : n < 128) : num7 n = [UInt8.ofNat n] := by rw [num7, dif_pos h]
theorem num7_ge {n : Nat} (h : ¬ n < 128) : num7 n = UInt8.ofNat (n % 128 + 128) :: num7 (n / 128) := by rw [num7, dif_neg h]
theorem num7_len : ∀ (k n : Nat), n < 128 ^ (k + 1) → (num7 n).length ≤ k + 1
  | 0, n, h => by rw [num7_lt (by omega)]; simp
  | k + 1, n, h => by
    by_cases h0 : n < 128
    · rw [num7_lt h0]; simp
    · rw [num7_ge h0, List.length_cons]
      have := num7_len k (n / 128) (by
        rw [Nat.div_lt_iff_lt_mul (by omega)]
        rw [Nat.pow_succ] at h
        exact h)
      omega
theorem num7_len9 {n : Nat} (h : n < 2 ^ 62) : (num7 n).length ≤ 9 := num7_len 8 n (by omega)
theorem num7_pos (n : Nat) : 1 ≤ (num7 n).length := by
  by_cases h0 : n < 128
  · rw [num7_lt h0]; simp
  · rw [num7_ge h0]; simp
def text7 (s : ByteArray) : List UInt8 := num7 s.size ++ s.data.toList
end Tide

/- What is written of items: numbers, texts and lists as bytes, and when nothing is told. It speaks of no program. -/
namespace Tide

def rightB (x : Int) : Bool := decide (0 ≤ x) && decide (x ≤ 4611686018427387903)
def stNum (st : Option (List UInt8)) (x : Int) : Option (List UInt8) := if rightB x then st.map (· ++ num7 x.toNat) else none
def stText (st : Option (List UInt8)) (s : ByteArray) : Option (List UInt8) := st.map (· ++ text7 s)
theorem stNum_ok {x : Int} (h : rightB x = true) (q : List UInt8) : stNum (some q) x = some (q ++ num7 x.toNat) := by unfold stNum; rw [if_pos h]; rfl
theorem stNum_bad {x : Int} (h : rightB x = false) (st : Option (List UInt8)) : stNum st x = none := by unfold stNum; rw [if_neg (by rw [h]; simp)]
theorem right_len {n : Nat} (h : n ≤ 4611686018427387903) : rightB (n : Int) = true := by unfold rightB; simp; omega
end Tide

/- Numbers read from bytes of seven bits each: what is read, how many bytes it takes, and that just these bytes are written of it. It speaks of no program. -/
namespace Tide

def high : Nat → List UInt8 → Nat
  | f + 1, c :: l => if 128 ≤ c.toNat then high f l + 1 else 0
  | _, _ => 0
def val7 : List UInt8 → Nat
  | [] => 0
  | c :: l => c.toNat % 128 + 128 * val7 l
def rdNum (l : List UInt8) : Nat × Nat × Nat :=
  match l[high 8 l]? with
  | none => (2, 0, 0)
  | some b => if 128 ≤ b.toNat ∨ (b.toNat = 0 ∧ 0 < high 8 l) ∨ (high 8 l = 8 ∧ 64 ≤ b.toNat) then (4, 0, 0) else (0, val7 (l.take (high 8 l + 1)), high 8 l + 1)

theorem high_le : ∀ (f : Nat) (l : List UInt8), high f l ≤ f ∧ high f l ≤ l.length
  | 0, l => by unfold high; cases l <;> simp
  | f + 1, [] => by unfold high; simp
  | f + 1, c :: l => by
    have := high_le f l
    unfold high
    split <;> simp <;> omega
theorem val7_lt : ∀ (l : List UInt8), val7 l < 128 ^ l.length
  | [] => by simp [val7]
  | c :: l => by
    have := val7_lt l
    unfold val7
    rw [List.length_cons, Nat.pow_succ]
    omega
theorem high_num7 : ∀ (f n : Nat) (r : List UInt8), n < 128 ^ (f + 1) → high f (num7 n ++ r) = (num7 n).length - 1
  | 0, n, r, h => by
    rw [num7_lt (by omega)]
    unfold high; simp
  | f + 1, n, r, h => by
    by_cases h0 : n < 128
    · rw [num7_lt h0]
      have e : (UInt8.ofNat n).toNat = n := UInt8.toNat_ofNat_of_lt' (show n < 256 by omega)
      show high (f + 1) (UInt8.ofNat n :: r) = _
      unfold high
      rw [e, if_neg (by omega)]
      simp
    · rw [num7_ge h0]
      have e : (UInt8.ofNat (n % 128 + 128)).toNat = n % 128 + 128 := UInt8.toNat_ofNat_of_lt' (show n % 128 + 128 < 256 by omega)
      have ih := high_num7 f (n / 128) r (by
        rw [Nat.div_lt_iff_lt_mul (by omega)]
        rw [Nat.pow_succ] at h
        exact h)
      have hp := num7_pos (n / 128)
      show high (f + 1) (UInt8.ofNat (n % 128 + 128) :: (num7 (n / 128) ++ r)) = _
      unfold high
      rw [e, if_pos (by omega), ih, List.length_cons]
      omega
theorem val7_num7 : ∀ n, val7 (num7 n) = n
  | n => by
    by_cases h0 : n < 128
    · rw [num7_lt h0]
      have e : (UInt8.ofNat n).toNat = n := UInt8.toNat_ofNat_of_lt' (show n < 256 by omega)
      simp only [val7, e]
      omega
    · rw [num7_ge h0]
      have e : (UInt8.ofNat (n % 128 + 128)).toNat = n % 128 + 128 := UInt8.toNat_ofNat_of_lt' (show n % 128 + 128 < 256 by omega)
      have ih := val7_num7 (n / 128)
      simp only [val7, e, ih]
      omega
termination_by n => n
decreasing_by omega
theorem num7_last : ∀ n, ∃ (l : List UInt8) (b : UInt8), num7 n = l ++ [b] ∧ b.toNat < 128 ∧ (b.toNat = 0 → l = [])
  | n => by
    by_cases h0 : n < 128
    · have e : (UInt8.ofNat n).toNat = n := UInt8.toNat_ofNat_of_lt' (show n < 256 by omega)
      exact ⟨[], UInt8.ofNat n, by rw [num7_lt h0]; rfl, by omega, fun _ => rfl⟩
    · obtain ⟨l, b, h1, h2, h3⟩ := num7_last (n / 128)
      refine ⟨_ :: l, b, by rw [num7_ge h0, h1]; rfl, h2, fun hb => ?_⟩
      have hl := h3 hb
      subst hl
      have hv := val7_num7 (n / 128)
      rw [h1] at hv
      simp [val7] at hv
      omega
termination_by n => n
decreasing_by omega
theorem rd_num7 {n : Nat} (h : n < 2 ^ 62) (r : List UInt8) : rdNum (num7 n ++ r) = (0, n, (num7 n).length) := by
  obtain ⟨l, b, h1, h2, h3⟩ := num7_last n
  have hh := high_num7 8 n r (by omega)
  have hlen : (num7 n).length = l.length + 1 := by rw [h1]; simp
  have hk : high 8 (num7 n ++ r) = l.length := by omega
  have h9 := num7_len9 h
  have hv := val7_num7 n
  have h64 : l.length = 8 → b.toNat < 64 := by
    intro h8
    rcases Nat.lt_or_ge b.toNat 64 with hb | hb
    · exact hb
    · exfalso
      have key : ∀ l : List UInt8, b.toNat % 128 * 128 ^ l.length ≤ val7 (l ++ [b]) := by
        intro l
        induction l with
        | nil => simp [val7]
        | cons c l ih =>
          have e : val7 (c :: l ++ [b]) = c.toNat % 128 + 128 * val7 (l ++ [b]) := rfl
          rw [e, List.length_cons, Nat.pow_succ, ← Nat.mul_assoc]
          omega
      have := key l
      rw [← h1, hv, h8] at this
      omega
  unfold rdNum
  rw [hk, h1, List.append_assoc]
  have hget : (l ++ ([b] ++ r))[l.length]? = some b := by simp
  rw [hget]
  simp only
  rw [if_neg (by
    rintro (hb | ⟨hb, hp⟩ | ⟨h8, hb⟩)
    · omega
    · rw [h3 hb] at hp; simp at hp
    · have := h64 h8; omega)]
  have ht : (l ++ ([b] ++ r)).take (l.length + 1) = l ++ [b] := by
    rw [← List.append_assoc, List.take_append_of_le_length (by simp), List.take_of_length_le (by simp)]
  rw [ht, ← h1, hv, hlen]
end Tide

/- A number read byte by byte: what has been read in the midst, and where it ends. It speaks of no program. -/
namespace Tide

theorem high_eq : ∀ (f j : Nat) (l : List UInt8), (∀ c ∈ l.take j, 128 ≤ c.toNat) → j ≤ f → j ≤ l.length → (j = f ∨ j = l.length ∨ ∃ h : j < l.length, l[j].toNat < 128) → high f l = j
  | 0, j, l, _, hj, _, _ => by
    have : j = 0 := by omega
    subst this
    unfold high; cases l <;> rfl
  | f + 1, j, [], _, _, hl, _ => by
    have : j = 0 := by simpa using hl
    subst this
    rfl
  | f + 1, 0, c :: l, _, _, _, h => by
    unfold high
    rw [if_neg]
    rcases h with h | h | ⟨h, hc⟩
    · omega
    · simp at h
    · simpa using hc
  | f + 1, j + 1, c :: l, ha, hj, hl, h => by
    have hc : 128 ≤ c.toNat := ha c (by simp)
    unfold high
    rw [if_pos hc]
    have := high_eq f j l (fun x hx => ha x (by rw [List.take_succ_cons]; exact List.mem_cons_of_mem _ hx)) (by omega) (by simpa using hl) (by
      rcases h with h | h | ⟨h, hx⟩
      · exact .inl (by omega)
      · exact .inr (.inl (by simpa using h))
      · exact .inr (.inr ⟨by simpa using h, by simpa using hx⟩))
    omega
theorem val7_append : ∀ (l m : List UInt8), val7 (l ++ m) = val7 l + 128 ^ l.length * val7 m
  | [], m => by simp [val7]
  | c :: l, m => by
    have := val7_append l m
    simp only [val7, List.cons_append, this, List.length_cons, Nat.pow_succ]
    rw [Nat.mul_add, ← Nat.mul_assoc, Nat.mul_comm 128 (128 ^ l.length)]
    omega
theorem val7_snoc (l : List UInt8) (c : UInt8) : val7 (l ++ [c]) = val7 l + c.toNat % 128 * 128 ^ l.length := by
  rw [val7_append, Nat.mul_comm]
  simp [val7]
theorem val7_take (l : List UInt8) (j : Nat) (h : j < l.length) : val7 (l.take (j + 1)) = val7 (l.take j) + l[j].toNat % 128 * 128 ^ j := by
  rw [List.take_succ_eq_append_getElem h, val7_snoc, List.length_take, Nat.min_eq_left (by omega)]
theorem val7_take_lt (l : List UInt8) (j : Nat) : val7 (l.take j) < 128 ^ j := by
  have := val7_lt (l.take j)
  have h2 : (128 : Nat) ^ (l.take j).length ≤ 128 ^ j := Nat.pow_le_pow_right (by omega) (by simp; omega)
  omega
theorem rd_last {l : List UInt8} {j : Nat} (ha : ∀ c ∈ l.take j, 128 ≤ c.toNat) (h : j < l.length) (h8 : j ≤ 8) (hc : l[j].toNat < 128) :
    rdNum l = if (l[j].toNat = 0 ∧ 0 < j) ∨ 4611686018427387903 < val7 (l.take (j + 1)) then (4, 0, 0) else (0, val7 (l.take (j + 1)), j + 1) := by
  have hh := high_eq 8 j l ha h8 (by omega) (.inr (.inr ⟨h, hc⟩))
  unfold rdNum
  rw [hh, List.getElem?_eq_getElem h]
  simp only
  have hv := val7_take l j h
  have hl := val7_take_lt l j
  have key : (4611686018427387903 < val7 (l.take (j + 1))) ↔ (j = 8 ∧ 64 ≤ l[j].toNat) := by
    have hm : l[j].toNat % 128 = l[j].toNat := Nat.mod_eq_of_lt hc
    rw [hm] at hv
    constructor
    · intro h1
      by_cases h9 : j = 8
      · subst h9
        refine ⟨rfl, ?_⟩
        omega
      · exfalso
        have h7 : (128 : Nat) ^ j ≤ 128 ^ 7 := Nat.pow_le_pow_right (by omega) (by omega)
        have hx : l[j].toNat * 128 ^ j ≤ 127 * 128 ^ 7 := Nat.mul_le_mul (by omega) h7
        omega
    · rintro ⟨rfl, h1⟩
      omega
  by_cases hb : (l[j].toNat = 0 ∧ 0 < j) ∨ 4611686018427387903 < val7 (l.take (j + 1))
  · rw [if_pos hb, if_pos]
    rcases hb with hb | hb
    · exact .inr (.inl hb)
    · exact .inr (.inr (key.1 hb))
  · rw [if_neg hb, if_neg]
    rintro (h1 | h1 | h1)
    · omega
    · exact hb (.inl h1)
    · exact hb (.inr (key.2 h1))
theorem rd_short {l : List UInt8} (ha : ∀ c ∈ l, 128 ≤ c.toNat) (h : l.length < 9) : rdNum l = (2, 0, 0) := by
  have hh := high_eq 8 l.length l (by rw [List.take_length]; exact ha) (by omega) (Nat.le_refl _) (.inr (.inl rfl))
  unfold rdNum
  rw [hh, List.getElem?_eq_none (Nat.le_refl _)]
theorem rd_nine {l : List UInt8} (ha : ∀ c ∈ l.take 9, 128 ≤ c.toNat) (h : 9 ≤ l.length) : rdNum l = (4, 0, 0) := by
  have hh := high_eq 8 8 l (fun c hc => ha c (by
    rw [show (9 : Nat) = 8 + 1 from rfl, List.take_succ_eq_append_getElem (show 8 < l.length by omega)]
    exact List.mem_append_left _ hc)) (by omega) (by omega) (.inl rfl)
  have h8 : 128 ≤ l[8].toNat := ha _ (by
    rw [show (9 : Nat) = 8 + 1 from rfl, List.take_succ_eq_append_getElem (show 8 < l.length by omega)]
    exact List.mem_append_right _ (List.mem_singleton.2 rfl))
  unfold rdNum
  rw [hh, List.getElem?_eq_getElem (show 8 < l.length by omega)]
  simp only
  rw [if_pos (.inl h8)]
end Tide

/- The document's own stores of records, without memory: what is taken, what fits, what an append, a drop make; when two stores tell the same. It speaks of no program. -/
namespace Tide
open Go

structure SegD where
  place : Nat
  number : Nat
  sectors : Nat
  recs : List (List UInt8)
structure StoD where
  places : Nat
  segs : List SegD
def needD (n : Nat) : Nat := 1 + (n + 63) / 64
def takenB (gs : List SegD) (p : Int) : Bool := gs.any fun g => (g.place : Int) == p
def scanD (gs : List SegD) (P : Nat) : Nat → Int
  | 0 => -1
  | k + 1 => if takenB gs ((P : Int) - 1 - k) then scanD gs P k else (P : Int) - 1 - k
def lastNo (gs : List SegD) : Int := match gs.getLast? with
  | none => -1
  | some g => (g.number : Int)
def takeD (s : StoD) : Option StoD := if scanD s.segs s.places s.places < 0 then none else some { s with segs := s.segs ++ [⟨(scanD s.segs s.places s.places).toNat, (lastNo s.segs + 1).toNat, 0, []⟩] }
def fitsD (gs : List SegD) (n : Nat) : Bool := match gs.getLast? with
  | none => false
  | some g => decide (g.sectors + needD n ≤ 63)
def SegD.push (g : SegD) (b : List UInt8) : SegD := { g with sectors := g.sectors + needD b.length, recs := g.recs ++ [b] }
def pushD (gs : List SegD) (b : List UInt8) : List SegD := match gs.getLast? with
  | none => gs
  | some g => gs.dropLast ++ [g.push b]
def appendD (s : StoD) (b : List UInt8) : StoD × Int × Int :=
  if b.length < 1 ∨ 3968 < b.length then (s, 0, 4)
  else if fitsD s.segs b.length then ({ s with segs := pushD s.segs b }, lastNo s.segs, 0)
  else match takeD s with
    | none => (s, 0, 13)
    | some t => ({ t with segs := pushD t.segs b }, lastNo t.segs, 0)
def dropAt (gs : List SegD) (n : Int) : Option Nat := gs.findIdx? fun g => (g.number : Int) == n
def dropD (s : StoD) (n : Int) : StoD × Int := match dropAt s.segs n with
  | none => (s, 16)
  | some i => if i + 1 = s.segs.length then (s, 17) else ({ s with segs := s.segs.eraseIdx i }, 0)
def recsOf (gs : List SegD) (n : Int) : List (List UInt8) := match gs.find? fun g => (g.number : Int) == n with
  | none => []
  | some g => g.recs
structure StoD.Wf (s : StoD) : Prop where
  place : ∀ g ∈ s.segs, g.place < s.places
  apart : (s.segs.map SegD.place).Nodup
  rise : (s.segs.map SegD.number).Pairwise (· < ·)
  recs : ∀ g ∈ s.segs, g.sectors = (g.recs.map fun b => needD b.length).sum ∧ g.sectors ≤ 63 ∧ ∀ b ∈ g.recs, 1 ≤ b.length ∧ b.length ≤ 3968

theorem scan_low (gs : List SegD) (P : Nat) : ∀ k, k ≤ P → scanD gs P k = -1 ∨ ((P : Int) - k ≤ scanD gs P k ∧ scanD gs P k < P)
  | 0, _ => .inl rfl
  | k + 1, h => by
    unfold scanD
    split
    · rcases scan_low gs P k (by omega) with h1 | h1
      · exact .inl h1
      · exact .inr ⟨by omega, h1.2⟩
    · exact .inr ⟨by omega, by omega⟩
theorem scan_free (gs : List SegD) (P : Nat) : ∀ k, k ≤ P → 0 ≤ scanD gs P k → takenB gs (scanD gs P k) = false
  | 0, _, h => by simp [scanD] at h
  | k + 1, hk, h => by
    unfold scanD at h ⊢
    split
    · rename_i ht
      rw [if_pos ht] at h
      exact scan_free gs P k (by omega) h
    · rename_i ht
      simpa using ht
theorem takenB_false {gs : List SegD} {p : Int} (h : takenB gs p = false) : ∀ g ∈ gs, (g.place : Int) ≠ p := by
  intro g hg e
  have : takenB gs p = true := List.any_eq_true.2 ⟨g, hg, by simpa using e⟩
  rw [h] at this
  cases this
theorem last_snoc (gs : List SegD) (g : SegD) : lastNo (gs ++ [g]) = (g.number : Int) := by simp [lastNo]
theorem last_ge (gs : List SegD) : -1 ≤ lastNo gs := by
  unfold lastNo
  split <;> omega
theorem last_max {gs : List SegD} (h : (gs.map SegD.number).Pairwise (· < ·)) : ∀ g ∈ gs, (g.number : Int) ≤ lastNo gs := by
  rcases List.eq_nil_or_concat gs with rfl | ⟨l, x, hc⟩
  · intro g hg; cases hg
  · rw [List.concat_eq_append] at hc
    subst hc
    intro g hg
    rw [last_snoc]
    rw [List.map_append, List.pairwise_append] at h
    rcases List.mem_append.1 hg with hg | hg
    · have := h.2.2 g.number (List.mem_map.2 ⟨g, hg, rfl⟩) x.number (by simp)
      omega
    · simp only [List.mem_singleton] at hg
      subst hg
      exact Int.le_refl _
theorem take_wf {s t : StoD} (h : s.Wf) (ht : takeD s = some t) : t.Wf := by
  unfold takeD at ht
  split at ht
  · cases ht
  · rename_i h0
    injection ht with ht
    subst ht
    have hlow := scan_low s.segs s.places s.places (Nat.le_refl _)
    have hfree := takenB_false (scan_free s.segs s.places s.places (Nat.le_refl _) (by omega))
    have hmax := last_max h.rise
    have hge := last_ge s.segs
    refine ⟨?_, ?_, ?_, ?_⟩
    · intro g hg
      rcases List.mem_append.1 hg with hg | hg
      · exact h.place g hg
      · simp only [List.mem_singleton] at hg
        subst hg
        show (scanD s.segs s.places s.places).toNat < s.places
        omega
    · rw [List.map_append]
      refine List.nodup_append.2 ⟨h.apart, by simp, ?_⟩
      intro a ha b hb
      simp only [List.map_cons, List.map_nil, List.mem_singleton] at hb
      obtain ⟨g, hg, rfl⟩ := List.mem_map.1 ha
      have := hfree g hg
      omega
    · rw [List.map_append]
      refine List.pairwise_append.2 ⟨h.rise, by simp, ?_⟩
      intro a ha b hb
      simp only [List.map_cons, List.map_nil, List.mem_singleton] at hb
      obtain ⟨g, hg, rfl⟩ := List.mem_map.1 ha
      have := hmax g hg
      omega
    · intro g hg
      rcases List.mem_append.1 hg with hg | hg
      · exact h.recs g hg
      · simp only [List.mem_singleton] at hg
        subst hg
        exact ⟨rfl, Nat.zero_le _, fun b hb => by cases hb⟩
theorem push_snoc (l : List SegD) (g : SegD) (b : List UInt8) : pushD (l ++ [g]) b = l ++ [g.push b] := by simp [pushD]
theorem fits_snoc' (l : List SegD) (g : SegD) (n : Nat) : fitsD (l ++ [g]) n = decide (g.sectors + needD n ≤ 63) := by simp [fitsD]
theorem push_wf {s : StoD} (h : s.Wf) (b : List UInt8) (hb : 1 ≤ b.length ∧ b.length ≤ 3968) (hf : fitsD s.segs b.length = true) : ({ s with segs := pushD s.segs b } : StoD).Wf := by
  obtain ⟨P, gs⟩ := s
  rcases List.eq_nil_or_concat gs with rfl | ⟨l, x, hc⟩
  · cases hf
  rw [List.concat_eq_append] at hc
  subst hc
  simp only at hf ⊢
  rw [fits_snoc'] at hf
  have hf := of_decide_eq_true hf
  rw [push_snoc]
  refine ⟨?_, ?_, ?_, ?_⟩
  · intro g hg
    rcases List.mem_append.1 hg with hg | hg
    · exact h.place g (List.mem_append.2 (.inl hg))
    · simp only [List.mem_singleton] at hg
      subst hg
      exact h.place x (by simp)
  · have := h.apart
    simp only [List.map_append, List.map_cons, List.map_nil] at this ⊢
    exact this
  · have := h.rise
    simp only [List.map_append, List.map_cons, List.map_nil] at this ⊢
    exact this
  · intro g hg
    rcases List.mem_append.1 hg with hg | hg
    · exact h.recs g (List.mem_append.2 (.inl hg))
    · simp only [List.mem_singleton] at hg
      subst hg
      obtain ⟨h1, h2, h3⟩ := h.recs x (by simp)
      refine ⟨?_, hf, fun c hc => ?_⟩
      · show x.sectors + needD b.length = ((x.recs ++ [b]).map _).sum
        rw [List.map_append, List.sum_append, h1]
        simp
      · rcases List.mem_append.1 hc with hc | hc
        · exact h3 c hc
        · simp only [List.mem_singleton] at hc
          subst hc
          exact hb
theorem take_fits {s t : StoD} (ht : takeD s = some t) (n : Nat) (hn : n ≤ 3968) : fitsD t.segs n = true := by
  unfold takeD at ht
  split at ht
  · cases ht
  · injection ht with ht
    subst ht
    rw [fits_snoc']
    unfold needD
    exact decide_eq_true (by show 0 + _ ≤ 63; omega)
theorem append_wf {s : StoD} (h : s.Wf) (b : List UInt8) : (appendD s b).1.Wf := by
  unfold appendD
  split
  · exact h
  · rename_i hb
    split
    · rename_i hf
      exact push_wf h b (by omega) hf
    · split
      · exact h
      · rename_i t ht
        exact push_wf (take_wf h ht) b (by omega) (take_fits ht _ (by omega))
theorem drop_wf {s : StoD} (h : s.Wf) (n : Int) : (dropD s n).1.Wf := by
  unfold dropD
  split
  · exact h
  · split
    · exact h
    · have hs := fun (i : Nat) => List.eraseIdx_sublist s.segs i
      exact ⟨fun g hg => h.place g ((hs _).subset hg), h.apart.sublist ((hs _).map _), h.rise.sublist ((hs _).map _), fun g hg => h.recs g ((hs _).subset hg)⟩
end Tide

/- The document's own storage unit, without memory: what its calls answer and make. It speaks of no program. -/
namespace Tide
open Go

structure UnitD where
  store : StoD
  rows : List PageU
  trimmed : Nat
  epoch : Nat
  top : Nat
def encR (r : RecU) : List UInt8 :=
  if r.kind = 1 then num7 1 ++ num7 r.adr ++ (num7 r.page.length ++ r.page)
  else if r.kind = 2 then num7 2 ++ num7 r.adr ++ num7 r.ep
  else num7 3 ++ num7 r.ep
def checkD (epoch : Nat) (ep a most : Int) : Nat := if ep < epoch ∨ 1073741824 < ep then 8 else if a < 0 ∨ most < a then 1 else 0
def hasD (u : UnitD) (a : Int) : Bool := decide ((u.trimmed : Int) ≤ a) && u.rows.any fun p => (p.adr : Int) == a
def putRec (u : UnitD) (r : RecU) : StoD × Int × Int := appendD u.store (encR r)
def writeD (u : UnitD) (ep a : Int) (b : List UInt8) : UnitD × Nat :=
  if checkD u.epoch ep a 4095 ≠ 0 then (u, checkD u.epoch ep a 4095)
  else if b.length < 1 ∨ 2048 < b.length then (u, 3)
  else if a < u.trimmed then (u, 11)
  else if hasD u a then (u, 9)
  else if (putRec u ⟨1, a.toNat, 0, b⟩).2.2 ≠ 0 then ({ u with store := (putRec u ⟨1, a.toNat, 0, b⟩).1 }, (putRec u ⟨1, a.toNat, 0, b⟩).2.2.toNat)
  else ({ u with store := (putRec u ⟨1, a.toNat, 0, b⟩).1, rows := u.rows ++ [⟨a.toNat, b, (putRec u ⟨1, a.toNat, 0, b⟩).2.1.toNat⟩], top := max u.top (a.toNat + 1) }, 0)
def readU (u : UnitD) (ep a : Int) : List UInt8 × Nat :=
  if checkD u.epoch ep a 4095 ≠ 0 then ([], checkD u.epoch ep a 4095)
  else if a < u.trimmed then ([], 11)
  else match u.rows.find? fun p => (p.adr : Int) == a with
    | none => ([], 10)
    | some p => (p.bs, 0)
def dropBelow (n : Nat) (s : StoD) : StoD := { s with segs := s.segs.dropWhile fun g => decide (g.number < n) }
def neededU (rows : List PageU) (to last : Nat) : Nat := (rows.filter fun p => decide (to ≤ p.adr)).foldl (fun n p => min n p.seg) last
theorem needed_le (ps : List PageU) : ∀ n, ps.foldl (fun n p => min n p.seg) n ≤ n ∧ (∀ p ∈ ps, ps.foldl (fun n p => min n p.seg) n ≤ p.seg) ∧ (ps.foldl (fun n p => min n p.seg) n = n ∨ ∃ p ∈ ps, ps.foldl (fun n p => min n p.seg) n = p.seg) := by
  induction ps with
  | nil => intro n; exact ⟨Nat.le_refl _, fun p hp => (by cases hp), .inl rfl⟩
  | cons q ps ih =>
    intro n
    rw [List.foldl_cons]
    obtain ⟨h1, h2, h3⟩ := ih (min n q.seg)
    refine ⟨by omega, fun p hp => ?_, ?_⟩
    · rcases List.mem_cons.1 hp with rfl | hp
      · omega
      · exact h2 p hp
    · rcases h3 with h3 | ⟨p, hp, h3⟩
      · by_cases h : n ≤ q.seg
        · exact .inl (by omega)
        · exact .inr ⟨q, by simp, by omega⟩
      · exact .inr ⟨p, by simp [hp], h3⟩
end Tide

/- A unit's state, the records that its store has, the document's own unit: what binds them; a page written, a seal, a Trim keep it. It speaks of no program. -/
namespace Tide
open Go

def GoodR (r : RecU) : Prop := (r.kind = 1 ∧ r.adr ≤ 4095 ∧ 1 ≤ r.page.length ∧ r.page.length ≤ 2048) ∨ (r.kind = 2 ∧ r.adr ≤ 4096 ∧ r.ep ≤ 1073741824) ∨ (r.kind = 3 ∧ r.ep ≤ 1073741824)
def recsWith (gs : List SegD) : List (List UInt8 × Nat) := gs.flatMap fun g => g.recs.map fun b => (b, g.number)
theorem recsWith_app (a b : List SegD) : recsWith (a ++ b) = recsWith a ++ recsWith b := by unfold recsWith; rw [List.flatMap_append]
theorem recsWith_push (l : List SegD) (g : SegD) (b : List UInt8) : recsWith (l ++ [g.push b]) = recsWith (l ++ [g]) ++ [(b, g.number)] := by
  rw [recsWith_app, recsWith_app]
  simp [recsWith, SegD.push]
theorem recsWith_empty (l : List SegD) (P N : Nat) : recsWith (l ++ [⟨P, N, 0, []⟩]) = recsWith l := by
  rw [recsWith_app]
  simp [recsWith]
theorem append_recs {m : StoD} {b : List UInt8} (hr : (appendD m b).2.2 = 0) : ∃ no : Nat, (appendD m b).2.1 = (no : Int) ∧ recsWith (appendD m b).1.segs = recsWith m.segs ++ [(b, no)] ∧ ∃ l g, (appendD m b).1.segs = l ++ [g] ∧ g.number = no := by
  unfold appendD at hr ⊢
  split at hr
  · exact absurd hr (show ¬ (4 : Int) = 0 by decide)
  · rename_i hb
    rw [if_neg hb]
    have key : ∀ gs : List SegD, gs ≠ [] → ∃ no : Nat, lastNo gs = (no : Int) ∧ recsWith (pushD gs b) = recsWith gs ++ [(b, no)] ∧ ∃ l g, pushD gs b = l ++ [g] ∧ g.number = no := fun gs hne => by
      rcases List.eq_nil_or_concat gs with h0 | ⟨l, x, hc⟩
      · exact absurd h0 hne
      · rw [List.concat_eq_append] at hc
        subst hc
        exact ⟨x.number, last_snoc l x, by rw [push_snoc, recsWith_push], l, x.push b, push_snoc l x b, rfl⟩
    split at hr
    · rename_i hf
      rw [if_pos hf]
      exact key m.segs (by intro e; rw [e] at hf; cases hf)
    · rename_i hf
      rw [if_neg hf]
      cases ht : takeD m with
      | none =>
        rw [ht] at hr
        exact absurd hr (show ¬ (13 : Int) = 0 by decide)
      | some t =>
        have hts : ∃ P N, t.segs = m.segs ++ [⟨P, N, 0, []⟩] := by
          unfold takeD at ht
          split at ht
          · cases ht
          · injection ht with ht
            exact ⟨_, _, by rw [← ht]⟩
        obtain ⟨P, N, hts⟩ := hts
        obtain ⟨no, k1, k2, k3⟩ := key t.segs (by rw [hts]; simp)
        refine ⟨no, k1, ?_, k3⟩
        show recsWith (pushD t.segs b) = _
        rw [k2, hts, recsWith_empty]
theorem append_err_same {m : StoD} {b : List UInt8} (hr : (appendD m b).2.2 ≠ 0) : (appendD m b).1 = m := by
  unfold appendD at hr ⊢
  split
  · rfl
  · rename_i hb
    rw [if_neg hb] at hr
    split
    · rename_i hf
      rw [if_pos hf] at hr
      exact absurd rfl hr
    · rename_i hf
      rw [if_neg hf] at hr
      cases ht : takeD m with
      | none => rfl
      | some t =>
        rw [ht] at hr
        exact absurd rfl hr
structure Holds (u : UnitD) (s : StU) (l : List (RecU × Nat)) : Prop where
  wf : u.store.Wf
  recs : recsWith u.store.segs = l.map fun x => (encR x.1, x.2)
  good : ∀ x ∈ l, GoodR x.1
  apart : ((pagesU l).map PageU.adr).Nodup
  state : forgetU (replayU l) = s
  trimmed : s.trimmed = u.trimmed
  epoch : s.epoch = u.epoch
  pages : s.pages = u.rows.filter fun p => decide (u.trimmed ≤ p.adr)
  once : (u.rows.map PageU.adr).Nodup
  low : ∀ p ∈ u.rows, p.adr + 1 ≤ u.top
  top : u.top = 0 ∨ ∃ p ∈ u.rows, p.adr + 1 = u.top
section
variable {u : UnitD} {s : StU} {l : List (RecU × Nat)}
theorem Holds.hasPage (h : Holds u s l) (a : Nat) : hasU s a = hasD u (a : Int) := by
  unfold hasU hasD
  rw [h.pages, List.any_filter]
  by_cases ha : u.trimmed ≤ a
  · have e : decide ((u.trimmed : Int) ≤ (a : Int)) = true := decide_eq_true (by omega)
    rw [e, Bool.true_and]
    congr 1
    funext p
    by_cases hpa : p.adr = a
    · rw [hpa, decide_eq_true ha, Bool.true_and, beq_self_eq_true, beq_self_eq_true]
    · rw [beq_eq_false_iff_ne.2 hpa, beq_eq_false_iff_ne.2 (show ¬ (p.adr : Int) = (a : Int) by omega), Bool.and_false]
  · have e : decide ((u.trimmed : Int) ≤ (a : Int)) = false := decide_eq_false (by omega)
    rw [e, Bool.false_and, List.any_eq_false]
    intro p _ hp
    have hp2 : (decide (u.trimmed ≤ p.adr) && (p.adr == a)) = true := hp
    rw [Bool.and_eq_true, decide_eq_true_eq, beq_iff_eq] at hp2
    omega
end
end Tide

/- A page written, a seal: what binds a unit to its records is kept. It speaks of no program. -/
namespace Tide
open Go

section
variable {u : UnitD} {s : StU} {l : List (RecU × Nat)}
theorem forget_idem (s : StU) : forgetU (forgetU s) = forgetU s := by
  unfold forgetU
  simp only [List.filter_filter, Bool.and_self]
theorem Holds.fixed (h : Holds u s l) : forgetU s = s := by rw [← h.state, forget_idem]
theorem Holds.told (h : Holds u s l) : (replayU l).trimmed = u.trimmed ∧ (replayU l).epoch = u.epoch := by
  have h1 := h.trimmed
  have h2 := h.epoch
  rw [← h.state] at h1 h2
  exact ⟨h1, h2⟩
theorem Holds.fresh (h : Holds u s l) {a : Nat} (hh : hasU s a = false) (ha : u.trimmed ≤ a) : ∀ p ∈ pagesU l, p.adr ≠ a := fun p hp he => by
  have hpg : p ∈ s.pages := by
    rw [← h.state]
    unfold forgetU
    simp only
    rw [replay_pages l h.apart, h.told.1]
    exact List.mem_filter.2 ⟨hp, by simp; omega⟩
  unfold hasU at hh
  rw [List.any_eq_false] at hh
  exact hh p hpg (by simp [he])
theorem pages_one (r : RecU) (g : Nat) (hk : r.kind = 1) : pagesU [(r, g)] = [⟨r.adr, r.page, g⟩] := by simp [pagesU, hk]
theorem pages_none (r : RecU) (g : Nat) (hk : r.kind ≠ 1) : pagesU [(r, g)] = [] := by simp [pagesU, hk]
theorem Holds.write (h : Holds u s l) {a : Nat} {b : List UInt8} (hh : hasU s a = false) (ha : u.trimmed ≤ a) (ha2 : a ≤ 4095) (hb : 1 ≤ b.length ∧ b.length ≤ 2048) (hok : (putRec u ⟨1, a, 0, b⟩).2.2 = 0) :
    ∃ no : Nat, (putRec u ⟨1, a, 0, b⟩).2.1 = (no : Int) ∧ Holds { u with store := (putRec u ⟨1, a, 0, b⟩).1, rows := u.rows ++ [⟨a, b, no⟩], top := max u.top (a + 1) } (countU s ⟨1, a, 0, b⟩ no) (l ++ [(⟨1, a, 0, b⟩, no)]) := by
  obtain ⟨no, h1, h2, _⟩ := append_recs hok
  have hc : countU s ⟨1, a, 0, b⟩ no = { s with pages := s.pages ++ [⟨a, b, no⟩] } := by
    unfold countU
    rw [if_pos rfl, if_neg (by rw [show hasU s (⟨1, a, 0, b⟩ : RecU).adr = hasU s a from rfl, hh]; decide)]
  have hra : ∀ p ∈ u.rows, p.adr ≠ a := fun p hp he => by
    have hp2 : p ∈ s.pages := by rw [h.pages]; exact List.mem_filter.2 ⟨hp, by simp; omega⟩
    unfold hasU at hh
    rw [List.any_eq_false] at hh
    exact hh p hp2 (by simp [he])
  refine ⟨no, h1, ?_⟩
  rw [hc]
  exact {
    wf := append_wf h.wf _
    recs := by
      show recsWith (appendD u.store _).1.segs = _
      rw [h2, h.recs, List.map_append]
      rfl
    good := fun x hx => by
      rcases List.mem_append.1 hx with hx | hx
      · exact h.good x hx
      · simp only [List.mem_singleton] at hx
        subst hx
        exact .inl ⟨rfl, ha2, hb.1, hb.2⟩
    apart := by
      rw [pages_app, pages_one _ _ rfl, List.map_append, List.nodup_append]
      refine ⟨h.apart, by simp, fun x hx y hy => ?_⟩
      obtain ⟨p, hp, rfl⟩ := List.mem_map.1 hx
      have hya : y = a := by simpa using hy
      rw [hya]
      exact h.fresh hh ha p hp
    state := by
      rw [replay_snoc]
      have hf := forget_count (replayU l) ⟨1, a, 0, b⟩ no (fun _ => by rw [h.told.1]; exact ha)
      simp only
      rw [hf, h.state, hc]
      unfold forgetU
      simp only
      congr 1
      rw [List.filter_append]
      have hfx := congrArg StU.pages h.fixed
      unfold forgetU at hfx
      simp only at hfx
      rw [hfx, h.trimmed]
      simp [ha]
    trimmed := h.trimmed
    epoch := h.epoch
    pages := by
      simp only
      rw [List.filter_append, ← h.pages]
      simp [ha]
    once := by
      simp only
      rw [List.map_append, List.nodup_append]
      refine ⟨h.once, by simp, fun x hx y hy => ?_⟩
      obtain ⟨p, hp, rfl⟩ := List.mem_map.1 hx
      have hya : y = a := by simpa using hy
      rw [hya]
      exact hra p hp
    low := fun p hp => by
      simp only at hp ⊢
      rcases List.mem_append.1 hp with hp | hp
      · have := h.low p hp; omega
      · simp only [List.mem_singleton] at hp
        subst hp
        simp only
        omega
    top := by
      simp only
      by_cases ht : u.top ≤ a + 1
      · exact .inr ⟨⟨a, b, no⟩, by simp, by simp only; omega⟩
      · rcases h.top with h3 | ⟨p, hp, h3⟩
        · omega
        · exact .inr ⟨p, by simp [hp], by omega⟩ }
theorem Holds.trim (h : Holds u s l) {t : Nat} (ht : u.trimmed < t) (ht2 : t ≤ 4096) (he : u.epoch ≤ 1073741824) (hok : (putRec u ⟨2, t, u.epoch, []⟩).2.2 = 0) :
    ∃ no : Nat, (putRec u ⟨2, t, u.epoch, []⟩).2.1 = (no : Int) ∧ Holds { u with store := (putRec u ⟨2, t, u.epoch, []⟩).1, trimmed := t } (forgetU (countU s ⟨2, t, u.epoch, []⟩ no)) (l ++ [(⟨2, t, u.epoch, []⟩, no)]) := by
  obtain ⟨no, h1, h2, _⟩ := append_recs hok
  have hc : ∀ s : StU, countU s ⟨2, t, u.epoch, []⟩ no = { s with trimmed := t, epoch := u.epoch } := fun s => by
    unfold countU
    rw [if_neg (show ¬ (2 : Nat) = 1 by decide), if_pos rfl]
  refine ⟨no, h1, ?_⟩
  exact {
    wf := append_wf h.wf _
    recs := by
      show recsWith (appendD u.store _).1.segs = _
      rw [h2, h.recs, List.map_append]
      rfl
    good := fun x hx => by
      rcases List.mem_append.1 hx with hx | hx
      · exact h.good x hx
      · simp only [List.mem_singleton] at hx
        subst hx
        exact .inr (.inl ⟨rfl, ht2, he⟩)
    apart := by
      rw [pages_app, pages_none _ _ (show ¬ (2 : Nat) = 1 by decide), List.append_nil]
      exact h.apart
    state := by
      rw [replay_snoc]
      have hf := forget_count (replayU l) ⟨2, t, u.epoch, []⟩ no (fun _ => by rw [h.told.1]; simp only; omega)
      simp only
      rw [hf, h.state]
    trimmed := by rw [hc]; rfl
    epoch := by rw [hc]; rfl
    pages := by
      rw [hc]
      unfold forgetU
      simp only
      rw [h.pages, List.filter_filter]
      apply List.filter_congr
      intro p _
      by_cases hp : t ≤ p.adr
      · rw [decide_eq_true hp, decide_eq_true (show u.trimmed ≤ p.adr by omega)]; rfl
      · rw [decide_eq_false hp]; rfl
    once := h.once
    low := h.low
    top := h.top }
end
theorem Holds.new (P : Nat) : Holds ⟨⟨P, []⟩, [], 0, 0, 0⟩ ⟨[], 0, 0⟩ [] where
  wf := ⟨fun g hg => (by cases hg), List.nodup_nil, List.Pairwise.nil, fun g hg => (by cases hg)⟩
  recs := rfl
  good := fun x hx => by cases hx
  apart := List.nodup_nil
  state := rfl
  trimmed := rfl
  epoch := rfl
  pages := rfl
  once := List.nodup_nil
  low := fun p hp => by cases hp
  top := .inl rfl
end Tide

/- Segments given back behind a Trim: what binds a unit to its records is kept. It speaks of no program. -/
namespace Tide
open Go

theorem wf_sub {s : StoD} (h : s.Wf) {gs : List SegD} (hs : gs.Sublist s.segs) : (⟨s.places, gs⟩ : StoD).Wf where
  place := fun g hg => h.place g (hs.subset hg)
  apart := h.apart.sublist (hs.map _)
  rise := h.rise.sublist (hs.map _)
  recs := fun g hg => h.recs g (hs.subset hg)
theorem drop_recs (n : Nat) : ∀ gs : List SegD, (gs.map SegD.number).Pairwise (· < ·) → recsWith (gs.dropWhile fun g => decide (g.number < n)) = (recsWith gs).filter fun x => decide (n ≤ x.2)
  | [], _ => rfl
  | g :: gs, h => by
    rw [List.map_cons, List.pairwise_cons] at h
    have e : recsWith (g :: gs) = (g.recs.map fun b => (b, g.number)) ++ recsWith gs := rfl
    by_cases hn : g.number < n
    · rw [List.dropWhile_cons_of_pos (by simpa using hn), drop_recs n gs h.2, e, List.filter_append]
      have : (g.recs.map fun b => (b, g.number)).filter (fun x => decide (n ≤ x.2)) = [] := by
        rw [List.filter_eq_nil_iff]
        intro x hx
        obtain ⟨b, _, rfl⟩ := List.mem_map.1 hx
        simp
        omega
      rw [this, List.nil_append]
    · rw [List.dropWhile_cons_of_neg (by simpa using hn)]
      have hall : ∀ x ∈ recsWith (g :: gs), n ≤ x.2 := fun x hx => by
        unfold recsWith at hx
        obtain ⟨y, hy, hx⟩ := List.mem_flatMap.1 hx
        obtain ⟨b, _, rfl⟩ := List.mem_map.1 hx
        rcases List.mem_cons.1 hy with rfl | hy
        · simp only; omega
        · have := h.1 _ (List.mem_map.2 ⟨y, hy, rfl⟩)
          simp only
          omega
      rw [List.filter_eq_self.2 (fun x hx => by simpa using hall x hx)]
theorem pages_filter (n : Nat) : ∀ l : List (RecU × Nat), pagesU (l.filter fun x => decide (n ≤ x.2)) = (pagesU l).filter fun p => decide (n ≤ p.seg)
  | [] => rfl
  | x :: l => by
    have ih := pages_filter n l
    have e : pagesU (x :: l) = pagesU [x] ++ pagesU l := pages_app [x] l
    rw [e, List.filter_append, ← ih]
    by_cases hx : n ≤ x.2
    · rw [List.filter_cons_of_pos (by simpa using hx)]
      rw [show pagesU (x :: l.filter fun x => decide (n ≤ x.2)) = pagesU [x] ++ pagesU (l.filter fun x => decide (n ≤ x.2)) from pages_app [x] _]
      congr 1
      by_cases hk : x.1.kind = 1
      · simp [pagesU, hk, hx]
      · simp [pagesU, hk]
    · rw [List.filter_cons_of_neg (by simpa using hx)]
      have : (pagesU [x]).filter (fun p => decide (n ≤ p.seg)) = [] := by
        by_cases hk : x.1.kind = 1
        · simp [pagesU, hk]; omega
        · simp [pagesU, hk]
      rw [this, List.nil_append]
theorem Holds.drops {u : UnitD} {s : StU} {k : List (RecU × Nat)} {t : RecU × Nat} (h : Holds u s (k ++ [t])) (ht : t.1.kind = 2) {n : Nat} (hn : n ≤ t.2) (hp : ∀ p ∈ s.pages, n ≤ p.seg) :
    Holds { u with store := dropBelow n u.store } s ((k.filter fun x => decide (n ≤ x.2)) ++ [t]) := by
  have el : ((k ++ [t]).filter fun x => decide (n ≤ x.2)) = (k.filter fun x => decide (n ≤ x.2)) ++ [t] := by
    rw [List.filter_append]
    simp [hn]
  have hst : ∀ k : List (RecU × Nat), (replayU (k ++ [t])).trimmed = t.1.adr ∧ (replayU (k ++ [t])).epoch = t.1.ep := fun k => by
    rw [replay_snoc]
    unfold countU
    rw [if_neg (by omega), if_pos ht]
    exact ⟨rfl, rfl⟩
  have hap : ((pagesU ((k ++ [t]).filter fun x => decide (n ≤ x.2))).map PageU.adr).Nodup := by
    rw [pages_filter]
    exact h.apart.sublist (List.filter_sublist.map _)
  have hpg : s.pages = (pagesU (k ++ [t])).filter fun p => decide (t.1.adr ≤ p.adr) := by
    rw [← h.state]
    unfold forgetU
    simp only
    rw [replay_pages _ h.apart, (hst k).1]
  exact {
    wf := wf_sub h.wf (List.dropWhile_sublist _)
    recs := by
      show recsWith (u.store.segs.dropWhile _) = _
      rw [drop_recs n _ h.wf.rise, h.recs, List.filter_map, ← el]
      rfl
    good := fun x hx => h.good x (by
      rw [← el] at hx
      exact (List.mem_filter.1 hx).1)
    apart := by rw [← el]; exact hap
    state := by
      rw [← h.state]
      have h1 := replay_pages _ hap
      rw [el] at h1
      unfold forgetU
      rw [h1, replay_pages _ h.apart, (hst k).1, (hst k).2, (hst _).1, (hst _).2, ← el, pages_filter]
      congr 1
      rw [List.filter_filter]
      apply List.filter_congr
      intro p hpm
      by_cases hta : t.1.adr ≤ p.adr
      · have := hp p (by rw [hpg]; exact List.mem_filter.2 ⟨hpm, by simpa using hta⟩)
        simp [hta, this]
      · simp [hta]
    trimmed := h.trimmed
    epoch := h.epoch
    pages := h.pages
    once := h.once
    low := h.low
    top := h.top }
end Tide

/- The document's own unit: where a page stands, as numbers; the loop of a Trim. It speaks of no program. -/
namespace Tide
open Go

end Tide
