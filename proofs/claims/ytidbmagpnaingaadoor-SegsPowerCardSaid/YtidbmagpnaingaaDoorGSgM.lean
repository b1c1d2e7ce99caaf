/- The document's own stores of records, without memory: what is taken, what fits, what an append, a drop make; when two stores tell the same. It speaks of no program. -/
import Derived.Test.YtidbmagpnaingaaDoorGMem
namespace Tide
open Go

/-- A segment in use: its place, its number, how many sectors its records take; the records. -/
structure SegD where
  place : Nat
  number : Nat
  sectors : Nat
  recs : List (List UInt8)
/-- A store: of so many places, segments by rising numbers. -/
structure StoD where
  places : Nat
  segs : List SegD
def needD (n : Nat) : Nat := 1 + (n + 63) / 64
/-- Is a place taken? -/
def takenB (gs : List SegD) (p : Int) : Bool := gs.any fun g => (g.place : Int) == p
/-- The free place that stands first, among the last k of P; -1: none. -/
def scanD (gs : List SegD) (P : Nat) : Nat → Int
  | 0 => -1
  | k + 1 => if takenB gs ((P : Int) - 1 - k) then scanD gs P k else (P : Int) - 1 - k
def lastNo (gs : List SegD) : Int := match gs.getLast? with
  | none => -1
  | some g => (g.number : Int)
/-- A free segment is taken. -/
def takeD (s : StoD) : Option StoD := if scanD s.segs s.places s.places < 0 then none else some { s with segs := s.segs ++ [⟨(scanD s.segs s.places s.places).toNat, (lastNo s.segs + 1).toNat, 0, []⟩] }
def fitsD (gs : List SegD) (n : Nat) : Bool := match gs.getLast? with
  | none => false
  | some g => decide (g.sectors + needD n ≤ 63)
def SegD.push (g : SegD) (b : List UInt8) : SegD := { g with sectors := g.sectors + needD b.length, recs := g.recs ++ [b] }
/-- A record in the last segment. -/
def pushD (gs : List SegD) (b : List UInt8) : List SegD := match gs.getLast? with
  | none => gs
  | some g => gs.dropLast ++ [g.push b]
/-- An append: the store, the segment's number, the error's. -/
def appendD (s : StoD) (b : List UInt8) : StoD × Int × Int :=
  if b.length < 1 ∨ 3968 < b.length then (s, 0, 4)
  else if fitsD s.segs b.length then ({ s with segs := pushD s.segs b }, lastNo s.segs, 0)
  else match takeD s with
    | none => (s, 0, 13)
    | some t => ({ t with segs := pushD t.segs b }, lastNo t.segs, 0)
def dropAt (gs : List SegD) (n : Int) : Option Nat := gs.findIdx? fun g => (g.number : Int) == n
/-- A drop: the store, the error's number. -/
def dropD (s : StoD) (n : Int) : StoD × Int := match dropAt s.segs n with
  | none => (s, 16)
  | some i => if i + 1 = s.segs.length then (s, 17) else ({ s with segs := s.segs.eraseIdx i }, 0)
/-- The records of the segment of a number; none: no such segment. -/
def recsOf (gs : List SegD) (n : Int) : List (List UInt8) := match gs.find? fun g => (g.number : Int) == n with
  | none => []
  | some g => g.recs
/-- Does a store tell what another one holds? -/
def sameB (m v : StoD) : Bool :=
  (v.segs.all fun g => decide (recsOf m.segs (g.number : Int) = g.recs)) &&
    (decide (m.segs.map (fun g => (g.number : Int)) = v.segs.map (fun g => (g.number : Int))) && (lastNo m.segs == lastNo v.segs) && ((m.places : Int) - (m.segs.length : Int) == (v.places : Int) - (v.segs.length : Int)) && ((recsOf m.segs (lastNo v.segs + 1)).length == 0))
/-- Right: places apart, numbers rising, records of 1 to 3968 bytes that take the sectors. -/
structure StoD.Wf (s : StoD) : Prop where
  place : ∀ g ∈ s.segs, g.place < s.places
  apart : (s.segs.map SegD.place).Nodup
  rise : (s.segs.map SegD.number).Pairwise (· < ·)
  recs : ∀ g ∈ s.segs, g.sectors = (g.recs.map fun b => needD b.length).sum ∧ g.sectors ≤ 63 ∧ ∀ b ∈ g.recs, 1 ≤ b.length ∧ b.length ≤ 3968

theorem scan_low (gs : List SegD) (P : Nat) : ∀ k, k ≤ P → scanD gs P k = -1 ∨ ((P : Int) - k ≤ scanD gs P k ∧ scanD gs P k < P)
  | 0, _ => .inl rfl
  | k + 1, h => by
    unfold scanD
    split
    · rcases scan_low gs P k (by omega) with h1 | h1
      · exact .inl h1
      · exact .inr ⟨by omega, h1.2⟩
    · exact .inr ⟨by omega, by omega⟩
theorem scan_free (gs : List SegD) (P : Nat) : ∀ k, k ≤ P → 0 ≤ scanD gs P k → takenB gs (scanD gs P k) = false
  | 0, _, h => by simp [scanD] at h
  | k + 1, hk, h => by
    unfold scanD at h ⊢
    split
    · rename_i ht
      rw [if_pos ht] at h
      exact scan_free gs P k (by omega) h
    · rename_i ht
      simpa using ht
theorem takenB_false {gs : List SegD} {p : Int} (h : takenB gs p = false) : ∀ g ∈ gs, (g.place : Int) ≠ p := by
  intro g hg e
  have : takenB gs p = true := List.any_eq_true.2 ⟨g, hg, by simpa using e⟩
  rw [h] at this
  cases this
theorem last_snoc (gs : List SegD) (g : SegD) : lastNo (gs ++ [g]) = (g.number : Int) := by simp [lastNo]
theorem last_ge (gs : List SegD) : -1 ≤ lastNo gs := by
  unfold lastNo
  split <;> omega
theorem last_max {gs : List SegD} (h : (gs.map SegD.number).Pairwise (· < ·)) : ∀ g ∈ gs, (g.number : Int) ≤ lastNo gs := by
  rcases List.eq_nil_or_concat gs with rfl | ⟨l, x, hc⟩
  · intro g hg; cases hg
  · rw [List.concat_eq_append] at hc
    subst hc
    intro g hg
    rw [last_snoc]
    rw [List.map_append, List.pairwise_append] at h
    rcases List.mem_append.1 hg with hg | hg
    · have := h.2.2 g.number (List.mem_map.2 ⟨g, hg, rfl⟩) x.number (by simp)
      omega
    · simp only [List.mem_singleton] at hg
      subst hg
      exact Int.le_refl _
/-- What was taken is right. -/
theorem take_wf {s t : StoD} (h : s.Wf) (ht : takeD s = some t) : t.Wf := by
  unfold takeD at ht
  split at ht
  · cases ht
  · rename_i h0
    injection ht with ht
    subst ht
    have hlow := scan_low s.segs s.places s.places (Nat.le_refl _)
    have hfree := takenB_false (scan_free s.segs s.places s.places (Nat.le_refl _) (by omega))
    have hmax := last_max h.rise
    have hge := last_ge s.segs
    refine ⟨?_, ?_, ?_, ?_⟩
    · intro g hg
      rcases List.mem_append.1 hg with hg | hg
      · exact h.place g hg
      · simp only [List.mem_singleton] at hg
        subst hg
        show (scanD s.segs s.places s.places).toNat < s.places
        omega
    · rw [List.map_append]
      refine List.nodup_append.2 ⟨h.apart, by simp, ?_⟩
      intro a ha b hb
      simp only [List.map_cons, List.map_nil, List.mem_singleton] at hb
      obtain ⟨g, hg, rfl⟩ := List.mem_map.1 ha
      have := hfree g hg
      omega
    · rw [List.map_append]
      refine List.pairwise_append.2 ⟨h.rise, by simp, ?_⟩
      intro a ha b hb
      simp only [List.map_cons, List.map_nil, List.mem_singleton] at hb
      obtain ⟨g, hg, rfl⟩ := List.mem_map.1 ha
      have := hmax g hg
      omega
    · intro g hg
      rcases List.mem_append.1 hg with hg | hg
      · exact h.recs g hg
      · simp only [List.mem_singleton] at hg
        subst hg
        exact ⟨rfl, Nat.zero_le _, fun b hb => by cases hb⟩
theorem push_snoc (l : List SegD) (g : SegD) (b : List UInt8) : pushD (l ++ [g]) b = l ++ [g.push b] := by simp [pushD]
theorem fits_snoc' (l : List SegD) (g : SegD) (n : Nat) : fitsD (l ++ [g]) n = decide (g.sectors + needD n ≤ 63) := by simp [fitsD]
theorem push_wf {s : StoD} (h : s.Wf) (b : List UInt8) (hb : 1 ≤ b.length ∧ b.length ≤ 3968) (hf : fitsD s.segs b.length = true) : ({ s with segs := pushD s.segs b } : StoD).Wf := by
  obtain ⟨P, gs⟩ := s
  rcases List.eq_nil_or_concat gs with rfl | ⟨l, x, hc⟩
  · cases hf
  rw [List.concat_eq_append] at hc
  subst hc
  simp only at hf ⊢
  rw [fits_snoc'] at hf
  have hf := of_decide_eq_true hf
  rw [push_snoc]
  refine ⟨?_, ?_, ?_, ?_⟩
  · intro g hg
    rcases List.mem_append.1 hg with hg | hg
    · exact h.place g (List.mem_append.2 (.inl hg))
    · simp only [List.mem_singleton] at hg
      subst hg
      exact h.place x (by simp)
  · have := h.apart
    simp only [List.map_append, List.map_cons, List.map_nil] at this ⊢
    exact this
  · have := h.rise
    simp only [List.map_append, List.map_cons, List.map_nil] at this ⊢
    exact this
  · intro g hg
    rcases List.mem_append.1 hg with hg | hg
    · exact h.recs g (List.mem_append.2 (.inl hg))
    · simp only [List.mem_singleton] at hg
      subst hg
      obtain ⟨h1, h2, h3⟩ := h.recs x (by simp)
      refine ⟨?_, hf, fun c hc => ?_⟩
      · show x.sectors + needD b.length = ((x.recs ++ [b]).map _).sum
        rw [List.map_append, List.sum_append, h1]
        simp
      · rcases List.mem_append.1 hc with hc | hc
        · exact h3 c hc
        · simp only [List.mem_singleton] at hc
          subst hc
          exact hb
theorem take_fits {s t : StoD} (ht : takeD s = some t) (n : Nat) (hn : n ≤ 3968) : fitsD t.segs n = true := by
  unfold takeD at ht
  split at ht
  · cases ht
  · injection ht with ht
    subst ht
    rw [fits_snoc']
    unfold needD
    exact decide_eq_true (by show 0 + _ ≤ 63; omega)
theorem append_wf {s : StoD} (h : s.Wf) (b : List UInt8) : (appendD s b).1.Wf := by
  unfold appendD
  split
  · exact h
  · rename_i hb
    split
    · rename_i hf
      exact push_wf h b (by omega) hf
    · split
      · exact h
      · rename_i t ht
        exact push_wf (take_wf h ht) b (by omega) (take_fits ht _ (by omega))
theorem drop_wf {s : StoD} (h : s.Wf) (n : Int) : (dropD s n).1.Wf := by
  unfold dropD
  split
  · exact h
  · split
    · exact h
    · have hs := fun (i : Nat) => List.eraseIdx_sublist s.segs i
      exact ⟨fun g hg => h.place g ((hs _).subset hg), h.apart.sublist ((hs _).map _), h.rise.sublist ((hs _).map _), fun g hg => h.recs g ((hs _).subset hg)⟩
end Tide
