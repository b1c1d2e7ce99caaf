/- Sectors: what an image reads as behind a write; that what is read behind writes is what the last of them wrote; that what is put back sector by sector is the image. It speaks of no program. -/
import Derived.Test.YtidbmagpnaingaaDoorGDgS
import Derived.Test.YtidbmagpnaingaaDoorGDkC
namespace Go.Proofs.YtidbmagpnaingaaDoor
open Go.RowKit Tide

theorem sect_get (l : List UInt8) (i j : Nat) (h : j < 64) : (sect l i)[j]? = l[64 * i + j]? := by
  unfold sect
  rw [List.getElem?_take_of_lt h, List.getElem?_drop]
theorem sect_len (l : List UInt8) (i : Nat) (h : 64 * i + 64 ≤ l.length) : (sect l i).length = 64 := by
  unfold sect
  rw [List.length_take, List.length_drop]; omega
theorem put_len (l : List UInt8) (x : Nat × List UInt8) (h : 64 * x.1 + 64 ≤ l.length) (hb : x.2.length = 64) : (putS l x).length = l.length := by
  unfold putS
  rw [List.length_append, List.length_append, List.length_take, List.length_drop]; omega
theorem put_get (l : List UInt8) (x : Nat × List UInt8) (h : 64 * x.1 + 64 ≤ l.length) (hb : x.2.length = 64) (k : Nat) : (putS l x)[k]? = if k < 64 * x.1 then l[k]? else if k < 64 * x.1 + 64 then x.2[k - 64 * x.1]? else l[k]? := by
  have h1 : (l.take (64 * x.1)).length = 64 * x.1 := by rw [List.length_take]; omega
  unfold putS
  by_cases h2 : k < 64 * x.1
  · rw [if_pos h2, List.append_assoc, List.getElem?_append_left (by omega), List.getElem?_take_of_lt h2]
  · rw [if_neg h2]
    by_cases h3 : k < 64 * x.1 + 64
    · rw [if_pos h3, List.append_assoc, List.getElem?_append_right (by omega), h1, List.getElem?_append_left (by omega)]
    · rw [if_neg h3, List.getElem?_append_right (by rw [List.length_append]; omega), List.length_append, h1, List.getElem?_drop]
      congr 1
      omega
theorem sect_put (l : List UInt8) (x : Nat × List UInt8) (h : 64 * x.1 + 64 ≤ l.length) (hb : x.2.length = 64) (i : Nat) : sect (putS l x) i = if x.1 = i then x.2 else sect l i := by
  apply List.ext_getElem?
  intro j
  by_cases hj : j < 64
  · rw [sect_get _ _ _ hj, put_get l x h hb]
    by_cases hi : x.1 = i
    · rw [if_neg (by omega), if_pos (by omega), if_pos hi]
      congr 1
      omega
    · rw [if_neg hi, sect_get _ _ _ hj]
      by_cases h2 : 64 * i + j < 64 * x.1
      · rw [if_pos h2]
      · rw [if_neg h2, if_neg (by omega)]
  · rw [List.getElem?_eq_none (by unfold sect; rw [List.length_take]; omega)]
    symm
    apply List.getElem?_eq_none
    split
    · omega
    · unfold sect; rw [List.length_take]; omega
theorem sect_ext (a b : List UInt8) (m : Nat) (ha : a.length = 64 * m) (hb : b.length = 64 * m) (h : ∀ i, i < m → sect a i = sect b i) : a = b := by
  apply List.ext_getElem?
  intro k
  by_cases hk : k < 64 * m
  · have h1 : k / 64 < m := by omega
    have h2 := congrArg (fun l => l[k % 64]?) (h _ h1)
    rw [sect_get _ _ _ (Nat.mod_lt _ (by omega)), sect_get _ _ _ (Nat.mod_lt _ (by omega))] at h2
    rwa [show 64 * (k / 64) + k % 64 = k by omega] at h2
  · rw [List.getElem?_eq_none (by omega), List.getElem?_eq_none (by omega)]
/-- Writes that are right, for m sectors. -/
def FitsD (m : Nat) (pend : List (Nat × List UInt8)) : Prop := ∀ x ∈ pend, x.1 < m ∧ x.2.length = 64
theorem flushD_len (m : Nat) (pend : List (Nat × List UInt8)) (h : FitsD m pend) : ∀ img : List UInt8, img.length = 64 * m → (flushD img pend).length = 64 * m := by
  induction pend with
  | nil => intro img hi; exact hi
  | cons x r ih =>
    intro img hi
    have hx := h x (by simp)
    exact ih (fun y hy => h y (by simp [hy])) (putS img x) (by rw [put_len _ _ (by omega) hx.2]; exact hi)
/-- What is read is the sector of what a flush would make. -/
theorem read_flush (m i : Nat) (pend : List (Nat × List UInt8)) (h : FitsD m pend) : ∀ img : List UInt8, img.length = 64 * m → sect (flushD img pend) i = readD img pend i := by
  induction pend with
  | nil => intro img _; rfl
  | cons x r ih =>
    intro img hi
    have hx := h x (by simp)
    have h2 := ih (fun y hy => h y (by simp [hy])) (putS img x) (by rw [put_len _ _ (by omega) hx.2]; exact hi)
    show sect (flushD (putS img x) r) i = _
    rw [h2]
    unfold readD
    rw [sect_put _ _ (by omega) hx.2]
    rfl
theorem flush_snoc (img : List UInt8) (pend : List (Nat × List UInt8)) (x : Nat × List UInt8) : flushD img (pend ++ [x]) = putS (flushD img pend) x := by
  unfold flushD
  rw [List.foldl_append]
  rfl
/-- Sectors put back out of d, one for each write. -/
def backD (d : List UInt8) (now : List UInt8) (pend : List (Nat × List UInt8)) : List UInt8 := flushD now (pend.map fun x => (x.1, sect d x.1))
theorem read_far (i : Nat) (pend : List (Nat × List UInt8)) (h : ∀ x ∈ pend, x.1 ≠ i) : ∀ b : List UInt8, pend.foldl (fun b x => if x.1 = i then x.2 else b) b = b := by
  induction pend with
  | nil => intro b; rfl
  | cons x r ih =>
    intro b
    rw [List.foldl_cons, if_neg (h x (by simp))]
    exact ih (fun y hy => h y (by simp [hy])) b
theorem read_back (d : List UInt8) (i : Nat) (pend : List (Nat × List UInt8)) (h : ∃ x ∈ pend, x.1 = i) : ∀ b : List UInt8, (pend.map fun x => (x.1, sect d x.1)).foldl (fun b x => if x.1 = i then x.2 else b) b = sect d i := by
  induction pend with
  | nil => obtain ⟨x, hx, _⟩ := h; cases hx
  | cons x r ih =>
    intro b
    rw [List.map_cons, List.foldl_cons]
    by_cases hr : ∃ y ∈ r, y.1 = i
    · exact ih hr _
    · obtain ⟨y, hy, hyi⟩ := h
      have hxy : y = x := by
        rcases List.mem_cons.1 hy with e | e
        · exact e
        · exact absurd ⟨y, e, hyi⟩ hr
      subst hxy
      rw [if_pos hyi, read_far i _ (by
        intro z hz
        obtain ⟨u, hu, rfl⟩ := List.mem_map.1 hz
        intro e
        exact hr ⟨u, hu, e⟩), hyi]
theorem fits_back (m : Nat) (d : List UInt8) (hd : d.length = 64 * m) (pend : List (Nat × List UInt8)) (h : FitsD m pend) : FitsD m (pend.map fun x => (x.1, sect d x.1)) := by
  intro z hz
  obtain ⟨u, hu, rfl⟩ := List.mem_map.1 hz
  have := (h u hu).1
  exact ⟨this, sect_len _ _ (by omega)⟩
/-- Where d differs from img at written sectors alone, putting back makes d of whatever was made of img by these writes. -/
theorem back_all (m : Nat) (img d : List UInt8) (pend : List (Nat × List UInt8)) (hi : img.length = 64 * m) (hd : d.length = 64 * m) (h : FitsD m pend) (hfar : ∀ i, i < m → (∀ x ∈ pend, x.1 ≠ i) → sect d i = sect img i) :
    backD d (flushD img pend) pend = d := by
  have hf := flushD_len m pend h img hi
  have hb := fits_back m d hd pend h
  refine sect_ext _ _ m (flushD_len m _ hb _ hf) hd fun i him => ?_
  unfold backD
  rw [read_flush m i _ hb _ hf]
  unfold readD
  by_cases hx : ∃ x ∈ pend, x.1 = i
  · exact read_back d i pend hx _
  · have hne : ∀ x ∈ pend, x.1 ≠ i := fun x hx' e => hx ⟨x, hx', e⟩
    rw [read_far i _ (by
      intro z hz
      obtain ⟨u, hu, rfl⟩ := List.mem_map.1 hz
      exact hne u hu), read_flush m i pend h img hi]
    unfold readD
    rw [read_far i _ hne, hfar i him hne]
/-- What becomes of an image: all writes done, or none. -/
def outD (all : Bool) (img : List UInt8) (pend : List (Nat × List UInt8)) : List UInt8 := if all then flushD img pend else img
theorem out_back (all : Bool) (m : Nat) (img : List UInt8) (pend : List (Nat × List UInt8)) (hi : img.length = 64 * m) (h : FitsD m pend) : backD (outD all img pend) (flushD img pend) pend = outD all img pend := by
  have hf := flushD_len m pend h img hi
  cases all with
  | true =>
    refine back_all m img (flushD img pend) pend hi hf h fun i him hne => ?_
    rw [read_flush m i pend h img hi]
    unfold readD
    rw [read_far i _ hne]
  | false => exact back_all m img img pend hi hi h fun _ _ _ => rfl
theorem splice_put (l : List UInt8) (i : Nat) (b : List UInt8) (hb : b.length = 64) : splice (u8s l) (64 * i) (u8s b) = u8s (putS l (i, b)) := by
  unfold splice putS u8s
  rw [List.length_map, hb, List.map_append, List.map_append, List.map_take, List.map_drop, List.append_assoc]
end Go.Proofs.YtidbmagpnaingaaDoor
