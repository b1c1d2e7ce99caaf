/- What is written of items: numbers, texts and lists as bytes, and when nothing is told. It speaks of no program. -/
import Derived.Test.YtcmihmilkcihcaaDoorNum7
namespace Tide

/-- A number that can be written. -/
def rightB (x : Int) : Bool := decide (0 ≤ x) && decide (x ≤ 4611686018427387903)
/-- What was written, and a number more; none: an error. -/
def stNum (st : Option (List UInt8)) (x : Int) : Option (List UInt8) := if rightB x then st.map (· ++ num7 x.toNat) else none
def stText (st : Option (List UInt8)) (s : ByteArray) : Option (List UInt8) := st.map (· ++ text7 s)
def stNums (st : Option (List UInt8)) (l : List Int) : Option (List UInt8) := l.foldl stNum (stNum st l.length)
/-- An item: its kind, number, text and list. -/
structure ItemD where
  kind : Int
  n : Int
  text : ByteArray
  list : List Int
def stItem (st : Option (List UInt8)) (d : ItemD) : Option (List UInt8) := if d.kind = 0 then stNum st d.n else if d.kind = 1 then stText st d.text else stNums st d.list
def stItems (st : Option (List UInt8)) (ds : List ItemD) : Option (List UInt8) := ds.foldl stItem st
/-- An item that can be written. -/
def okItem (d : ItemD) : Bool := if d.kind = 0 then rightB d.n else if d.kind = 1 then true else d.list.all rightB
/-- An item's bytes. -/
def encItem (d : ItemD) : List UInt8 := if d.kind = 0 then num7 d.n.toNat else if d.kind = 1 then text7 d.text else nums7 (d.list.map Int.toNat)

theorem stNum_none (x : Int) : stNum none x = none := by unfold stNum; split <;> rfl
theorem stNum_ok {x : Int} (h : rightB x = true) (q : List UInt8) : stNum (some q) x = some (q ++ num7 x.toNat) := by unfold stNum; rw [if_pos h]; rfl
theorem stNum_bad {x : Int} (h : rightB x = false) (st : Option (List UInt8)) : stNum st x = none := by unfold stNum; rw [if_neg (by rw [h]; simp)]
theorem stNum_some (st : Option (List UInt8)) (x : Int) : (stNum st x).isSome = (st.isSome && rightB x) := by
  cases h : rightB x with
  | true => unfold stNum; rw [if_pos h]; cases st <;> rfl
  | false => rw [stNum_bad h]; simp
theorem fold_none (l : List Int) : l.foldl stNum none = none := by
  induction l with
  | nil => rfl
  | cons x l ih => rw [List.foldl_cons, stNum_none, ih]
theorem fold_some (l : List Int) (st : Option (List UInt8)) : (l.foldl stNum st).isSome = (st.isSome && l.all rightB) := by
  induction l generalizing st with
  | nil => simp
  | cons x l ih => rw [List.foldl_cons, ih, stNum_some, List.all_cons, Bool.and_assoc]
theorem fold_ok {l : List Int} (h : l.all rightB = true) (q : List UInt8) : l.foldl stNum (some q) = some (q ++ (l.map Int.toNat).flatMap num7) := by
  induction l generalizing q with
  | nil => simp
  | cons x l ih =>
    rw [List.all_cons, Bool.and_eq_true] at h
    rw [List.foldl_cons, stNum_ok h.1, ih h.2, List.map_cons, List.flatMap_cons, List.append_assoc]
theorem right_len {n : Nat} (h : n ≤ 4611686018427387903) : rightB (n : Int) = true := by unfold rightB; simp; omega
theorem stNums_some {st : Option (List UInt8)} {l : List Int} (h : l.length ≤ 65536) : (stNums st l).isSome = (st.isSome && l.all rightB) := by
  unfold stNums
  rw [fold_some, stNum_some, right_len (by omega), Bool.and_true]
theorem stNums_ok {l : List Int} (hl : l.length ≤ 65536) (h : l.all rightB = true) (q : List UInt8) : stNums (some q) l = some (q ++ nums7 (l.map Int.toNat)) := by
  unfold stNums nums7
  rw [stNum_ok (right_len (by omega)), fold_ok h, List.append_assoc, List.length_map, Int.toNat_natCast]
theorem stItem_some {st : Option (List UInt8)} {d : ItemD} (h : d.list.length ≤ 65536) : (stItem st d).isSome = (st.isSome && okItem d) := by
  unfold stItem okItem
  split
  · exact stNum_some _ _
  · split
    · unfold stText; cases st <;> rfl
    · exact stNums_some h
theorem stItem_ok {d : ItemD} (hl : d.list.length ≤ 65536) (h : okItem d = true) (q : List UInt8) : stItem (some q) d = some (q ++ encItem d) := by
  unfold okItem at h
  unfold stItem encItem
  split
  · rename_i h0; rw [if_pos h0] at h; exact stNum_ok h q
  · rename_i h0
    rw [if_neg h0] at h
    split
    · rfl
    · rename_i h1; rw [if_neg h1] at h; exact stNums_ok hl h q
theorem stItem_none (d : ItemD) (h : d.list.length ≤ 65536) : stItem none d = none := by
  have := stItem_some (st := none) h
  cases e : stItem none d with
  | none => rfl
  | some q => rw [e] at this; simp at this
theorem stItems_snoc (st : Option (List UInt8)) (ds : List ItemD) (k : Nat) (h : k < ds.length) : stItems st (ds.take (k + 1)) = stItem (stItems st (ds.take k)) ds[k] := by
  unfold stItems
  rw [List.take_succ_eq_append_getElem h, List.foldl_append]
  rfl
theorem items_none (ds : List ItemD) (h : ∀ d ∈ ds, d.list.length ≤ 65536) : stItems none ds = none := by
  unfold stItems
  induction ds with
  | nil => rfl
  | cons d ds ih =>
    rw [List.foldl_cons, stItem_none d (h d (by simp))]
    exact ih (fun x hx => h x (by simp [hx]))
theorem items_some (ds : List ItemD) (h : ∀ d ∈ ds, d.list.length ≤ 65536) (q l : List UInt8) (hs : stItems (some q) ds = some l) : ds.all okItem = true ∧ l = q ++ ds.flatMap encItem := by
  induction ds generalizing q with
  | nil =>
    have e : some q = some l := hs
    exact ⟨rfl, by rw [← Option.some.inj e]; simp⟩
  | cons d ds ih =>
    have hs2 : stItems (stItem (some q) d) ds = some l := hs
    have hd := h d (by simp)
    have hr := fun x hx => h x (List.mem_cons_of_mem _ hx)
    cases ho : okItem d with
    | true =>
      rw [stItem_ok hd ho] at hs2
      obtain ⟨h1, h2⟩ := ih hr _ hs2
      refine ⟨by rw [List.all_cons, ho, h1]; rfl, ?_⟩
      rw [h2, List.flatMap_cons, List.append_assoc]
    | false =>
      have hn : stItem (some q) d = none := by
        have := stItem_some (st := some q) hd
        rw [ho, Bool.and_false] at this
        cases e : stItem (some q) d with
        | none => rfl
        | some _ => rw [e] at this; cases this
      rw [hn, items_none ds hr] at hs2
      cases hs2
theorem enc_len {d : ItemD} (h1 : d.text.size ≤ 300) (h2 : d.list.length ≤ 30) (h : okItem d = true) : (encItem d).length ≤ 400 := by
  unfold okItem at h
  have n9 : ∀ x : Int, rightB x = true → (num7 x.toNat).length ≤ 9 := fun x hx => num7_len9 (by unfold rightB at hx; simp at hx; omega)
  unfold encItem
  split
  · rename_i h0; rw [if_pos h0] at h; have := n9 _ h; omega
  · rename_i h0
    rw [if_neg h0] at h
    split
    · unfold text7
      have := num7_len9 (show d.text.size < 2 ^ 62 by omega)
      have e : d.text.data.toList.length = d.text.size := by rw [Array.length_toList]; rfl
      rw [List.length_append, e]
      omega
    · rename_i h1
      rw [if_neg h1] at h
      unfold nums7
      rw [List.length_append, List.length_map]
      have := num7_len9 (show d.list.length < 2 ^ 62 by omega)
      have h5 : ∀ l : List Int, l.all rightB = true → ((l.map Int.toNat).flatMap num7).length ≤ 9 * l.length := by
        intro l hl
        induction l with
        | nil => simp
        | cons x l ih =>
          rw [List.all_cons, Bool.and_eq_true] at hl
          rw [List.map_cons, List.flatMap_cons, List.length_append, List.length_cons]
          have := n9 x hl.1
          have := ih hl.2
          omega
      have := h5 _ h
      omega
end Tide
