/- A number as bytes of seven bits each, the low ones first. It speaks of no program. -/
import Derived.Lib.Hide
namespace Tide

/-- A number's bytes. -/
def num7 (n : Nat) : List UInt8 := if h : n < 128 then [UInt8.ofNat n] else UInt8.ofNat (n % 128 + 128) :: num7 (n / 128)
termination_by n
decreasing_by omega
theorem num7_lt {n : Nat} (h : n < 128) : num7 n = [UInt8.ofNat n] := by rw [num7, dif_pos h]
theorem num7_ge {n : Nat} (h : ¬ n < 128) : num7 n = UInt8.ofNat (n % 128 + 128) :: num7 (n / 128) := by rw [num7, dif_neg h]
theorem num7_len : ∀ (k n : Nat), n < 128 ^ (k + 1) → (num7 n).length ≤ k + 1
  | 0, n, h => by rw [num7_lt (by omega)]; simp
  | k + 1, n, h => by
    by_cases h0 : n < 128
    · rw [num7_lt h0]; simp
    · rw [num7_ge h0, List.length_cons]
      have := num7_len k (n / 128) (by
        rw [Nat.div_lt_iff_lt_mul (by omega)]
        rw [Nat.pow_succ] at h
        exact h)
      omega
theorem num7_len9 {n : Nat} (h : n < 2 ^ 62) : (num7 n).length ≤ 9 := num7_len 8 n (by omega)
theorem num7_pos (n : Nat) : 1 ≤ (num7 n).length := by
  by_cases h0 : n < 128
  · rw [num7_lt h0]; simp
  · rw [num7_ge h0]; simp
/-- A text's bytes. -/
def text7 (s : ByteArray) : List UInt8 := num7 s.size ++ s.data.toList
/-- A list's bytes. -/
def nums7 (l : List Nat) : List UInt8 := num7 l.length ++ l.flatMap num7
end Tide

/- What is written of items: numbers, texts and lists as bytes, and when nothing is told. It speaks of no program. -/
namespace Tide

/-- A number that can be written. -/
def rightB (x : Int) : Bool := decide (0 ≤ x) && decide (x ≤ 4611686018427387903)
/-- What was written, and a number more; none: an error. -/
def stNum (st : Option (List UInt8)) (x : Int) : Option (List UInt8) := if rightB x then st.map (· ++ num7 x.toNat) else none
def stText (st : Option (List UInt8)) (s : ByteArray) : Option (List UInt8) := st.map (· ++ text7 s)
def stNums (st : Option (List UInt8)) (l : List Int) : Option (List UInt8) := l.foldl stNum (stNum st l.length)
/-- An item: its kind, number, text and list. -/
structure ItemD where
  kind : Int
  n : Int
  text : ByteArray
  list : List Int
def stItem (st : Option (List UInt8)) (d : ItemD) : Option (List UInt8) := if d.kind = 0 then stNum st d.n else if d.kind = 1 then stText st d.text else stNums st d.list
def stItems (st : Option (List UInt8)) (ds : List ItemD) : Option (List UInt8) := ds.foldl stItem st
/-- An item that can be written. -/
def okItem (d : ItemD) : Bool := if d.kind = 0 then rightB d.n else if d.kind = 1 then true else d.list.all rightB
/-- An item's bytes. -/
def encItem (d : ItemD) : List UInt8 := if d.kind = 0 then num7 d.n.toNat else if d.kind = 1 then text7 d.text else nums7 (d.list.map Int.toNat)

theorem stNum_none (x : Int) : stNum none x = none := by unfold stNum; split <;> rfl
theorem stNum_ok {x : Int} (h : rightB x = true) (q : List UInt8) : stNum (some q) x = some (q ++ num7 x.toNat) := by unfold stNum; rw [if_pos h]; rfl
theorem stNum_bad {x : Int} (h : rightB x = false) (st : Option (List UInt8)) : stNum st x = none := by unfold stNum; rw [if_neg (by rw [h]; simp)]
theorem stNum_some (st : Option (List UInt8)) (x : Int) : (stNum st x).isSome = (st.isSome && rightB x) := by
  cases h : rightB x with
  | true => unfold stNum; rw [if_pos h]; cases st <;> rfl
  | false => rw [stNum_bad h]; simp
theorem fold_none (l : List Int) : l.foldl stNum none = none := by
  induction l with
  | nil => rfl
  | cons x l ih => rw [List.foldl_cons, stNum_none, ih]
theorem fold_some (l : List Int) (st : Option (List UInt8)) : (l.foldl stNum st).isSome = (st.isSome && l.all rightB) := by
  induction l generalizing st with
  | nil => simp
  | cons x l ih => rw [List.foldl_cons, ih, stNum_some, List.all_cons, Bool.and_assoc]
theorem fold_ok {l : List Int} (h : l.all rightB = true) (q : List UInt8) : l.foldl stNum (some q) = some (q ++ (l.map Int.toNat).flatMap num7) := by
  induction l generalizing q with
  | nil => simp
  | cons x l ih =>
    rw [List.all_cons, Bool.and_eq_true] at h
    rw [List.foldl_cons, stNum_ok h.1, ih h.2, List.map_cons, List.flatMap_cons, List.append_assoc]
theorem right_len {n : Nat} (h : n ≤ 4611686018427387903) : rightB (n : Int) = true := by unfold rightB; simp; omega
theorem stNums_some {st : Option (List UInt8)} {l : List Int} (h : l.length ≤ 65536) : (stNums st l).isSome = (st.isSome && l.all rightB) := by
  unfold stNums
  rw [fold_some, stNum_some, right_len (by omega), Bool.and_true]
theorem stNums_ok {l : List Int} (hl : l.length ≤ 65536) (h : l.all rightB = true) (q : List UInt8) : stNums (some q) l = some (q ++ nums7 (l.map Int.toNat)) := by
  unfold stNums nums7
  rw [stNum_ok (right_len (by omega)), fold_ok h, List.append_assoc, List.length_map, Int.toNat_natCast]
theorem stItem_some {st : Option (List UInt8)} {d : ItemD} (h : d.list.length ≤ 65536) : (stItem st d).isSome = (st.isSome && okItem d) := by
  unfold stItem okItem
  split
  · exact stNum_some _ _
  · split
    · unfold stText; cases st <;> rfl
    · exact stNums_some h
theorem stItem_ok {d : ItemD} (hl : d.list.length ≤ 65536) (h : okItem d = true) (q : List UInt8) : stItem (some q) d = some (q ++ encItem d) := by
  unfold okItem at h
  unfold stItem encItem
  split
  · rename_i h0; rw [if_pos h0] at h; exact stNum_ok h q
  · rename_i h0
    rw [if_neg h0] at h
    split
    · rfl
    · rename_i h1; rw [if_neg h1] at h; exact stNums_ok hl h q
theorem stItem_none (d : ItemD) (h : d.list.length ≤ 65536) : stItem none d = none := by
  have := stItem_some (st := none) h
  cases e : stItem none d with
  | none => rfl
  | some q => rw [e] at this; simp at this
theorem stItems_snoc (st : Option (List UInt8)) (ds : List ItemD) (k : Nat) (h : k < ds.length) : stItems st (ds.take (k + 1)) = stItem (stItems st (ds.take k)) ds[k] := by
  unfold stItems
  rw [List.take_succ_eq_append_getElem h, List.foldl_append]
  rfl
theorem items_none (ds : List ItemD) (h : ∀ d ∈ ds, d.list.length ≤ 65536) : stItems none ds = none := by
  unfold stItems
  induction ds with
  | nil => rfl
  | cons d ds ih =>
    rw [List.foldl_cons, stItem_none d (h d (by simp))]
    exact ih (fun x hx => h x (by simp [hx]))
theorem items_some (ds : List ItemD) (h : ∀ d ∈ ds, d.list.length ≤ 65536) (q l : List UInt8) (hs : stItems (some q) ds = some l) : ds.all okItem = true ∧ l = q ++ ds.flatMap encItem := by
  induction ds generalizing q with
  | nil =>
    have e : some q = some l := hs
    exact ⟨rfl, by rw [← Option.some.inj e]; simp⟩
  | cons d ds ih =>
    have hs2 : stItems (stItem (some q) d) ds = some l := hs
    have hd := h d (by simp)
    have hr := fun x hx => h x (List.mem_cons_of_mem _ hx)
    cases ho : okItem d with
    | true =>
      rw [stItem_ok hd ho] at hs2
      obtain ⟨h1, h2⟩ := ih hr _ hs2
      refine ⟨by rw [List.all_cons, ho, h1]; rfl, ?_⟩
      rw [h2, List.flatMap_cons, List.append_assoc]
    | false =>
      have hn : stItem (some q) d = none := by
        have := stItem_some (st := some q) hd
        rw [ho, Bool.and_false] at this
        cases e : stItem (some q) d with
        | none => rfl
        | some _ => rw [e] at this; cases this
      rw [hn, items_none ds hr] at hs2
      cases hs2
theorem enc_len {d : ItemD} (h1 : d.text.size ≤ 300) (h2 : d.list.length ≤ 30) (h : okItem d = true) : (encItem d).length ≤ 400 := by
  unfold okItem at h
  have n9 : ∀ x : Int, rightB x = true → (num7 x.toNat).length ≤ 9 := fun x hx => num7_len9 (by unfold rightB at hx; simp at hx; omega)
  unfold encItem
  split
  · rename_i h0; rw [if_pos h0] at h; have := n9 _ h; omega
  · rename_i h0
    rw [if_neg h0] at h
    split
    · unfold text7
      have := num7_len9 (show d.text.size < 2 ^ 62 by omega)
      have e : d.text.data.toList.length = d.text.size := by rw [Array.length_toList]; rfl
      rw [List.length_append, e]
      omega
    · rename_i h1
      rw [if_neg h1] at h
      unfold nums7
      rw [List.length_append, List.length_map]
      have := num7_len9 (show d.list.length < 2 ^ 62 by omega)
      have h5 : ∀ l : List Int, l.all rightB = true → ((l.map Int.toNat).flatMap num7).length ≤ 9 * l.length := by
        intro l hl
        induction l with
        | nil => simp
        | cons x l ih =>
          rw [List.all_cons, Bool.and_eq_true] at hl
          rw [List.map_cons, List.flatMap_cons, List.length_append, List.length_cons]
          have := n9 x hl.1
          have := ih hl.2
          omega
      have := h5 _ h
      omega
end Tide

/- Numbers read from bytes of seven bits each: what is read, how many bytes it takes, and that just these bytes are written of it. It speaks of no program. -/
namespace Tide

/-- How many bytes at the front say that more follow, at most f. -/
def high : Nat → List UInt8 → Nat
  | f + 1, c :: l => if 128 ≤ c.toNat then high f l + 1 else 0
  | _, _ => 0
/-- The number of bytes of seven bits each, the low ones first. -/
def val7 : List UInt8 → Nat
  | [] => 0
  | c :: l => c.toNat % 128 + 128 * val7 l
/-- A number at the front: the error's number (short 2, form 4), the number, how many bytes it takes. -/
def rdNum (l : List UInt8) : Nat × Nat × Nat :=
  match l[high 8 l]? with
  | none => (2, 0, 0)
  | some b => if 128 ≤ b.toNat ∨ (b.toNat = 0 ∧ 0 < high 8 l) ∨ (high 8 l = 8 ∧ 64 ≤ b.toNat) then (4, 0, 0) else (0, val7 (l.take (high 8 l + 1)), high 8 l + 1)

theorem high_le : ∀ (f : Nat) (l : List UInt8), high f l ≤ f ∧ high f l ≤ l.length
  | 0, l => by unfold high; cases l <;> simp
  | f + 1, [] => by unfold high; simp
  | f + 1, c :: l => by
    have := high_le f l
    unfold high
    split <;> simp <;> omega
/-- The last byte makes a number as few bytes as can be. -/
theorem num7_val : ∀ (k : Nat) (l : List UInt8) (b : UInt8), (∀ c ∈ l, 128 ≤ c.toNat) → l.length = k → b.toNat < 128 → (b.toNat ≠ 0 ∨ k = 0) → num7 (val7 (l ++ [b])) = l ++ [b]
  | 0, l, b, h, hk, hb, hz => by
    have hl : l = [] := List.eq_nil_of_length_eq_zero hk
    subst hl
    have e : val7 ([] ++ [b]) = b.toNat := by simp [val7]; omega
    rw [e, num7_lt hb]
    simp
  | k + 1, c :: l, b, h, hk, hb, hz => by
    have hb0 : b.toNat ≠ 0 := by omega
    have ih := num7_val k l b (fun x hx => h x (List.mem_cons_of_mem _ hx)) (by simpa using hk) hb (.inl hb0)
    have hv : 0 < val7 (l ++ [b]) := by
      rcases Nat.eq_zero_or_pos (val7 (l ++ [b])) with h0 | h0
      · rw [h0, num7_lt (by omega)] at ih
        have hlen := congrArg List.length ih
        rw [List.length_append] at hlen
        have hl : l = [] := List.eq_nil_of_length_eq_zero (by simpa using hlen)
        subst hl
        simp [val7] at h0
        omega
      · exact h0
    have hc := h c (by simp)
    have hc2 := c.toNat_lt
    have e : val7 (c :: l ++ [b]) = c.toNat % 128 + 128 * val7 (l ++ [b]) := rfl
    rw [e, num7_ge (by omega)]
    have e1 : (c.toNat % 128 + 128 * val7 (l ++ [b])) % 128 + 128 = c.toNat := by omega
    have e2 : (c.toNat % 128 + 128 * val7 (l ++ [b])) / 128 = val7 (l ++ [b]) := by omega
    rw [e1, e2, ih]
    simp
theorem val7_lt : ∀ (l : List UInt8), val7 l < 128 ^ l.length
  | [] => by simp [val7]
  | c :: l => by
    have := val7_lt l
    unfold val7
    rw [List.length_cons, Nat.pow_succ]
    omega
theorem val7_lt9 {l : List UInt8} {b : UInt8} (h : l.length ≤ 8) (hb : b.toNat < 128) (h8 : l.length = 8 → b.toNat < 64) : val7 (l ++ [b]) < 2 ^ 62 := by
  have key : ∀ (l : List UInt8) (m : Nat), b.toNat % 128 < m → val7 (l ++ [b]) < m * 128 ^ l.length := by
    intro l
    induction l with
    | nil => intro m hm; simp [val7]; omega
    | cons c l ih =>
      intro m hm
      have := ih m hm
      have e : val7 (c :: l ++ [b]) = c.toNat % 128 + 128 * val7 (l ++ [b]) := rfl
      rw [e, List.length_cons, Nat.pow_succ, ← Nat.mul_assoc]
      have : c.toNat % 128 < 128 := by omega
      omega
  by_cases h0 : l.length = 8
  · have := key l 64 (by have := h8 h0; omega)
    rw [h0] at this
    omega
  · have := key l 128 (by omega)
    have hp : 128 ^ l.length ≤ 128 ^ 7 := Nat.pow_le_pow_right (by omega) (by omega)
    omega
theorem high_all : ∀ (f : Nat) (l : List UInt8), ∀ c ∈ l.take (high f l), 128 ≤ c.toNat
  | 0, l => by unfold high; cases l <;> simp
  | f + 1, [] => by simp
  | f + 1, c :: l => by
    unfold high
    split
    · intro x hx
      rw [List.take_succ_cons] at hx
      rcases List.mem_cons.1 hx with rfl | hx
      · assumption
      · exact high_all f l x hx
    · intro x hx
      simp at hx
/-- A number that is read is written to just these bytes. -/
theorem rd_least {l : List UInt8} {n k : Nat} (h : rdNum l = (0, n, k)) : num7 n = l.take k ∧ n < 2 ^ 62 ∧ 1 ≤ k ∧ k ≤ l.length := by
  unfold rdNum at h
  have hh := high_le 8 l
  cases e : l[high 8 l]? with
  | none => rw [e] at h; simp at h
  | some b =>
    rw [e] at h
    simp only at h
    split at h
    · simp at h
    · rename_i hb
      obtain ⟨hlt, hbe⟩ := List.getElem?_eq_some_iff.1 e
      simp only [Prod.mk.injEq, true_and] at h
      obtain ⟨rfl, rfl⟩ := h
      have ht : l.take (high 8 l + 1) = l.take (high 8 l) ++ [b] := by rw [List.take_succ_eq_append_getElem hlt, hbe]
      have hl : (l.take (high 8 l)).length = high 8 l := by rw [List.length_take]; omega
      have h1 := num7_val (high 8 l) (l.take (high 8 l)) b (high_all 8 l) hl (by omega) (by omega)
      refine ⟨by rw [ht, h1], by rw [ht]; exact val7_lt9 (by omega) (by omega) (fun h8 => by omega), by omega, by omega⟩
theorem high_num7 : ∀ (f n : Nat) (r : List UInt8), n < 128 ^ (f + 1) → high f (num7 n ++ r) = (num7 n).length - 1
  | 0, n, r, h => by
    rw [num7_lt (by omega)]
    unfold high; simp
  | f + 1, n, r, h => by
    by_cases h0 : n < 128
    · rw [num7_lt h0]
      have e : (UInt8.ofNat n).toNat = n := UInt8.toNat_ofNat_of_lt' (show n < 256 by omega)
      show high (f + 1) (UInt8.ofNat n :: r) = _
      unfold high
      rw [e, if_neg (by omega)]
      simp
    · rw [num7_ge h0]
      have e : (UInt8.ofNat (n % 128 + 128)).toNat = n % 128 + 128 := UInt8.toNat_ofNat_of_lt' (show n % 128 + 128 < 256 by omega)
      have ih := high_num7 f (n / 128) r (by
        rw [Nat.div_lt_iff_lt_mul (by omega)]
        rw [Nat.pow_succ] at h
        exact h)
      have hp := num7_pos (n / 128)
      show high (f + 1) (UInt8.ofNat (n % 128 + 128) :: (num7 (n / 128) ++ r)) = _
      unfold high
      rw [e, if_pos (by omega), ih, List.length_cons]
      omega
theorem val7_num7 : ∀ n, val7 (num7 n) = n
  | n => by
    by_cases h0 : n < 128
    · rw [num7_lt h0]
      have e : (UInt8.ofNat n).toNat = n := UInt8.toNat_ofNat_of_lt' (show n < 256 by omega)
      simp only [val7, e]
      omega
    · rw [num7_ge h0]
      have e : (UInt8.ofNat (n % 128 + 128)).toNat = n % 128 + 128 := UInt8.toNat_ofNat_of_lt' (show n % 128 + 128 < 256 by omega)
      have ih := val7_num7 (n / 128)
      simp only [val7, e, ih]
      omega
termination_by n => n
decreasing_by omega
/-- The last byte of a number. -/
theorem num7_last : ∀ n, ∃ (l : List UInt8) (b : UInt8), num7 n = l ++ [b] ∧ b.toNat < 128 ∧ (b.toNat = 0 → l = [])
  | n => by
    by_cases h0 : n < 128
    · have e : (UInt8.ofNat n).toNat = n := UInt8.toNat_ofNat_of_lt' (show n < 256 by omega)
      exact ⟨[], UInt8.ofNat n, by rw [num7_lt h0]; rfl, by omega, fun _ => rfl⟩
    · obtain ⟨l, b, h1, h2, h3⟩ := num7_last (n / 128)
      refine ⟨_ :: l, b, by rw [num7_ge h0, h1]; rfl, h2, fun hb => ?_⟩
      have hl := h3 hb
      subst hl
      have hv := val7_num7 (n / 128)
      rw [h1] at hv
      simp [val7] at hv
      omega
termination_by n => n
decreasing_by omega
theorem num7_len_le8 {n : Nat} (h : n < 2 ^ 56) : (num7 n).length ≤ 8 := num7_len 7 n (by omega)
/-- What is written is read as the same. -/
theorem rd_num7 {n : Nat} (h : n < 2 ^ 62) (r : List UInt8) : rdNum (num7 n ++ r) = (0, n, (num7 n).length) := by
  obtain ⟨l, b, h1, h2, h3⟩ := num7_last n
  have hh := high_num7 8 n r (by omega)
  have hlen : (num7 n).length = l.length + 1 := by rw [h1]; simp
  have hk : high 8 (num7 n ++ r) = l.length := by omega
  have h9 := num7_len9 h
  have hv := val7_num7 n
  have h64 : l.length = 8 → b.toNat < 64 := by
    intro h8
    rcases Nat.lt_or_ge b.toNat 64 with hb | hb
    · exact hb
    · exfalso
      have key : ∀ l : List UInt8, b.toNat % 128 * 128 ^ l.length ≤ val7 (l ++ [b]) := by
        intro l
        induction l with
        | nil => simp [val7]
        | cons c l ih =>
          have e : val7 (c :: l ++ [b]) = c.toNat % 128 + 128 * val7 (l ++ [b]) := rfl
          rw [e, List.length_cons, Nat.pow_succ, ← Nat.mul_assoc]
          omega
      have := key l
      rw [← h1, hv, h8] at this
      omega
  unfold rdNum
  rw [hk, h1, List.append_assoc]
  have hget : (l ++ ([b] ++ r))[l.length]? = some b := by simp
  rw [hget]
  simp only
  rw [if_neg (by
    rintro (hb | ⟨hb, hp⟩ | ⟨h8, hb⟩)
    · omega
    · rw [h3 hb] at hp; simp at hp
    · have := h64 h8; omega)]
  have ht : (l ++ ([b] ++ r)).take (l.length + 1) = l ++ [b] := by
    rw [← List.append_assoc, List.take_append_of_le_length (by simp), List.take_of_length_le (by simp)]
  rw [ht, ← h1, hv, hlen]
end Tide

/- A number read byte by byte: what has been read in the midst, and where it ends. It speaks of no program. -/
namespace Tide

theorem high_eq : ∀ (f j : Nat) (l : List UInt8), (∀ c ∈ l.take j, 128 ≤ c.toNat) → j ≤ f → j ≤ l.length → (j = f ∨ j = l.length ∨ ∃ h : j < l.length, l[j].toNat < 128) → high f l = j
  | 0, j, l, _, hj, _, _ => by
    have : j = 0 := by omega
    subst this
    unfold high; cases l <;> rfl
  | f + 1, j, [], _, _, hl, _ => by
    have : j = 0 := by simpa using hl
    subst this
    rfl
  | f + 1, 0, c :: l, _, _, _, h => by
    unfold high
    rw [if_neg]
    rcases h with h | h | ⟨h, hc⟩
    · omega
    · simp at h
    · simpa using hc
  | f + 1, j + 1, c :: l, ha, hj, hl, h => by
    have hc : 128 ≤ c.toNat := ha c (by simp)
    unfold high
    rw [if_pos hc]
    have := high_eq f j l (fun x hx => ha x (by rw [List.take_succ_cons]; exact List.mem_cons_of_mem _ hx)) (by omega) (by simpa using hl) (by
      rcases h with h | h | ⟨h, hx⟩
      · exact .inl (by omega)
      · exact .inr (.inl (by simpa using h))
      · exact .inr (.inr ⟨by simpa using h, by simpa using hx⟩))
    omega
theorem val7_append : ∀ (l m : List UInt8), val7 (l ++ m) = val7 l + 128 ^ l.length * val7 m
  | [], m => by simp [val7]
  | c :: l, m => by
    have := val7_append l m
    simp only [val7, List.cons_append, this, List.length_cons, Nat.pow_succ]
    rw [Nat.mul_add, ← Nat.mul_assoc, Nat.mul_comm 128 (128 ^ l.length)]
    omega
theorem val7_snoc (l : List UInt8) (c : UInt8) : val7 (l ++ [c]) = val7 l + c.toNat % 128 * 128 ^ l.length := by
  rw [val7_append, Nat.mul_comm]
  simp [val7]
theorem val7_take (l : List UInt8) (j : Nat) (h : j < l.length) : val7 (l.take (j + 1)) = val7 (l.take j) + l[j].toNat % 128 * 128 ^ j := by
  rw [List.take_succ_eq_append_getElem h, val7_snoc, List.length_take, Nat.min_eq_left (by omega)]
theorem val7_take_lt (l : List UInt8) (j : Nat) : val7 (l.take j) < 128 ^ j := by
  have := val7_lt (l.take j)
  have h2 : (128 : Nat) ^ (l.take j).length ≤ 128 ^ j := Nat.pow_le_pow_right (by omega) (by simp; omega)
  omega
/-- A last byte is found. -/
theorem rd_last {l : List UInt8} {j : Nat} (ha : ∀ c ∈ l.take j, 128 ≤ c.toNat) (h : j < l.length) (h8 : j ≤ 8) (hc : l[j].toNat < 128) :
    rdNum l = if (l[j].toNat = 0 ∧ 0 < j) ∨ 4611686018427387903 < val7 (l.take (j + 1)) then (4, 0, 0) else (0, val7 (l.take (j + 1)), j + 1) := by
  have hh := high_eq 8 j l ha h8 (by omega) (.inr (.inr ⟨h, hc⟩))
  unfold rdNum
  rw [hh, List.getElem?_eq_getElem h]
  simp only
  have hv := val7_take l j h
  have hl := val7_take_lt l j
  have key : (4611686018427387903 < val7 (l.take (j + 1))) ↔ (j = 8 ∧ 64 ≤ l[j].toNat) := by
    have hm : l[j].toNat % 128 = l[j].toNat := Nat.mod_eq_of_lt hc
    rw [hm] at hv
    constructor
    · intro h1
      by_cases h9 : j = 8
      · subst h9
        refine ⟨rfl, ?_⟩
        omega
      · exfalso
        have h7 : (128 : Nat) ^ j ≤ 128 ^ 7 := Nat.pow_le_pow_right (by omega) (by omega)
        have hx : l[j].toNat * 128 ^ j ≤ 127 * 128 ^ 7 := Nat.mul_le_mul (by omega) h7
        omega
    · rintro ⟨rfl, h1⟩
      omega
  by_cases hb : (l[j].toNat = 0 ∧ 0 < j) ∨ 4611686018427387903 < val7 (l.take (j + 1))
  · rw [if_pos hb, if_pos]
    rcases hb with hb | hb
    · exact .inr (.inl hb)
    · exact .inr (.inr (key.1 hb))
  · rw [if_neg hb, if_neg]
    rintro (h1 | h1 | h1)
    · omega
    · exact hb (.inl h1)
    · exact hb (.inr (key.2 h1))
/-- None is found. -/
theorem rd_short {l : List UInt8} (ha : ∀ c ∈ l, 128 ≤ c.toNat) (h : l.length < 9) : rdNum l = (2, 0, 0) := by
  have hh := high_eq 8 l.length l (by rw [List.take_length]; exact ha) (by omega) (Nat.le_refl _) (.inr (.inl rfl))
  unfold rdNum
  rw [hh, List.getElem?_eq_none (Nat.le_refl _)]
theorem rd_nine {l : List UInt8} (ha : ∀ c ∈ l.take 9, 128 ≤ c.toNat) (h : 9 ≤ l.length) : rdNum l = (4, 0, 0) := by
  have hh := high_eq 8 8 l (fun c hc => ha c (by
    rw [show (9 : Nat) = 8 + 1 from rfl, List.take_succ_eq_append_getElem (show 8 < l.length by omega)]
    exact List.mem_append_left _ hc)) (by omega) (by omega) (.inl rfl)
  have h8 : 128 ≤ l[8].toNat := ha _ (by
    rw [show (9 : Nat) = 8 + 1 from rfl, List.take_succ_eq_append_getElem (show 8 < l.length by omega)]
    exact List.mem_append_right _ (List.mem_singleton.2 rfl))
  unfold rdNum
  rw [hh, List.getElem?_eq_getElem (show 8 < l.length by omega)]
  simp only
  rw [if_pos (.inl h8)]
end Tide
