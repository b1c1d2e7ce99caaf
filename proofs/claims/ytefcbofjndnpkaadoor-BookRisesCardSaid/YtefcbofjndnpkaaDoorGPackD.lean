/- What a writer of bytes keeps, as a law wants it: a state of memory of the writer's own, which no other write turns. It speaks of no program's own form. -/
import Derived.Test.YtefcbofjndnpkaaDoorGNum7
import Derived.Test.YtefcbofjndnpkaaDoorGKeep
import Derived.Test.YtefcbofjndnpkaaDoorGErr
import Derived.Test.YtefcbofjndnpkaaDoorGRecs
namespace Go.Proofs.YtefcbofjndnpkaaDoor
open Go.RowKit Tide

/-- A writer's state: in memory W, of the blocks F, at the block p; what was written (none: an error), in a buffer of at most n bytes. -/
abbrev OutP := World → (Nat → Prop) → Nat → Option (List UInt8) → Nat → Prop
/-- Behind a write. -/
def OutR (O : OutP) (W : World) (F : Nat → Prop) (p : Nat) (st : Option (List UInt8)) (n : Nat) (e : Ending) (w' : World) : Prop :=
  e = .returned (.tuple #[]) ∧ ∃ F', O w' F' p st n ∧ (∀ k, F' k → F k ∨ W.heap.size ≤ k) ∧ Kept F W w'
/-- What was written, told. -/
def doneOf (st : Option (List UInt8)) : List UInt8 × Nat := match st with
  | none => ([], 1)
  | some q => if q.length ≤ 65536 then (q, 0) else ([], 3)
def DoneR (a : Nat → Addr) (W : World) (F : Nat → Prop) (st : Option (List UInt8)) (e : Ending) (w' : World) : Prop :=
  ∃ v x, e = .returned (.tuple #[v, x]) ∧ Bytes w' w'.heap.size v (doneOf st).1 ∧ IsErr a x (doneOf st).2 ∧ Kept F W w'
end Go.Proofs.YtefcbofjndnpkaaDoor

/- What a reader of bytes keeps, as a law wants it: what is left, and the first error. It speaks of no program's own form. -/
namespace Go.Proofs.YtefcbofjndnpkaaDoor
open Go.RowKit Tide

/-- A number read: what is left, the error's number, the answer. -/
def inNum (rest : List UInt8) (e : Nat) (most : Int) : List UInt8 × Nat × Nat :=
  if e ≠ 0 then (rest, e, 0) else
    if (rdNum rest).1 ≠ 0 then (rest, (rdNum rest).1, 0) else
      if most < ((rdNum rest).2.1 : Int) then (rest.drop (rdNum rest).2.2, 1, 0) else (rest.drop (rdNum rest).2.2, 0, (rdNum rest).2.1)
/-- A text read. -/
def inText (rest : List UInt8) (e : Nat) (most : Int) : List UInt8 × Nat × List UInt8 :=
  let r := inNum rest e most
  if r.2.1 ≠ 0 then (r.1, r.2.1, []) else if r.1.length < r.2.2 then (r.1, 2, []) else (r.1.drop r.2.2, 0, r.1.take r.2.2)
/-- Numbers read one behind the other, till the first error; none is told where there is one. -/
def inMany : Nat → List UInt8 → Nat → Int → List UInt8 × Nat × List Nat
  | 0, rest, e, _ => (rest, e, [])
  | k + 1, rest, e, most =>
    let r := inNum rest e most
    if r.2.1 ≠ 0 then (r.1, r.2.1, []) else
      let s := inMany k r.1 0 most
      if s.2.1 ≠ 0 then (s.1, s.2.1, []) else (s.1, 0, r.2.2 :: s.2.2)
/-- A list read. -/
def inNums (rest : List UInt8) (e : Nat) (many most : Int) : List UInt8 × Nat × List Nat :=
  let r := inNum rest e many
  if r.2.1 ≠ 0 then (r.1, r.2.1, []) else inMany r.2.2 r.1 0 most
/-- The error at the end. -/
def inEnd (rest : List UInt8) (e : Nat) : Nat := if e ≠ 0 then e else if rest.isEmpty then 0 else 4

/-- A reader's state: in memory W, of the blocks F (and what lies below B), at the block p; what is left, the first error. -/
abbrev InP := World → (Nat → Prop) → Nat → Nat → List UInt8 → Nat → Prop
/-- Behind a read that answers so. -/
def InR (I : InP) (W : World) (F : Nat → Prop) (B p : Nat) (rest : List UInt8) (er : Nat) (ans : Value → World → Prop) (e : Ending) (w' : World) : Prop :=
  ∃ v F', e = .returned v ∧ ans v w' ∧ I w' F' B p rest er ∧ (∀ k, F' k → F k ∨ W.heap.size ≤ k) ∧ Kept F W w'
end Go.Proofs.YtefcbofjndnpkaaDoor

/- What is written is read as the same: a number, a text, a list at the front. It walks nothing. -/
namespace Go.Proofs.YtefcbofjndnpkaaDoor
open Go.RowKit Tide

theorem inNum_ok {n : Nat} (h : n < 2 ^ 62) (r : List UInt8) (most : Int) (hm : (n : Int) ≤ most) : inNum (num7 n ++ r) 0 most = (r, 0, n) := by
  have e := rd_num7 h r
  unfold inNum
  rw [if_neg (by simp), e]
  rw [if_neg (by simp), if_neg (by simp only; omega)]
  simp
theorem inText_ok {s : ByteArray} (h : s.size ≤ 300) (r : List UInt8) : inText (text7 s ++ r) 0 300 = (r, 0, s.data.toList) := by
  have e := inNum_ok (show s.size < 2 ^ 62 by omega) (s.data.toList ++ r) 300 (by omega)
  have hl : s.data.toList.length = s.size := by rw [Array.length_toList]; rfl
  unfold inText text7
  rw [List.append_assoc, e]
  simp only
  rw [if_neg (by simp), if_neg (by rw [List.length_append]; omega), ← hl]
  simp
theorem inMany_ok (r : List UInt8) : ∀ l : List Nat, (∀ n ∈ l, n < 2 ^ 62) → inMany l.length (l.flatMap num7 ++ r) 0 4611686018427387903 = (r, 0, l)
  | [], _ => rfl
  | n :: l, h => by
    have hn := h n (by simp)
    have e := inNum_ok hn (l.flatMap num7 ++ r) 4611686018427387903 (by omega)
    have ih := inMany_ok r l (fun m hm => h m (by simp [hm]))
    rw [List.flatMap_cons, List.append_assoc, List.length_cons]
    unfold inMany
    rw [e]
    simp only
    rw [if_neg (by simp), ih]
    simp
theorem inNums_ok {l : List Nat} (h : l.length ≤ 30) (hn : ∀ n ∈ l, n < 2 ^ 62) (r : List UInt8) : inNums (nums7 l ++ r) 0 30 4611686018427387903 = (r, 0, l) := by
  have e := inNum_ok (show l.length < 2 ^ 62 by omega) (l.flatMap num7 ++ r) 30 (by omega)
  unfold inNums nums7
  rw [List.append_assoc, e]
  simp only
  rw [if_neg (by simp)]
  exact inMany_ok r l hn
theorem inNum_err {e : Nat} (h : e ≠ 0) (l : List UInt8) (m : Int) : inNum l e m = (l, e, 0) := by unfold inNum; rw [if_pos h]
theorem inText_err {e : Nat} (h : e ≠ 0) (l : List UInt8) (m : Int) : inText l e m = (l, e, []) := by
  unfold inText
  rw [inNum_err h]
  simp only
  rw [if_pos h]
theorem inNums_err {e : Nat} (h : e ≠ 0) (l : List UInt8) (k m : Int) : inNums l e k m = (l, e, []) := by
  unfold inNums
  rw [inNum_err h]
  simp only
  rw [if_pos h]
end Go.Proofs.YtefcbofjndnpkaaDoor

/- A plan's bytes: what is written of a right plan, and that it is read as the same. No walk stands here. -/
namespace Go.Proofs.YtefcbofjndnpkaaDoor
open Go.RowKit Tide

/-- The bytes of chains. -/
def chainsB (cs : List (List Int)) : List UInt8 := cs.flatMap fun c => nums7 (c.map Int.toNat)
/-- A plan's bytes. -/
def planB (ep : Int) (cs : List (List Int)) : List UInt8 := num7 ep.toNat ++ (num7 cs.length ++ chainsB cs)

theorem chains_drop (cs : List (List Int)) (k : Nat) (h : k < cs.length) : chainsB (cs.drop k) = nums7 (cs[k].map Int.toNat) ++ chainsB (cs.drop (k + 1)) := by
  unfold chainsB
  rw [List.drop_eq_getElem_cons h, List.flatMap_cons]
theorem chains_take (cs : List (List Int)) (k : Nat) (h : k < cs.length) : chainsB (cs.take (k + 1)) = chainsB (cs.take k) ++ nums7 (cs[k].map Int.toNat) := by
  unfold chainsB
  rw [List.take_succ_eq_append_getElem h, List.flatMap_append]; simp
theorem inMany_le (r : List UInt8) (most : Int) : ∀ l : List Nat, (∀ n ∈ l, n < 2 ^ 62 ∧ (n : Int) ≤ most) → inMany l.length (l.flatMap num7 ++ r) 0 most = (r, 0, l)
  | [], _ => rfl
  | n :: l, h => by
    have hn := h n (by simp)
    have e := inNum_ok hn.1 (l.flatMap num7 ++ r) most hn.2
    have ih := inMany_le r most l (fun m hm => h m (by simp [hm]))
    rw [List.flatMap_cons, List.append_assoc, List.length_cons]
    unfold inMany
    rw [e]
    simp only
    rw [if_neg (by simp), ih]
    simp
theorem inNums_le {l : List Nat} {many most : Int} (h : (l.length : Int) ≤ many) (h2 : l.length < 2 ^ 62) (hn : ∀ n ∈ l, n < 2 ^ 62 ∧ (n : Int) ≤ most) (r : List UInt8) : inNums (nums7 l ++ r) 0 many most = (r, 0, l) := by
  have e := inNum_ok h2 (l.flatMap num7 ++ r) many h
  unfold inNums nums7
  rw [List.append_assoc, e]
  simp only
  rw [if_neg (by simp)]
  exact inMany_le r most l hn
/-- What a right plan's chain is. -/
theorem right_chain {ep : Int} {cs : List (List Int)} (h : rightB ep cs = true) {c : List Int} (hc : c ∈ cs) : 1 ≤ c.length ∧ c.length ≤ 3 ∧ ∀ u ∈ c, 0 ≤ u ∧ u ≤ 11 := by
  obtain ⟨_, _, _, _, h1, h2, _⟩ := right_parts h
  exact ⟨(h1 c hc).1, (h1 c hc).2, fun u hu => h2 u (List.mem_flatten.2 ⟨c, hc, hu⟩)⟩
theorem nat_back {c : List Int} (h : ∀ u ∈ c, 0 ≤ u) : (c.map Int.toNat).map Int.ofNat = c := by
  rw [List.map_map]
  conv => rhs; rw [← List.map_id c]
  refine List.map_congr_left fun u hu => ?_
  have := h u hu
  simp only [Function.comp, id, Int.ofNat_eq_natCast]
  omega

/-- The epoch is read. -/
theorem plan_in0 {ep : Int} {cs : List (List Int)} (h : rightB ep cs = true) : inNum (planB ep cs) 0 1073741824 = (num7 cs.length ++ chainsB cs, 0, ep.toNat) := by
  obtain ⟨h0, h1, _⟩ := right_parts h
  exact inNum_ok (by omega) _ _ (by omega)
/-- How many chains there are is read. -/
theorem plan_in1 {ep : Int} {cs : List (List Int)} (h : rightB ep cs = true) : inNum (num7 cs.length ++ chainsB cs) 0 3 = (chainsB cs, 0, cs.length) := by
  obtain ⟨_, _, _, h3, _⟩ := right_parts h
  exact inNum_ok (by omega) _ _ (by omega)
/-- A chain is read. -/
theorem plan_in2 {ep : Int} {cs : List (List Int)} (h : rightB ep cs = true) (k : Nat) (hk : k < cs.length) : inNums (chainsB (cs.drop k)) 0 3 12 = (chainsB (cs.drop (k + 1)), 0, cs[k].map Int.toNat) := by
  obtain ⟨_, h2, h3⟩ := right_chain h (List.getElem_mem hk)
  rw [chains_drop cs k hk]
  refine inNums_le (by simp; omega) (by simp; omega) (fun n hn => ?_) _
  obtain ⟨u, hu, rfl⟩ := List.mem_map.1 hn
  have := h3 u hu
  omega
theorem plan_in3 {cs : List (List Int)} : inEnd (chainsB (cs.drop cs.length)) 0 = 0 := by
  rw [List.drop_length]; rfl

theorem right_num {x : Int} (h0 : 0 ≤ x) (h1 : x ≤ 1073741824) : Tide.rightB x = true := by unfold Tide.rightB; simp; omega
theorem num_len {n : Nat} (h : n ≤ 1073741824) : (num7 n).length ≤ 9 := num7_len9 (by omega)
theorem nums_len : ∀ (l : List Nat), (∀ n ∈ l, n ≤ 1073741824) → (l.flatMap num7).length ≤ 9 * l.length
  | [], _ => by simp
  | n :: l, h => by
    have := nums_len l (fun m hm => h m (by simp [hm]))
    have := num_len (h n (by simp))
    simp only [List.flatMap_cons, List.length_append, List.length_cons]
    omega
theorem chain_len {c : List Int} (h1 : c.length ≤ 3) (h2 : ∀ u ∈ c, 0 ≤ u ∧ u ≤ 11) : (nums7 (c.map Int.toNat)).length ≤ 36 := by
  unfold nums7
  have h3 := nums_len (c.map Int.toNat) (fun n hn => by
    obtain ⟨u, hu, rfl⟩ := List.mem_map.1 hn
    have := h2 u hu
    omega)
  have h4 : (num7 (c.map Int.toNat).length).length ≤ 9 := num_len (by simp; omega)
  simp only [List.length_append, List.length_map] at *
  omega
theorem chains_len : ∀ (cs : List (List Int)), (∀ c ∈ cs, c.length ≤ 3 ∧ ∀ u ∈ c, 0 ≤ u ∧ u ≤ 11) → (chainsB cs).length ≤ 36 * cs.length
  | [], _ => by simp [chainsB]
  | c :: cs, h => by
    have h1 := chains_len cs (fun x hx => h x (by simp [hx]))
    have h2 := chain_len (h c (by simp)).1 (h c (by simp)).2
    unfold chainsB at h1 ⊢
    simp only [List.flatMap_cons, List.length_append, List.length_cons]
    omega
theorem plan_len {ep : Int} {cs : List (List Int)} (h : rightB ep cs = true) : (planB ep cs).length ≤ 126 := by
  obtain ⟨h0, h1, _, h3, _⟩ := right_parts h
  have h4 := chains_len cs (fun c hc => (right_chain h hc).2)
  have h5 := num_len (n := ep.toNat) (by omega)
  have h6 := num_len (n := cs.length) (by omega)
  unfold planB
  simp only [List.length_append]
  omega
/-- The epoch and how many chains there are, written. -/
theorem plan_out0 {ep : Int} {cs : List (List Int)} (h : rightB ep cs = true) : stNum (stNum (some []) ep) cs.length = some (num7 ep.toNat ++ num7 cs.length) := by
  obtain ⟨h0, h1, _, h3, _⟩ := right_parts h
  rw [stNum_ok (right_num h0 h1), stNum_ok (right_num (by omega) (by omega))]
  simp
/-- A chain more, written. -/
theorem plan_out1 {ep : Int} {cs : List (List Int)} (h : rightB ep cs = true) (k : Nat) (hk : k < cs.length) (q : List UInt8) : stNums (some (q ++ chainsB (cs.take k))) cs[k] = some (q ++ chainsB (cs.take (k + 1))) := by
  obtain ⟨_, h2, h3⟩ := right_chain h (List.getElem_mem hk)
  rw [stNums_ok (by omega) (List.all_eq_true.2 fun u hu => right_num (h3 u hu).1 (by have := (h3 u hu).2; omega)), chains_take cs k hk, List.append_assoc]
theorem plan_out2 (ep : Int) (cs : List (List Int)) : (num7 ep.toNat ++ num7 cs.length) ++ chainsB (cs.take cs.length) = planB ep cs := by
  rw [List.take_length]; unfold planB; rw [List.append_assoc]
/-- No two right plans have the same bytes. -/
theorem chains_inj : ∀ (cs ds : List (List Int)), cs.length = ds.length → (∀ c ∈ cs, c.length ≤ 3 ∧ ∀ u ∈ c, 0 ≤ u ∧ u ≤ 11) → (∀ c ∈ ds, c.length ≤ 3 ∧ ∀ u ∈ c, 0 ≤ u ∧ u ≤ 11) → chainsB cs = chainsB ds → cs = ds
  | [], [], _, _, _, _ => rfl
  | c :: cs, [], hl, _, _, _ => by simp at hl
  | [], d :: ds, hl, _, _, _ => by simp at hl
  | c :: cs, d :: ds, hl, hc, hd, he => by
    have key : ∀ (c : List Int) (cs : List (List Int)), (c.length ≤ 3 ∧ ∀ u ∈ c, 0 ≤ u ∧ u ≤ 11) → inNums (chainsB (c :: cs)) 0 3 11 = (chainsB cs, 0, c.map Int.toNat) := by
      intro c cs h
      unfold chainsB
      rw [List.flatMap_cons]
      refine inNums_le (by simp; omega) (by simp; omega) (fun n hn => ?_) _
      obtain ⟨u, hu, rfl⟩ := List.mem_map.1 hn
      have := h.2 u hu
      omega
    have h1 := key c cs (hc c (by simp))
    have h2 := key d ds (hd d (by simp))
    rw [he, h2] at h1
    simp only [Prod.mk.injEq] at h1
    obtain ⟨h3, _, h4⟩ := h1
    have h5 := congrArg (List.map Int.ofNat) h4
    rw [nat_back (fun u hu => ((hc c (by simp)).2 u hu).1), nat_back (fun u hu => ((hd d (by simp)).2 u hu).1)] at h5
    rw [h5, chains_inj cs ds (by simpa using hl) (fun x hx => hc x (by simp [hx])) (fun x hx => hd x (by simp [hx])) h3.symm]
theorem plan_inj {ep ep' : Int} {cs cs' : List (List Int)} (h : rightB ep cs = true) (h' : rightB ep' cs' = true) (he : planB ep cs = planB ep' cs') : ep = ep' ∧ cs = cs' := by
  have h1 := plan_in0 h
  rw [he, plan_in0 h'] at h1
  simp only [Prod.mk.injEq] at h1
  obtain ⟨h2, _, h3⟩ := h1
  have h4 := plan_in1 h
  rw [← h2, plan_in1 h'] at h4
  simp only [Prod.mk.injEq] at h4
  obtain ⟨h5, _, h6⟩ := h4
  have := (right_parts h).1
  have := (right_parts h').1
  refine ⟨by omega, chains_inj cs cs' h6.symm (fun c hc => (right_chain h hc).2) (fun c hc => (right_chain h' hc).2) h5.symm⟩
end Go.Proofs.YtefcbofjndnpkaaDoor
