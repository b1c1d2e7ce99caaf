/- Entries in their kinds' own fields: what is kept of each; equal bytes are equal fields. It speaks of no program's own form. -/
import Derived.Test.YtcddgllckadodaaDoorGEntS
import Derived.Test.YtcddgllckadodaaDoorGPackD
import Derived.WalkKit
import Derived.WalkSpells
namespace Go.Proofs.YtcddgllckadodaaDoor
open Go.RowKit Tide Utf

/-- An operation, of whose fields those are kept that its kind has. -/
def plainO (o : OpD) : OpD := ⟨o.kind, o.key, if o.kind = 1 ∨ o.kind = 3 then o.value else ⟨#[]⟩, if o.kind = 3 then o.old else ⟨#[]⟩, if o.kind = 4 then o.version else 0⟩
/-- An operation is right, where K is the number of a key's error (0: none). -/
def opRK (K : ByteArray → Nat) (o : OpD) : Bool := decide (K o.key = 0) && opF o
/-- An entry is right. -/
def entRK (K : ByteArray → Nat) (e : EntD) : Bool :=
  if e.kind = 1 then headW e && e.ops.all (opRK K) else if e.kind = 2 then uptoB e.shard 12 && uptoB e.server 4 else
    if e.kind = 3 then twoB e && (uptoB e.server 4 && decide (K e.key = 0)) else if e.kind = 4 then twoB e else if e.kind = 5 then partB e else false
theorem entRK_num (e : EntD) : entRK keyNum e = entR e := rfl
/-- Whether a plain operation is not right. -/
def wrongO (K : ByteArray → Nat) (o : OpD) : Bool := !(decide (1 ≤ o.kind) && decide (o.kind ≤ 4)) || (!decide (K o.key = 0) || (decide ((64 : Int) < (o.old.size : Int)) || (decide ((64 : Int) < (o.value.size : Int)) || !(decide (0 ≤ o.version) && decide (o.version ≤ 4096)))))
theorem size0 : (⟨#[]⟩ : ByteArray).size = 0 := rfl
theorem wrong_plain (K : ByteArray → Nat) (o : OpD) : wrongO K (plainO o) = !opRK K o := by
  unfold wrongO opRK opF plainO
  simp only
  by_cases k1 : o.kind = 1
  · rw [if_pos (Or.inl k1), if_neg (by omega), if_neg (by omega), if_pos k1, size0, k1, Bool.eq_iff_iff]
    simp
  by_cases k2 : o.kind = 2
  · rw [if_neg (by omega), if_neg (by omega), if_neg (by omega), if_neg (by omega), if_pos k2, size0, k2, Bool.eq_iff_iff]
    simp
  by_cases k3 : o.kind = 3
  · rw [if_pos (Or.inr k3), if_pos k3, if_neg (by omega), if_neg (by omega), if_neg (by omega), if_pos k3, k3, Bool.eq_iff_iff]
    simp
    omega
  by_cases k4 : o.kind = 4
  · rw [if_neg (by omega), if_neg (by omega), if_pos k4, if_neg (by omega), if_neg (by omega), if_neg (by omega), if_pos k4, size0, k4, Bool.eq_iff_iff]
    simp
  · have e : (decide (1 ≤ o.kind) && decide (o.kind ≤ 4)) = false := by simp; omega
    rw [if_neg k1, if_neg k2, if_neg k3, if_neg k4, e]
    simp only [Bool.not_false, Bool.true_or, if_neg k3, if_neg k4, Bool.and_false]
theorem plain_F (o : OpD) : opF (plainO o) = opF o := by
  unfold opF
  show (if o.kind = 1 then decide (((plainO o).value.size : Int) ≤ 64) else if o.kind = 2 then true else if o.kind = 3 then decide (((plainO o).value.size : Int) ≤ 64) && decide (((plainO o).old.size : Int) ≤ 64) else
    if o.kind = 4 then decide (0 ≤ (plainO o).version) && decide ((plainO o).version ≤ 4096) else false) = _
  by_cases k1 : o.kind = 1
  · have e : (plainO o).value = o.value := by unfold plainO; exact if_pos (Or.inl k1)
    rw [if_pos k1, if_pos k1, e]
  by_cases k2 : o.kind = 2
  · rw [if_neg k1, if_pos k2, if_neg k1, if_pos k2]
  by_cases k3 : o.kind = 3
  · have e : (plainO o).value = o.value := by unfold plainO; exact if_pos (Or.inr k3)
    have e2 : (plainO o).old = o.old := by unfold plainO; exact if_pos k3
    rw [if_neg k1, if_neg k2, if_pos k3, if_neg k1, if_neg k2, if_pos k3, e, e2]
  by_cases k4 : o.kind = 4
  · have e : (plainO o).version = o.version := by unfold plainO; exact if_pos k4
    rw [if_neg k1, if_neg k2, if_neg k3, if_pos k4, if_neg k1, if_neg k2, if_neg k3, if_pos k4, e]
  · rw [if_neg k1, if_neg k2, if_neg k3, if_neg k4, if_neg k1, if_neg k2, if_neg k3, if_neg k4]
theorem plain_R (K : ByteArray → Nat) (o : OpD) : opRK K (plainO o) = opRK K o := by
  unfold opRK
  rw [plain_F]
  rfl
theorem plain_E (o : OpD) : opE (plainO o) = opE o := by
  have h1 : (if o.kind = 3 then text7 (plainO o).old else []) = (if o.kind = 3 then text7 o.old else []) := by
    by_cases k : o.kind = 3
    · have e : (plainO o).old = o.old := by unfold plainO; exact if_pos k
      rw [e]
    · rw [if_neg k, if_neg k]
  have h2 : (if o.kind = 1 ∨ o.kind = 3 then text7 (plainO o).value else []) = (if o.kind = 1 ∨ o.kind = 3 then text7 o.value else []) := by
    by_cases k : o.kind = 1 ∨ o.kind = 3
    · have e : (plainO o).value = o.value := by unfold plainO; exact if_pos k
      rw [e]
    · rw [if_neg k, if_neg k]
  have h3 : (if o.kind = 4 then num7 (plainO o).version.toNat else []) = (if o.kind = 4 then num7 o.version.toNat else []) := by
    by_cases k : o.kind = 4
    · have e : (plainO o).version = o.version := by unfold plainO; exact if_pos k
      rw [e]
    · rw [if_neg k, if_neg k]
  show num7 o.kind.toNat ++ text7 o.key ++ (if o.kind = 3 then text7 (plainO o).old else []) ++ (if o.kind = 1 ∨ o.kind = 3 then text7 (plainO o).value else []) ++ (if o.kind = 4 then num7 (plainO o).version.toNat else []) = _
  rw [h1, h2, h3]
  rfl
theorem plain_size {o : OpD} (h : o.key.size ≤ 300 ∧ o.value.size ≤ 300 ∧ o.old.size ≤ 300) : (plainO o).key.size ≤ 300 ∧ (plainO o).value.size ≤ 300 ∧ (plainO o).old.size ≤ 300 := by
  unfold plainO
  refine ⟨h.1, ?_, ?_⟩
  · show (if _ then _ else _ : ByteArray).size ≤ _
    split
    · exact h.2.1
    · exact Nat.zero_le _
  · show (if _ then _ else _ : ByteArray).size ≤ _
    split
    · exact h.2.2
    · exact Nat.zero_le _
theorem plains_E (l : List OpD) : (l.map plainO).flatMap opE = l.flatMap opE := by
  induction l with
  | nil => rfl
  | cons o l ih => rw [List.map_cons, List.flatMap_cons, List.flatMap_cons, plain_E, ih]
theorem plains_R (K : ByteArray → Nat) (l : List OpD) : (l.map plainO).all (opRK K) = l.all (opRK K) := by
  induction l with
  | nil => rfl
  | cons o l ih => rw [List.map_cons, List.all_cons, List.all_cons, plain_R, ih]
theorem plains_wrong (K : ByteArray → Nat) (l : List OpD) : (l.map plainO).any (wrongO K) = !(l.all (opRK K)) := by
  induction l with
  | nil => rfl
  | cons o l ih => rw [List.map_cons, List.any_cons, List.all_cons, wrong_plain, ih]; simp

/-- An entry, of whose fields those are kept that its kind has. -/
def canE (e : EntD) : EntD :=
  if e.kind = 1 then ⟨1, e.shard, 0, 0, e.client, e.seq, e.ops.map plainO, ⟨#[]⟩, 0, 0, 0, []⟩ else
    if e.kind = 2 then ⟨2, e.shard, 0, e.server, 0, 0, [], ⟨#[]⟩, 0, 0, 0, []⟩ else
      if e.kind = 3 then ⟨3, e.shard, e.other, e.server, 0, 0, [], e.key, 0, 0, 0, []⟩ else
        if e.kind = 4 then ⟨4, e.shard, e.other, 0, 0, 0, [], ⟨#[]⟩, 0, 0, 0, []⟩ else ⟨5, e.shard, 0, 0, 0, 0, [], ⟨#[]⟩, e.upto, e.part, e.parts, e.data⟩
section
variable {e : EntD} {K : ByteArray → Nat}
theorem enc_1 (k : e.kind = 1) : encE e = num7 1 ++ (num7 e.shard.toNat ++ (num7 e.client.toNat ++ (num7 e.seq.toNat ++ (num7 e.ops.length ++ e.ops.flatMap opE)))) := by
  unfold encE headE tailE
  rw [if_pos k, if_pos k, k]
  simp
theorem enc_2 (k : e.kind = 2) : encE e = num7 2 ++ (num7 e.shard.toNat ++ num7 e.server.toNat) := by
  unfold encE headE tailE
  rw [if_neg (by omega), if_pos k, if_neg (by omega), if_neg (by omega), if_neg (by omega), k]
  simp
theorem enc_3 (k : e.kind = 3) : encE e = num7 3 ++ (num7 e.shard.toNat ++ (num7 e.other.toNat ++ (num7 e.server.toNat ++ text7 e.key))) := by
  unfold encE headE tailE
  rw [if_neg (by omega), if_neg (by omega), if_pos k, if_neg (by omega), if_pos k, k]
  simp
theorem enc_4 (k : e.kind = 4) : encE e = num7 4 ++ (num7 e.shard.toNat ++ num7 e.other.toNat) := by
  unfold encE headE tailE
  rw [if_neg (by omega), if_neg (by omega), if_neg (by omega), if_pos k, if_neg (by omega), if_neg (by omega), if_neg (by omega), k]
  simp
theorem enc_5 (k : e.kind = 5) : encE e = num7 5 ++ (num7 e.shard.toNat ++ (num7 e.upto.toNat ++ (num7 e.parts.toNat ++ (num7 e.part.toNat ++ (num7 e.data.length ++ e.data))))) := by
  unfold encE headE tailE
  rw [if_neg (by omega), if_neg (by omega), if_neg (by omega), if_neg (by omega), if_pos k, if_neg (by omega), if_neg (by omega), if_pos k, k]
  simp
theorem can_1 (k : e.kind = 1) : canE e = ⟨1, e.shard, 0, 0, e.client, e.seq, e.ops.map plainO, ⟨#[]⟩, 0, 0, 0, []⟩ := if_pos k
theorem can_2 (k : e.kind = 2) : canE e = ⟨2, e.shard, 0, e.server, 0, 0, [], ⟨#[]⟩, 0, 0, 0, []⟩ := by unfold canE; rw [if_neg (by omega), if_pos k]
theorem can_3 (k : e.kind = 3) : canE e = ⟨3, e.shard, e.other, e.server, 0, 0, [], e.key, 0, 0, 0, []⟩ := by unfold canE; rw [if_neg (by omega), if_neg (by omega), if_pos k]
theorem can_4 (k : e.kind = 4) : canE e = ⟨4, e.shard, e.other, 0, 0, 0, [], ⟨#[]⟩, 0, 0, 0, []⟩ := by unfold canE; rw [if_neg (by omega), if_neg (by omega), if_neg (by omega), if_pos k]
theorem can_5 (k : e.kind = 5) : canE e = ⟨5, e.shard, 0, 0, 0, 0, [], ⟨#[]⟩, e.upto, e.part, e.parts, e.data⟩ := by unfold canE; rw [if_neg (by omega), if_neg (by omega), if_neg (by omega), if_neg (by omega)]
theorem right_1 (k : e.kind = 1) : entRK K e = (headW e && e.ops.all (opRK K)) := if_pos k
theorem right_2 (k : e.kind = 2) : entRK K e = (uptoB e.shard 12 && uptoB e.server 4) := by unfold entRK; rw [if_neg (by omega), if_pos k]
theorem right_3 (k : e.kind = 3) : entRK K e = (twoB e && (uptoB e.server 4 && decide (K e.key = 0))) := by unfold entRK; rw [if_neg (by omega), if_neg (by omega), if_pos k]
theorem right_4 (k : e.kind = 4) : entRK K e = twoB e := by unfold entRK; rw [if_neg (by omega), if_neg (by omega), if_neg (by omega), if_pos k]
theorem right_5 (k : e.kind = 5) : entRK K e = partB e := by unfold entRK; rw [if_neg (by omega), if_neg (by omega), if_neg (by omega), if_neg (by omega), if_pos k]
theorem right_0 (h1 : ¬ e.kind = 1) (h2 : ¬ e.kind = 2) (h3 : ¬ e.kind = 3) (h4 : ¬ e.kind = 4) (h5 : ¬ e.kind = 5) : entRK K e = false := by unfold entRK; rw [if_neg h1, if_neg h2, if_neg h3, if_neg h4, if_neg h5]
theorem kindsK (h : entRK K e = true) : e.kind = 1 ∨ e.kind = 2 ∨ e.kind = 3 ∨ e.kind = 4 ∨ e.kind = 5 := by
  unfold entRK at h
  repeat' split at h
  all_goals first | (left; assumption) | (right; left; assumption) | (right; right; left; assumption) | (right; right; right; left; assumption) | (right; right; right; right; assumption) | cases h
theorem can_enc (h : entRK K e = true) : encE (canE e) = encE e := by
  rcases kindsK h with k | k | k | k | k
  · rw [can_1 k, enc_1 k, enc_1 rfl]
    simp only [List.length_map, plains_E]
  · rw [can_2 k, enc_2 k, enc_2 rfl]
  · rw [can_3 k, enc_3 k, enc_3 rfl]
  · rw [can_4 k, enc_4 k, enc_4 rfl]
  · rw [can_5 k, enc_5 k, enc_5 rfl]
theorem can_right (h : entRK K e = true) : entRK K (canE e) = true := by
  rcases kindsK h with k | k | k | k | k
  · rw [right_1 k] at h
    rw [can_1 k, right_1 rfl]
    simp only [headW, plains_R, List.length_map] at h ⊢
    exact h
  · rw [right_2 k] at h
    rw [can_2 k, right_2 rfl]; exact h
  · rw [right_3 k] at h
    rw [can_3 k, right_3 rfl]; exact h
  · rw [right_4 k] at h
    rw [can_4 k, right_4 rfl]; exact h
  · rw [right_5 k] at h
    rw [can_5 k, right_5 rfl]; exact h
theorem can_size (h : entRK K e = true) (hz : SizeE e) : SizeE (canE e) := by
  obtain ⟨h1, h2, h3, h4⟩ := hz
  have h0 : ∀ o ∈ ([] : List OpD), o.key.size ≤ 300 ∧ o.value.size ≤ 300 ∧ o.old.size ≤ 300 := fun o ho => by cases ho
  have hm : ∀ o ∈ e.ops.map plainO, o.key.size ≤ 300 ∧ o.value.size ≤ 300 ∧ o.old.size ≤ 300 := fun o ho => by
    obtain ⟨o', ho', rfl⟩ := List.mem_map.1 ho
    exact plain_size (h1 o' ho')
  rcases kindsK h with k | k | k | k | k
  · rw [can_1 k]; exact ⟨hm, Nat.zero_le _, Nat.zero_le _, by simpa using h4⟩
  · rw [can_2 k]; exact ⟨h0, Nat.zero_le _, Nat.zero_le _, Nat.zero_le _⟩
  · rw [can_3 k]; exact ⟨h0, h2, Nat.zero_le _, Nat.zero_le _⟩
  · rw [can_4 k]; exact ⟨h0, Nat.zero_le _, Nat.zero_le _, Nat.zero_le _⟩
  · rw [can_5 k]; exact ⟨h0, Nat.zero_le _, h3, Nat.zero_le _⟩
end

theorem num_inj {n m : Nat} {r s : List UInt8} (hn : n < 2 ^ 62) (hm : m < 2 ^ 62) (h : num7 n ++ r = num7 m ++ s) : n = m ∧ r = s := by
  have h1 := rd_num7 hn r
  rw [h, rd_num7 hm s] at h1
  have h2 : n = m := (Prod.mk.inj (Prod.mk.inj h1).2).1.symm
  subst h2
  exact ⟨rfl, List.append_cancel_left h⟩
theorem text_inj {x y : ByteArray} {r s : List UInt8} (hx : x.size < 2 ^ 62) (hy : y.size < 2 ^ 62) (h : text7 x ++ r = text7 y ++ s) : x = y ∧ r = s := by
  unfold text7 at h
  rw [List.append_assoc, List.append_assoc] at h
  obtain ⟨h1, h2⟩ := num_inj hx hy h
  have h3 := List.append_inj h2 (by rw [Array.length_toList, Array.length_toList]; exact h1)
  refine ⟨?_, h3.2⟩
  have : x.data = y.data := Array.toList_inj.1 h3.1
  cases x; cases y; cases this; rfl
theorem op_small {K : ByteArray → Nat} {o : OpD} (h : opRK K o = true) : 1 ≤ o.kind ∧ o.kind ≤ 4 ∧ (o.kind = 1 ∨ o.kind = 3 → o.value.size ≤ 64) ∧ (o.kind = 3 → o.old.size ≤ 64) ∧ (o.kind = 4 → 0 ≤ o.version ∧ o.version ≤ 4096) := by
  unfold opRK at h
  rw [Bool.and_eq_true] at h
  have h2 := h.2
  unfold opF at h2
  by_cases k1 : o.kind = 1
  · rw [if_pos k1] at h2
    simp at h2
    exact ⟨by omega, by omega, fun _ => by omega, fun h => by omega, fun h => by omega⟩
  by_cases k2 : o.kind = 2
  · exact ⟨by omega, by omega, fun h => by omega, fun h => by omega, fun h => by omega⟩
  by_cases k3 : o.kind = 3
  · rw [if_neg k1, if_neg k2, if_pos k3] at h2
    simp at h2
    exact ⟨by omega, by omega, fun _ => by omega, fun _ => by omega, fun h => by omega⟩
  by_cases k4 : o.kind = 4
  · rw [if_neg k1, if_neg k2, if_neg k3, if_pos k4] at h2
    simp at h2
    exact ⟨by omega, by omega, fun h => by omega, fun h => by omega, fun _ => by omega⟩
  · rw [if_neg k1, if_neg k2, if_neg k3, if_neg k4] at h2; cases h2
theorem op_inj {K : ByteArray → Nat} {o p : OpD} {r s : List UInt8} (ho : opRK K o = true) (hp : opRK K p = true) (o3 : o.key.size ≤ 300) (p3 : p.key.size ≤ 300) (h : opE o ++ r = opE p ++ s) : plainO o = plainO p ∧ r = s := by
  obtain ⟨o1, o2, o4, o5, o6⟩ := op_small ho
  obtain ⟨p1, p2, p4, p5, p6⟩ := op_small hp
  obtain ⟨ok, okey, oval, oold, ov⟩ := o
  obtain ⟨pk, pkey, pval, pold, pv⟩ := p
  simp only at o1 o2 o3 o4 o5 o6 p1 p2 p3 p4 p5 p6
  unfold opE at h
  simp only [List.append_assoc] at h
  obtain ⟨h1, hb⟩ := num_inj (by omega) (by omega) h
  clear h
  have hk : pk = ok := by omega
  obtain ⟨h2, h⟩ := text_inj (by omega) (by omega) hb
  clear hb h1
  subst hk
  subst h2
  unfold plainO
  simp only
  by_cases k1 : pk = 1
  · have a1 := o4 (Or.inl k1)
    have a2 := p4 (Or.inl k1)
    subst k1
    simp (decide := true) only [if_true, if_false, List.nil_append] at h ⊢
    obtain ⟨h3, hc⟩ := text_inj (by omega) (by omega) h
    rw [h3]
    exact ⟨rfl, hc⟩
  by_cases k3 : pk = 3
  · have a1 := o4 (Or.inr k3)
    have a2 := p4 (Or.inr k3)
    have a3 := o5 k3
    have a4 := p5 k3
    subst k3
    simp (decide := true) only [if_true, if_false, List.nil_append] at h ⊢
    obtain ⟨h3, hc⟩ := text_inj (by omega) (by omega) h
    obtain ⟨h4, hd⟩ := text_inj (by omega) (by omega) hc
    rw [h3, h4]
    exact ⟨rfl, hd⟩
  by_cases k4 : pk = 4
  · have a1 := o6 k4
    have a2 := p6 k4
    subst k4
    simp (decide := true) only [if_true, if_false, List.nil_append] at h ⊢
    obtain ⟨h3, hc⟩ := num_inj (by omega) (by omega) h
    have h4 : ov = pv := by omega
    rw [h4]
    exact ⟨rfl, hc⟩
  · have k2 : pk = 2 := by omega
    subst k2
    simp (decide := true) only [if_false, List.nil_append] at h ⊢
    exact ⟨trivial, h⟩
theorem ops_inj {K : ByteArray → Nat} : ∀ {l m : List OpD} {r s : List UInt8}, (∀ o ∈ l, opRK K o = true ∧ o.key.size ≤ 300) → (∀ o ∈ m, opRK K o = true ∧ o.key.size ≤ 300) → l.length = m.length → l.flatMap opE ++ r = m.flatMap opE ++ s → l.map plainO = m.map plainO ∧ r = s
  | [], [], _, _, _, _, _, h => ⟨rfl, by simpa using h⟩
  | [], _ :: _, _, _, _, _, hl, _ => by simp at hl
  | _ :: _, [], _, _, _, _, hl, _ => by simp at hl
  | o :: l, p :: m, r, s, ho, hp, hl, h => by
    rw [List.flatMap_cons, List.flatMap_cons, List.append_assoc, List.append_assoc] at h
    obtain ⟨h1, h2⟩ := op_inj (ho o (by simp)).1 (hp p (by simp)).1 (ho o (by simp)).2 (hp p (by simp)).2 h
    obtain ⟨h3, h4⟩ := ops_inj (fun x hx => ho x (by simp [hx])) (fun x hx => hp x (by simp [hx])) (by simpa using hl) h2
    rw [List.map_cons, List.map_cons, h1, h3]
    exact ⟨rfl, h4⟩
/-- Right entries of equal bytes have the same kind, and in it the same. -/
theorem enc_inj {K : ByteArray → Nat} {x y : EntD} (hx : entRK K x = true) (hy : entRK K y = true) (zx : SizeE x) (zy : SizeE y) : encE x = encE y ↔ canE x = canE y := by
  constructor
  · intro h
    have hk : x.kind = y.kind := by
      have e1 : ∀ e : EntD, entRK K e = true → ∃ r, encE e = num7 e.kind.toNat ++ r := fun e he => by
        rcases kindsK he with k | k | k | k | k
        · exact ⟨_, by rw [enc_1 k, k]; rfl⟩
        · exact ⟨_, by rw [enc_2 k, k]; rfl⟩
        · exact ⟨_, by rw [enc_3 k, k]; rfl⟩
        · exact ⟨_, by rw [enc_4 k, k]; rfl⟩
        · exact ⟨_, by rw [enc_5 k, k]; rfl⟩
      obtain ⟨r, hr⟩ := e1 x hx
      obtain ⟨s, hs⟩ := e1 y hy
      rw [hr, hs] at h
      have kx := kindsK hx
      have ky := kindsK hy
      have := (num_inj (by omega) (by omega) h).1
      omega
    rcases kindsK hx with k | k | k | k | k
    · have k' := hk.symm.trans k
      rw [enc_1 k, enc_1 k'] at h
      rw [right_1 k, Bool.and_eq_true] at hx
      rw [right_1 k', Bool.and_eq_true] at hy
      obtain ⟨hx1, hx2⟩ := hx
      obtain ⟨hy1, hy2⟩ := hy
      simp [headW, uptoB] at hx1 hy1
      obtain ⟨_, h⟩ := num_inj (by omega) (by omega) h
      obtain ⟨h1, h⟩ := num_inj (by omega) (by omega) h
      obtain ⟨h2, h⟩ := num_inj (by omega) (by omega) h
      obtain ⟨h3, h⟩ := num_inj (by omega) (by omega) h
      obtain ⟨h4, h⟩ := num_inj (by omega) (by omega) h
      have h5 := (ops_inj (K := K) (r := []) (s := []) (fun o ho => ⟨List.all_eq_true.1 hx2 o ho, (zx.1 o ho).1⟩) (fun o ho => ⟨List.all_eq_true.1 hy2 o ho, (zy.1 o ho).1⟩) h4 (by simpa using h)).1
      rw [can_1 k, can_1 k', h5, show x.shard = y.shard by omega, show x.client = y.client by omega, show x.seq = y.seq by omega]
    · have k' := hk.symm.trans k
      rw [enc_2 k, enc_2 k'] at h
      rw [right_2 k] at hx
      rw [right_2 k'] at hy
      simp [uptoB] at hx hy
      obtain ⟨_, h⟩ := num_inj (by omega) (by omega) h
      obtain ⟨h1, h⟩ := num_inj (by omega) (by omega) h
      have h2 := (num_inj (n := x.server.toNat) (m := y.server.toNat) (r := []) (s := []) (by omega) (by omega) (by simpa using h)).1
      rw [can_2 k, can_2 k', show x.shard = y.shard by omega, show x.server = y.server by omega]
    · have k' := hk.symm.trans k
      rw [enc_3 k, enc_3 k'] at h
      rw [right_3 k] at hx
      rw [right_3 k'] at hy
      simp only [Bool.and_eq_true] at hx hy
      have kx := zx.2.1
      have ky := zy.2.1
      have hx1 := hx.1
      have hy1 := hy.1
      have hx2 := hx.2.1
      have hy2 := hy.2.1
      simp [twoB, uptoB] at hx1 hy1 hx2 hy2
      obtain ⟨_, h⟩ := num_inj (by omega) (by omega) h
      obtain ⟨h1, h⟩ := num_inj (by omega) (by omega) h
      obtain ⟨h2, h⟩ := num_inj (by omega) (by omega) h
      obtain ⟨h3, h⟩ := num_inj (by omega) (by omega) h
      have h4 := (text_inj (x := x.key) (y := y.key) (r := []) (s := []) (by omega) (by omega) (by simpa using h)).1
      rw [can_3 k, can_3 k', h4, show x.shard = y.shard by omega, show x.other = y.other by omega, show x.server = y.server by omega]
    · have k' := hk.symm.trans k
      rw [enc_4 k, enc_4 k'] at h
      rw [right_4 k] at hx
      rw [right_4 k'] at hy
      simp [twoB, uptoB] at hx hy
      obtain ⟨_, h⟩ := num_inj (by omega) (by omega) h
      obtain ⟨h1, h⟩ := num_inj (by omega) (by omega) h
      have h2 := (num_inj (n := x.other.toNat) (m := y.other.toNat) (r := []) (s := []) (by omega) (by omega) (by simpa using h)).1
      rw [can_4 k, can_4 k', show x.shard = y.shard by omega, show x.other = y.other by omega]
    · have k' := hk.symm.trans k
      rw [enc_5 k, enc_5 k'] at h
      rw [right_5 k] at hx
      rw [right_5 k'] at hy
      simp [partB, uptoB] at hx hy
      obtain ⟨_, h⟩ := num_inj (by omega) (by omega) h
      obtain ⟨h1, h⟩ := num_inj (by omega) (by omega) h
      obtain ⟨h2, h⟩ := num_inj (by omega) (by omega) h
      obtain ⟨h3, h⟩ := num_inj (by omega) (by omega) h
      obtain ⟨h4, h⟩ := num_inj (by omega) (by omega) h
      obtain ⟨h5, h⟩ := num_inj (by omega) (by omega) h
      rw [can_5 k, can_5 k', h, show x.shard = y.shard by omega, show x.upto = y.upto by omega, show x.parts = y.parts by omega, show x.part = y.part by omega]
  · intro h
    rw [← can_enc hx, ← can_enc hy, h]
theorem inText_okM {s : ByteArray} {most : Int} (h : s.size ≤ 100000) (hm : (s.size : Int) ≤ most) (r : List UInt8) : inText (text7 s ++ r) 0 most = (r, 0, s.data.toList) := by
  have e := inNum_ok (show s.size < 2 ^ 62 by omega) (s.data.toList ++ r) most hm
  have hl : s.data.toList.length = s.size := by rw [Array.length_toList]; rfl
  unfold inText text7
  rw [List.append_assoc, e]
  simp only
  rw [if_neg (by simp), if_neg (by rw [List.length_append]; omega), ← hl]
  simp
/-- An entry's bytes, told. -/
def bytesK (K : ByteArray → Nat) (e : EntD) : List UInt8 × Nat := if entRK K e then (if 1848 < (encE e).length then ([], 3) else (encE e, 0)) else ([], 4)
end Go.Proofs.YtcddgllckadodaaDoor

/- Package entry's small functions: which fields an operation's kind has, within, apart. -/
namespace Go.Proofs.YtcddgllckadodaaDoor
open Go.RowKit Tide Utf

theorem fields_any (k : Int) (w : World) : Calls Tryd.prog 40 #[.int .i64 k] w fun e w' => e = .returned (.tuple #[.bool (decide (k = 3)), .bool (decide (k = 1 ∨ k = 3)), .bool (decide (k = 4))]) ∧ w = w' := by
  by_cases h1 : k = 1
  · subst h1
    go_enter Tryd.func40, Tryd.ntmps40
    go_wp2_with fail
    go_ret3
    exact ⟨rfl, rfl⟩
  by_cases h3 : k = 3
  · subst h3
    go_enter Tryd.func40, Tryd.ntmps40
    go_wp2_with fail
    go_ret3
    exact ⟨rfl, rfl⟩
  by_cases h4 : k = 4
  · subst h4
    go_enter Tryd.func40, Tryd.ntmps40
    go_wp2_with fail
    go_ret3
    exact ⟨rfl, rfl⟩
  have HF := Lib.hid (show (decide (k = 3), decide (k = 1 ∨ k = 3), decide (k = 4)) = (false, false, false) by rw [decide_eq_false h3, decide_eq_false h4, decide_eq_false (by omega)])
  have q1 : (k == 1) = false := by simp [h1]
  have q3 : (k == 3) = false := by simp [h3]
  have q4 : (k == 4) = false := by simp [h4]
  go_enter Tryd.func40, Tryd.ntmps40
  go_wp2_with fail
  go_ret3
  have e1 := (Prod.mk.inj HF.out).1
  have e2 := (Prod.mk.inj (Prod.mk.inj HF.out).2).1
  have e3 := (Prod.mk.inj (Prod.mk.inj HF.out).2).2
  exact ⟨by rw [e1, e2, e3] <;> rfl, rfl⟩
/-- Whether a number is from the least one to the most. -/
def withinB (n lo hi : Int) : Bool := decide (lo ≤ n) && decide (n ≤ hi)
theorem within_any (n lo hi : Int) (w : World) : Calls Tryd.prog 66 #[.int .i64 n, .int .i64 lo, .int .i64 hi] w fun e w' => e = .returned (.bool (withinB n lo hi)) ∧ w = w' := by
  have HU := Lib.hid (show withinB n lo hi = (decide (lo ≤ n) && decide (n ≤ hi)) from rfl)
  by_cases h1 : lo ≤ n
  · by_cases h2 : n ≤ hi
    · have hb := Lib.hid (show withinB n lo hi = true by rw [HU.out, decide_eq_true h1, decide_eq_true h2]; rfl)
      go_enter Tryd.func66, Tryd.ntmps66
      go_wp2_with fail
      go_ret
      exact ⟨by rw [hb.out]; rfl, rfl⟩
    · have hb := Lib.hid (show withinB n lo hi = false by rw [HU.out, decide_eq_true h1, decide_eq_false h2]; rfl)
      go_enter Tryd.func66, Tryd.ntmps66
      go_wp2_with fail
      go_ret
      exact ⟨by rw [hb.out]; rfl, rfl⟩
  · have hb := Lib.hid (show withinB n lo hi = false by rw [HU.out, decide_eq_false h1]; rfl)
    go_enter Tryd.func66, Tryd.ntmps66
    go_wp2_with fail
    go_ret
    exact ⟨by rw [hb.out]; rfl, rfl⟩
def apartB (x y : Int) : Bool := withinB x 1 12 && (withinB y 1 12 && !decide (x = y))
theorem apart_any (x y : Int) (w : World) : Calls Tryd.prog 86 #[.int .i64 x, .int .i64 y] w fun e w' => e = .returned (.bool (apartB x y)) ∧ w = w' := by
  have HU := Lib.hid (show apartB x y = (withinB x 1 12 && (withinB y 1 12 && !decide (x = y))) from rfl)
  have C1 := Lib.hid (fun w => within_any x 1 12 w)
  have C2 := Lib.hid (fun w => within_any y 1 12 w)
  cases h1 : withinB x 1 12 with
  | false =>
    have hb := Lib.hid (show apartB x y = false by rw [HU.out, h1]; rfl)
    rw [h1] at C1
    clear h1 HU
    go_enter Tryd.func86, Tryd.ntmps86
    go_wp2_with fail
    refine (C1.out _).mono ?_
    rintro e w1 ⟨rfl, rfl⟩
    go_wp2_with fail
    go_ret
    exact ⟨by rw [hb.out]; rfl, rfl⟩
  | true =>
    cases h2 : withinB y 1 12 with
    | false =>
      have hb := Lib.hid (show apartB x y = false by rw [HU.out, h1, h2]; rfl)
      rw [h1] at C1
      rw [h2] at C2
      clear h1 h2 HU
      go_enter Tryd.func86, Tryd.ntmps86
      go_wp2_with fail
      refine (C1.out _).mono ?_
      rintro e w1 ⟨rfl, rfl⟩
      go_wp2_with fail
      refine (C2.out _).mono ?_
      rintro e w1 ⟨rfl, rfl⟩
      go_wp2_with fail
      go_ret
      exact ⟨by rw [hb.out]; rfl, rfl⟩
    | true =>
      rw [h1] at C1
      rw [h2] at C2
      rw [h1, h2] at HU
      clear h1 h2
      by_cases h3 : x = y
      · subst h3
        have hb := Lib.hid (show apartB x x = false by rw [HU.out]; simp)
        go_enter Tryd.func86, Tryd.ntmps86
        go_wp2_with fail
        refine (C1.out _).mono ?_
        rintro e w1 ⟨rfl, rfl⟩
        go_wp2_with fail
        refine (C2.out _).mono ?_
        rintro e w1 ⟨rfl, rfl⟩
        go_wp2_with fail
        go_ret
        exact ⟨by rw [hb.out]; rfl, rfl⟩
      · have hb := Lib.hid (show apartB x y = true by rw [HU.out]; simp [h3])
        have q1 : (x == y) = false := by simp [h3]
        have q2 : (x != y) = true := by simp [h3]
        clear h3
        go_enter Tryd.func86, Tryd.ntmps86
        go_wp2_with fail
        refine (C1.out _).mono ?_
        rintro e w1 ⟨rfl, rfl⟩
        go_wp2_with fail
        refine (C2.out _).mono ?_
        rintro e w1 ⟨rfl, rfl⟩
        go_wp2_with fail
        go_ret
        exact ⟨by rw [hb.out]; rfl, rfl⟩
end Go.Proofs.YtcddgllckadodaaDoor
