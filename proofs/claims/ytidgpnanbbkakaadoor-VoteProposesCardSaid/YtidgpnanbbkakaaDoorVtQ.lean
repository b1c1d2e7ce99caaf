/- Who proposes, as the document's own answer tells it: all answers in order, the first one of each voter; that it asks and decides the same as one that counts. It speaks of no program. -/
import Derived.Test.YtidgpnanbbkakaaDoorVtP
namespace Tide

/-- An answer of a voter. -/
structure AnsV where
  frm : Int
  yes : Bool
  ballot : Int
  text : ByteArray
/-- Nobody's answer, or a second one. -/
def oldV (n : Nat) (out : List AnsV) (k : Int) : Bool := (decide (k < 0) || decide ((n : Int) ≤ k)) || out.any fun b => b.frm == k
def firstV (n : Nat) (out : List AnsV) (a : AnsV) : List AnsV := if oldV n out a.frm then out else out ++ [a]
def firstsV (n : Nat) (l : List AnsV) : List AnsV := l.foldl (firstV n) []
theorem firsts_snoc (n : Nat) (l : List AnsV) (a : AnsV) : firstsV n (l ++ [a]) = firstV n (firstsV n l) a := by unfold firstsV; rw [List.foldl_append]; rfl
theorem firsts_len (n : Nat) (l : List AnsV) : (firstsV n l).length ≤ l.length := by
  have : ∀ (l : List AnsV) (out : List AnsV), (l.foldl (firstV n) out).length ≤ out.length + l.length := by
    intro l
    induction l with
    | nil => intro out; simp
    | cons a l ih =>
      intro out
      rw [List.foldl_cons]
      have h1 := ih (firstV n out a)
      have h2 : (firstV n out a).length ≤ out.length + 1 := by unfold firstV; split <;> simp
      simp
      omega
  have h := this l []
  simpa [firstsV] using h
/-- How many have promised, the greatest ballot told, and the text: so far. -/
structure AskV where
  cnt : Nat
  best : Int
  text : ByteArray
def askV (n : Nat) (s : AskV) (a : AnsV) : AskV := if !a.yes || decide (n < 2 * s.cnt) then s else if s.best < a.ballot then ⟨s.cnt + 1, a.ballot, a.text⟩ else ⟨s.cnt + 1, s.best, s.text⟩
def asksOf (n : Nat) (own : ByteArray) (l : List AnsV) : AskV := l.foldl (askV n) ⟨0, -1, own⟩
def yesOf (l : List AnsV) : Nat := l.countP fun a => a.yes
theorem yesOf_le (l : List AnsV) : yesOf l ≤ l.length := List.countP_le_length
theorem asks_cnt (n : Nat) (own : ByteArray) (l : List AnsV) : (asksOf n own l).cnt ≤ l.length := by
  have : ∀ (l : List AnsV) (s : AskV), (l.foldl (askV n) s).cnt ≤ s.cnt + l.length := by
    intro l
    induction l with
    | nil => intro s; simp
    | cons a l ih =>
      intro s
      rw [List.foldl_cons]
      have h1 := ih (askV n s a)
      have h2 : (askV n s a).cnt ≤ s.cnt + 1 := by
        unfold askV
        split
        · omega
        · split <;> simp
      simp
      omega
  have h := this l ⟨0, -1, own⟩
  unfold asksOf
  simpa using h

theorem count_one (p q : Nat → Bool) (k : Nat) : ∀ l : List Nat, l.Nodup → k ∈ l → (∀ j ∈ l, j ≠ k → q j = p j) → p k = false → l.countP q = l.countP p + if q k then 1 else 0
  | [], _, h, _, _ => by cases h
  | j :: l, hn, hk, h, hp => by
    rw [List.nodup_cons] at hn
    rw [List.countP_cons, List.countP_cons]
    by_cases e : j = k
    · subst e
      have : l.countP q = l.countP p := List.countP_congr fun i hi => by
        rw [h i (by simp [hi]) (fun e => hn.1 (e ▸ hi))]
      rw [this, hp]
      simp
    · rw [h j (by simp) e]
      have hk' : k ∈ l := (List.mem_cons.1 hk).resolve_left fun h1 => e h1.symm
      have := count_one p q k l hn.2 hk' (fun i hi => h i (by simp [hi])) hp
      omega
theorem count_set {n : Nat} {g : Int → Option Bool} {k : Int} (x : Bool) (hk : g k = none) (h0 : 0 ≤ k) (h1 : k < (n : Int)) : countV n (setV g k x) = countV n g + if x then 1 else 0 := by
  obtain ⟨m, rfl⟩ : ∃ m : Nat, k = (m : Int) := ⟨k.toNat, by omega⟩
  unfold countV
  rw [count_one (fun k : Nat => g (k : Int) == some true) (fun k : Nat => setV g (m : Int) x (k : Int) == some true) m (List.range n) List.nodup_range (List.mem_range.2 (by omega)) (fun j _ hj => by
    show (setV g (m : Int) x (j : Int) == some true) = _
    rw [setV_other g x (by omega)]) (by show (g (m : Int) == some true) = false; rw [hk]; rfl)]
  show _ = countV n g + _
  unfold countV
  rw [setV_same]
  cases x <;> simp
theorem awaits_old {n : Nat} {g : Int → Option Bool} {out : List AnsV} {k : Int} (h : awaitsV n g k = !oldV n out k) : (awaitsV n g k = true → oldV n out k = false) ∧ (awaitsV n g k = false → oldV n out k = true) := by
  rw [h]
  cases oldV n out k <;> simp
theorem awaits_set {n : Nat} {g : Int → Option Bool} {out : List AnsV} {a : AnsV} (x : Bool) (h : ∀ k, awaitsV n g k = !oldV n out k) : ∀ k, awaitsV n (setV g a.frm x) k = !oldV n (out ++ [a]) k := fun k => by
  have h1 := h k
  unfold awaitsV oldV at h1 ⊢
  rw [List.any_append]
  by_cases e : k = a.frm
  · subst e
    rw [setV_same]
    simp
  · rw [setV_other g x e]
    have : (a.frm == k) = false := by simpa using fun h => e h.symm
    simp only [List.any_cons, List.any_nil, this, Bool.or_false]
    exact h1

/-- One that counts, and one that has all answers, tell the same. -/
structure ProR (n : Nat) (own : ByteArray) (p : PropV) (ans accs : List AnsV) : Prop where
  voters : p.voters = n
  seen : ∀ k, awaitsV n p.prom k = !oldV n (firstsV n ans) k
  asked : asksOf n own (firstsV n ans) = ⟨min (countV n p.prom) (n / 2 + 1), p.greatest, p.text⟩
  taken : ∀ k, awaitsV n p.acc k = !oldV n (firstsV n accs) k
  count : yesOf (firstsV n accs) = countV n p.acc
  late : mostV n p.acc = true → mostV n p.prom = true
theorem awaits_none (n : Nat) (k : Int) : awaitsV n (fun _ => none) k = !oldV n (firstsV n []) k := by
  show (true && (decide (0 ≤ k) && decide (k < (n : Int)))) = !((decide (k < 0) || decide ((n : Int) ≤ k)) || false)
  rw [Bool.eq_iff_iff]
  simp only [Bool.true_and, Bool.or_false, Bool.and_eq_true, decide_eq_true_eq, Bool.not_eq_true', Bool.or_eq_false_iff, decide_eq_false_iff_not]
  omega
theorem ProR.new (n : Nat) (own : ByteArray) : ProR n own (newV n own) [] [] where
  voters := rfl
  seen := awaits_none n
  asked := by
    show asksOf n own [] = ⟨min (countV n fun _ => none) _, -1, own⟩
    rw [countV_none]
    simp [asksOf]
  taken := awaits_none n
  count := by show yesOf [] = countV n fun _ => none; rw [countV_none]; rfl
  late := fun h => by rw [show (newV n own).acc = fun _ => none from rfl, mostV_none] at h; cases h
section
variable {n : Nat} {own : ByteArray} {p : PropV} {ans accs : List AnsV}
theorem ProR.asks (h : ProR n own p ans accs) : asksV p = decide (n < 2 * (asksOf n own (firstsV n ans)).cnt) := by
  unfold asksV mostV
  rw [h.asked, h.voters]
  rw [Bool.eq_iff_iff]
  simp only [decide_eq_true_eq]
  omega
theorem ProR.text (h : ProR n own p ans accs) : (asksOf n own (firstsV n ans)).text = p.text := by rw [h.asked]
theorem ProR.dec (h : ProR n own p ans accs) : decV p = decide (n < 2 * yesOf (firstsV n accs)) := by
  unfold decV mostV
  rw [h.count, h.voters, Bool.eq_iff_iff]
  simp only [decide_eq_true_eq]
  omega
theorem ProR.dec_asks (h : ProR n own p ans accs) (hd : decV p = true) : asksV p = true := by
  unfold decV at hd
  unfold asksV
  rw [h.voters] at hd ⊢
  exact h.late hd
theorem awaits_bounds {n : Nat} {g : Int → Option Bool} {k : Int} (h : awaitsV n g k = true) : g k = none ∧ 0 ≤ k ∧ k < (n : Int) := by
  unfold awaitsV at h
  simp at h
  exact h
theorem ProR.promise (h : ProR n own p ans accs) (a : AnsV) : ProR n own (promV p a.frm a.yes a.ballot a.text) (ans ++ [a]) accs := by
  unfold promV
  rw [h.voters]
  by_cases hw : awaitsV n p.prom a.frm = true
  rotate_left
  · rw [if_neg hw]
    have ho := (awaits_old (h.seen a.frm)).2 (by simpa using hw)
    have : firstsV n (ans ++ [a]) = firstsV n ans := by rw [firsts_snoc]; unfold firstV; rw [if_pos ho]
    exact { h with seen := by rw [this]; exact h.seen, asked := by rw [this]; exact h.asked }
  rw [if_pos hw]
  have ho := (awaits_old (h.seen a.frm)).1 hw
  obtain ⟨hk, h0, h1⟩ := awaits_bounds hw
  have hf : firstsV n (ans ++ [a]) = firstsV n ans ++ [a] := by rw [firsts_snoc]; unfold firstV; rw [ho]; rfl
  have hs : asksOf n own (firstsV n (ans ++ [a])) = askV n ⟨min (countV n p.prom) (n / 2 + 1), p.greatest, p.text⟩ a := by
    rw [hf]
    unfold asksOf
    rw [List.foldl_append]
    show askV n (asksOf n own (firstsV n ans)) a = _
    rw [h.asked]
  have hc := count_set a.yes hk h0 h1
  have hl : mostV n p.acc = true → mostV n (setV p.prom a.frm a.yes) = true := fun hm => most_set a.yes (h.late hm) hk
  by_cases hb : betterV p a.yes a.ballot = true
  · rw [if_pos hb]
    refine { voters := rfl, seen := ?_, asked := ?_, taken := h.taken, count := h.count, late := hl }
    · rw [hf]; exact awaits_set a.yes h.seen
    · unfold betterV at hb
      rw [h.voters] at hb
      simp at hb
      obtain ⟨hy, hm, hg⟩ := hb
      have hm : ¬ n / 2 < countV n p.prom := by unfold mostV at hm; exact of_decide_eq_false hm
      rw [hs]
      show _ = (⟨min (countV n (setV p.prom a.frm a.yes)) (n / 2 + 1), a.ballot, a.text⟩ : AskV)
      rw [hc]
      unfold askV
      rw [hy, if_neg (by simp; omega), if_pos hg]
      simp only [if_true, AskV.mk.injEq, and_true]
      omega
  · rw [if_neg hb]
    refine { voters := rfl, seen := ?_, asked := ?_, taken := h.taken, count := h.count, late := hl }
    · rw [hf]; exact awaits_set a.yes h.seen
    · rw [hs]
      show _ = (⟨min (countV n (setV p.prom a.frm a.yes)) (n / 2 + 1), p.greatest, p.text⟩ : AskV)
      rw [hc]
      unfold askV
      cases hy : a.yes with
      | false => simp
      | true =>
        unfold betterV at hb
        rw [h.voters, hy] at hb
        by_cases hm : n / 2 < countV n p.prom
        · rw [if_pos (by simp; omega)]
          simp only [AskV.mk.injEq, and_true, if_true]
          omega
        · have hm2 : mostV n p.prom = false := by unfold mostV; exact decide_eq_false hm
          rw [hm2] at hb
          simp at hb
          rw [if_neg (by simp; omega), if_neg (by show ¬ p.greatest < a.ballot; omega)]
          simp only [AskV.mk.injEq, and_true, if_true]
          omega
theorem ProR.accepted (h : ProR n own p ans accs) (k : Int) (yes : Bool) : ProR n own (accpV p k yes) ans (if asksV p then accs ++ [⟨k, yes, 0, ⟨#[]⟩⟩] else accs) := by
  unfold accpV asksV
  rw [h.voters]
  cases hm : mostV n p.prom with
  | false => exact h
  | true =>
    rw [if_pos (show true = true from rfl), Bool.true_and]
    by_cases hw : awaitsV n p.acc k = true
    rotate_left
    · rw [if_neg hw]
      have ho := (awaits_old (h.taken k)).2 (by simpa using hw)
      have : firstsV n (accs ++ [⟨k, yes, 0, ⟨#[]⟩⟩]) = firstsV n accs := by rw [firsts_snoc]; unfold firstV; rw [if_pos ho]
      exact { h with taken := by rw [this]; exact h.taken, count := by rw [this]; exact h.count }
    rw [if_pos hw]
    have ho := (awaits_old (h.taken k)).1 hw
    obtain ⟨hk, h0, h1⟩ := awaits_bounds hw
    have hf : firstsV n (accs ++ [⟨k, yes, 0, ⟨#[]⟩⟩]) = firstsV n accs ++ [⟨k, yes, 0, ⟨#[]⟩⟩] := by rw [firsts_snoc]; unfold firstV; rw [ho]; rfl
    refine { voters := rfl, seen := h.seen, asked := h.asked, taken := ?_, count := ?_, late := fun _ => hm }
    · rw [hf]; exact awaits_set (a := ⟨k, yes, 0, ⟨#[]⟩⟩) yes h.taken
    · rw [hf]
      show _ = countV n (setV p.acc k yes)
      rw [count_set yes hk h0 h1, ← h.count]
      unfold yesOf
      rw [List.countP_append]
      cases yes <;> simp
end
/-- Only those are kept that may answer. -/
def SuppV (n : Nat) (g : Int → Option Bool) : Prop := ∀ k x, g k = some x → 0 ≤ k ∧ k < (n : Int)
theorem SuppV.set {n : Nat} {g : Int → Option Bool} (h : SuppV n g) {k : Int} (h0 : 0 ≤ k) (h1 : k < (n : Int)) (x : Bool) : SuppV n (setV g k x) := fun a y hy => by
  by_cases e : a = k
  · subst e; exact ⟨h0, h1⟩
  · rw [setV_other g x e] at hy; exact h a y hy
/-- Who proposes is one that may be. -/
structure OkPr (p : PropV) : Prop where
  small : p.voters ≤ 5
  prom : SuppV p.voters p.prom
  acc : SuppV p.voters p.acc
theorem OkPr.new {n : Nat} (hn : n ≤ 5) (t : ByteArray) : OkPr (newV n t) := ⟨hn, (fun _ _ h => nomatch h), (fun _ _ h => nomatch h)⟩
theorem OkPr.promise {p : PropV} (h : OkPr p) (k : Int) (yes : Bool) (b : Int) (t : ByteArray) : OkPr (promV p k yes b t) := by
  unfold promV
  split
  · rename_i hw
    obtain ⟨_, h0, h1⟩ := awaits_bounds hw
    split
    · exact ⟨h.small, h.prom.set h0 h1 yes, h.acc⟩
    · exact ⟨h.small, h.prom.set h0 h1 yes, h.acc⟩
  · exact h
theorem OkPr.accepted {p : PropV} (h : OkPr p) (k : Int) (yes : Bool) : OkPr (accpV p k yes) := by
  unfold accpV
  split
  · rename_i hw
    rw [Bool.and_eq_true] at hw
    obtain ⟨_, h0, h1⟩ := awaits_bounds hw.2
    exact ⟨h.small, h.prom, h.acc.set h0 h1 yes⟩
  · exact h
end Tide
