/- Voters and who proposes, as values: what a voter promises and accepts, what who proposes counts; and that in whatever order four of them ask whichever voters, by ballots of their own, all texts that are decided are one. It speaks of no program. -/
import Derived.Test.YtidgpnanbbkakaaDoorMem
namespace Tide

/-- What a voter has of a matter. -/
structure HeldV where
  promised : Int
  accepted : Int
  text : ByteArray
def noneV : HeldV := ⟨-1, -1, ⟨#[]⟩⟩
/-- Prepare: is it promised? -/
def prepYes (h : HeldV) (b : Int) : Bool := decide (h.promised < b)
def prepV (h : HeldV) (b : Int) : HeldV := if prepYes h b then ⟨b, h.accepted, h.text⟩ else h
/-- Accept: is it accepted? -/
def accYes (h : HeldV) (b : Int) : Bool := decide (0 ≤ b) && decide (h.promised ≤ b)
def accV (h : HeldV) (b : Int) (t : ByteArray) : HeldV := if accYes h b then ⟨b, b, t⟩ else h

/-- Who proposes: of how many voters, which text, by which ballot that was told; who has promised, and accepted. -/
structure PropV where
  voters : Nat
  text : ByteArray
  greatest : Int
  prom : Int → Option Bool
  acc : Int → Option Bool
def newV (n : Nat) (t : ByteArray) : PropV := ⟨n, t, -1, fun _ => none, fun _ => none⟩
/-- How many of n voters have said yes. -/
def countV (n : Nat) (g : Int → Option Bool) : Nat := (List.range n).countP fun k : Nat => g (k : Int) == some true
def mostV (n : Nat) (g : Int → Option Bool) : Bool := decide (n / 2 < countV n g)
def awaitsV (n : Nat) (g : Int → Option Bool) (k : Int) : Bool := (g k).isNone && (decide (0 ≤ k) && decide (k < (n : Int)))
def setV {α : Type} (g : Int → Option α) (k : Int) (x : α) : Int → Option α := fun a => if a = k then some x else g a
/-- That ballot and text count: none, or those that are told. -/
def betterV (p : PropV) (yes : Bool) (b : Int) : Bool := yes && (!mostV p.voters p.prom && decide (p.greatest < b))
def promV (p : PropV) (k : Int) (yes : Bool) (b : Int) (t : ByteArray) : PropV :=
  if awaitsV p.voters p.prom k then
    (if betterV p yes b then ⟨p.voters, t, b, setV p.prom k yes, p.acc⟩ else ⟨p.voters, p.text, p.greatest, setV p.prom k yes, p.acc⟩)
  else p
def accpV (p : PropV) (k : Int) (yes : Bool) : PropV :=
  if mostV p.voters p.prom && awaitsV p.voters p.acc k then ⟨p.voters, p.text, p.greatest, p.prom, setV p.acc k yes⟩ else p
def asksV (p : PropV) : Bool := mostV p.voters p.prom
def decV (p : PropV) : Bool := mostV p.voters p.acc

theorem setV_same {α : Type} (g : Int → Option α) (k : Int) (x : α) : setV g k x k = some x := by simp [setV]
theorem setV_other {α : Type} (g : Int → Option α) {k a : Int} (x : α) (h : a ≠ k) : setV g k x a = g a := by simp [setV, h]
theorem countV_none (n : Nat) : countV n (fun _ => none) = 0 := by
  unfold countV
  rw [List.countP_eq_zero]
  intro k _ h
  simp at h
theorem mostV_none (n : Nat) : mostV n (fun _ => none) = false := by
  unfold mostV
  rw [countV_none]
  simp
/-- More than half of n voters. -/
def maj (n : Nat) (Q : Nat → Bool) : Prop := n < 2 * (List.range n).countP Q
theorem maj_most {n : Nat} {g : Int → Option Bool} (h : mostV n g = true) : maj n (fun k => g (k : Int) == some true) := by
  unfold mostV countV at h
  unfold maj
  have := of_decide_eq_true h
  omega
theorem countP_two (Q R : Nat → Bool) : ∀ l : List Nat, (∀ k ∈ l, Q k = true → R k = true → False) → l.countP Q + l.countP R ≤ l.length
  | [], _ => by simp
  | k :: l, h => by
    have := countP_two Q R l (fun j hj => h j (by simp [hj]))
    have h1 := h k (by simp)
    rw [List.countP_cons, List.countP_cons, List.length_cons]
    cases hq : Q k <;> cases hr : R k
    · simp; omega
    · simp; omega
    · simp; omega
    · exact (h1 hq hr).elim
theorem maj_two {n : Nat} {Q R : Nat → Bool} (h : maj n Q) (h' : maj n R) : ∃ k, k < n ∧ Q k = true ∧ R k = true := by
  apply Classical.byContradiction
  intro hn
  have := countP_two Q R (List.range n) (fun k hk hq hr => hn ⟨k, List.mem_range.1 hk, hq, hr⟩)
  rw [List.length_range] at this
  unfold maj at h h'
  omega
/-- A further answer takes no yes away. -/
theorem most_set {n : Nat} {g : Int → Option Bool} {k : Int} (x : Bool) (h : mostV n g = true) (hk : g k = none) : mostV n (setV g k x) = true := by
  unfold mostV at h ⊢
  have h1 : countV n g ≤ countV n (setV g k x) := by
    unfold countV
    refine List.countP_mono_left fun j _ hj => ?_
    by_cases e : (j : Int) = k
    · rw [e, hk] at hj
      simp at hj
    · rw [setV_other g x e]; exact hj
  exact decide_eq_true (by have := of_decide_eq_true h; omega)

/-! ### all texts that are decided are one -/
/-- The texts of four who propose. -/
def txtV (i : Nat) : ByteArray := ⟨#[UInt8.ofNat (97 + i)]⟩
def OkT (t : ByteArray) : Prop := ∃ i, i < 4 ∧ t = txtV i
def upd {α : Type} (f : Nat → α) (i : Nat) (x : α) : Nat → α := fun j => if j = i then x else f j
theorem upd_same {α : Type} (f : Nat → α) (i : Nat) (x : α) : upd f i x i = x := by simp [upd]
theorem upd_other {α : Type} (f : Nat → α) {i j : Nat} (x : α) (h : j ≠ i) : upd f i x j = f j := by simp [upd, h]

/-- What is so behind whatever was asked: E: who has accepted by which ballot; val: for which text each ballot has asked. -/
structure InvG (n : Nat) (V : Nat → HeldV) (S : Nat → PropV) (B : Nat → Nat) (E : Nat → Nat → Prop) (val : Nat → Option ByteArray) : Prop where
  events : ∀ k b, E k b → (∃ t, val b = some t) ∧ (b : Int) ≤ (V k).accepted
  last : ∀ k, ((V k).accepted = -1 ∨ ∃ m : Nat, (V k).accepted = (m : Int) ∧ val m = some (V k).text) ∧ (V k).accepted ≤ (V k).promised
  safe : ∀ b t, val b = some t → ∃ Q, maj n Q ∧ (∀ k, Q k = true → (b : Int) ≤ (V k).promised) ∧
    ((∀ k b', Q k = true → E k b' → b ≤ b') ∨ ∃ m, m < b ∧ val m = some t ∧ ∀ k b', Q k = true → E k b' → b' < b → b' ≤ m)
  okt : ∀ b t, val b = some t → OkT t
  fresh : ∀ i, i < 4 → ∀ b, b % 4 = i → B i < b → val b = none
  mod : ∀ i, i < 4 → B i % 4 = i
  voters : ∀ i, i < 4 → (S i).voters = n
  none : ∀ i, i < 4 → mostV n (S i).prom = false → val (B i) = .none
  prom : ∀ i, i < 4 → ∀ k : Nat, (S i).prom (k : Int) = some true → (B i : Int) ≤ (V k).promised
  pre : ∀ i, i < 4 → mostV n (S i).prom = false → ∀ k b' : Nat, (S i).prom (k : Int) = some true → E k b' → b' < B i → (b' : Int) ≤ (S i).greatest
  great : ∀ i, i < 4 → mostV n (S i).prom = false → ((S i).greatest = -1 ∧ (S i).text = txtV i) ∨ ∃ m : Nat, m < B i ∧ (S i).greatest = (m : Int) ∧ val m = some (S i).text
  post : ∀ i, i < 4 → mostV n (S i).prom = true → val (B i) = some (S i).text
  acc : ∀ i, i < 4 → ∀ k : Nat, (S i).acc (k : Int) = some true → E k (B i)
  late : ∀ i, i < 4 → mostV n (S i).acc = true → mostV n (S i).prom = true
/-- A text is decided. -/
def DecV (n : Nat) (E : Nat → Nat → Prop) (val : Nat → Option ByteArray) (t : ByteArray) : Prop := ∃ b Q, val b = some t ∧ maj n Q ∧ ∀ k, Q k = true → E k b
section
variable {n : Nat} {V : Nat → HeldV} {S : Nat → PropV} {B : Nat → Nat} {E : Nat → Nat → Prop} {val : Nat → Option ByteArray}
theorem InvG.above (h : InvG n V S B E val) {b : Nat} {t : ByteArray} {Q : Nat → Bool} (hv : val b = some t) (hQ : maj n Q) (hE : ∀ k, Q k = true → E k b) : ∀ b' t', b ≤ b' → val b' = some t' → t' = t := by
  intro b'
  induction b' using Nat.strongRecOn with
  | _ b' ih =>
    intro t' hb hv'
    by_cases e : b' = b
    · subst e
      rw [hv] at hv'
      injection hv' with e
      exact e.symm
    · obtain ⟨Q', hQ', _, h2⟩ := h.safe b' t' hv'
      obtain ⟨k, _, hq, hq'⟩ := maj_two hQ hQ'
      rcases h2 with h2 | ⟨m, hm, hvm, h3⟩
      · have := h2 k b hq' (hE k hq)
        omega
      · exact ih m hm t' (h3 k b hq' (hE k hq) (by omega)) hvm
theorem InvG.one (h : InvG n V S B E val) {t t' : ByteArray} (h1 : DecV n E val t) (h2 : DecV n E val t') : t = t' := by
  obtain ⟨b, Q, hv, hQ, hE⟩ := h1
  obtain ⟨b', Q', hv', hQ', hE'⟩ := h2
  rcases Nat.le_total b b' with hb | hb
  · exact (h.above hv hQ hE b' t' hb hv').symm
  · exact h.above hv' hQ' hE' b t hb hv
theorem InvG.decided (h : InvG n V S B E val) {i : Nat} (hi : i < 4) (hd : decV (S i) = true) : DecV n E val (S i).text ∧ OkT (S i).text := by
  unfold decV at hd
  rw [h.voters i hi] at hd
  have hv := h.post i hi (h.late i hi hd)
  exact ⟨⟨B i, _, hv, maj_most hd, fun k hk => h.acc i hi k (by simpa using hk)⟩, h.okt _ _ hv⟩
theorem InvG.begin (h : InvG n V S B E val) {i : Nat} (hi : i < 4) : InvG n V (upd S i (newV n (txtV i))) (upd B i (B i + 4)) E val := by
  have hB := h.fresh i hi (B i + 4) (by have := h.mod i hi; omega) (by omega)
  constructor
  · exact h.events
  · exact h.last
  · exact h.safe
  · exact h.okt
  · intro j hj b hb hlt
    by_cases e : j = i
    · subst e; rw [upd_same] at hlt; exact h.fresh j hj b hb (by omega)
    · rw [upd_other _ _ e] at hlt; exact h.fresh j hj b hb hlt
  · intro j hj
    by_cases e : j = i
    · subst e; rw [upd_same]; have := h.mod j hj; omega
    · rw [upd_other _ _ e]; exact h.mod j hj
  · intro j hj
    by_cases e : j = i
    · subst e; rw [upd_same]; rfl
    · rw [upd_other _ _ e]; exact h.voters j hj
  · intro j hj
    by_cases e : j = i
    · subst e; rw [upd_same, upd_same]; exact fun _ => hB
    · rw [upd_other _ _ e, upd_other _ _ e]; exact h.none j hj
  · intro j hj
    by_cases e : j = i
    · subst e; rw [upd_same, upd_same]; intro k hk; cases hk
    · rw [upd_other _ _ e, upd_other _ _ e]; exact h.prom j hj
  · intro j hj
    by_cases e : j = i
    · subst e; rw [upd_same, upd_same]; intro _ k b' hk; cases hk
    · rw [upd_other _ _ e, upd_other _ _ e]; exact h.pre j hj
  · intro j hj
    by_cases e : j = i
    · subst e; rw [upd_same]; exact fun _ => .inl ⟨rfl, rfl⟩
    · rw [upd_other _ _ e, upd_other _ _ e]; exact h.great j hj
  · intro j hj
    by_cases e : j = i
    · subst e; rw [upd_same]; intro hm; rw [show (newV n (txtV j)).prom = fun _ => Option.none from rfl, mostV_none] at hm; cases hm
    · rw [upd_other _ _ e, upd_other _ _ e]; exact h.post j hj
  · intro j hj
    by_cases e : j = i
    · subst e; rw [upd_same, upd_same]; intro k hk; cases hk
    · rw [upd_other _ _ e, upd_other _ _ e]; exact h.acc j hj
  · intro j hj
    by_cases e : j = i
    · subst e; rw [upd_same]; intro hm; rw [show (newV n (txtV j)).acc = fun _ => Option.none from rfl, mostV_none] at hm; cases hm
    · rw [upd_other _ _ e]; exact h.late j hj
/-- What hangs on the voters goes on where they promise more. -/
theorem InvG.voter (h : InvG n V S B E val) {k : Nat} {x : HeldV} (h1 : x.accepted = (V k).accepted) (h2 : x.text = (V k).text) (h3 : (V k).promised ≤ x.promised) : InvG n (upd V k x) S B E val := by
  have hp : ∀ j, (V j).promised ≤ (upd V k x j).promised := fun j => by
    by_cases e : j = k
    · subst e; rw [upd_same]; exact h3
    · rw [upd_other _ _ e]; exact Int.le_refl _
  have ha : ∀ j, (upd V k x j).accepted = (V j).accepted := fun j => by
    by_cases e : j = k
    · subst e; rw [upd_same]; exact h1
    · rw [upd_other _ _ e]
  have ht : ∀ j, (upd V k x j).text = (V j).text := fun j => by
    by_cases e : j = k
    · subst e; rw [upd_same]; exact h2
    · rw [upd_other _ _ e]
  exact { h with
    events := fun j b hj => by rw [ha]; exact h.events j b hj
    last := fun j => by rw [ha, ht]; exact ⟨(h.last j).1, Int.le_trans (h.last j).2 (hp j)⟩
    safe := fun b t hv => by
      obtain ⟨Q, hQ, hq, hr⟩ := h.safe b t hv
      exact ⟨Q, hQ, fun j hj => Int.le_trans (hq j hj) (hp j), hr⟩
    prom := fun i hi j hj => Int.le_trans (h.prom i hi j hj) (hp j) }
theorem InvG.prepare (h : InvG n V S B E val) {i k : Nat} (hi : i < 4) : ∃ val', InvG n (upd V k (prepV (V k) (B i))) (upd S i (promV (S i) k (prepYes (V k) (B i)) (V k).accepted (V k).text)) B E val' ∧ ∀ b t, val b = some t → val' b = some t := by
  have hn := h.voters i hi
  obtain ⟨yes, hyes⟩ : ∃ y, prepYes (V k) (B i) = y := ⟨_, rfl⟩
  have hV : InvG n (upd V k (prepV (V k) (B i))) S B E val := by
    refine h.voter ?_ ?_ ?_
    · unfold prepV; split <;> rfl
    · unfold prepV; split <;> rfl
    · unfold prepV
      split
      · rename_i hy; unfold prepYes at hy; have := of_decide_eq_true hy; simp; omega
      · exact Int.le_refl _
  rw [hyes]
  by_cases hw : awaitsV (S i).voters (S i).prom k = true
  rotate_left
  · refine ⟨val, ?_, fun _ _ h => h⟩
    have : promV (S i) k yes (V k).accepted (V k).text = S i := by unfold promV; rw [if_neg hw]
    rw [this]
    have : upd S i (S i) = S := by funext j; unfold upd; split <;> simp_all
    rw [this]
    exact hV
  obtain ⟨P, hP⟩ : ∃ P, promV (S i) k yes (V k).accepted (V k).text = P := ⟨_, rfl⟩
  rw [hP]
  have hk : (S i).prom (k : Int) = Option.none := by
    unfold awaitsV at hw
    simp at hw
    exact hw.1
  have hPv : P.voters = n := by rw [← hP]; unfold promV; rw [if_pos hw]; split <;> exact hn
  have hPa : P.acc = (S i).acc := by rw [← hP]; unfold promV; rw [if_pos hw]; split <;> rfl
  have hPp : P.prom = setV (S i).prom k yes := by rw [← hP]; unfold promV; rw [if_pos hw]; split <;> rfl
  have hV1 : ∀ y : Nat, P.prom (y : Int) = some true → (B i : Int) ≤ (upd V k (prepV (V k) (B i)) y).promised := fun y hy => by
    rw [hPp] at hy
    by_cases e : y = k
    · subst e
      rw [setV_same] at hy
      injection hy with hy
      rw [upd_same]
      unfold prepV
      rw [hyes, if_pos hy]
      exact Int.le_refl _
    · rw [setV_other _ _ (by omega)] at hy
      exact hV.prom i hi y hy
  by_cases hm : mostV n (S i).prom = true
  · have hP2 : P.text = (S i).text := by
      rw [← hP]; unfold promV betterV; rw [if_pos hw, hn, hm]; simp
    have hm2 : mostV n P.prom = true := by rw [hPp]; exact most_set yes hm hk
    refine ⟨val, ?_, fun _ _ h => h⟩
    constructor
    · exact hV.events
    · exact hV.last
    · exact hV.safe
    · exact hV.okt
    · exact hV.fresh
    · exact hV.mod
    · intro j hj
      by_cases e : j = i
      · subst e; rw [upd_same]; exact hPv
      · rw [upd_other _ _ e]; exact hV.voters j hj
    · intro j hj
      by_cases e : j = i
      · subst e; rw [upd_same, hm2]; intro h; cases h
      · rw [upd_other _ _ e]; exact hV.none j hj
    · intro j hj
      by_cases e : j = i
      · subst e; rw [upd_same]; exact hV1
      · rw [upd_other _ _ e]; exact hV.prom j hj
    · intro j hj
      by_cases e : j = i
      · subst e; rw [upd_same, hm2]; intro h; cases h
      · rw [upd_other _ _ e]; exact hV.pre j hj
    · intro j hj
      by_cases e : j = i
      · subst e; rw [upd_same, hm2]; intro h; cases h
      · rw [upd_other _ _ e]; exact hV.great j hj
    · intro j hj
      by_cases e : j = i
      · subst e; rw [upd_same, hP2]; intro _; exact hV.post j hj hm
      · rw [upd_other _ _ e]; exact hV.post j hj
    · intro j hj
      by_cases e : j = i
      · subst e; rw [upd_same, hPa]; exact hV.acc j hj
      · rw [upd_other _ _ e]; exact hV.acc j hj
    · intro j hj
      by_cases e : j = i
      · subst e; rw [upd_same]; exact fun _ => hm2
      · rw [upd_other _ _ e]; exact hV.late j hj
  have hm : mostV n (S i).prom = false := by simpa using hm
  have hg0 : (S i).greatest ≤ P.greatest := by
    rw [← hP]; unfold promV betterV; rw [if_pos hw]
    split
    · rename_i hb; simp at hb; exact Int.le_of_lt hb.2.2
    · exact Int.le_refl _
  have hlow : (S i).greatest ≥ -1 := by
    rcases h.great i hi hm with h1 | ⟨m, _, h1, _⟩
    · omega
    · omega
  have hg : (P.greatest = -1 ∧ P.text = txtV i) ∨ ∃ m : Nat, m < B i ∧ P.greatest = (m : Int) ∧ val m = some P.text := by
    rw [← hP]; unfold promV betterV; rw [if_pos hw]
    split
    · rename_i hb
      simp at hb
      right
      rcases (h.last k).1 with h1 | ⟨m, h1, h2⟩
      · omega
      · refine ⟨m, ?_, h1, h2⟩
        have h3 := (h.last k).2
        have h4 : (V k).promised < (B i : Int) := by
          have := hyes; rw [hb.1] at this; unfold prepYes at this; exact of_decide_eq_true this
        omega
    · exact h.great i hi hm
  have hgk : yes = true → (V k).accepted ≤ P.greatest := fun hy => by
    rw [← hP]; unfold promV betterV; rw [if_pos hw, hn, hm, hy]
    split
    · exact Int.le_refl _
    · rename_i hb; simp at hb; exact hb
  have hpre : ∀ j b' : Nat, P.prom (j : Int) = some true → E j b' → b' < B i → (b' : Int) ≤ P.greatest := fun j b' hj hE hb => by
    rw [hPp] at hj
    by_cases e : j = k
    · subst e
      rw [setV_same] at hj
      injection hj with hj
      exact Int.le_trans (h.events _ _ hE).2 (hgk hj)
    · rw [setV_other _ _ (by omega)] at hj
      exact Int.le_trans (h.pre i hi hm j b' hj hE hb) hg0
  have hlate : mostV n (S i).acc = false := by
    cases e : mostV n (S i).acc with
    | false => rfl
    | true => have := h.late i hi e; rw [hm] at this; cases this
  by_cases hm2 : mostV n P.prom = true
  rotate_left
  · have hm2 : mostV n P.prom = false := by simpa using hm2
    refine ⟨val, ?_, fun _ _ h => h⟩
    constructor
    · exact hV.events
    · exact hV.last
    · exact hV.safe
    · exact hV.okt
    · exact hV.fresh
    · exact hV.mod
    · intro j hj
      by_cases e : j = i
      · subst e; rw [upd_same]; exact hPv
      · rw [upd_other _ _ e]; exact hV.voters j hj
    · intro j hj
      by_cases e : j = i
      · subst e; intro _; exact hV.none j hj hm
      · rw [upd_other _ _ e]; exact hV.none j hj
    · intro j hj
      by_cases e : j = i
      · subst e; rw [upd_same]; exact hV1
      · rw [upd_other _ _ e]; exact hV.prom j hj
    · intro j hj
      by_cases e : j = i
      · subst e; rw [upd_same]; exact fun _ => hpre
      · rw [upd_other _ _ e]; exact hV.pre j hj
    · intro j hj
      by_cases e : j = i
      · subst e; rw [upd_same]; exact fun _ => hg
      · rw [upd_other _ _ e]; exact hV.great j hj
    · intro j hj
      by_cases e : j = i
      · subst e; rw [upd_same, hm2]; intro h; cases h
      · rw [upd_other _ _ e]; exact hV.post j hj
    · intro j hj
      by_cases e : j = i
      · subst e; rw [upd_same, hPa]; exact hV.acc j hj
      · rw [upd_other _ _ e]; exact hV.acc j hj
    · intro j hj
      by_cases e : j = i
      · subst e; rw [upd_same, hPa, hlate]; intro h; cases h
      · rw [upd_other _ _ e]; exact hV.late j hj
  have hnone := h.none i hi hm
  have hle : ∀ b t, val b = some t → upd val (B i) (some P.text) b = some t := fun b t hv => by
    rw [upd_other _ _ (fun e => by rw [e, hnone] at hv; cases hv)]; exact hv
  have hok : OkT P.text := by
    rcases hg with ⟨_, h1⟩ | ⟨m, _, _, h1⟩
    · exact ⟨i, hi, h1⟩
    · exact h.okt _ _ h1
  refine ⟨upd val (B i) (some P.text), ?_, hle⟩
  constructor
  · intro j b hj
    obtain ⟨⟨t, ht⟩, h2⟩ := hV.events j b hj
    exact ⟨⟨t, hle _ _ ht⟩, h2⟩
  · intro j
    refine ⟨(hV.last j).1.imp id ?_, (hV.last j).2⟩
    rintro ⟨m, h1, h2⟩
    exact ⟨m, h1, hle _ _ h2⟩
  · intro b t hv
    by_cases e : b = B i
    · subst e
      rw [upd_same] at hv
      injection hv with hv
      subst hv
      refine ⟨_, maj_most hm2, fun j hj => hV1 j (by simpa using hj), ?_⟩
      rcases hg with ⟨h1, _⟩ | ⟨m, h1, h2, h3⟩
      · refine .inl fun j b' hj hE => ?_
        rcases Nat.lt_or_ge b' (B i) with hlt | hge
        · have := hpre j b' (by simpa using hj) hE hlt
          omega
        · exact hge
      · exact .inr ⟨m, h1, hle _ _ h3, fun j b' hj hE hb => by
          have := hpre j b' (by simpa using hj) hE hb
          omega⟩
    · rw [upd_other _ _ e] at hv
      obtain ⟨Q, h1, h2, h3⟩ := hV.safe b t hv
      refine ⟨Q, h1, h2, h3.imp id ?_⟩
      rintro ⟨m, h4, h5, h6⟩
      exact ⟨m, h4, hle _ _ h5, h6⟩
  · intro b t hv
    by_cases e : b = B i
    · subst e
      rw [upd_same] at hv
      injection hv with hv
      subst hv
      exact hok
    · rw [upd_other _ _ e] at hv
      exact h.okt b t hv
  · intro j hj b hb hlt
    have : b ≠ B i := fun e => by
      have h1 := h.mod i hi
      have h2 : j = i := by rw [← hb, e, h1]
      subst h2
      omega
    rw [upd_other _ _ this]
    exact h.fresh j hj b hb hlt
  · exact hV.mod
  · intro j hj
    by_cases e : j = i
    · subst e; rw [upd_same]; exact hPv
    · rw [upd_other _ _ e]; exact hV.voters j hj
  · intro j hj
    by_cases e : j = i
    · subst e; rw [upd_same, hm2]; intro h; cases h
    · rw [upd_other _ _ e]
      intro hmj
      rw [upd_other _ _ (fun hb => e (by rw [← h.mod j hj, hb, h.mod i hi]))]
      exact hV.none j hj hmj
  · intro j hj
    by_cases e : j = i
    · subst e; rw [upd_same]; exact hV1
    · rw [upd_other _ _ e]; exact hV.prom j hj
  · intro j hj
    by_cases e : j = i
    · subst e; rw [upd_same, hm2]; intro h; cases h
    · rw [upd_other _ _ e]; exact hV.pre j hj
  · intro j hj
    by_cases e : j = i
    · subst e; rw [upd_same, hm2]; intro h; cases h
    · rw [upd_other _ _ e]
      intro hmj
      refine (hV.great j hj hmj).imp id ?_
      rintro ⟨m, h1, h2, h3⟩
      exact ⟨m, h1, h2, hle _ _ h3⟩
  · intro j hj
    by_cases e : j = i
    · subst e; rw [upd_same, upd_same]; exact fun _ => rfl
    · rw [upd_other S _ e]
      intro hmj
      exact hle _ _ (hV.post j hj hmj)
  · intro j hj
    by_cases e : j = i
    · subst e; rw [upd_same, hPa]; exact hV.acc j hj
    · rw [upd_other _ _ e]; exact hV.acc j hj
  · intro j hj
    by_cases e : j = i
    · subst e; rw [upd_same]; exact fun _ => hm2
    · rw [upd_other _ _ e]; exact hV.late j hj
theorem InvG.accept (h : InvG n V S B E val) {i k : Nat} (hi : i < 4) (ha : asksV (S i) = true) : ∃ E', InvG n (upd V k (accV (V k) (B i) (S i).text)) (upd S i (accpV (S i) k (accYes (V k) (B i)))) B E' val ∧ ∀ j b, E j b → E' j b := by
  have hn := h.voters i hi
  unfold asksV at ha
  rw [hn] at ha
  have hpost := h.post i hi ha
  obtain ⟨yes, hyes⟩ : ∃ y, accYes (V k) (B i) = y := ⟨_, rfl⟩
  rw [hyes]
  obtain ⟨P, hP⟩ : ∃ P, accpV (S i) k yes = P := ⟨_, rfl⟩
  rw [hP]
  have hPv : P.voters = n := by rw [← hP]; unfold accpV; split <;> exact hn
  have hPp : P.prom = (S i).prom := by rw [← hP]; unfold accpV; split <;> rfl
  have hPt : P.text = (S i).text := by rw [← hP]; unfold accpV; split <;> rfl
  have hPg : P.greatest = (S i).greatest := by rw [← hP]; unfold accpV; split <;> rfl
  have hPa : ∀ j : Nat, P.acc (j : Int) = some true → (S i).acc (j : Int) = some true ∨ (j = k ∧ yes = true) := fun j hj => by
    rw [← hP] at hj
    unfold accpV at hj
    split at hj
    · by_cases e : j = k
      · subst e
        right
        have : setV (S i).acc (j : Int) yes (j : Int) = some true := hj
        rw [setV_same] at this
        injection this with this
        exact ⟨rfl, this⟩
      · left
        have : setV (S i).acc (k : Int) yes (j : Int) = some true := hj
        rw [setV_other _ _ (by omega)] at this
        exact this
    · exact .inl hj
  -- whoever proposes else, and what was asked, stay
  have hS : ∀ (V' : Nat → HeldV) (E' : Nat → Nat → Prop), InvG n V' S B E' val → (yes = true → E' k (B i)) → InvG n V' (upd S i P) B E' val := fun V' E' hV hE => by
    constructor
    · exact hV.events
    · exact hV.last
    · exact hV.safe
    · exact hV.okt
    · exact hV.fresh
    · exact hV.mod
    · intro j hj
      by_cases e : j = i
      · subst e; rw [upd_same]; exact hPv
      · rw [upd_other _ _ e]; exact hV.voters j hj
    · intro j hj
      by_cases e : j = i
      · subst e; rw [upd_same, hPp]; exact hV.none j hj
      · rw [upd_other _ _ e]; exact hV.none j hj
    · intro j hj
      by_cases e : j = i
      · subst e; rw [upd_same, hPp]; exact hV.prom j hj
      · rw [upd_other _ _ e]; exact hV.prom j hj
    · intro j hj
      by_cases e : j = i
      · subst e; rw [upd_same, hPp, hPg]; exact hV.pre j hj
      · rw [upd_other _ _ e]; exact hV.pre j hj
    · intro j hj
      by_cases e : j = i
      · subst e; rw [upd_same, hPp, hPg, hPt]; exact hV.great j hj
      · rw [upd_other _ _ e]; exact hV.great j hj
    · intro j hj
      by_cases e : j = i
      · subst e; rw [upd_same, hPp, hPt]; exact hV.post j hj
      · rw [upd_other _ _ e]; exact hV.post j hj
    · intro j hj
      by_cases e : j = i
      · subst e
        rw [upd_same]
        intro y hy
        rcases hPa y hy with h1 | ⟨rfl, h1⟩
        · exact hV.acc j hj y h1
        · exact hE h1
      · rw [upd_other _ _ e]; exact hV.acc j hj
    · intro j hj
      by_cases e : j = i
      · subst e; rw [upd_same, hPp]; exact fun _ => ha
      · rw [upd_other _ _ e]; exact hV.late j hj
  cases hy : yes with
  | false =>
    rw [hy] at hyes
    refine ⟨E, hS _ _ ?_ (fun h => by rw [hy] at h; cases h), fun _ _ h => h⟩
    have : accV (V k) (B i) (S i).text = V k := by unfold accV; rw [hyes]; rfl
    rw [this]
    have : upd V k (V k) = V := by funext j; unfold upd; split <;> simp_all
    rw [this]
    exact h
  | true =>
    rw [hy] at hyes
    have hV : accV (V k) (B i) (S i).text = ⟨B i, B i, (S i).text⟩ := by unfold accV; rw [hyes]; rfl
    have hle : (V k).promised ≤ (B i : Int) := by
      unfold accYes at hyes; simp at hyes; exact hyes
    have hla := (h.last k).2
    rw [hV]
    have hp : ∀ j, (V j).promised ≤ (upd V k ⟨B i, B i, (S i).text⟩ j).promised := fun j => by
      by_cases e : j = k
      · subst e; rw [upd_same]; exact hle
      · rw [upd_other _ _ e]; exact Int.le_refl _
    refine ⟨fun j b => E j b ∨ (j = k ∧ b = B i), hS _ _ ?_ (fun _ => .inr ⟨rfl, rfl⟩), fun _ _ h => .inl h⟩
    exact { h with
      events := fun j b hj => by
        rcases hj with hj | ⟨rfl, rfl⟩
        · obtain ⟨h1, h2⟩ := h.events j b hj
          refine ⟨h1, ?_⟩
          by_cases e : j = k
          · subst e; rw [upd_same]; simp; omega
          · rw [upd_other _ _ e]; exact h2
        · rw [upd_same]; exact ⟨⟨_, hpost⟩, Int.le_refl _⟩
      last := fun j => by
        by_cases e : j = k
        · subst e; rw [upd_same]; exact ⟨.inr ⟨B i, rfl, hpost⟩, Int.le_refl _⟩
        · rw [upd_other _ _ e]; exact h.last j
      safe := fun b t hv => by
        obtain ⟨Q, h1, h2, h3⟩ := h.safe b t hv
        refine ⟨Q, h1, fun j hj => Int.le_trans (h2 j hj) (hp j), ?_⟩
        rcases h3 with h3 | ⟨m, h4, h5, h6⟩
        · refine .inl fun j b' hj hE => ?_
          rcases hE with hE | ⟨rfl, rfl⟩
          · exact h3 j b' hj hE
          · have := h2 j hj; omega
        · refine .inr ⟨m, h4, h5, fun j b' hj hE hb => ?_⟩
          rcases hE with hE | ⟨rfl, rfl⟩
          · exact h6 j b' hj hE hb
          · have := h2 j hj; omega
      prom := fun j hj y hy => Int.le_trans (h.prom j hj y hy) (hp y)
      pre := fun j hj hm y b' hy hE hb => by
        rcases hE with hE | ⟨rfl, rfl⟩
        · exact h.pre j hj hm y b' hy hE hb
        · have := h.prom j hj y hy; omega
      acc := fun j hj y hy => .inl (h.acc j hj y hy) }
end
/-- Both together, and what was decided ahead: nothing, or the text. -/
def InvV (n : Nat) (V : Nat → HeldV) (S : Nat → PropV) (B : Nat → Nat) (dec : ByteArray) : Prop :=
  ∃ E val, InvG n V S B E val ∧ (dec = ⟨#[]⟩ ∨ DecV n E val dec)
section
variable {n : Nat} {V : Nat → HeldV} {S : Nat → PropV} {B : Nat → Nat} {dec : ByteArray}
theorem InvV.start (n : Nat) : InvV n (fun _ => noneV) (fun i => newV n (txtV i)) (fun i => i) ⟨#[]⟩ := by
  refine ⟨fun _ _ => False, fun _ => none, ?_, .inl rfl⟩
  constructor
  · intro _ _ h; exact h.elim
  · intro _; exact ⟨.inl rfl, Int.le_refl _⟩
  · intro _ _ h; cases h
  · intro _ _ h; cases h
  · intro _ _ _ _ _; rfl
  · intro i hi; exact Nat.mod_eq_of_lt hi
  · intro _ _; rfl
  · intro _ _ _; rfl
  · intro _ _ _ h; cases h
  · intro _ _ _ _ _ h; cases h
  · intro _ _ _; exact .inl ⟨rfl, rfl⟩
  · intro i _ hm; rw [show (newV n (txtV i)).prom = fun _ => none from rfl, mostV_none] at hm; cases hm
  · intro _ _ _ h; cases h
  · intro i _ hm; rw [show (newV n (txtV i)).acc = fun _ => none from rfl, mostV_none] at hm; cases hm
theorem InvV.begin (h : InvV n V S B dec) {i : Nat} (hi : i < 4) : InvV n V (upd S i (newV n (txtV i))) (upd B i (B i + 4)) dec := by
  obtain ⟨E, val, h1, h2⟩ := h
  exact ⟨E, val, h1.begin hi, h2⟩
theorem InvV.prepare (h : InvV n V S B dec) {i : Nat} (k : Nat) (hi : i < 4) : InvV n (upd V k (prepV (V k) (B i))) (upd S i (promV (S i) k (prepYes (V k) (B i)) (V k).accepted (V k).text)) B dec := by
  obtain ⟨E, val, h1, h2⟩ := h
  obtain ⟨val', h3, h4⟩ := h1.prepare (k := k) hi
  refine ⟨E, val', h3, h2.imp id ?_⟩
  rintro ⟨b, Q, hv, hQ, hE⟩
  exact ⟨b, Q, h4 _ _ hv, hQ, hE⟩
theorem InvV.accept (h : InvV n V S B dec) {i : Nat} (k : Nat) (hi : i < 4) (ha : asksV (S i) = true) : InvV n (upd V k (accV (V k) (B i) (S i).text)) (upd S i (accpV (S i) k (accYes (V k) (B i)))) B dec := by
  obtain ⟨E, val, h1, h2⟩ := h
  obtain ⟨E', h3, h4⟩ := h1.accept (k := k) hi ha
  refine ⟨E', val, h3, h2.imp id ?_⟩
  rintro ⟨b, Q, hv, hQ, hE⟩
  exact ⟨b, Q, hv, hQ, fun k hk => h4 _ _ (hE k hk)⟩
theorem InvV.decided (h : InvV n V S B dec) {i : Nat} (hi : i < 4) (hd : decV (S i) = true) : (dec = ⟨#[]⟩ ∨ (S i).text = dec) ∧ OkT (S i).text ∧ InvV n V S B (S i).text := by
  obtain ⟨E, val, h1, h2⟩ := h
  obtain ⟨h3, h4⟩ := h1.decided hi hd
  refine ⟨h2.imp id (fun h2 => h1.one h3 h2), h4, E, val, h1, .inr h3⟩
end
end Tide
