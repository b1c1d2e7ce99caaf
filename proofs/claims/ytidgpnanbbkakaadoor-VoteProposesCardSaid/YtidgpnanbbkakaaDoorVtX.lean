/- The law of votes: what lies in memory while four sides ask five voters. -/
import Derived.Test.YtidgpnanbbkakaaDoorVtL
import Derived.Test.YtidgpnanbbkakaaDoorVtR
import Derived.Test.YtidgpnanbbkakaaDoorRecs
import Derived.Test.YtidgpnanbbkakaaDoorUmod
namespace Go.Proofs.YtidgpnanbbkakaaDoor
open Go Go.RowKit Tide

/-- A move. -/
structure MoveV where
  who : Int
  voter : Int
  accept : Bool
  begins : Bool
def MoveV.cells (m : MoveV) : Array Value := #[.int .i64 m.who, .int .i64 m.voter, .bool m.accept, .bool m.begins]
def MovesV (w : World) (B : Nat) (v : Value) (ms : List MoveV) : Prop := Recs w B v 4 (ms.map fun m => m.cells.toList)
theorem MovesV.form {w : World} {B : Nat} {v : Value} {ks : List MoveV} (h : MovesV w B v ks) : ∃ A c, v = .slice A ks.length c ∧ ks.length ≤ 9223372036854775807 ∧ ∀ i (hi : i < ks.length), ∃ b o, A = some ⟨b, o, none⟩ ∧ b < B ∧
    w.cell? ⟨b, o + i * 4, none⟩ = some (.int .i64 ks[i].who) ∧ w.cell? ⟨b, o + i * 4 + 1, none⟩ = some (.int .i64 ks[i].voter) ∧ w.cell? ⟨b, o + i * 4 + 2, none⟩ = some (.bool ks[i].accept) ∧ w.cell? ⟨b, o + i * 4 + 3, none⟩ = some (.bool ks[i].begins) := by
  obtain ⟨hn, A, c, rfl, hc⟩ := h
  refine ⟨A, c, by rw [List.length_map], by simpa using hn, fun i hi => ?_⟩
  obtain ⟨b, o, rfl, hb, hcell⟩ := hc (by
    intro e
    have h9 : (ks.map fun k => k.cells.toList).length = 0 := by rw [e]; rfl
    rw [List.length_map] at h9
    omega)
  have he : (ks.map fun k => k.cells.toList)[i]? = some (ks[i]).cells.toList := by simp [hi]
  have e : ∀ j, o + i * 4 + j = o + (i * 4 + j) := fun j => Nat.add_assoc _ _ _
  exact ⟨b, o, rfl, hb, hcell i 0 _ _ he rfl, by rw [e]; exact hcell i 1 _ _ he rfl, by rw [e]; exact hcell i 2 _ _ he rfl, by rw [e]; exact hcell i 3 _ _ he rfl⟩
/-- The cells of four sides, of which the first j have begun; of the row of five voters. -/
def ptrS (j : Nat) (sq : Nat → Nat) (i : Nat) : Value := if i < j then .pointer (some ⟨sq i, 0, none⟩) else .pointer none
def balS (j : Nat) (B : Nat → Nat) (i : Nat) : Value := if i < j then .int .i64 (B i : Int) else .int .i64 0
def sideArr (j : Nat) (sq B : Nat → Nat) : Array Value := #[ptrS j sq 0, balS j B 0, ptrS j sq 1, balS j B 1, ptrS j sq 2, balS j B 2, ptrS j sq 3, balS j B 3]
def allArr (vq : Nat → Nat) : Array Value := #[.pointer (some ⟨vq 0, 0, none⟩), .pointer (some ⟨vq 1, 0, none⟩), .pointer (some ⟨vq 2, 0, none⟩), .pointer (some ⟨vq 3, 0, none⟩), .pointer (some ⟨vq 4, 0, none⟩)]
theorem side_at (j : Nat) (sq B : Nat → Nat) (i : Nat) (hi : i < 4) : (sideArr j sq B)[i * 2]? = some (ptrS j sq i) ∧ (sideArr j sq B)[i * 2 + 1]? = some (balS j B i) := by
  rcases (show i = 0 ∨ i = 1 ∨ i = 2 ∨ i = 3 by omega) with rfl | rfl | rfl | rfl <;> exact ⟨rfl, rfl⟩
theorem all_at (vq : Nat → Nat) (k : Nat) (hk : k < 5) : (allArr vq)[k]? = some (.pointer (some ⟨vq k, 0, none⟩)) := by
  rcases (show k = 0 ∨ k = 1 ∨ k = 2 ∨ k = 3 ∨ k = 4 by omega) with rfl | rfl | rfl | rfl | rfl <;> rfl
/-- A side that begins. -/
theorem side_set (j : Nat) (sq B : Nat → Nat) (i q b : Nat) (hi : i < 4) (hj : i < j) : sideCells (sideArr j sq B) (i * 2) q (b : Int) = sideArr j (upd sq i q) (upd B i b) := by
  rcases (show i = 0 ∨ i = 1 ∨ i = 2 ∨ i = 3 by omega) with rfl | rfl | rfl | rfl <;> simp [sideCells, sideArr, ptrS, balS, upd, hj]
theorem side_first (sq B : Nat → Nat) (i q b : Nat) (c : Int) (hi : i < 4) : sideCells ((sideArr i sq B).setIfInBounds (i * 2 + 1) (.int .i64 c)) (i * 2) q (b : Int) = sideArr (i + 1) (upd sq i q) (upd B i b) := by
  rcases (show i = 0 ∨ i = 1 ∨ i = 2 ∨ i = 3 by omega) with rfl | rfl | rfl | rfl <;> simp [sideCells, sideArr, ptrS, balS, upd]
/-- Four sides and five voters in memory; whose each block is, by a number. -/
structure OneW (w W : World) (sb ab : Nat) (T : Nat → Nat) (j N : Nat) (vq : Nat → Nat) (vo : Nat → Option Nat) (VV : Nat → Int → HeldV) (sq sp sa : Nat → Nat) (S : Nat → PropV) (B : Nat → Nat) : Prop where
  since : Below w.heap.size w W
  sides : W.heap[sb]? = some (.cells (sideArr j sq B) 55 (0, 0))
  all : W.heap[ab]? = some (.cells (allArr vq) 52 (0, 0))
  voter : ∀ k, k < 5 → VotW W (vq k) (vo k) N (VV k)
  side : ∀ i, i < j → ProW W (sq i) (sp i) (sa i) N (S i)
  tag0 : T sb = 0 ∧ w.heap.size ≤ sb
  tag1 : T ab = 1 ∧ w.heap.size ≤ ab
  tagV : ∀ k, k < 5 → ∀ b, b = vq k ∨ vo k = some b → T b = 2 + k ∧ w.heap.size ≤ b
  tagS : ∀ i, i < j → ∀ b, FPro (sq i) (sp i) (sa i) b → T b = 10 + i ∧ w.heap.size ≤ b
/-- New blocks are t's. -/
def tagN (W : World) (T : Nat → Nat) (t : Nat) : Nat → Nat := fun b => if b < W.heap.size then T b else t
section
variable {w W W' : World} {sb ab j N : Nat} {T : Nat → Nat} {vq : Nat → Nat} {vo : Nat → Option Nat} {VV : Nat → Int → HeldV} {sq sp sa : Nat → Nat} {S : Nat → PropV} {B : Nat → Nat}
theorem tagN_old {t b : Nat} (h : b < W.heap.size) : tagN W T t b = T b := by unfold tagN; rw [if_pos h]
theorem tagN_new {t b : Nat} (h : W.heap.size ≤ b) : tagN W T t b = t := by unfold tagN; rw [if_neg (by omega)]
theorem OneW.lt0 (h : OneW w W sb ab T j N vq vo VV sq sp sa S B) : sb < W.heap.size := by
  rcases Nat.lt_or_ge sb W.heap.size with hlt | hge
  · exact hlt
  · have := h.sides; rw [Array.getElem?_eq_none hge] at this; cases this
theorem OneW.lt1 (h : OneW w W sb ab T j N vq vo VV sq sp sa S B) : ab < W.heap.size := by
  rcases Nat.lt_or_ge ab W.heap.size with hlt | hge
  · exact hlt
  · have := h.all; rw [Array.getElem?_eq_none hge] at this; cases this
theorem OneW.below (h : OneW w W sb ab T j N vq vo VV sq sp sa S B) (hb : Below W.heap.size W W') : OneW w W' sb ab T j N vq vo VV sq sp sa S B :=
  { h with
    since := h.since.trans (hb.mono h.since.size)
    sides := (Kept.of_below (F := fun _ => False) hb).heap h.sides (fun h => h)
    all := (Kept.of_below (F := fun _ => False) hb).heap h.all (fun h => h)
    voter := fun k hk => (h.voter k hk).below hb
    side := fun i hi => (h.side i hi).below hb }
theorem OneW.mono (h : OneW w W sb ab T j N vq vo VV sq sp sa S B) {M : Nat} (hM : N ≤ M) : OneW w W sb ab T j M vq vo VV sq sp sa S B :=
  { h with
    voter := fun k hk => (h.voter k hk).mono hM
    side := fun i hi => (h.side i hi).mono hM }
/-- A voter's call. -/
theorem OneW.vote (h : OneW w W sb ab T j N vq vo VV sq sp sa S B) {k : Nat} (hk : k < 5) {x : Int → HeldV} (hv : VotB W (vq k) (vo k) (N + 1) x W') : ∃ T' vo', OneW w W' sb ab T' j (N + 1) vq vo' (upd VV k x) sq sp sa S B := by
  obtain ⟨o', h1, h2, h3⟩ := hv
  have hl0 := h.lt0
  have hl1 := h.lt1
  refine ⟨tagN W T (2 + k), upd vo k o', ?_⟩
  have hF : ∀ b t, T b = t → t ≠ 2 + k → ¬ (b = vq k ∨ vo k = some b) := fun b t hb ht e => ht (by rw [← hb]; exact (h.tagV k hk b e).1)
  constructor
  · exact Tide.Below.kept h.since h2 h.since.size (fun b hb => (h.tagV k hk b hb).2)
  · exact h2.heap h.sides (hF sb 0 h.tag0.1 (by omega))
  · exact h2.heap h.all (hF ab 1 h.tag1.1 (by omega))
  · intro i hi
    by_cases e : i = k
    · subst e; rw [upd_same, upd_same]; exact h1
    · rw [upd_other _ _ e, upd_other _ _ e]
      exact ((h.voter i hi).kept h2 (fun b hb => hF b _ (h.tagV i hi b hb).1 (by omega))).mono (Nat.le_succ N)
  · intro i hi
    exact ((h.side i hi).kept h2 (fun b hb => hF b _ (h.tagS i hi b hb).1 (by omega))).mono (Nat.le_succ N)
  · exact ⟨(tagN_old hl0).trans h.tag0.1, h.tag0.2⟩
  · exact ⟨(tagN_old hl1).trans h.tag1.1, h.tag1.2⟩
  · intro i hi b hb
    by_cases e : i = k
    · subst e
      rw [upd_same] at hb
      rcases hb with hb | hb
      · have := h.tagV i hi b (.inl hb)
        exact ⟨(tagN_old ((h.voter i hi).fp b (.inl hb))).trans this.1, this.2⟩
      · rcases h3 b hb with h4 | h4
        · have := h.tagV i hi b (.inr h4)
          exact ⟨(tagN_old ((h.voter i hi).fp b (.inr h4))).trans this.1, this.2⟩
        · exact ⟨tagN_new h4, Nat.le_trans h.since.size h4⟩
    · rw [upd_other _ _ e] at hb
      have := h.tagV i hi b hb
      exact ⟨(tagN_old ((h.voter i hi).fp b hb)).trans this.1, this.2⟩
  · intro i hi b hb
    have := h.tagS i hi b hb
    exact ⟨(tagN_old ((h.side i hi).fp b hb)).trans this.1, this.2⟩
/-- A call of who proposes. -/
theorem OneW.propose (h : OneW w W sb ab T j N vq vo VV sq sp sa S B) {i : Nat} (hi : i < j) {P : PropV} (hp : ProB W (sq i) (sp i) (sa i) (N + 1) P W') : OneW w W' sb ab T j (N + 1) vq vo VV sq sp sa (upd S i P) B := by
  obtain ⟨h1, h2⟩ := hp
  have hF : ∀ b t, T b = t → t ≠ 10 + i → ¬ FPro (sq i) (sp i) (sa i) b := fun b t hb ht e => ht (by rw [← hb]; exact (h.tagS i hi b e).1)
  constructor
  · exact Tide.Below.kept h.since h2 h.since.size (fun b hb => (h.tagS i hi b hb).2)
  · exact h2.heap h.sides (hF sb 0 h.tag0.1 (by omega))
  · exact h2.heap h.all (hF ab 1 h.tag1.1 (by omega))
  · intro k hk
    exact ((h.voter k hk).kept h2 (fun b hb => hF b _ (h.tagV k hk b hb).1 (by omega))).mono (Nat.le_succ N)
  · intro k hk
    by_cases e : k = i
    · subst e; rw [upd_same]; exact h1
    · rw [upd_other _ _ e]
      exact ((h.side k hk).kept h2 (fun b hb => hF b _ (h.tagS k hk b hb).1 (by omega))).mono (Nat.le_succ N)
  · exact h.tag0
  · exact h.tag1
  · exact h.tagV
  · exact h.tagS
/-- A side that begins. -/
theorem OneW.beginS (h : OneW w W sb ab T j N vq vo VV sq sp sa S B) {i q bp ba j' b : Nat} {P : PropV} (hj : ∀ k, k < j' → k < j ∨ k = i) (hs : W'.heap[sb]? = some (.cells (sideArr j' (upd sq i q) (upd B i b)) 55 (0, 0))) (hp : ProW W' q bp ba 0 P) (hk : Kept (fun k => k = sb) W W') (hf : ∀ k, FPro q bp ba k → W.heap.size ≤ k) :
    ∃ T', OneW w W' sb ab T' j' N vq vo VV (upd sq i q) (upd sp i bp) (upd sa i ba) (upd S i P) (upd B i b) := by
  have hl0 := h.lt0
  have hl1 := h.lt1
  have hF : ∀ b t, T b = t → t ≠ 0 → ¬ b = sb := fun b t hb ht e => ht (by rw [← hb, e]; exact h.tag0.1)
  refine ⟨tagN W T (10 + i), ?_⟩
  constructor
  · exact Tide.Below.kept h.since hk h.since.size (fun b hb => by rw [hb]; exact h.tag0.2)
  · exact hs
  · exact hk.heap h.all (hF ab 1 h.tag1.1 (by omega))
  · intro k hk'
    exact (h.voter k hk').kept hk (fun b hb => hF b _ (h.tagV k hk' b hb).1 (by omega))
  · intro k hk'
    by_cases e : k = i
    · subst e; rw [upd_same, upd_same, upd_same, upd_same]; exact hp.mono (Nat.zero_le N)
    · have hkj : k < j := (hj k hk').resolve_right e
      rw [upd_other _ _ e, upd_other _ _ e, upd_other _ _ e, upd_other _ _ e]
      exact (h.side k hkj).kept hk (fun b hb => hF b _ (h.tagS k hkj b hb).1 (by omega))
  · exact ⟨(tagN_old hl0).trans h.tag0.1, h.tag0.2⟩
  · exact ⟨(tagN_old hl1).trans h.tag1.1, h.tag1.2⟩
  · intro k hk' b hb
    have := h.tagV k hk' b hb
    exact ⟨(tagN_old ((h.voter k hk').fp b hb)).trans this.1, this.2⟩
  · intro k hk' b hb
    by_cases e : k = i
    · subst e
      rw [upd_same, upd_same, upd_same] at hb
      have := hf b hb
      exact ⟨tagN_new this, Nat.le_trans h.since.size this⟩
    · have hkj : k < j := (hj k hk').resolve_right e
      rw [upd_other _ _ e, upd_other _ _ e, upd_other _ _ e] at hb
      have := h.tagS k hkj b hb
      exact ⟨(tagN_old ((h.side k hkj).fp b hb)).trans this.1, this.2⟩
end
/-- Five voters, and what lies ahead of the first side. -/
def oneNew (w1 : World) : World :=
  (((((((w1.alloc (.cells #[.map none] 51)).alloc (.cells #[.map none] 51)).alloc (.cells #[.map none] 51)).alloc (.cells #[.map none] 51)).alloc (.cells #[.map none] 51)).alloc
    (.cells #[.pointer (some ⟨w1.heap.size, 0, none⟩), .pointer (some ⟨w1.heap.size + 1, 0, none⟩), .pointer (some ⟨w1.heap.size + 1 + 1, 0, none⟩), .pointer (some ⟨w1.heap.size + 1 + 1 + 1, 0, none⟩), .pointer (some ⟨w1.heap.size + 1 + 1 + 1 + 1, 0, none⟩)] 52)).alloc
    (.cells #[.pointer none, .int .i64 0, .pointer none, .int .i64 0, .pointer none, .int .i64 0, .pointer none, .int .i64 0] 55))
theorem OneW.start {w w1 : World} (hb : Below w.heap.size w w1) (S : Nat → PropV) (B : Nat → Nat) : ∃ T, OneW w (oneNew w1) (w1.heap.size + 1 + 1 + 1 + 1 + 1 + 1) (w1.heap.size + 1 + 1 + 1 + 1 + 1) T 0 0 (fun k => w1.heap.size + k) (fun _ => none) (fun _ _ => noneV) (fun _ => 0) (fun _ => 0) (fun _ => 0) S B := by
  obtain ⟨H, hH⟩ : ∃ H, w1.heap.size = H := ⟨_, rfl⟩
  have ha : ∀ (W : World) (o o' : Obj) (q : Nat), W.heap[q]? = some o' → (W.alloc o).heap[q]? = some o' := fun W o o' q h => ((Kept.refl (fun _ => False) W).alloc o).heap h (fun h => h)
  have hv : ∀ (W : World) (o : Obj) (q : Nat), VotW W q none 0 (fun _ => noneV) → VotW (W.alloc o) q none 0 (fun _ => noneV) := fun W o q h => h.below ((Below.refl _ _).alloc (Nat.le_refl _) o)
  have hn : ∀ (W : World) (o : Obj), (W.alloc o).heap.size = W.heap.size + 1 := fun W o => World.size_alloc _ _
  refine ⟨fun b => if b = H + 6 then 0 else if b = H + 5 then 1 else 2 + (b - H), ?_⟩
  rw [hH]
  have hbs := hb.size
  constructor
  · unfold oneNew
    exact ((((((hb.alloc hb.size _).alloc (by simp only [hn]; omega) _).alloc (by simp only [hn]; omega) _).alloc (by simp only [hn]; omega) _).alloc (by simp only [hn]; omega) _).alloc (by simp only [hn]; omega) _).alloc (by simp only [hn]; omega) _
  · unfold oneNew
    have := heap_alloc_new ((((((w1.alloc (.cells #[.map none] 51)).alloc (.cells #[.map none] 51)).alloc (.cells #[.map none] 51)).alloc (.cells #[.map none] 51)).alloc (.cells #[.map none] 51)).alloc
      (.cells #[.pointer (some ⟨w1.heap.size, 0, none⟩), .pointer (some ⟨w1.heap.size + 1, 0, none⟩), .pointer (some ⟨w1.heap.size + 1 + 1, 0, none⟩), .pointer (some ⟨w1.heap.size + 1 + 1 + 1, 0, none⟩), .pointer (some ⟨w1.heap.size + 1 + 1 + 1 + 1, 0, none⟩)] 52)) (.cells #[.pointer none, .int .i64 0, .pointer none, .int .i64 0, .pointer none, .int .i64 0, .pointer none, .int .i64 0] 55)
    simp only [hn, hH] at this
    simp only [hH]
    exact this
  · unfold oneNew
    refine ha _ _ _ _ ?_
    have := heap_alloc_new (((((w1.alloc (.cells #[.map none] 51)).alloc (.cells #[.map none] 51)).alloc (.cells #[.map none] 51)).alloc (.cells #[.map none] 51)).alloc (.cells #[.map none] 51))
      (.cells #[.pointer (some ⟨w1.heap.size, 0, none⟩), .pointer (some ⟨w1.heap.size + 1, 0, none⟩), .pointer (some ⟨w1.heap.size + 1 + 1, 0, none⟩), .pointer (some ⟨w1.heap.size + 1 + 1 + 1, 0, none⟩), .pointer (some ⟨w1.heap.size + 1 + 1 + 1 + 1, 0, none⟩)] 52)
    simp only [hn, hH] at this
    simp only [hH]
    exact this
  · intro k hk
    unfold oneNew
    refine hv _ _ _ (hv _ _ _ ?_)
    rcases (show k = 0 ∨ k = 1 ∨ k = 2 ∨ k = 3 ∨ k = 4 by omega) with rfl | rfl | rfl | rfl | rfl
    · exact hv _ _ _ (hv _ _ _ (hv _ _ _ (hv _ _ _ (VotW.new _ _ (by omega)))))
    · exact hv _ _ _ (hv _ _ _ (hv _ _ _ (VotW.new _ _ (by simp only [hn]; omega))))
    · exact hv _ _ _ (hv _ _ _ (VotW.new _ _ (by simp only [hn]; omega)))
    · exact hv _ _ _ (VotW.new _ _ (by simp only [hn]; omega))
    · exact VotW.new _ _ (by simp only [hn]; omega)
  · intro i hi; omega
  · exact ⟨by simp, by omega⟩
  · exact ⟨by simp, by omega⟩
  · intro k hk b hb'
    rcases hb' with rfl | hb'
    · refine ⟨?_, by omega⟩
      show (if H + k = H + 6 then 0 else if H + k = H + 5 then 1 else 2 + (H + k - H)) = 2 + k
      rw [if_neg (by omega), if_neg (by omega)]
      omega
    · cases hb'
  · intro i hi; omega
end Go.Proofs.YtidgpnanbbkakaaDoor
