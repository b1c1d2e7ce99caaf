/- A map of rows of whole numbers by number: what was told of each stream. No walk stands here. -/
import Derived.Test.YtfgpjelnijeoaaaDoorTkC
import Derived.Test.YtfgpjelnijeoaaaDoorIm
namespace Go.Proofs.YtfgpjelnijeoaaaDoor
open Go Go.RowKit Tide

/-- A row as an element of a map. -/
structure RowE where
  blk : Option Nat
  len : Nat
  cap : Nat
def RowE.sl (x : RowE) : Value := .slice (x.blk.map fun b => (⟨b, 0, none⟩ : Addr)) x.len x.cap
def rowR (v : Value) : Option (DataW Unit × List MemPlace) := match v with
  | .slice none l c => some (.agg [.lit (.bool false), .lit (.int .i64 0), .lit (.int .i64 (l : Int)), .lit (.int .i64 (c : Int))], [])
  | .slice (some ⟨b, 0, none⟩) l c => some (.agg [.lit (.bool true), .lit (.int .i64 (b : Int)), .lit (.int .i64 (l : Int)), .lit (.int .i64 (c : Int))], [])
  | _ => none
def RowE.dd (x : RowE) : DataW Unit := .agg [.lit (.bool x.blk.isSome), .lit (.int .i64 ((x.blk.getD 0 : Nat) : Int)), .lit (.int .i64 (x.len : Int)), .lit (.int .i64 (x.cap : Int))]
def rowK : ElemK RowE where
  R := rowR
  val := RowE.sl
  dd := RowE.dd
  rd := fun x => by obtain ⟨b, l, c⟩ := x; cases b <;> rfl
  inv := fun {v y} h => by
    unfold rowR at h
    split at h
    · rename_i l c
      injection h with h
      exact ⟨⟨none, l, c⟩, rfl, h.symm⟩
    · rename_i b l c
      injection h with h
      exact ⟨⟨some b, l, c⟩, rfl, h.symm⟩
    · cases h
  inj := fun {x y} h => by
    obtain ⟨b, l, c⟩ := x
    obtain ⟨b', l', c'⟩ := y
    injection h with h
    injection h with h2 h
    injection h with h3 h
    injection h with h4 h
    injection h with h5 _
    injection h2 with h2; injection h2 with h2
    injection h3 with h3; injection h3 with _ h3
    injection h4 with h4; injection h4 with _ h4
    injection h5 with h5; injection h5 with _ h5
    simp only at h2 h3 h4 h5
    have e1 : l = l' := by omega
    have e2 : c = c' := by omega
    subst e1 e2
    cases b with
    | none => cases b' with
      | none => rfl
      | some _ => cases h2
    | some b => cases b' with
      | none => cases h2
      | some b' =>
        have : b = b' := by simp only [Option.getD_some] at h3; omega
        subst this; rfl
def noRow : RowE := ⟨none, 0, 0⟩
theorem zeroRow (w : World) : (zeroValue 37).run Tryd.prog w = .ok (rowK.val noRow) w := by kernel_rfl
theorem own_rowE {w : World} {base : Nat} {v : Value} {l : List Int} (h : Own w base v l) : ∃ x : RowE, v = x.sl := by
  rcases h.2 with ⟨rfl, _⟩ | ⟨g, cap, cur, rfl, _⟩
  · exact ⟨⟨none, 0, 0⟩, rfl⟩
  · exact ⟨⟨some g, _, cap⟩, rfl⟩
set_option maxRecDepth 100000 in
/-- 'm[k]', as an equation. -/
theorem rm_get {W : World} {b n : Nat} {g : Int → Option RowE} (hown : IMap rowK W b n g) (k : Int) (h0 : -9223372036854775808 ≤ k) (h1 : k ≤ 9223372036854775807) :
    (Instr.lookup 49 (.map (some b)) (.int .i64 k) false).run Tryd.prog W = .ok ((g k).getD noRow).sl W := by
  obtain ⟨D, h2, _, _, h3⟩ := hown
  obtain ⟨v, q, hrun, hv⟩ := h2.lookup imLaw Tryd.underlying49 (zeroRow W) (rowK.rd noRow) (kI_of k h0 h1)
  obtain ⟨y, rfl, hy⟩ := rowK.inv hv
  rw [hrun]
  injection hy with hy _
  cases hg : g k with
  | none =>
    have hh := (h3 k).1
    rw [hg] at hh
    rw [Maps.atKey_of_not_has hh] at hy
    have : y = noRow := rowK.inj hy.symm
    rw [this]; rfl
  | some x =>
    have h4 := (h3 k).2 x hg (rowK.dd noRow)
    have : y = x := rowK.inj (hy.symm.trans h4)
    rw [this]; rfl

/-- Block tb is a map that holds of each stream what T says, as rows made from lo on. -/
structure Told (W : World) (tb n lo : Nat) (T : Nat → List Int) (g : Int → Option RowE) : Prop where
  map : IMap rowK W tb n g
  row : ∀ x : Nat, x < 13 → Own W lo ((g (x : Int)).getD noRow).sl (T x)
section
variable {W W' : World} {tb n lo : Nat} {T : Nat → List Int} {g : Int → Option RowE}
theorem Told.kept {F : Nat → Prop} (h : Told W tb n lo T g) (hk : Kept F W W') (ht : ¬ F tb) (hF : ∀ k, F k → k < lo ∨ W.heap.size ≤ k) : Told W' tb n lo T g :=
  ⟨h.map.kept hk ht, fun x hx => hk.own (h.row x hx) (fun k hb hf => by
    have := (h.row x hx).lt k hb
    have := hF k hf
    omega)⟩
theorem Told.below (h : Told W tb n lo T g) (hb : Below W.heap.size W W') : Told W' tb n lo T g := h.kept (F := fun _ => False) (Kept.of_below hb) (fun h => h) (fun _ h => h.elim)
theorem Told.drew (h : Told W tb n lo T g) : Told W.drew tb n lo T g := ⟨h.map.drew, fun x hx => h.row x hx⟩
theorem Told.made (W : World) (lo : Nat) (g0 : Nat) (hg : g0 = W.heap.size) : Told (W.alloc (.map #[] 0)) g0 0 lo (fun _ => []) (fun _ => none) :=
  ⟨IMap.made W g0 hg, fun _ _ => World.ownsRow_nil _ _ _ 1⟩
/-- A row is stored. -/
theorem Told.put (h : Told W tb n lo T g) (hn : n ≤ 1000000) {x : Nat} (hx : x < 13) {v : Value} {l : List Int} (ho : Own W lo v l) :
    ∃ w' g', (Instr.mapUpdate 49 (.map (some tb)) (.int .i64 (x : Int)) v).run Tryd.prog W = .ok () w' ∧ Told w' tb (n + 1) lo (fun y => if y = x then l else T y) g' ∧ Kept (fun k => k = tb) W w' := by
  obtain ⟨e, rfl⟩ := own_rowE ho
  obtain ⟨w', hrun, hm, hk⟩ := h.map.put_run Tryd.underlying49 hn (x : Int) (by omega) (by omega) e
  have hne : ∀ (u : Value) (m : List Int), Own W lo u m → ∀ k, u.ownBlock = some k → ¬ k = tb := fun u m hu k hb e => by
    rcases hu.2 with ⟨rfl, _⟩ | ⟨b, cap, cur, rfl, _, hc, _⟩
    · cases hb
    · injection hb with hb
      have hb : b = k := hb
      exact h.map.ne_cells hc (by rw [hb, e])
  refine ⟨w', _, hrun, ⟨hm, fun y hy => ?_⟩, hk⟩
  by_cases e2 : y = x
  · subst e2
    rw [if_pos rfl]
    have : imSet g (y : Int) e (y : Int) = some e := by unfold imSet; rw [if_pos rfl]
    rw [this]
    exact hk.own ho (fun k hb => hne _ _ ho k hb)
  · rw [if_neg e2]
    have : imSet g (x : Int) e (y : Int) = g (y : Int) := by unfold imSet; rw [if_neg (by omega)]
    rw [this]
    exact hk.own (h.row y hy) (fun k hb => hne _ _ (h.row y hy) k hb)
end
end Go.Proofs.YtfgpjelnijeoaaaDoor
