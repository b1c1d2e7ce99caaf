/- The document's own store of records as it lies in memory: its two cells, the segments, each one's records. -/
import Derived.Test.YtcpanaokfbojnaaGreatDoorGMem
import Derived.Test.YtcpanaokfbojnaaGreatDoorGBits7
import Derived.Test.YtcpanaokfbojnaaGreatDoorGKeep
import Derived.Deep.AppendLies
import Derived.WalkKit
import Derived.WalkSpells
import Derived.Deep.QuietTactic
import Derived.BigQuiet
import Derived.Deep.RegionHeld3
namespace Go.Proofs.YtcpanaokfbojnaaGreatDoor
open Go.RowKit Tide

structure SegW where
  d : SegD
  vr : Value
  rs : List Value
def SegW.cells (g : SegW) : List Value := [.int .i64 (g.d.place : Int), .int .i64 (g.d.number : Int), .int .i64 (g.d.sectors : Int), g.vr]
theorem segs_len (gs : List SegW) : (gs.flatMap SegW.cells).length = gs.length * 4 := by
  induction gs with
  | nil => rfl
  | cons t gs ih => rw [List.flatMap_cons, List.length_append, ih, List.length_cons]; simp [SegW.cells]; omega
theorem segs_at : ∀ (gs : List SegW) (i j : Nat) (h : i < gs.length), j < 4 → (gs.flatMap SegW.cells)[i * 4 + j]? = (gs[i]).cells[j]?
  | [], _, _, h, _ => by simp at h
  | t :: gs, 0, j, _, hj => by
    rw [List.flatMap_cons, List.getElem?_append_left (by simp [SegW.cells]; omega)]
    simp
  | t :: gs, i + 1, j, h, hj => by
    have hl : t.cells.length = 4 := rfl
    rw [List.flatMap_cons, List.getElem?_append_right (by omega), hl, show (i + 1) * 4 + j - 4 = i * 4 + j by omega]
    exact segs_at gs i j (by simpa using h) hj

def RecRows (W : World) (F : Nat → Prop) (rs : List Value) (bs : List (List UInt8)) : Prop :=
  rs.length = bs.length ∧ ∀ (i : Nat) (u : Value) (b : List UInt8), rs[i]? = some u → bs[i]? = some b → W.ownsRow 0 5 1 u b.length (u8s b) ∧ (∀ k, u.ownBlock = some k → F k)
structure RefW (W : World) (F S : Nat → Prop) (p : Nat) (places : Nat) (gs : List SegW) (vs : Value) : Prop where
  block : Two W p 74 (.int .i64 (places : Int)) vs
  segs : W.ownsRow 0 102 4 vs gs.length (gs.flatMap SegW.cells)
  rows : ∀ g ∈ gs, W.ownsRow 0 45 1 g.vr g.rs.length g.rs ∧ (∀ k, g.vr.ownBlock = some k → F k) ∧ RecRows W S g.rs g.d.recs
  fp : F p ∧ ∀ k, vs.ownBlock = some k → F k
  lt : ∀ k, F k ∨ S k → k < W.heap.size
  apart : gs.Pairwise fun a b => ∀ k, a.vr.ownBlock = some k → b.vr.ownBlock ≠ some k
def RefI2 (W : World) (F S : Nat → Prop) (p : Nat) (s : StoD) : Prop := ∃ gs vs, s.segs = gs.map SegW.d ∧ RefW W F S p s.places gs vs
def RefIs (W : World) (G : Nat → Prop) (p : Nat) (s : StoD) : Prop := ∃ F S, (∀ k, F k ∨ S k → G k) ∧ (∀ k, G k → k < W.heap.size) ∧ RefI2 W F S p s

section
variable {W W' : World} {F G S : Nat → Prop} {p places : Nat} {gs : List SegW} {vs : Value} {s : StoD}
theorem RecRows.keep {rs : List Value} {bs : List (List UInt8)} (h : RecRows W F rs bs) (hk : Kept G W W') (hG : ∀ k, F k → ¬ G k) : RecRows W' F rs bs :=
  ⟨h.1, fun i u b hu hb => ⟨hk.own (h.2 i u b hu hb).1 (fun k e => hG k ((h.2 i u b hu hb).2 k e)), (h.2 i u b hu hb).2⟩⟩
theorem RecRows.mono {rs : List Value} {bs : List (List UInt8)} (h : RecRows W F rs bs) (hF : ∀ k, F k → G k) : RecRows W G rs bs :=
  ⟨h.1, fun i u b hu hb => ⟨(h.2 i u b hu hb).1, fun k e => hF k ((h.2 i u b hu hb).2 k e)⟩⟩
theorem RefW.keep (h : RefW W F S p places gs vs) (hk : Kept G W W') (hG : ∀ k, F k ∨ S k → ¬ G k) : RefW W' F S p places gs vs :=
  { h with
    block := h.block.kept hk (hG _ (.inl h.fp.1))
    segs := hk.own h.segs (fun k e => hG k (.inl (h.fp.2 k e)))
    rows := fun g hg => ⟨hk.own (h.rows g hg).1 (fun k e => hG k (.inl ((h.rows g hg).2.1 k e))), (h.rows g hg).2.1, (h.rows g hg).2.2.keep hk (fun k hs => hG k (.inr hs))⟩
    lt := fun k hf => Nat.lt_of_lt_of_le (h.lt k hf) hk.size }
theorem RefW.below (h : RefW W F S p places gs vs) (hb : Below W.heap.size W W') : RefW W' F S p places gs vs := h.keep (G := fun _ => False) (Kept.of_below hb) (fun _ _ h => h)
theorem RefI2.keep (h : RefI2 W F S p s) (hk : Kept G W W') (hG : ∀ k, F k ∨ S k → ¬ G k) : RefI2 W' F S p s := by
  obtain ⟨gs, vs, h1, h2⟩ := h
  exact ⟨gs, vs, h1, h2.keep hk hG⟩
theorem RefI2.below (h : RefI2 W F S p s) (hb : Below W.heap.size W W') : RefI2 W' F S p s := h.keep (G := fun _ => False) (Kept.of_below hb) (fun _ _ h => h)
theorem RefIs.keep (h : RefIs W F p s) (hk : Kept G W W') (hG : ∀ k, F k → ¬ G k) : RefIs W' F p s := by
  obtain ⟨F0, S0, h1, h2, h3⟩ := h
  exact ⟨F0, S0, h1, fun k hf => Nat.lt_of_lt_of_le (h2 k hf) hk.size, h3.keep hk (fun k hf => hG k (h1 k hf))⟩
theorem RefIs.below (h : RefIs W F p s) (hb : Below W.heap.size W W') : RefIs W' F p s := h.keep (G := fun _ => False) (Kept.of_below hb) (fun _ _ h => h)
theorem RefW.vform (h : RefW W F S p places gs vs) : ∃ A c, vs = .slice A gs.length c ∧ gs.length ≤ c ∧ c ≤ 9223372036854775807 := by
  rcases h.segs.2 with ⟨h1, h0⟩ | ⟨g, cap, cur, h1, _, _, h2, h3, _⟩
  · exact ⟨none, 0, by rw [h1, h0], by omega, by omega⟩
  · exact ⟨_, cap, h1, h2, h3⟩
theorem RefW.cells (h : RefW W F S p places gs vs) (i : Nat) (hi : i < gs.length) : ∃ b c, vs = .slice (some ⟨b, 0, none⟩) gs.length c ∧ b < W.heap.size ∧ W.cell? ⟨b, i * 4, none⟩ = some (.int .i64 ((gs[i]).d.place : Int)) ∧ W.cell? ⟨b, i * 4 + 1, none⟩ = some (.int .i64 ((gs[i]).d.number : Int)) ∧ W.cell? ⟨b, i * 4 + 2, none⟩ = some (.int .i64 ((gs[i]).d.sectors : Int)) ∧ W.cell? ⟨b, i * 4 + 3, none⟩ = some (gs[i]).vr := by
  obtain ⟨b, c, hv, _, hlt⟩ := h.segs.form (by omega)
  have hat : ∀ j u, ((gs[i]).cells)[j]? = some u → j < 4 → W.cell? ⟨b, i * 4 + j, none⟩ = some u := fun j u hu hj => by
    have h1 := h.segs.cells (g := b) (by rw [hv]; rfl) (i * 4 + j) u (by rw [segs_at gs i j hi hj]; exact hu)
    rwa [add_none, Nat.zero_add] at h1
  exact ⟨b, c, hv, hlt, hat 0 _ rfl (by omega), hat 1 _ rfl (by omega), hat 2 _ rfl (by omega), hat 3 _ rfl (by omega)⟩
end
theorem RefW.vr_form {W : World} {F S : Nat → Prop} {p places : Nat} {gs : List SegW} {vs : Value} (h : RefW W F S p places gs vs) {g : SegW} (hg : g ∈ gs) : ∃ A c, g.vr = .slice A g.rs.length c ∧ g.rs.length ≤ c ∧ c ≤ 9223372036854775807 := by
  rcases (h.rows g hg).1.2 with ⟨h1, h0⟩ | ⟨b, cap, cur, h1, _, _, h2, h3, _⟩
  · exact ⟨none, 0, by rw [h1, h0], by omega, by omega⟩
  · exact ⟨_, cap, h1, h2, h3⟩
theorem small_w (x : Int) (h1 : -1000000 ≤ x) (h2 : x ≤ 1000000) : wrap64 x = x := by unfold wrap64; omega
theorem small_v (x : Int) (h1 : -1000000 ≤ x) (h2 : x ≤ 1000000) : IntKind.i64.wrap x = x := by simp [IntKind.wrap, IntKind.signed, IntKind.bits]; omega
theorem need_any (A : Option Addr) (n c : Nat) (hn : n ≤ 100000) (W : World) : Calls Tryz.prog 76 #[.slice A n c] W fun e w' => e = .returned (.int .i64 ((needD n : Nat) : Int)) ∧ W = w' := by
  obtain ⟨q, hq⟩ : ∃ q, (n + 63) / 64 = q := ⟨_, rfl⟩
  have hN := Lib.hid (show ((needD n : Nat) : Int) = 1 + (q : Int) from by unfold needD; omega)
  have w1 : wrap64 ((n : Int) + 63) = (n : Int) + 63 := by unfold wrap64; omega
  have v1 : IntKind.i64.wrap ((n : Int) + 63) = (n : Int) + 63 := by simp [IntKind.wrap, IntKind.signed, IntKind.bits]; omega
  have q1 : ((n : Int) + 63).tdiv 64 = (q : Int) := by rw [Int.tdiv_eq_ediv_of_nonneg (by omega)]; omega
  have q2 : ((n : Int) + 63) / 64 = (q : Int) := by omega
  have w2 : wrap64 (q : Int) = (q : Int) := by unfold wrap64; omega
  have v2 : IntKind.i64.wrap (q : Int) = (q : Int) := by simp [IntKind.wrap, IntKind.signed, IntKind.bits]; omega
  have w3 : wrap64 (1 + (q : Int)) = 1 + (q : Int) := by unfold wrap64; omega
  have v3 : IntKind.i64.wrap (1 + (q : Int)) = 1 + (q : Int) := by simp [IntKind.wrap, IntKind.signed, IntKind.bits]; omega
  clear hq hn
  go_enter Tryz.func76, Tryz.ntmps76
  go_wp2_with fail
  go_ret
  exact ⟨by rw [hN.out]; rfl, rfl⟩
end Go.Proofs.YtcpanaokfbojnaaGreatDoor
