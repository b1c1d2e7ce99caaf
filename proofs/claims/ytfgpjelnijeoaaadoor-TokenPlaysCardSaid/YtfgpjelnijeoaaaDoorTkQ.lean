/- New of whatever: package token's and the document's. -/
import Derived.Test.YtfgpjelnijeoaaaDoorTkO
import Derived.Test.YtfgpjelnijeoaaaDoorTkM
namespace Go.Proofs.YtfgpjelnijeoaaaDoor
open Go Go.RowKit Tide

open Classical in
/-- The number of New's error. -/
noncomputable def newK (ep nx : Int) (bs : List (Int × List Int)) : Nat := if ep < 0 ∨ 1073741824 < ep then 14 else if nx < 0 ∨ 4096 < nx then 1 else if newOk nx bs then 0 else 4
section
variable {a : Nat → Addr} {w w' : World} {g : Nat} {s : SeqD}
set_option maxRecDepth 100000 in
set_option maxHeartbeats 1000000 in
theorem newt_any (ep nx : Int) (bs : List (Int × List Int)) (v : Value) (B : Nat) (w : World) (hE : E5 a w) (hv : Backs w B v bs) (hB : B ≤ w.heap.size) (hlen : bs.length ≤ 20) :
    Calls Tryd.prog 8 #[.int .i64 ep, .int .i64 nx, v] w fun e w' => Below w.heap.size w w' ∧
      ((newK ep nx bs = 0 ∧ ∃ g, w.heap.size ≤ g ∧ e = .returned (.tuple #[.pointer (some ⟨g, 0, none⟩), .nilIface]) ∧ TokIs w' g ⟨ep, nx.toNat, fillL bs⟩) ∨ ∃ m, m < 19 ∧ newK ep nx bs = m + 1 ∧ e = .returned (.tuple #[.pointer none, errAt (a m)])) := by
  have ce := hE.epoch
  have cr := hE.range
  by_cases h1 : ep < 0
  · have hk : newK ep nx bs = 14 := by unfold newK; rw [if_pos (.inl h1)]
    rw [hk]
    obtain ⟨hl, A, c, rfl, _⟩ := hv.form
    clear hk hv
    go_enter Tryd.func8, Tryd.ntmps8
    go_wp2_with fail
    go_quiet (fail)
    go_wp2_with fail
    go_ret2
    exact ⟨below_drewN (Below.refl _ _) _, .inr ⟨13, by omega, rfl, rfl⟩⟩
  by_cases h2 : 1073741824 < ep
  · have hk : newK ep nx bs = 14 := by unfold newK; rw [if_pos (.inr h2)]
    rw [hk]
    obtain ⟨hl, A, c, rfl, _⟩ := hv.form
    clear hk hv
    go_enter Tryd.func8, Tryd.ntmps8
    go_wp2_with fail
    go_quiet (fail)
    go_wp2_with fail
    go_ret2
    exact ⟨below_drewN (Below.refl _ _) _, .inr ⟨13, by omega, rfl, rfl⟩⟩
  by_cases h3 : nx < 0
  · have hk : newK ep nx bs = 1 := by unfold newK; rw [if_neg (by omega), if_pos (.inl h3)]
    rw [hk]
    obtain ⟨hl, A, c, rfl, _⟩ := hv.form
    clear hk hv
    go_enter Tryd.func8, Tryd.ntmps8
    go_wp2_with fail
    go_quiet (fail)
    go_wp2_with fail
    go_ret2
    exact ⟨below_drewN (Below.refl _ _) _, .inr ⟨0, by omega, rfl, rfl⟩⟩
  by_cases h4 : 4096 < nx
  · have hk : newK ep nx bs = 1 := by unfold newK; rw [if_neg (by omega), if_pos (.inr h4)]
    rw [hk]
    obtain ⟨hl, A, c, rfl, _⟩ := hv.form
    clear hk hv
    go_enter Tryd.func8, Tryd.ntmps8
    go_wp2_with fail
    go_quiet (fail)
    go_wp2_with fail
    go_ret2
    exact ⟨below_drewN (Below.refl _ _) _, .inr ⟨0, by omega, rfl, rfl⟩⟩
  obtain ⟨n, rfl⟩ : ∃ n : Nat, nx = (n : Int) := ⟨nx.toNat, by omega⟩
  refine (new_tok ep n bs v B w hE hv hB hlen (by omega) (by omega) (by omega)).mono ?_
  rintro e w' ⟨hb, h⟩
  refine ⟨hb, ?_⟩
  rcases h with ⟨ho, h⟩ | ⟨ho, h⟩
  · have hk : newK ep n bs = 0 := by unfold newK; rw [if_neg (by omega), if_neg (by omega), if_pos ho]
    rw [hk, Int.toNat_natCast]
    exact .inl ⟨rfl, h⟩
  · have hk : newK ep n bs = 4 := by unfold newK; rw [if_neg (by omega), if_neg (by omega), if_neg ho]
    rw [hk]
    exact .inr ⟨3, by omega, rfl, h⟩

set_option maxRecDepth 100000 in
set_option maxHeartbeats 1000000 in
theorem newr_any (ep nx : Int) (bs : List (Int × List Int)) (v : Value) (B : Nat) (w : World) (hv : Backs w B v bs) (hB : B ≤ w.heap.size) (hlen : bs.length ≤ 20) :
    Calls Tryd.prog 9 #[.int .i64 ep, .int .i64 nx, v] w fun e w' => Below w.heap.size w w' ∧
      ((newK ep nx bs = 0 ∧ e = .returned (.tuple #[.pointer (some ⟨w.heap.size, 0, none⟩), .int .i64 0]) ∧ ∃ R, SeqIs w' R w.heap.size ⟨ep, nx.toNat, fillL bs⟩ ∧ ∀ k, R k → w.heap.size ≤ k) ∨ (newK ep nx bs ≠ 0 ∧ e = .returned (.tuple #[.pointer none, .int .i64 (newK ep nx bs : Int)]))) := by
  by_cases h1 : ep < 0
  · have hk : newK ep nx bs = 14 := by unfold newK; rw [if_pos (.inl h1)]
    rw [hk]
    obtain ⟨hl, A, c, rfl, _⟩ := hv.form
    clear hk hv
    go_enter Tryd.func9, Tryd.ntmps9
    go_wp2_with fail
    go_ret2
    first | exact ⟨Below.refl _ _, .inr ⟨by omega, rfl⟩⟩ | exact ⟨Below.refl _ _, rfl⟩
  by_cases h2 : 1073741824 < ep
  · have hk : newK ep nx bs = 14 := by unfold newK; rw [if_pos (.inr h2)]
    rw [hk]
    obtain ⟨hl, A, c, rfl, _⟩ := hv.form
    clear hk hv
    go_enter Tryd.func9, Tryd.ntmps9
    go_wp2_with fail
    go_ret2
    first | exact ⟨Below.refl _ _, .inr ⟨by omega, rfl⟩⟩ | exact ⟨Below.refl _ _, rfl⟩
  by_cases h3 : nx < 0
  · have hk : newK ep nx bs = 1 := by unfold newK; rw [if_neg (by omega), if_pos (.inl h3)]
    rw [hk]
    obtain ⟨hl, A, c, rfl, _⟩ := hv.form
    clear hk hv
    go_enter Tryd.func9, Tryd.ntmps9
    go_wp2_with fail
    go_ret2
    first | exact ⟨Below.refl _ _, .inr ⟨by omega, rfl⟩⟩ | exact ⟨Below.refl _ _, rfl⟩
  by_cases h4 : 4096 < nx
  · have hk : newK ep nx bs = 1 := by unfold newK; rw [if_neg (by omega), if_pos (.inr h4)]
    rw [hk]
    obtain ⟨hl, A, c, rfl, _⟩ := hv.form
    clear hk hv
    go_enter Tryd.func9, Tryd.ntmps9
    go_wp2_with fail
    go_ret2
    first | exact ⟨Below.refl _ _, .inr ⟨by omega, rfl⟩⟩ | exact ⟨Below.refl _ _, rfl⟩
  obtain ⟨n, rfl⟩ : ∃ n : Nat, nx = (n : Int) := ⟨nx.toNat, by omega⟩
  refine (new_walk ep n bs v B w hv hB hlen (by omega) (by omega) (by omega)).mono ?_
  rintro e w' ⟨hb, h⟩
  refine ⟨hb, ?_⟩
  rcases h with ⟨ho, h⟩ | ⟨ho, h⟩
  · have hk : newK ep n bs = 0 := by unfold newK; rw [if_neg (by omega), if_neg (by omega), if_pos ho]
    rw [hk, Int.toNat_natCast]
    exact .inl ⟨rfl, h⟩
  · have hk : newK ep n bs = 4 := by unfold newK; rw [if_neg (by omega), if_neg (by omega), if_neg ho]
    rw [hk]
    exact .inr ⟨by omega, h⟩
end
end Go.Proofs.YtfgpjelnijeoaaaDoor
