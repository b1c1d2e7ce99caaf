/- What a writer's room answers: whether so many bytes more are to be written; where they are too many, what is written is let go. -/
import Derived.Test.YtcmihmilkcihcaaDoorPackO
namespace Go.Proofs.YtcmihmilkcihcaaDoor
open Go.RowKit Tide

theorem own_form {W : World} {base n : Nat} {e : TypeId} {v : Value} {xs : List Value} (h : W.ownsRow base e 1 v n xs) : ∃ A c, v = .slice A n c := by
  rcases h.2 with ⟨rfl, rfl⟩ | ⟨g, cap, cur, rfl, _⟩
  · exact ⟨none, 0, rfl⟩
  · exact ⟨_, _, rfl⟩
theorem room_ok (A : Option Addr) (n c size p : Nat) (W : World) (h : Two W p 30 (.slice A n c) .nilIface) (hs : n + size ≤ 65536) :
    Calls Tryd.prog 26 #[.pointer (some ⟨p, 0, none⟩), .int .i64 size] W fun e w' => e = .returned (.bool true) ∧ W = w' := by
  obtain ⟨_, h0, h1, hf⟩ := h.facts
  have hq : decide ((65536 : Int) - (n : Int) < (size : Int)) = false := by simp; omega
  clear h
  go_enter Tryd.func26, Tryd.ntmps26
  go_wp2_with fail
  go_ret
  exact ⟨rfl, rfl⟩
theorem room_err (v : Value) (b : Addr) (size p : Nat) (W : World) (h : Two W p 30 v (errAt b)) :
    Calls Tryd.prog 26 #[.pointer (some ⟨p, 0, none⟩), .int .i64 size] W fun e w' => e = .returned (.bool false) ∧ W = w' := by
  obtain ⟨_, h0, h1, hf⟩ := h.facts
  clear h
  go_enter Tryd.func26, Tryd.ntmps26
  go_wp2_with fail
  go_ret
  exact ⟨rfl, rfl⟩
theorem room_long (a : Nat → Addr) (A : Option Addr) (n c size p : Nat) (W : World) (h : Two W p 30 (.slice A n c) .nilIface) (hn : n ≤ 65536) (hs : 65536 < n + size) (hE : Errs W a) :
    Calls Tryd.prog 26 #[.pointer (some ⟨p, 0, none⟩), .int .i64 size] W fun e w' => e = .returned (.bool false) ∧ Two w' p 30 (.slice none 0 0) (errAt (a 2)) ∧ Kept (fun k => k = p) W w' := by
  obtain ⟨_, h0, h1, hf⟩ := h.facts
  have H := Lib.hid h
  have hg := hE.var 2 (by omega)
  simp only [evars, List.getD_cons_zero, List.getD_cons_succ] at hg
  have hq : decide ((65536 : Int) - (n : Int) < (size : Int)) = true := by simp; omega
  clear h hE
  go_enter Tryd.func26, Tryd.ntmps26
  go_wp2_with fail
  refine (fail_any _ _ (a 2) p _ H.out).mono ?_
  rintro e w1 ⟨rfl, ht, hk⟩
  have HT := Lib.hid ht
  have HK := Lib.hid hk
  obtain ⟨_, g0, g1, gf⟩ := ht.facts
  clear ht hk h0 h1 hf hg
  go_wp2_with fail
  go_ret
  exact ⟨rfl, HT.out, HK.out⟩
/-- Whether so many bytes are to be written; where not, whatever they are makes no difference. -/
def RoomR (a : Nat → Addr) (W : World) (F : Nat → Prop) (p : Nat) (st : Option (List UInt8)) (size : Nat) (e : Ending) (w' : World) : Prop :=
  (e = .returned (.bool true) ∧ W = w' ∧ ∃ q A c, st = some q ∧ q.length + size ≤ 65536 ∧ Two W p 30 (.slice A q.length c) .nilIface ∧ W.ownsRow 0 5 1 (.slice A q.length c) q.length (u8s q) ∧ ∀ k, (Value.slice A q.length c).ownBlock = some k → F k ∧ k ≠ p) ∨
  (e = .returned (.bool false) ∧ Kept F W w' ∧ ∀ (t : List UInt8) (n' : Nat), t.length = size → OutS a w' F p (st.map (· ++ t)) n')
theorem room_any (a : Nat → Addr) (W : World) (F : Nat → Prop) (p : Nat) (st : Option (List UInt8)) (n size : Nat) (h : OutS a W F p st n) (hE : Errs W a) :
    Calls Tryd.prog 26 #[.pointer (some ⟨p, 0, none⟩), .int .i64 size] W (RoomR a W F p st size) := by
  obtain ⟨h1, h2, hA, v, x, h3, h4, h5⟩ := h
  cases st with
  | none =>
    obtain ⟨rfl, rfl⟩ := h5
    exact (room_err _ _ size p W h3).mono fun e w' ⟨he, hw⟩ => .inr ⟨he, hw ▸ Kept.refl _ _, fun t n' _ => hw ▸ ⟨h1, h2, hA, _, _, h3, h4, rfl, rfl⟩⟩
  | some q =>
    by_cases hq : q.length ≤ 65536
    · rw [outV_ok a W v x hq] at h5
      obtain ⟨rfl, hown⟩ := h5
      obtain ⟨A, c, rfl⟩ := own_form hown
      by_cases hs : q.length + size ≤ 65536
      · exact (room_ok A _ c size p W h3 hs).mono fun e w' ⟨he, hw⟩ => .inl ⟨he, hw, q, A, c, rfl, hs, h3, hown, h4⟩
      · refine (room_long a A _ c size p W h3 hq (by omega) hE).mono fun e w' ⟨he, ht, hk⟩ => .inr ⟨he, hk.mono fun i _ hi => by subst hi; exact h1, fun t n' hl => ?_⟩
        exact ⟨h1, fun k hf => Nat.lt_of_lt_of_le (h2 k hf) hk.size, hA, _, _, ht, fun k hk => by simp [Value.ownBlock] at hk, (outV_long a w' _ _ (by rw [List.length_append]; omega)).2 ⟨rfl, rfl⟩⟩
    · rw [outV_long a W v x hq] at h5
      obtain ⟨rfl, rfl⟩ := h5
      exact (room_err _ _ size p W h3).mono fun e w' ⟨he, hw⟩ => .inr ⟨he, hw ▸ Kept.refl _ _, fun t n' _ => hw ▸ ⟨h1, h2, hA, _, _, h3, h4, (outV_long a W _ _ (by rw [List.length_append]; omega)).2 ⟨rfl, rfl⟩⟩⟩
end Go.Proofs.YtcmihmilkcihcaaDoor
