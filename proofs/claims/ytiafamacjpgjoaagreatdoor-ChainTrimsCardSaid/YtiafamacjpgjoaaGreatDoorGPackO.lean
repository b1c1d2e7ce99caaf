/- What a writer keeps in its two fields, and what its small functions do. -/
import Derived.Test.YtiafamacjpgjoaaGreatDoorGPackD
import Derived.Test.YtiafamacjpgjoaaGreatDoorGBits7
import Derived.WalkKit
import Derived.WalkSpells
import Derived.RegionTactic
import Derived.BigQuiet
import Derived.Deep.QuietTactic
namespace Go.Proofs.YtiafamacjpgjoaaGreatDoor
open Go.RowKit Tide

def OutV (a : Nat → Addr) (W : World) (st : Option (List UInt8)) (v x : Value) : Prop :=
  match st with
  | none => v = .slice none 0 0 ∧ x = errAt (a 0)
  | some q => if q.length ≤ 65536 then x = .nilIface ∧ W.ownsRow 0 5 1 v q.length (u8s q) else v = .slice none 0 0 ∧ x = errAt (a 2)
theorem outV_ok (a : Nat → Addr) (W : World) {q : List UInt8} (v x : Value) (hq : q.length ≤ 65536) : OutV a W (some q) v x ↔ (x = .nilIface ∧ W.ownsRow 0 5 1 v q.length (u8s q)) := by
  show (if q.length ≤ 65536 then _ else _) ↔ _
  rw [if_pos hq]
theorem outV_long (a : Nat → Addr) (W : World) {q : List UInt8} (v x : Value) (hq : ¬ q.length ≤ 65536) : OutV a W (some q) v x ↔ (v = .slice none 0 0 ∧ x = errAt (a 2)) := by
  show (if q.length ≤ 65536 then _ else _) ↔ _
  rw [if_neg hq]
def Away (a : Nat → Addr) (F : Nat → Prop) : Prop := ∀ i, i < 19 → ¬ F (evars.getD i 0) ∧ ¬ F (a i).block
theorem Away.new {a : Nat → Addr} {W : World} (hE : Errs W a) {F : Nat → Prop} (hF : ∀ k, F k → W.heap.size ≤ k) : Away a F := fun i hi => by
  have h1 : evars.getD i 0 < W.heap.size := World.block_lt_of_cell? _ _ (hE.var i hi)
  have h2 := (hE.lies i hi).lt
  exact ⟨fun h => by have := hF _ h; omega, fun h => by have := hF _ h; omega⟩
theorem Away.more {a : Nat → Addr} {W : World} (hE : Errs W a) {F G : Nat → Prop} (hA : Away a F) (hG : ∀ k, G k → F k ∨ W.heap.size ≤ k) : Away a G := fun i hi => by
  have h1 := Away.new hE (F := fun k => W.heap.size ≤ k) (fun _ h => h) i hi
  exact ⟨fun h => (hG _ h).elim (hA i hi).1 h1.1, fun h => (hG _ h).elim (hA i hi).2 h1.2⟩
theorem Errs.kept {a : Nat → Addr} {W W' : World} {F : Nat → Prop} (hE : Errs W a) (hk : Kept F W W') (hA : Away a F) : Errs W' a :=
  ⟨fun i hi => (hk.cell (p := ⟨evars.getD i 0, 0, none⟩) (World.block_lt_of_cell? _ _ (hE.var i hi)) (hA i hi).1).trans (hE.var i hi),
   fun i hi => by
    obtain ⟨c, t, h⟩ := hE.lies i hi
    exact ⟨c, t, hk.heap h (hA i hi).2⟩, hE.apart⟩
def OutS (a : Nat → Addr) : OutP := fun W F p st _ =>
  F p ∧ (∀ k, F k → k < W.heap.size) ∧ Away a F ∧ ∃ v x, Two W p 205 v x ∧ (∀ k, v.ownBlock = some k → F k ∧ k ≠ p) ∧ OutV a W st v x

theorem OutV.kept {a : Nat → Addr} {W W' : World} {st : Option (List UInt8)} {v x : Value} {G : Nat → Prop} (h : OutV a W st v x) (hk : Kept G W W') (hv : ∀ k, v.ownBlock = some k → ¬ G k) : OutV a W' st v x := by
  cases st with
  | none => exact h
  | some q =>
    by_cases hq : q.length ≤ 65536
    · rw [outV_ok a _ v x hq] at *
      exact ⟨h.1, hk.own h.2 hv⟩
    · rw [outV_long a _ v x hq] at *
      exact h
theorem outS_keep {a : Nat → Addr} {W W' : World} {F G : Nat → Prop} {p : Nat} {st : Option (List UInt8)} {n : Nat} (h : OutS a W F p st n) (hk : Kept G W W') (hd : ∀ k, F k → ¬ G k) : OutS a W' F p st n := by
  obtain ⟨h1, h2, hA, v, x, h3, h4, h5⟩ := h
  exact ⟨h1, fun k hf => Nat.lt_of_lt_of_le (h2 k hf) hk.size, hA, v, x, h3.kept hk (hd p h1), h4, h5.kept hk (fun k hv => hd k (h4 k hv).1)⟩
theorem outS_new (a : Nat → Addr) (W : World) (hE : Errs W a) : OutS a (W.alloc (.cells #[.slice none 0 0, .nilIface] 205)) (fun k => k = W.heap.size) W.heap.size (some []) 0 :=
  ⟨rfl, fun k hk => by subst hk; simp, Away.new hE (fun k hk => by omega), _, _, Two.new _ _ _ _, fun k hk => by simp [Value.ownBlock] at hk, (outV_ok a _ _ _ (by simp)).2 ⟨rfl, by simp [u8s], .inl ⟨rfl, rfl⟩⟩⟩
theorem fail_any (v x : Value) (b : Addr) (p : Nat) (W : World) (h : Two W p 205 v x) :
    Calls Tryz.prog 147 #[.pointer (some ⟨p, 0, none⟩), errAt b] W fun e w' => e = .returned (.tuple #[]) ∧ Two w' p 205 (.slice none 0 0) (errAt b) ∧ Kept (fun k => k = p) W w' := by
  obtain ⟨_, h0, h1, hf⟩ := h.facts
  have H := Lib.hid h
  clear h
  go_enter Tryz.func147, Tryz.ntmps147
  go_wp2_with fail
  go_end0
  exact ⟨rfl, (H.out.setA _).setB _, ((Kept.refl (fun k => k = p) W).setCell (p := ⟨p, 0, none⟩) (.inl rfl) _).setCell (p := ⟨p, 1, none⟩) (.inl rfl) _⟩
end Go.Proofs.YtiafamacjpgjoaaGreatDoor

/- What a writer's room answers: whether so many bytes more are to be written; where they are too many, what is written is let go. -/
namespace Go.Proofs.YtiafamacjpgjoaaGreatDoor
open Go.RowKit Tide

theorem pown_form {W : World} {base n : Nat} {e : TypeId} {v : Value} {xs : List Value} (h : W.ownsRow base e 1 v n xs) : ∃ A c, v = .slice A n c := by
  rcases h.2 with ⟨rfl, rfl⟩ | ⟨g, cap, cur, rfl, _⟩
  · exact ⟨none, 0, rfl⟩
  · exact ⟨_, _, rfl⟩
theorem room_ok (A : Option Addr) (n c size p : Nat) (W : World) (h : Two W p 205 (.slice A n c) .nilIface) (hs : n + size ≤ 65536) :
    Calls Tryz.prog 148 #[.pointer (some ⟨p, 0, none⟩), .int .i64 size] W fun e w' => e = .returned (.bool true) ∧ W = w' := by
  obtain ⟨_, h0, h1, hf⟩ := h.facts
  have hq : decide ((65536 : Int) - (n : Int) < (size : Int)) = false := by simp; omega
  clear h
  go_enter Tryz.func148, Tryz.ntmps148
  go_wp2_with fail
  go_ret
  exact ⟨rfl, rfl⟩
theorem room_err (v : Value) (b : Addr) (size p : Nat) (W : World) (h : Two W p 205 v (errAt b)) :
    Calls Tryz.prog 148 #[.pointer (some ⟨p, 0, none⟩), .int .i64 size] W fun e w' => e = .returned (.bool false) ∧ W = w' := by
  obtain ⟨_, h0, h1, hf⟩ := h.facts
  clear h
  go_enter Tryz.func148, Tryz.ntmps148
  go_wp2_with fail
  go_ret
  exact ⟨rfl, rfl⟩
theorem room_long (a : Nat → Addr) (A : Option Addr) (n c size p : Nat) (W : World) (h : Two W p 205 (.slice A n c) .nilIface) (hn : n ≤ 65536) (hs : 65536 < n + size) (hE : Errs W a) :
    Calls Tryz.prog 148 #[.pointer (some ⟨p, 0, none⟩), .int .i64 size] W fun e w' => e = .returned (.bool false) ∧ Two w' p 205 (.slice none 0 0) (errAt (a 2)) ∧ Kept (fun k => k = p) W w' := by
  obtain ⟨_, h0, h1, hf⟩ := h.facts
  have H := Lib.hid h
  have hg := hE.var 2 (by omega)
  simp only [evars, List.getD_cons_zero, List.getD_cons_succ] at hg
  have hq : decide ((65536 : Int) - (n : Int) < (size : Int)) = true := by simp; omega
  clear h hE
  go_enter Tryz.func148, Tryz.ntmps148
  go_wp2_with fail
  refine (fail_any _ _ (a 2) p _ H.out).mono ?_
  rintro e w1 ⟨rfl, ht, hk⟩
  have HT := Lib.hid ht
  have HK := Lib.hid hk
  obtain ⟨_, g0, g1, gf⟩ := ht.facts
  clear ht hk h0 h1 hf hg
  go_wp2_with fail
  go_ret
  exact ⟨rfl, HT.out, HK.out⟩
def RoomR (a : Nat → Addr) (W : World) (F : Nat → Prop) (p : Nat) (st : Option (List UInt8)) (size : Nat) (e : Ending) (w' : World) : Prop :=
  (e = .returned (.bool true) ∧ W = w' ∧ ∃ q A c, st = some q ∧ q.length + size ≤ 65536 ∧ Two W p 205 (.slice A q.length c) .nilIface ∧ W.ownsRow 0 5 1 (.slice A q.length c) q.length (u8s q) ∧ ∀ k, (Value.slice A q.length c).ownBlock = some k → F k ∧ k ≠ p) ∨
  (e = .returned (.bool false) ∧ Kept F W w' ∧ ∀ (t : List UInt8) (n' : Nat), t.length = size → OutS a w' F p (st.map (· ++ t)) n')
theorem room_any (a : Nat → Addr) (W : World) (F : Nat → Prop) (p : Nat) (st : Option (List UInt8)) (n size : Nat) (h : OutS a W F p st n) (hE : Errs W a) :
    Calls Tryz.prog 148 #[.pointer (some ⟨p, 0, none⟩), .int .i64 size] W (RoomR a W F p st size) := by
  obtain ⟨h1, h2, hA, v, x, h3, h4, h5⟩ := h
  cases st with
  | none =>
    obtain ⟨rfl, rfl⟩ := h5
    exact (room_err _ _ size p W h3).mono fun e w' ⟨he, hw⟩ => .inr ⟨he, hw ▸ Kept.refl _ _, fun t n' _ => hw ▸ ⟨h1, h2, hA, _, _, h3, h4, rfl, rfl⟩⟩
  | some q =>
    by_cases hq : q.length ≤ 65536
    · rw [outV_ok a W v x hq] at h5
      obtain ⟨rfl, hown⟩ := h5
      obtain ⟨A, c, rfl⟩ := pown_form hown
      by_cases hs : q.length + size ≤ 65536
      · exact (room_ok A _ c size p W h3 hs).mono fun e w' ⟨he, hw⟩ => .inl ⟨he, hw, q, A, c, rfl, hs, h3, hown, h4⟩
      · refine (room_long a A _ c size p W h3 hq (by omega) hE).mono fun e w' ⟨he, ht, hk⟩ => .inr ⟨he, hk.mono fun i _ hi => by subst hi; exact h1, fun t n' hl => ?_⟩
        exact ⟨h1, fun k hf => Nat.lt_of_lt_of_le (h2 k hf) hk.size, hA, _, _, ht, fun k hk => by simp [Value.ownBlock] at hk, (outV_long a w' _ _ (by rw [List.length_append]; omega)).2 ⟨rfl, rfl⟩⟩
    · rw [outV_long a W v x hq] at h5
      obtain ⟨rfl, rfl⟩ := h5
      exact (room_err _ _ size p W h3).mono fun e w' ⟨he, hw⟩ => .inr ⟨he, hw ▸ Kept.refl _ _, fun t n' _ => hw ▸ ⟨h1, h2, hA, _, _, h3, h4, (outV_long a W _ _ (by rw [List.length_append]; omega)).2 ⟨rfl, rfl⟩⟩⟩
end Go.Proofs.YtiafamacjpgjoaaGreatDoor
