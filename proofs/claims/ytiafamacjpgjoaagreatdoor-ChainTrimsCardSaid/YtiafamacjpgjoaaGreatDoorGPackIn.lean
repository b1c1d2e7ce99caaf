/- What a reader keeps in its two fields, and what Read, Left, Err, End and Num do. -/
import Derived.Test.YtiafamacjpgjoaaGreatDoorGPackD
import Derived.Test.YtiafamacjpgjoaaGreatDoorGRNumW
import Derived.Test.YtiafamacjpgjoaaGreatDoorGClone
import Derived.Test.YtiafamacjpgjoaaGreatDoorGPackO
namespace Go.Proofs.YtiafamacjpgjoaaGreatDoor
open Go.RowKit Tide

def InS (a : Nat → Addr) : InP := fun W F B p l e =>
  B ≤ W.heap.size ∧ F p ∧ (∀ k, F k → B ≤ k ∧ k < W.heap.size) ∧ Away a F ∧ ∃ v x, Two W p 223 v x ∧ IsErr a x e ∧ BytesIn W (fun k => F k ∧ k ≠ p) v l

section
variable {a : Nat → Addr} {W W' : World} {F G : Nat → Prop} {B p e : Nat} {l : List UInt8}
theorem inS_lt (h : InS a W F B p l e) : B ≤ W.heap.size ∧ ∀ k, F k → B ≤ k ∧ k < W.heap.size := ⟨h.1, h.2.2.1⟩
theorem inS_keep (h : InS a W F B p l e) (hk : Kept G W W') (hd : ∀ k, F k → ¬ G k) : InS a W' F B p l e := by
  obtain ⟨h1, h2, h3, hA, v, x, h4, h5, h6⟩ := h
  exact ⟨Nat.le_trans h1 hk.size, h2, fun k hf => ⟨(h3 k hf).1, Nat.lt_of_lt_of_le (h3 k hf).2 hk.size⟩, hA, v, x, h4.kept hk (hd p h2), h5, h6.kept hk (fun k hf => ⟨hd k hf.1, (h3 k hf.1).2⟩)⟩
theorem inS_form (h : InS a W F B p l e) : ∃ A c x, Two W p 223 (.slice A l.length c) x ∧ IsErr a x e ∧ BytesIn W (fun k => F k ∧ k ≠ p) (.slice A l.length c) l := by
  obtain ⟨_, _, _, _, v, x, h4, h5, h6⟩ := h
  have h6' := h6
  obtain ⟨_, A, c, rfl, _⟩ := h6'
  exact ⟨A, c, x, h4, h5, h6⟩
theorem inS_put (h : InS a W F B p l e) {w2 : World} {v' x' : Value} {l' : List UInt8} {e' : Nat} (hk : Kept (fun k => k = p) W w2) (hT : Two w2 p 223 v' x') (hx : IsErr a x' e') (hb : BytesIn W (fun k => F k ∧ k ≠ p) v' l') :
    InS a w2 F B p l' e' ∧ (∀ k, F k → F k ∨ W.heap.size ≤ k) ∧ Kept F W w2 := by
  obtain ⟨h1, h2, h3, hA, _⟩ := h
  exact ⟨⟨Nat.le_trans h1 hk.size, h2, fun k hf => ⟨(h3 k hf).1, Nat.lt_of_lt_of_le (h3 k hf).2 hk.size⟩, hA, v', x', hT, hx, hb.kept hk (fun k hf => ⟨hf.2, (h3 k hf.1).2⟩)⟩, fun k hf => .inl hf, hk.mono fun i _ hi => by subst hi; exact h2⟩
end

set_option maxHeartbeats 1000000 in
theorem pread_any (a : Nat → Addr) (w : World) (v : Value) (B : Nat) (l : List UInt8) (hv : Bytes w B v l) (hB : B ≤ w.heap.size) (hl : l.length ≤ 100000) (hE : Errs w a) :
    Calls Tryz.prog 120 #[v] w fun e w' => ∃ p F, e = .returned (.pointer (some ⟨p, 0, none⟩)) ∧ InS a w' F B p l 0 ∧ (∀ k, F k → w.heap.size ≤ k) ∧ Below w.heap.size w w' := by
  have cC := Lib.hid (clone_any v l B w hv hB (by omega))
  have HE := Lib.hid hE
  obtain ⟨A0, c0, rfl, _, _, _⟩ := hv.form
  clear hv hE
  go_enter Tryz.func120, Tryz.ntmps120
  go_wp2_with fail
  refine cC.out.mono ?_
  rintro e w1 ⟨v1, rfl, ho, hb⟩
  obtain ⟨A, c, hv1⟩ := pown_form ho
  rw [hv1] at ho ⊢
  have HO := Lib.hid ho
  have HB := Lib.hid hb
  clear ho hb hv1 v1
  go_wp2_with fail
  go_ret
  have hs := HB.out.size
  have hbel : Below w.heap.size w (w1.alloc (.cells #[.slice A l.length c, .nilIface] 223)) := HB.out.alloc hs _
  refine ⟨w1.heap.size, fun k => w.heap.size ≤ k ∧ k < w1.heap.size + 1, rfl, ⟨Nat.le_trans hB hbel.size, ⟨hs, Nat.lt_succ_self _⟩, fun k hf => ⟨Nat.le_trans hB hf.1, by simpa using hf.2⟩, Away.new HE.out (fun k hf => hf.1), _, _, Two.new _ _ _ _, isErr_nil a, ?_⟩, fun k hf => hf.1, hbel⟩
  have hbi : BytesIn w1 (fun k => (w.heap.size ≤ k ∧ k < w1.heap.size + 1) ∧ k ≠ w1.heap.size) (.slice A l.length c) l := BytesIn.of_own HO.out (fun k h1 h2 => ⟨⟨h1, by omega⟩, by omega⟩)
  exact hbi.kept (Kept.of_below (F := fun _ => False) ((Below.refl _ _).alloc (Nat.le_refl _) _)) (fun k hf => ⟨fun h => h, by have := hf.1.2; have := hf.2; omega⟩)

theorem inEnd_any (a : Nat → Addr) (W : World) (F : Nat → Prop) (B p : Nat) (l : List UInt8) (e : Nat) (h : InS a W F B p l e) (hE : Errs W a) :
    Calls Tryz.prog 123 #[.pointer (some ⟨p, 0, none⟩)] W fun en w' => (∃ x, en = .returned x ∧ IsErr a x (inEnd l e)) ∧ Below W.heap.size W w' := by
  obtain ⟨A, c, x, h4, h5, _⟩ := inS_form h
  obtain ⟨_, g0, g1, gf⟩ := h4.facts
  have hg := hE.var 3 (by omega)
  simp only [evars, List.getD_cons_zero, List.getD_cons_succ] at hg
  clear h h4 hE
  rcases h5 with ⟨rfl, rfl⟩ | ⟨m, hm, rfl, rfl⟩
  · by_cases hl : l.length = 0
    · have hq : decide ((0 : Int) < (l.length : Int)) = false := decide_eq_false (by omega)
      have hq2 : ¬ 0 < l.length := by omega
      have hN := Lib.hid (show inEnd l 0 = 0 by have : l = [] := List.eq_nil_of_length_eq_zero hl; subst this; rfl)
      clear hl
      go_enter Tryz.func123, Tryz.ntmps123
      go_wp2_with fail
      go_ret
      exact ⟨⟨_, rfl, by rw [hN.out]; exact isErr_nil a⟩, Below.refl _ _⟩
    · have hq : decide ((0 : Int) < (l.length : Int)) = true := decide_eq_true (by omega)
      have hq2 : 0 < l.length := by omega
      have hN := Lib.hid (show inEnd l 0 = 4 by cases l with | nil => exact absurd rfl hl | cons => rfl)
      clear hl
      go_enter Tryz.func123, Tryz.ntmps123
      go_wp2_with fail
      go_ret
      exact ⟨⟨_, rfl, by rw [hN.out]; exact isErr_at a 3 (by omega)⟩, Below.refl _ _⟩
  · have hN := Lib.hid (show inEnd l (m + 1) = m + 1 from if_pos (by omega))
    go_enter Tryz.func123, Tryz.ntmps123
    go_wp2_with fail
    go_ret
    exact ⟨⟨_, rfl, by rw [hN.out]; exact isErr_at a m hm⟩, Below.refl _ _⟩
end Go.Proofs.YtiafamacjpgjoaaGreatDoor
