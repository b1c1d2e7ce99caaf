/- The document's own sequencer: Take of whatever. Not tied to package token's code. -/
import Derived.Test.YtfgpjelnijeoaaaDoorTkD
namespace Go.Proofs.YtfgpjelnijeoaaaDoor
open Go Go.RowKit Tide

/-- Take refused: the error's number, and all is as it was. -/
theorem take_no (s : SeqD) (ep : Int) (l : List Int) (v : Value) (B : Nat) (R : Nat → Prop) (g : Nat) (w : World) (h : SeqIs w R g s) (hv : Row w B v (int64s l))
    (hno : ep ≠ s.ep ∨ ¬ (1 ≤ l.length ∧ l.length ≤ 3 ∧ upB l = true) ∨ 4096 ≤ s.nx) :
    Calls Tryd.prog 13 #[.pointer (some ⟨g, 0, none⟩), .int .i64 ep, v] w fun e w' => e = .returned (.tuple #[.int .i64 0, .slice none 0 0, .int .i64 (takeD s ep l).1.2.2]) ∧ (takeD s ep l).1.1 = 0 ∧ (takeD s ep l).1.2.1 = [] ∧ (takeD s ep l).2 = s ∧ w' = w := by
  obtain ⟨vs, hs⟩ := h
  obtain ⟨hl, A, c, rfl, _⟩ := row_ints hv
  have hg := hs.low g hs.inR
  have CR := Lib.hid (right13_any l _ B w hv)
  have c0 := hs.epoch
  have c1 := hs.next
  obtain ⟨sep, nx, all⟩ := s
  clear hv hs
  by_cases he : ep = sep
  · subst he
    by_cases h1 : l.length < 1
    · have hd : takeD ⟨ep, nx, all⟩ ep l = ((0, [], 4), ⟨ep, nx, all⟩) := by
        unfold takeD; rw [if_neg (by simp), if_pos (by omega)]
      have i1 : (l.length : Int) < 1 := by omega
      rw [hd]
      clear hd hno CR
      go_enter Tryd.func13, Tryd.ntmps13
      go_wp2_with fail
      go_ret3
      first | exact rfl | exact ⟨rfl, trivial, trivial, trivial, rfl⟩ | simp
    · have i1 : ¬ (l.length : Int) < 1 := by omega
      by_cases h3 : 3 < l.length
      · have hd : takeD ⟨ep, nx, all⟩ ep l = ((0, [], 4), ⟨ep, nx, all⟩) := by
          unfold takeD; rw [if_neg (by simp), if_pos (by omega)]
        have i3 : (3 : Int) < (l.length : Int) := by omega
        rw [hd]
        clear hd hno CR
        go_enter Tryd.func13, Tryd.ntmps13
        go_wp2_with fail
        go_ret3
        first | exact rfl | exact ⟨rfl, trivial, trivial, trivial, rfl⟩ | simp
      · have i3 : ¬ (3 : Int) < (l.length : Int) := by omega
        cases hu : upB l with
        | false =>
          have hd : takeD ⟨ep, nx, all⟩ ep l = ((0, [], 4), ⟨ep, nx, all⟩) := by
            unfold takeD; rw [if_neg (by simp), if_pos (by rw [hu]; simp)]
          rw [hu] at CR
          rw [hd]
          clear hd hno
          go_enter Tryd.func13, Tryd.ntmps13
          go_wp2_with fail
          refine CR.out.mono ?_
          rintro en w1 ⟨rfl, rfl⟩
          clear CR
          go_wp2_with fail
          go_ret3
          first | exact rfl | exact ⟨rfl, trivial, trivial, trivial, rfl⟩ | simp
        | true =>
          have hn : 4096 ≤ nx := by
            rcases hno with h | h | h
            · exact absurd rfl h
            · exact absurd ⟨by omega, by omega, hu⟩ h
            · exact h
          have hd : takeD ⟨ep, nx, all⟩ ep l = ((0, [], 13), ⟨ep, nx, all⟩) := by
            unfold takeD; rw [if_neg (by simp), if_neg (by rw [hu]; simp; omega), if_pos hn]
          have i4 : (4096 : Int) ≤ (nx : Int) := by omega
          rw [hu] at CR
          rw [hd]
          clear hd hno
          go_enter Tryd.func13, Tryd.ntmps13
          go_wp2_with fail
          refine CR.out.mono ?_
          rintro en w1 ⟨rfl, rfl⟩
          clear CR
          go_wp2_with fail
          go_ret3
          first | exact rfl | exact ⟨rfl, trivial, trivial, trivial, rfl⟩ | simp
  · have hd : takeD ⟨sep, nx, all⟩ ep l = ((0, [], 8), ⟨sep, nx, all⟩) := by
      unfold takeD; rw [if_pos he]
    have q0 : (ep == sep) = false := by simp [he]
    have q1 : (ep != sep) = true := by simp [he]
    rw [hd]
    clear hd hno CR he
    go_enter Tryd.func13, Tryd.ntmps13
    go_wp2_with fail
    go_ret3
    first | exact rfl | exact ⟨rfl, trivial, trivial, trivial, rfl⟩ | simp

/-- Take. -/
theorem take13_any (s : SeqD) (ep : Int) (l : List Int) (v : Value) (B : Nat) (R : Nat → Prop) (g : Nat) (w : World) (h : SeqIs w R g s) (hv : Row w B v (int64s l)) (hB : B ≤ g) (hb : ∀ r ∈ s.all, r.length ≤ 100000) :
    Calls Tryd.prog 13 #[.pointer (some ⟨g, 0, none⟩), .int .i64 ep, v] w fun e w' => ∃ vb, e = .returned (.tuple #[.int .i64 (takeD s ep l).1.1, vb, .int .i64 (takeD s ep l).1.2.2]) ∧ OwnB w' w.heap.size vb (takeD s ep l).1.2.1 ∧
      (∃ R', SeqIs w' R' g (takeD s ep l).2 ∧ ∀ k, R' k → R k ∨ w.heap.size ≤ k) ∧ Kept (fun k => k = g) w w' := by
  by_cases hno : ep ≠ s.ep ∨ ¬ (1 ≤ l.length ∧ l.length ≤ 3 ∧ upB l = true) ∨ 4096 ≤ s.nx
  · refine (take_no s ep l v B R g w h hv hno).mono ?_
    rintro e w' ⟨rfl, h1, h2, h3, rfl⟩
    rw [h1, h2, h3]
    exact ⟨_, rfl, OwnB.nil _ _, ⟨R, h, fun k h => .inl h⟩, Kept.refl _ _⟩
  · have he : ep = s.ep := Classical.byContradiction fun h => hno (.inl h)
    have hr : 1 ≤ l.length ∧ l.length ≤ 3 ∧ upB l = true := Classical.byContradiction fun h => hno (.inr (.inl h))
    have hn : s.nx < 4096 := Nat.lt_of_not_le fun h => hno (.inr (.inr h))
    have hd : takeD s ep l = (((s.nx : Int), (takeL s.nx s.all l).1, 0), { s with nx := s.nx + 1, all := (takeL s.nx s.all l).2 }) := by
      unfold takeD; rw [if_neg (by simp [he]), if_neg (fun h => h hr), if_neg (by omega)]
    rw [hd, he]
    exact take_ok s l v B R g w h hv hB hb hr.1 hr.2.1 hr.2.2 hn
end Go.Proofs.YtfgpjelnijeoaaaDoor
