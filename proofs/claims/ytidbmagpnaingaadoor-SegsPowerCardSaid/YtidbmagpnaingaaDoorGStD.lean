/- A few segments sorted; Open of an image that holds a store. -/
import Derived.Test.YtidbmagpnaingaaDoorGStB
import Derived.Test.YtidbmagpnaingaaDoorGStO
namespace Go.Proofs.YtidbmagpnaingaaDoor
open Go.RowKit Go.Shelf Tide

section
variable {W : World} {us : List SegU} {b c n : Nat}
theorem stable_any (h : W.ownsRow 0 83 3 (.slice (some ⟨b, 0, none⟩) n c) n (us.flatMap SegU.cells)) (hn : us.length = n) (hmax : n ≤ 19) :
    Calls Tryd.prog 54 #[.slice (some ⟨b, 0, none⟩) n c, .int .i64 (n : Nat), .func (.func 32) #[] #[]] W fun e w' => e = .returned (.tuple #[]) ∧ w'.ownsRow 0 83 3 (.slice (some ⟨b, 0, none⟩) n c) n ((sortN us n).flatMap SegU.cells) ∧ Kept (fun k => k = b) W w' := by
  have CI := Lib.hid (insert_any h hn (by omega))
  have q1 : decide ((20 : Int) ≤ (n : Int)) = false := decide_eq_false (by omega)
  have q2 : decide ((20 : Int) < (n : Int)) = false := decide_eq_false (by omega)
  have q1n : decide (20 ≤ n) = false := decide_eq_false (by omega)
  have q2n : decide (20 < n) = false := decide_eq_false (by omega)
  clear h hn
  go_enter Tryd.func54, Tryd.ntmps54
  go_wp2_with fail
  refine wp_loop_rounds 1 ?_
  rw [rounds_succ]
  go_wp2_with fail
  refine CI.out.mono ?_
  rintro e w1 ⟨rfl, ho, hk⟩
  have HO := Lib.hid ho
  have HK := Lib.hid hk
  clear ho hk CI
  go_wp2_with fail
  refine wp_loop_rounds 1 ?_
  rw [rounds_succ]
  go_wp2_with fail
  go_end0
  exact ⟨rfl, HO.out, HK.out⟩
theorem sort_any (vs : Value) (h : W.ownsRow 0 83 3 vs us.length (us.flatMap SegU.cells)) (hmax : us.length ≤ 19) :
    Calls Tryd.prog 31 #[vs, .func (.func 32) #[] #[]] W fun e w' => e = .returned (.tuple #[]) ∧ w'.ownsRow 0 83 3 vs us.length ((sortN us us.length).flatMap SegU.cells) ∧ Kept (fun k => vs.ownBlock = some k) W w' := by
  by_cases h0 : us.length = 0
  · obtain ⟨A, c, rfl⟩ : ∃ A c, vs = .slice A 0 c := by
      rcases h.2 with ⟨h1, _⟩ | ⟨g, cap, cur, h1, _⟩
      · exact ⟨none, 0, h1⟩
      · exact ⟨_, cap, by rw [h1, h0]⟩
    refine (sort_nil A c W).mono ?_
    rintro e w' ⟨rfl, rfl⟩
    rw [h0] at h ⊢
    exact ⟨rfl, h, Kept.refl _ _⟩
  · obtain ⟨g, cap, rfl, _, _⟩ := h.form (by omega)
    have CI := Lib.hid (stable_any h rfl hmax)
    go_enter Tryd.func31, Tryd.ntmps31
    go_wp2_with fail
    refine CI.out.mono ?_
    rintro e w1 ⟨rfl, ho, hk⟩
    have HO := Lib.hid ho
    have HK := Lib.hid hk
    clear ho hk CI
    go_wp2_with fail
    go_end0
    exact ⟨rfl, HO.out, HK.out.mono (fun k _ e => by subst e; rfl)⟩
end
section
variable {D : DvP} {x : Nat → Addr} {w W : World} {dev n : Nat} {d : Dv} {m : StoD}
/-- Open of a device whose image holds a store. -/
theorem open_raw (hD : DvSpec x D) {Fd : Nat → Prop} (h1 : D W Fd dev d) (hpe : d.pend = []) (hL : LiesM n d.img m) (hn : 64 ≤ n) (hn2 : n ≤ 1000) (hno : ∀ g ∈ m.segs, g.number < 2 ^ 63) :
    Calls Tryd.prog 11 #[.pointer (some ⟨dev, 0, none⟩)] W fun e w' => ∃ p Fs vs, e = .returned (.tuple #[.pointer (some ⟨p, 0, none⟩), .nilIface]) ∧ D w' Fd dev d ∧ StW w' Fs p dev (usOf m) vs ∧ (∀ k, Fs k → W.heap.size ≤ k) ∧ Below W.heap.size W w' := by
  have hl : d.img.length / 64 = n := by have := hL.len; omega
  have hfl : flushD d.img d.pend = d.img := by rw [hpe]; rfl
  have hml := marked_len d.img (n / 64)
  have hop := open_any hD h1 (by omega) (fun y hy hmk => by
    rw [hfl] at hmk ⊢
    have hy' : y < n / 64 := by rw [← hl]; exact hy
    by_cases hex : ∃ g ∈ m.segs, g.place = y
    · obtain ⟨g, hg, rfl⟩ := hex
      rw [(hL.segs g hg).num]
      exact hno g hg
    · exact absurd hmk (hL.free y (by rw [hL.places]; exact hy') (fun g hg e => hex ⟨g, hg, e⟩))) (fun W' vs ho => by
    rw [hfl, hl] at ho ⊢
    exact sort_any vs ho (by omega))
  rw [hfl, hl, open_is hL] at hop
  exact hop
/-- The same, of a device made since a law's beginning. -/
theorem LD.open (hD : DvSpec x D) (h : LD D w dev d W) (hpe : d.pend = []) (hL : LiesM n d.img m) (hn : 64 ≤ n) (hn2 : n ≤ 1000) (hno : ∀ g ∈ m.segs, g.number < 2 ^ 63) :
    Calls Tryd.prog 11 #[.pointer (some ⟨dev, 0, none⟩)] W fun e w' => ∃ p, e = .returned (.tuple #[.pointer (some ⟨p, 0, none⟩), .nilIface]) ∧ LS D w p dev (usOf m) d w' := by
  obtain ⟨Fd, h1, h4, h5⟩ := h
  have hz := h5.size
  have hlt := hD.lt _ _ _ _ h1
  refine (open_raw hD h1 hpe hL hn hn2 hno).mono ?_
  rintro e w' ⟨p, Fs, vs, rfl, g1, g2, g3, g4⟩
  refine ⟨p, rfl, Fd, Fs, vs, g1, g2, fun k hk hs => ?_, fun k hk => ?_, h5.trans (g4.mono hz)⟩
  · have := hlt k hk
    have := g3 k hs
    omega
  · rcases hk with hk | hk
    · exact h4 k hk
    · have := g3 k hk; omega
end
end Go.Proofs.YtidbmagpnaingaaDoor
