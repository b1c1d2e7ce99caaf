/- Parts of the law of what is written: which numbers can be written, how long items are. -/
import Derived.Test.YtcmihmilkcihcaaDoorPackI
import Derived.WalkKit
import Derived.WalkSpells
import Derived.Deep.QuietTactic
import Derived.BigQuiet
namespace Go.Proofs.YtcmihmilkcihcaaDoor
open Go.RowKit Tide

theorem lright_is (x : Int) (w : World) (b : Bool) (hb : rightB x = b) : Calls Tryd.prog 9 #[.int .i64 x] w fun e w' => e = .returned (.bool b) ∧ w = w' := by
  by_cases h0 : 0 ≤ x
  · have hq : decide (x ≤ 4611686018427387903) = b := by rw [← hb]; unfold rightB; rw [decide_eq_true h0]; rfl
    clear hb
    go_enter Tryd.func9, Tryd.ntmps9
    go_wp2_with fail
    go_ret
    exact ⟨rfl, rfl⟩
  · have hq : decide (0 ≤ x) = false := decide_eq_false h0
    obtain rfl : b = false := by rw [← hb]; unfold rightB; rw [hq]; rfl
    clear hb
    go_enter Tryd.func9, Tryd.ntmps9
    go_wp2_with fail
    go_ret
    exact ⟨rfl, rfl⟩

/-- An item's cells; its list lies in memory below B. -/
def ItemIs (w : World) (B : Nat) (d : ItemD) (e : List Value) : Prop := ∃ v, e = [.int .i64 d.kind, .int .i64 d.n, .string d.text, v] ∧ Row w B v (int64s d.list) ∧ (∀ z ∈ d.list, -9223372036854775808 ≤ z ∧ z ≤ 9223372036854775807) ∧ -9223372036854775808 ≤ d.n ∧ d.n ≤ 9223372036854775807
/-- Items that lie in memory below B. -/
def Items (w : World) (B : Nat) (v : Value) (ds : List ItemD) : Prop := ∃ es, Recs w B v 4 es ∧ es.length = ds.length ∧ ∀ i (h : i < ds.length), ∃ e, es[i]? = some e ∧ ItemIs w B ds[i] e
theorem Items.below {w w' : World} {B : Nat} {v : Value} {ds : List ItemD} (h : Items w B v ds) (hb : Below B w w') : Items w' B v ds := by
  obtain ⟨es, h1, h2, h3⟩ := h
  refine ⟨es, h1.below hb, h2, fun i hi => ?_⟩
  obtain ⟨e, he, v, rfl, hr, hz⟩ := h3 i hi
  exact ⟨_, he, v, rfl, Row.keep hr (below_cells hb), hz⟩
theorem Items.form {w : World} {B : Nat} {v : Value} {ds : List ItemD} (h : Items w B v ds) : ∃ A c, v = .slice A ds.length c ∧ ds.length ≤ 9223372036854775807 ∧ ∀ i (hi : i < ds.length), ∃ b o u, A = some ⟨b, o, none⟩ ∧ b < B ∧
    w.cell? ⟨b, o + i * 4, none⟩ = some (.int .i64 ds[i].kind) ∧ w.cell? ⟨b, o + i * 4 + 1, none⟩ = some (.int .i64 ds[i].n) ∧ w.cell? ⟨b, o + i * 4 + 2, none⟩ = some (.string ds[i].text) ∧ w.cell? ⟨b, o + i * 4 + 3, none⟩ = some u ∧
    Row w B u (int64s ds[i].list) ∧ (∀ z ∈ ds[i].list, -9223372036854775808 ≤ z ∧ z ≤ 9223372036854775807) ∧ -9223372036854775808 ≤ ds[i].n ∧ ds[i].n ≤ 9223372036854775807 := by
  obtain ⟨es, ⟨hn, A, c, rfl, hc⟩, hl, h3⟩ := h
  refine ⟨A, c, by rw [hl], by omega, fun i hi => ?_⟩
  obtain ⟨e, he, v, rfl, hr, hz⟩ := h3 i hi
  obtain ⟨b, o, rfl, hb, hcell⟩ := hc (by intro e; subst e; simp at he)
  have e : ∀ j, o + i * 4 + j = o + (i * 4 + j) := fun j => Nat.add_assoc _ _ _
  exact ⟨b, o, v, rfl, hb, hcell i 0 _ _ he rfl, by rw [e]; exact hcell i 1 _ _ he rfl, by rw [e]; exact hcell i 2 _ _ he rfl, by rw [e]; exact hcell i 3 _ _ he rfl, hr, hz⟩

/-- Items that are more than is asked. -/
def longI (ds : List ItemD) : Bool := decide (20 < ds.length) || ds.any fun d => decide (300 < d.text.size) || decide (30 < d.list.length)
theorem any_dropI (ds : List ItemD) (k : Nat) (h : k < ds.length) (f : ItemD → Bool) : (ds.drop k).any f = (f ds[k] || (ds.drop (k + 1)).any f) := by
  rw [List.drop_eq_getElem_cons h, List.any_cons]

set_option maxHeartbeats 1000000 in
theorem llong_is (v : Value) (ds : List ItemD) (w : World) (B : Nat) (hB : B ≤ w.heap.size) (hi : Items w B v ds) (b : Bool) (hb : longI ds = b) :
    Calls Tryd.prog 7 #[v] w fun e w' => e = .returned (.bool b) ∧ Below w.heap.size w w' := by
  obtain ⟨A, c, rfl, hn, hcell⟩ := hi.form
  clear hi
  by_cases h20 : 20 < ds.length
  · obtain rfl : b = true := by rw [← hb]; unfold longI; rw [decide_eq_true h20]; rfl
    clear hb hcell
    go_enter Tryd.func7, Tryd.ntmps7
    go_wp2_with fail
    go_ret
    exact ⟨rfl, Below.refl _ _⟩
  · have hb2 := Lib.hid (show (ds.any fun d => decide (300 < d.text.size) || decide (30 < d.list.length)) = b by rw [← hb]; unfold longI; rw [decide_eq_false h20]; rfl)
    have HC := Lib.hid hcell
    have hq20 : decide ((20 : Int) < (ds.length : Int)) = false := by simp; omega
    clear hb hcell
    go_enter Tryd.func7, Tryd.ntmps7
    go_wp2_with fail
    go_loopw [10] (fun i wr => ∃ k : Nat, i = .int .i64 k ∧ k ≤ ds.length ∧ Hid (((ds.drop k).any fun d => decide (300 < d.text.size) || decide (30 < d.list.length)) = b) ∧ Below w.heap.size w wr) (fun i _ => ds.length - (intOf i).toNat)
    case atStart => exact ⟨0, rfl, Nat.zero_le _, hb2, Below.refl _ _⟩
    case round =>
      obtain ⟨k, rfl, hk, hany, hb⟩ := hrel
      have HB := Lib.hid hb
      by_cases hlt : k < ds.length
      · obtain ⟨bb, o, u, rfl, hbl, h0, h1, h2, h3, hr, _⟩ := HC.out k hlt
        have hd := any_dropI ds k hlt (fun d => decide (300 < d.text.size) || decide (30 < d.list.length))
        rw [hany.out] at hd
        have HD := Lib.hid hd
        have k0 := ((hb.cell (p := ⟨bb, o + k * 4, none⟩) (by show bb < w.heap.size; omega)).trans h0)
        have k1 := ((hb.cell (p := ⟨bb, o + k * 4 + 1, none⟩) (by show bb < w.heap.size; omega)).trans h1)
        have k2 := ((hb.cell (p := ⟨bb, o + k * 4 + 2, none⟩) (by show bb < w.heap.size; omega)).trans h2)
        have k3 := ((hb.cell (p := ⟨bb, o + k * 4 + 3, none⟩) (by show bb < w.heap.size; omega)).trans h3)
        obtain ⟨_, A', c', rfl, _, _, _⟩ := hr
        rw [int64s_length] at k3
        clear hd hb h0 h1 h2 h3
        generalize ds[k] = d at *
        have n1 : ¬ bb = wr.heap.size := by have := HB.out.size; omega
        by_cases c1 : 300 < d.text.size
        · have hbt := Lib.hid (show b = true by rw [HD.out, decide_eq_true c1]; rfl)
          have q1 : decide ((300 : Int) < (d.text.size : Int)) = true := by simp; omega
          clear c1
          go_wp2_with fail
          go_ret
          exact ⟨by rw [hbt.out]; rfl, HB.out.alloc HB.out.size _⟩
        · have q1 : decide ((300 : Int) < (d.text.size : Int)) = false := by simp; omega
          by_cases c2 : 30 < d.list.length
          · have hbt := Lib.hid (show b = true by rw [HD.out, decide_eq_true c2]; simp)
            have q2 : decide ((30 : Int) < (d.list.length : Int)) = true := by simp; omega
            clear c1 c2
            go_wp2_with fail
            go_ret
            exact ⟨by rw [hbt.out]; rfl, HB.out.alloc HB.out.size _⟩
          · have hbt := Lib.hid (show ((ds.drop (k + 1)).any fun d => decide (300 < d.text.size) || decide (30 < d.list.length)) = b by rw [HD.out, decide_eq_false c1, decide_eq_false c2]; rfl)
            have q2 : decide ((30 : Int) < (d.list.length : Int)) = false := by simp; omega
            clear c1 c2
            go_wp2_with fail
            go_roundw
            case rel => exact ⟨k + 1, by go_num, by omega, hbt, HB.out.alloc HB.out.size _⟩
            case measure => simp [intOf]; omega
      · have hend := Lib.hid (show b = false by rw [← hany.out, List.drop_of_length_le (by omega)]; rfl)
        clear hb
        go_wp2_with fail
        go_ret
        exact ⟨by rw [hend.out]; rfl, HB.out⟩
end Go.Proofs.YtcmihmilkcihcaaDoor
