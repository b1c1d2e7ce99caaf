/- A page's backs in memory: a slice of structs of a stream's number and its elder addresses. It walks nothing. -/
import Derived.Test.YtcddgllckadodaaDoorGPackIm
import Derived.Test.YtcddgllckadodaaDoorGPackN
namespace Go.Proofs.YtcddgllckadodaaDoor
open Go.RowKit Tide

def BackIs (w : World) (B : Nat) (d : BackD) (e : List Value) : Prop := ∃ u, e = [.int .i64 d.stream, u] ∧ Row w B u (int64s d.list)
/-- Backs that lie in memory below B. -/
def Backs (w : World) (B : Nat) (v : Value) (ds : List BackD) : Prop := ∃ es, Recs w B v 2 es ∧ es.length = ds.length ∧ ∀ i (h : i < ds.length), ∃ e, es[i]? = some e ∧ BackIs w B ds[i] e
section
variable {w w' : World} {B B' : Nat} {v : Value} {ds : List BackD}
theorem Backs.below (h : Backs w B v ds) (hb : Below B w w') : Backs w' B v ds := by
  obtain ⟨es, h1, h2, h3⟩ := h
  refine ⟨es, h1.below hb, h2, fun i hi => ?_⟩
  obtain ⟨e, he, u, rfl, hr⟩ := h3 i hi
  exact ⟨_, he, u, rfl, Row.keep hr (below_cells hb)⟩
theorem Backs.form (h : Backs w B v ds) : ∃ A c, v = .slice A ds.length c ∧ ds.length ≤ 9223372036854775807 ∧ ∀ i (hi : i < ds.length), ∃ b o u, A = some ⟨b, o, none⟩ ∧ b < B ∧
    w.cell? ⟨b, o + i * 2, none⟩ = some (.int .i64 ds[i].stream) ∧ w.cell? ⟨b, o + i * 2 + 1, none⟩ = some u ∧ Row w B u (int64s ds[i].list) := by
  obtain ⟨es, ⟨hn, A, c, rfl, hc⟩, hl, h3⟩ := h
  refine ⟨A, c, by rw [hl], by omega, fun i hi => ?_⟩
  obtain ⟨e, he, u, rfl, hr⟩ := h3 i hi
  obtain ⟨b, o, rfl, hb, hcell⟩ := hc (by intro e; subst e; simp at he)
  have e : ∀ j, o + i * 2 + j = o + (i * 2 + j) := fun j => Nat.add_assoc _ _ _
  exact ⟨b, o, u, rfl, hb, hcell i 0 _ _ he rfl, by rw [e]; exact hcell i 1 _ _ he rfl, hr⟩
end
theorem fall_drop (b : Int) (l : List Int) (k : Nat) (h : k < l.length) : fallB b (l.drop k) = ((decide (0 ≤ l[k]) && decide (l[k] < b)) && fallB l[k] (l.drop (k + 1))) := by
  rw [List.drop_eq_getElem_cons h]
  rfl
theorem rights_drop (ds : List BackD) (ss : List Int) (k : Nat) (h : k < ds.length) (h2 : k < ss.length) :
    rightBs (ds.drop k) (ss.drop k) = ((decide (ds[k].stream = ss[k]) && rightLB ds[k].list) && rightBs (ds.drop (k + 1)) (ss.drop (k + 1))) := by
  rw [List.drop_eq_getElem_cons h, List.drop_eq_getElem_cons h2]
  rfl
theorem rights_len : ∀ (ds : List BackD) (ss : List Int), ds.length ≠ ss.length → rightBs ds ss = false
  | [], [], h => absurd rfl h
  | [], _ :: _, _ => rfl
  | _ :: _, [], _ => rfl
  | d :: ds, s :: ss, h => by
    show ((_ && _) && rightBs ds ss) = false
    rw [rights_len ds ss (by simpa using h), Bool.and_false]
end Go.Proofs.YtcddgllckadodaaDoor
