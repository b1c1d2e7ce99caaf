/- Package token: Backs. -/
import Derived.Test.YtfgpjelnijeoaaaDoorTkL
import Derived.Test.YtfgpjelnijeoaaaDoorTkG
namespace Go.Proofs.YtfgpjelnijeoaaaDoor
open Go Go.RowKit Tide

section
variable {a : Nat → Addr} {w w' : World} {g : Nat} {s : SeqD}
set_option maxRecDepth 100000 in
set_option maxHeartbeats 2000000 in
theorem backs_tok (h : TokIs w g s) :
    Calls Tryd.prog 29 #[.pointer (some ⟨g, 0, none⟩)] w fun e w' => ∃ v, e = .returned v ∧ OwnB w' w.heap.size v (backsD s.all) ∧ Below w.heap.size w w' := by
  have HT := Lib.hid h
  have hg := h.lt
  have O0 := Lib.hid (OwnB.nil w w.heap.size)
  have B0 := Lib.hid (Below.refl w.heap.size w)
  obtain ⟨ep, nx, all⟩ := s
  clear h
  go_enter Tryd.func29, Tryd.ntmps29
  go_wp2_with fail
  go_loopw [3, 5] (fun u z wr => ∃ k : Nat, z = .int .i64 k ∧ k ≤ 13 ∧ Hid (OwnB wr w.heap.size u ((List.range k).filterMap (backD all))) ∧ Hid (Below w.heap.size w wr)) (fun _ z _ => 13 - (intOf z).toNat)
  case atStart => exact ⟨0, rfl, Nat.zero_le _, O0, B0⟩
  case round =>
    clear O0 B0
    obtain ⟨k, rfl, hk, hO, hBr⟩ := hrel
    by_cases hlt : k < 13
    · have hT := HT.out.below hBr.out
      have i1 : (k : Int) < 13 := by omega
      have HBD := Lib.hid (backs_snoc all k)
      have HB1 := Lib.hid (show backD all k = if all.getD k [] = [] then none else some ((k : Int), (all.getD k []).take 4) from rfl)
      obtain ⟨cs, hcs, hcc⟩ := hT
      have hna : all.length = 13 := hcc.na
      have hrow : all[k]? = some (all.getD k []) := by rw [List.getD_eq_getElem?_getD, List.getElem?_eq_getElem (by omega)]; rfl
      obtain ⟨_, _, _, _, _, _, _, _, h4, _⟩ := hcc.row k _ hrow
      have c4 := hcs.cell h4
      have hg4 := hcs.lt
      have CB := Lib.hid (back_tok ⟨cs, hcs, hcc⟩ k hlt)
      simp only [] at CB
      generalize all.getD k [] = l at *
      have hl13 : ((List.range k).filterMap (backD all)).length ≤ 13 := by
        have := List.length_filterMap_le (backD all) (List.range k)
        rw [List.length_range] at this
        omega
      clear hcs hcc hrow h4
      by_cases hz : l = []
      · have H9 := Lib.hid (show (List.range (k + 1)).filterMap (backD all) = (List.range k).filterMap (backD all) from by rw [HBD.out, HB1.out, if_pos hz]; simp)
        subst hz
        have O2 := Lib.hid (show OwnB wr w.heap.size u3 ((List.range (k + 1)).filterMap (backD all)) from by rw [H9.out]; exact hO.out)
        have c4 : wr.cell? ⟨g, 2 + k * 5 + 4, none⟩ = some (.int .i64 0) := c4
        clear CB
        go_wp2_with fail
        go_roundw
        case rel => exact ⟨k + 1, by go_num, by omega, O2, hBr⟩
        case measure => simp [intOf]; omega
      · have H9 := Lib.hid (show (List.range (k + 1)).filterMap (backD all) = (List.range k).filterMap (backD all) ++ [((k : Int), l.take 4)] from by rw [HBD.out, HB1.out, if_neg hz]; rfl)
        have i2 : (0 : Int) < ((min l.length 4 : Nat) : Int) := by have := List.length_pos_iff.2 hz; omega
        obtain ⟨m, hm⟩ : ∃ m, min l.length 4 = m := ⟨_, rfl⟩
        rw [hm] at c4 i2
        clear hm hz
        go_wp2_with fail
        refine CB.out.mono ?_
        rintro en w2 ⟨u', rfl, ho, hb⟩
        obtain ⟨Au, nu, cu, rfl⟩ := ho.form
        have B2 := Lib.hid (hBr.out.trans (hb.mono hBr.out.size))
        have O2 := Lib.hid (hO.out.below hb)
        have U2 := Lib.hid ho
        have HAP := Lib.hid (show ∀ k, u3.ownBlock = some k → (Value.slice Au nu cu).ownBlock ≠ some k from fun k h1 h2 => by
          have := (hO.out.lt k h1).2
          have := (ho.lt k h2).1
          omega)
        clear ho hb CB
        go_wp2_with (at_builtin; refine wpList_pushB rfl (.tmp 16) (.tmp 20) rfl (k : Int) (.slice Au nu cu) _ rfl rfl O2.out (own_later U2.out hBr.out.size) HAP.out U2.out.one (by omega) B2.out.size ?_; intro vo w3 h1 h2 h3; have O3 := Lib.hid (show OwnB w3 w.heap.size vo ((List.range (k + 1)).filterMap (backD all)) from by rw [H9.out]; exact h1); have B3 := Lib.hid (Tide.Below.kept B2.out h2 B2.out.size (fun j hj => (O2.out.lt j hj).1)); clear h1 h2 h3)
        go_roundw
        case rel => exact ⟨k + 1, by go_num, by omega, O3, B3⟩
        case measure => simp [intOf]; omega
    · have e : k = 13 := by omega
      subst e
      go_wp2_with fail
      go_ret
      exact ⟨_, rfl, hO.out, hBr.out⟩
end
end Go.Proofs.YtfgpjelnijeoaaaDoor
