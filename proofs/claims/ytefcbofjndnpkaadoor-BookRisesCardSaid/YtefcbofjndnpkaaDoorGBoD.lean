/- Package plan's Read, of a right plan's bytes. -/
import Derived.Test.YtefcbofjndnpkaaDoorGPackD
import Derived.Test.YtefcbofjndnpkaaDoorGPackIm
import Derived.Test.YtefcbofjndnpkaaDoorGPlCa
import Derived.Deep.RegionLaw
import Derived.Deep.RegionHeld3
namespace Go.Proofs.YtefcbofjndnpkaaDoor
open Go.RowKit Tide

section
variable {w w' : World} {base base' : Nat} {v v' u : Value} {vs : List Value} {cs : List (List Int)} {c : List Int}
theorem GridO.off {F : Nat → Prop} (h : GridO w base v vs cs) (hk : Kept F w w') (hF : ∀ k, F k → v.ownBlock ≠ some k ∧ ∀ x ∈ vs, x.ownBlock ≠ some k) : GridO w' base v vs cs :=
  ⟨hk.own h.outer (fun k hv hf => (hF k hf).1 hv), fun i x c hx hc => hk.own (h.rows i x c hx hc) (fun k hv hf => (hF k hf).2 x (List.mem_of_getElem? hx) hv), h.apart⟩
theorem GridO.mem (h : GridO w base v vs cs) {x : Value} (hx : x ∈ vs) : ∃ c, Own w base x c := by
  obtain ⟨i, hi, rfl⟩ := List.getElem_of_mem hx
  have hc : i < cs.length := by rw [← h.len]; exact hi
  exact ⟨_, h.rows i _ _ (List.getElem?_eq_getElem hi) (List.getElem?_eq_getElem hc)⟩
theorem GridO.nil (w : World) (base : Nat) : GridO w base (.slice none 0 0) [] [] :=
  ⟨⟨rfl, .inl ⟨rfl, rfl⟩⟩, fun i u c hu => by simp at hu, fun i j u u' k hij hu => by simp at hu⟩
/-- A row more. -/
theorem GridO.push (h : GridO w base v vs cs) (ho : Own w base u c) (hf : ∀ k, u.ownBlock = some k → ∀ x ∈ vs, x.ownBlock ≠ some k) (hout : w'.ownsRow base 34 1 v' (cs.length + 1) (vs ++ [u])) (hk : Kept (fun k => v.ownBlock = some k) w w') : GridO w' base v' (vs ++ [u]) (cs ++ [c]) := by
  have hl := h.len
  have hrow : ∀ {x : Value} {m : List Int}, Own w base x m → Own w' base x m := fun {x m} hx => hk.own hx (fun k hv hv' => ownV_ne hx h.outer (by decide) k hv hv')
  refine ⟨by rw [List.length_append]; exact hout, fun i x m hx hm => ?_, fun i j x y k hij hx hy hkx hky => ?_⟩
  · by_cases e : i < vs.length
    · rw [List.getElem?_append_left e] at hx
      rw [List.getElem?_append_left (by omega)] at hm
      exact hrow (h.rows i x m hx hm)
    · rw [List.getElem?_append_right (by omega)] at hx hm
      rw [hl] at hx
      have h0 : i - cs.length = 0 := by
        have := (List.getElem?_eq_some_iff.1 hm).1
        simp at this; omega
      rw [h0] at hx hm
      simp only [List.getElem?_cons_zero, Option.some.injEq] at hx hm
      subst hx hm
      exact hrow ho
  · by_cases e : j < vs.length
    · rw [List.getElem?_append_left e] at hy
      rw [List.getElem?_append_left (by omega)] at hx
      exact h.apart i j x y k hij hx hy hkx hky
    · have hj : j = vs.length := by
        have := (List.getElem?_eq_some_iff.1 hy).1
        simp at this; omega
      rw [List.getElem?_append_right (by omega), show j - vs.length = 0 by omega] at hy
      simp only [List.getElem?_cons_zero, Option.some.injEq] at hy
      subst hy
      rw [List.getElem?_append_left (by omega)] at hx
      exact hf k hky x (List.mem_of_getElem? hx) hkx
end
/-- Read under way: k chains are read. -/
structure RdP (a : Nat → Addr) (w wr : World) (B p g : Nat) (ep : Int) (cs : List (List Int)) (k : Nat) (F : Nat → Prop) (v : Value) (vs : List Value) : Prop where
  inn : InS a wr F B p (chainsB (cs.drop k)) 0
  low : ∀ j, F j → w.heap.size < j ∧ j ≠ g
  box : Two wr g 27 (.int .i64 ep) v
  res : Two wr w.heap.size 27 (.int .i64 0) (.slice none 0 0)
  grid : GridO wr (w.heap.size + 1) v vs (cs.take k)
  off : ∀ j, F j → v.ownBlock ≠ some j ∧ ∀ u ∈ vs, u.ownBlock ≠ some j
  since : Below w.heap.size w wr
  g : w.heap.size < g
section
variable {a : Nat → Addr} {w wr w2 w3 : World} {B p g k : Nat} {ep : Int} {cs : List (List Int)} {F : Nat → Prop} {v u : Value} {vs : List Value}
theorem RdP.lt (h : RdP a w wr B p g ep cs k F v vs) : w.heap.size < wr.heap.size ∧ g < wr.heap.size := ⟨h.res.lt, h.box.lt⟩
theorem RdP.later {F1 : Nat → Prop} (h : RdP a w wr B p g ep cs k F v vs) (hK : Kept F wr w2) (hsub : ∀ j, F1 j → F j ∨ wr.heap.size ≤ j) {l : List UInt8} (hI : InS a w2 F1 B p l 0) :
    InS a w2 F1 B p l 0 ∧ (∀ j, F1 j → w.heap.size < j ∧ j ≠ g) ∧ Two w2 g 27 (.int .i64 ep) v ∧ Two w2 w.heap.size 27 (.int .i64 0) (.slice none 0 0) ∧ GridO w2 (w.heap.size + 1) v vs (cs.take k) ∧
      (∀ j, F1 j → v.ownBlock ≠ some j ∧ ∀ u ∈ vs, u.ownBlock ≠ some j) ∧ Below w.heap.size w w2 := by
  obtain ⟨hl1, hl2⟩ := h.lt
  refine ⟨hI, fun j hj => ?_, h.box.kept hK (fun e => (h.low _ e).2 rfl), h.res.kept hK (fun e => by have := (h.low _ e).1; omega), h.grid.off hK h.off, fun j hj => ?_, h.since.trans (hK.below h.since.size (fun j hj => by have := (h.low j hj).1; omega))⟩
  · rcases hsub j hj with e | e
    · exact h.low j e
    · exact ⟨by omega, by omega⟩
  · rcases hsub j hj with e | e
    · exact h.off j e
    · refine ⟨fun hv => ?_, fun u hu hv => ?_⟩
      · have := (World.ownsRow.lt h.grid.outer j hv).2; omega
      · obtain ⟨c, hc⟩ := h.grid.mem hu
        have := (World.ownsRow.lt hc j hv).2; omega
/-- A chain more. -/
theorem RdP.step {F1 : Nat → Prop} {A : Option Addr} {m c : Nat} (h : RdP a w wr B p g ep cs k F v vs) (hlt : k < cs.length) (hK : Kept F wr w2) (hsub : ∀ j, F1 j → F j ∨ wr.heap.size ≤ j) (hI : InS a w2 F1 B p (chainsB (cs.drop (k + 1))) 0)
    (ho : Own w2 wr.heap.size u cs[k]) (hap : ∀ j, u.ownBlock = some j → ¬ F1 j)
    (hout : w3.ownsRow (w.heap.size + 1) 34 1 (.slice A m c) ((cs.take k).length + 1) (vs ++ [u])) (hg : (w2.alloc (.cells #[u] 34)).grownBy w3 v.ownBlock) (hnew : (Value.slice A m c).ownBlock = v.ownBlock ∨ (Value.slice A m c).ownBlock = some (w2.heap.size + 1)) :
    g < w3.heap.size ∧ w3.cell? ⟨g, 1, none⟩ = some v ∧ w3.frozen? ⟨g, 1, none⟩ = false ∧ RdP a w (w3.setCell ⟨g, 1, none⟩ (.slice A m c)) B p g ep cs (k + 1) F1 (.slice A m c) (vs ++ [u]) := by
  obtain ⟨hl1, hl2⟩ := h.lt
  obtain ⟨h1, h2, h3, h4, h5, h6, h7⟩ := h.later hK hsub hI
  have hs2 := hK.size
  have hk3 : Kept (fun j => v.ownBlock = some j) w2 w3 := Kept.grown ((Kept.refl (fun j => v.ownBlock = some j) w2).alloc _) hg (fun j hj => .inl hj)
  have hvg : ∀ {g0 : Nat} {x y : Value}, Two w2 g0 27 x y → v.ownBlock ≠ some g0 := fun ht => two_apart ht h5.outer (by decide)
  have b3 := h3.kept hk3 (hvg h3)
  have r3 := h4.kept hk3 (hvg h4)
  have hG : GridO w3 (w.heap.size + 1) (.slice A m c) (vs ++ [u]) (cs.take k ++ [cs[k]]) := h5.push (own_later ho (by omega)) (fun j hj x hx hv => by
    obtain ⟨c', hc'⟩ := h.grid.mem hx
    have := (World.ownsRow.lt hc' j hv).2
    have := (World.ownsRow.lt ho j hj).1
    omega) hout hk3
  have hu : ∃ Au cu, u = .slice Au cs[k].length cu := by obtain ⟨_, Au, cu, e, _⟩ := row_ints ho.row; exact ⟨Au, cu, e⟩
  have hoff : ∀ j, F1 j → (Value.slice A m c).ownBlock ≠ some j ∧ ∀ x ∈ vs ++ [u], x.ownBlock ≠ some j := fun j hj => by
    have hlt2 := (h1.2.2.1 j hj).2
    refine ⟨fun e => ?_, fun x hx => ?_⟩
    · rcases hnew with h9 | h9
      · exact (h6 j hj).1 (h9.symm.trans e)
      · rw [h9] at e; injection e with e; omega
    · rcases List.mem_append.1 hx with hx | hx
      · exact (h6 j hj).2 x hx
      · rw [List.mem_singleton] at hx
        subst hx
        exact fun e => hap j e hj
  have hI3 : InS a w3 F1 B p (chainsB (cs.drop (k + 1))) 0 := inS_keep h1 hk3 (fun j hj e => (h6 j hj).1 e)
  have hS : Kept (fun j => j = g) w3 (w3.setCell ⟨g, 1, none⟩ (.slice A m c)) := (Kept.refl (fun j => j = g) w3).setCell (p := ⟨g, 1, none⟩) (.inl rfl) _
  have hgo : ∀ {x : Value} {n : Nat} {t : TypeId} {xs : List Value}, w3.ownsRow (w.heap.size + 1) t 1 x n xs → 27 ≠ t → x.ownBlock ≠ some g := fun hx hne => two_apart b3 hx hne
  obtain ⟨f0, f1, f2, f3⟩ := b3.facts
  refine ⟨f0, f2, f3 1, ⟨inS_keep hI3 hS (fun j hj e => (h2 j hj).2 e), h2, b3.setB _, r3.kept hS (by have := h.g; omega), ?_, hoff, ?_, h.g⟩⟩
  · rw [List.take_succ_eq_append_getElem hlt]
    refine hG.off hS (fun j hj => ?_)
    rw [show j = g from hj]
    exact ⟨hgo hG.outer (by decide), fun x hx => by obtain ⟨c', hc'⟩ := hG.mem hx; exact hgo hc' (by decide)⟩
  · refine ((h7.trans (hk3.below (by omega) (fun j hj => ?_)))).trans (hS.below ?_ (fun j hj => by rw [show j = g from hj]; have := h.g; omega))
    · have := (World.ownsRow.lt h5.outer j hj).1; omega
    · have := hk3.size; omega
end
set_option maxRecDepth 100000 in
set_option maxHeartbeats 4000000 in
theorem planRead_ok (a : Nat → Addr) (ep : Int) (cs : List (List Int)) (v : Value) (B : Nat) (w : World) (hv : Bytes w B v (planB ep cs)) (hB : B ≤ w.heap.size) (hE0 : Errs w a) (hr : rightB ep cs = true) :
    Calls Tryd.prog 27 #[v] w fun e w' => ∃ v' vs, e = .returned (.tuple #[planV ep v', .nilIface]) ∧ GridO w' w.heap.size v' vs cs ∧ Below w.heap.size w w' := by
  obtain ⟨i0, hi, hz0, hz1, hz2⟩ := info_parts infoRow
  have HI := Lib.hid hi
  have HE := Lib.hid hE0
  have h3 : cs.length ≤ 3 := (right_parts hr).2.2.2.1
  have hlen := plan_len hr
  have hep : 0 ≤ ep := (right_parts hr).1
  have b0 := (Below.refl w.heap.size w).alloc (Nat.le_refl _) (.cells #[.int .i64 0, .slice none 0 0] 27)
  have B0 := Lib.hid b0
  have hs0 : (w.alloc (.cells #[.int .i64 0, .slice none 0 0] 27)).heap.size = w.heap.size + 1 := World.size_alloc _ _
  have R0 := Lib.hid (Two.new w 27 (.int .i64 0) (.slice none 0 0))
  have CR := Lib.hid (pread_any a (w.alloc (.cells #[.int .i64 0, .slice none 0 0] 27)) v B (planB ep cs) (Row.keep hv (below_cells (b0.mono hB))) (by omega) (by omega) (HE.out.below b0))
  have HR := Lib.hid hr
  have HLN := Lib.hid hlen
  have HS0 := Lib.hid hs0
  have HEP := Lib.hid (show ((ep.toNat : Nat) : Int) = ep by omega)
  clear hi hE0 hv hB b0 hs0 hr hep hlen
  go_enter Tryd.func27, Tryd.ntmps27
  go_wp2_with fail
  refine CR.out.mono ?_
  rintro en w1 ⟨p, F, rfl, hI, hF, hb⟩
  have C0 := inum_any a w1 F B p (planB ep cs) 0 1073741824 hI (by have := HLN.out; omega) ((HE.out.below B0.out).below hb)
  unfold NumIR at C0
  rw [plan_in0 HR.out] at C0
  have CN := Lib.hid C0
  have B1 := Lib.hid (B0.out.trans (hb.mono B0.out.size))
  have R1 := Lib.hid (R0.out.below hb R0.out.lt)
  have HF := Lib.hid (fun k (hk : F k) => (show w.heap.size < k from by have := hF k hk; have := HS0.out; omega))
  clear C0 hI hF hb CR R0
  go_wp2_with fail
  refine CN.out.mono ?_
  rintro en w2 ⟨vn, F1, rfl, rfl, hI, hsub, hK⟩
  dsimp only at hI ⊢
  rw [HEP.out]
  have hlo : ∀ j, F1 j → w.heap.size < j := fun j hj => by
    rcases hsub j hj with e | e
    · exact HF.out j e
    · have := R1.out.lt; omega
  have hb2 : Below w.heap.size w w2 := B1.out.trans (hK.below B1.out.size (fun j hj => by have := HF.out j hj; omega))
  have C1 := inum_any a (w2.alloc (.cells #[.int .i64 ep, .slice none 0 0] 27)) F1 B p _ 0 3 (inS_keep hI ((Kept.refl (fun _ => False) w2).alloc _) (fun _ _ h => h)) (by
    have h1 := HLN.out
    unfold planB at h1
    rw [List.length_append] at h1
    omega) (HE.out.below (hb2.alloc hb2.size _))
  unfold NumIR at C1
  rw [plan_in1 HR.out] at C1
  have CN1 := Lib.hid C1
  have HI2 := Lib.hid hI
  have X2 := Lib.hid (And.intro hlo hb2)
  have R2 := Lib.hid (R1.out.kept hK (fun h => by have := HF.out _ h; omega))
  clear C1 hI hsub hK hlo hb2 CN R1 HF
  go_wp2_with fail
  refine CN1.out.mono ?_
  rintro en w3 ⟨vn, F2, rfl, rfl, hI, hsub, hK⟩
  dsimp only at hI ⊢
  have hz3 : (w2.alloc (.cells #[.int .i64 ep, .slice none 0 0] 27)).heap.size = w2.heap.size + 1 := World.size_alloc _ _
  have hin2 := inS_lt HI2.out
  have hF2 : ∀ j, F2 j → w.heap.size < j ∧ j ≠ w2.heap.size := fun j hj => by
    have hl2 := R2.out.lt
    rcases hsub j hj with e | e
    · exact ⟨X2.out.1 j e, by have := (hin2.2 j e).2; omega⟩
    · exact ⟨by omega, by omega⟩
  have hS := Lib.hid (show RdP a w w3 B p w2.heap.size ep cs 0 F2 (.slice none 0 0) [] from by
    have hsz := X2.out.2.size
    refine ⟨by rw [List.drop_zero]; exact hI, hF2, (Two.new w2 27 (.int .i64 ep) (.slice none 0 0)).kept hK (fun h => by have := (hin2.2 _ h).2; omega), (R2.out.alloc _).kept hK (fun h => by have := X2.out.1 _ h; omega), GridO.nil _ _, fun j hj => ⟨by simp [Value.ownBlock], fun u hu => by cases hu⟩, ?_, R2.out.lt⟩
    exact (X2.out.2.alloc hsz _).trans (hK.below (by omega) (fun j hj => by have := X2.out.1 j hj; omega)))
  obtain ⟨g, hg⟩ : ∃ g, w2.heap.size = g := ⟨_, rfl⟩
  rw [hg] at hS ⊢
  clear hI hsub hK hz3 hin2 hF2 CN1 HI2 X2 R2 hg
  go_wp2_with fail
  go_loopw [14] (fun x wr => ∃ (k : Nat) (F : Nat → Prop) (v : Value) (vs : List Value), x = .int .i64 k ∧ k ≤ cs.length ∧ Hid (RdP a w wr B p g ep cs k F v vs)) (fun x _ => cs.length - (intOf x).toNat)
  case atStart => exact ⟨0, F2, _, [], rfl, Nat.zero_le _, hS⟩
  case round =>
    clear hS
    obtain ⟨k, F3, v3, vs, rfl, hk, hP⟩ := hrel
    by_cases hlt : k < cs.length
    · have i1 : (k : Int) < (cs.length : Int) := by omega
      have hkd := hP.out
      have C2 := inums_own a wr.drew F3 B p (chainsB (cs.drop k)) 0 3 12 (inS_keep hkd.inn (Kept.refl (fun _ => False) wr).drew (fun _ _ h => h)) (by
        have := chains_len (cs.drop k) (fun c hc => (right_chain HR.out (List.mem_of_mem_drop hc)).2)
        rw [List.length_drop] at this
        omega) (by omega) ((HE.out.below hkd.since).below (show Below wr.heap.size wr wr.drew from ⟨rfl, rfl, rfl, Nat.le_refl _, fun _ _ => rfl⟩))
      rw [plan_in2 HR.out k hlt] at C2
      dsimp only at C2
      rw [nat_back (fun u hu => ((right_chain HR.out (List.getElem_mem hlt)).2.2 u hu).1)] at C2
      obtain ⟨ck, hck⟩ : ∃ ck, ck = cs[k] := ⟨_, rfl⟩
      have CN := Lib.hid (show Calls Tryd.prog 44 #[.pointer (some ⟨p, 0, none⟩), .int .i64 3, .int .i64 12] wr.drew (InRN a wr.drew F3 B p (chainsB (cs.drop (k + 1))) 0 ck) from by rw [hck]; exact C2)
      have HCK := Lib.hid hck.symm
      clear hck
      obtain ⟨A3, c3, hv3⟩ : ∃ A3 c3, v3 = .slice A3 k c3 := by
        rcases hkd.grid.outer.2 with ⟨h1, h2⟩ | ⟨g', cap, _, h1, _⟩
        · exact ⟨none, 0, by rw [h1]; rw [List.length_take] at h2; congr 1; omega⟩
        · exact ⟨_, cap, by rw [h1, List.length_take]; congr 1; omega⟩
      subst hv3
      obtain ⟨g0, g1, g2, g3⟩ := hkd.box.facts
      have hvl : vs.length = k := by have := hkd.grid.len; rw [List.length_take] at this; omega
      have HVL := Lib.hid hvl
      have HTL := Lib.hid (show (cs.take k).length = k by rw [List.length_take]; omega)
      have HLt := Lib.hid hlt
      clear C2 hkd hvl
      go_wp2_with fail
      go_region_law (first
        | (go_simp; (with_reducible refine (CN.out).mono ?_); rintro en w4 ⟨u, F4, rfl, ho, hap, hI4, hsub, hK⟩; obtain ⟨_, Au, cu, rfl, _⟩ := row_ints (Own.row ho); have hK' : Kept F3 wr w4 := ⟨hK.os, hK.tape, hK.output, hK.size, hK.block⟩; have X4 := Lib.hid (hP.out.later hK' hsub hI4); have Y4 := Lib.hid (And.intro hK' (And.intro hsub (And.intro hI4 (And.intro ho hap)))); obtain ⟨d0, d1, d2, d3⟩ := X4.out.2.2.1.facts; clear ho hap hI4 hsub hK hK' d1 d3)
        | (refine step_append_row _ rfl (.tmp 17) (.tmp 20) _ rfl (w.heap.size + 1) 34 i0 (.slice none 0 0) 24 Tryd.underlying25 HI.out hz0 hz1 hz2 rfl _ k vs rfl (by have h9 := X4.out.2.2.2.2.1.outer; rw [HTL.out] at h9; exact own_below h9 ((Below.refl _ _).alloc (Nat.le_refl _) _)) (w4.heap.size + 1) _ [.slice Au ck.length cu] rfl (Row.new w4 _ #[.slice Au ck.length cu] (0, 0) w4.heap.size 1 rfl rfl (by omega)) (by simp [Value.oneCell']) ?_ ?_ ?_ ?_; (simp [maxLen]; omega); (simp; omega); (have h9 := X4.out.2.2.2.1.lt; have h8 := World.size_alloc w4 (.cells #[.slice Au ck.length cu] 34); omega); intro v5 w5 h1 h2 h5 _; obtain ⟨A5, c5, hv5⟩ := pown_form h1; rw [hv5] at h1 h5 ⊢; obtain ⟨e0, e1, e2, e3⟩ := hP.out.step HLt.out Y4.out.1 Y4.out.2.1 Y4.out.2.2.1 (by rw [HCK.out]; exact Y4.out.2.2.2.1) Y4.out.2.2.2.2 (by rw [HTL.out]; exact h1) h2 (by rw [World.size_alloc] at h5; exact h5); have HE5 := Lib.hid e3; clear h1 h2 h5 e3 hv5))
      all_goals
        clear CN X4 Y4 d0 d2 g0 g1 g2 g3
        go_wp2_with fail
        go_roundw
        case rel => exact ⟨k + 1, F4, _, _, by go_num, by omega, HE5⟩
        case measure => simp [intOf]; omega
    · obtain rfl : k = cs.length := by omega
      have C2 := inEnd_any a wr F3 B p _ 0 hP.out.inn (HE.out.below hP.out.since)
      rw [plan_in3] at C2
      have CE := Lib.hid C2
      have i1 : ¬ ((cs.length : Int) < (cs.length : Int)) := by omega
      clear C2
      go_wp2_with fail
      refine CE.out.mono ?_
      rintro en w4 ⟨⟨x, rfl, hx⟩, hb4⟩
      obtain rfl : x = .nilIface := by
        rcases hx with ⟨_, hx⟩ | ⟨m, _, h9, _⟩
        · exact hx
        · omega
      have hG := (hP.out.grid.below hb4)
      rw [List.take_length] at hG
      have CR := Lib.hid (right_any ep cs v3 w4.heap.size w4 hG.grid (Nat.le_refl _))
      rw [HR.out] at CR
      have HG := Lib.hid hG
      have B4 := Lib.hid (hP.out.since.trans (hb4.mono hP.out.since.size))
      have P4 := Lib.hid (hP.out.box.below hb4 hP.out.box.lt)
      have R4 := Lib.hid (hP.out.res.below hb4 hP.out.res.lt)
      have HGg := Lib.hid hP.out.g
      obtain ⟨A3, c3, hv3⟩ := pown_form hG.outer
      subst hv3
      obtain ⟨g0, g1, g2, g3⟩ := P4.out.facts
      clear hx hb4 hG CE hP
      go_wp2_with fail
      refine CR.out.mono ?_
      rintro en w5 ⟨rfl, hb5⟩
      have G5 := Lib.hid (HG.out.below hb5)
      have B5 := Lib.hid (B4.out.trans (hb5.mono B4.out.size))
      have P5 := Lib.hid (P4.out.below hb5 P4.out.lt)
      have R5 := Lib.hid (R4.out.below hb5 R4.out.lt)
      clear hb5 g0 g1 g2 g3 CR HG B4 P4 R4
      obtain ⟨g0, g1, g2, g3⟩ := P5.out.facts
      obtain ⟨r0, r1, r2, r3⟩ := R5.out.facts
      go_wp2_with fail
      obtain ⟨_, e0, e1, _⟩ := (put2_two R5.out (.int .i64 ep) (.slice A3 cs.length c3)).facts
      have hk := put2_kept (Kept.refl (fun j => j = w.heap.size) w5) (.inl rfl) (.int .i64 ep) (.slice A3 cs.length c3)
      have hG5 := (G5.out.kept hk (fun k hk => by omega)).later (base' := w.heap.size) (by omega)
      have hb5 : Below w.heap.size w (put2 w5 w.heap.size (.int .i64 ep) (.slice A3 cs.length c3)) := put2_below B5.out (Nat.le_refl _) _ _
      exact bodyPost_ret (v := .tuple #[planV ep (.slice A3 cs.length c3), .nilIface]) (by simp [results, Tryd.results27, go_sem, e0, e1]) rfl ⟨_, _, rfl, hG5, hb5⟩
end Go.Proofs.YtefcbofjndnpkaaDoor
