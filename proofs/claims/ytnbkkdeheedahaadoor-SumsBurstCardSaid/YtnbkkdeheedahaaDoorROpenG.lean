/- What the document's own answer tidewaterref01.Open is where the bytes begin with a frame: its bytes and what is behind, in memory of the call's own. -/
import Derived.Test.YtnbkkdeheedahaaDoorROpenW
namespace Go.Proofs.YtnbkkdeheedahaaDoor
open Go.RowKit Tide

/-- The frame's bytes and what is behind, and nought. -/
def GoodNum (body rest : List UInt8) (w : World) (e : Ending) (w' : World) : Prop := ∃ v1 v2, e = .returned (.tuple #[v1, v2, .int .i64 0]) ∧ Bytes w' w'.heap.size v1 body ∧ Bytes w' w'.heap.size v2 rest ∧ Below w.heap.size w w'

theorem empty_own {w : World} {base g : Nat} {e : TypeId} (hb : base ≤ g) (h : w.heap[g]? = some (.cells #[] e (0, 0))) : w.ownsRow base e 1 (.slice (some ⟨g, 0, none⟩) 0 0) 0 [] :=
  ⟨rfl, .inr ⟨g, 0, #[], rfl, hb, h, Nat.le_refl _, by simp [maxLen], rfl, rfl⟩⟩

theorem step_empty {P : Program} (w : World) {ops : Array Oper} {o : Oper} {a : Act} {K : Act → World → Prop} {Q : Exit → Act → World → Prop} {E : Prop} (hgd : o.guard = none) (s x : Operand) (t : TypeId)
    (ho : o.op = .call { callee := .builtin .append, args := #[s, x], argTypes := #[t, t] })
    (base : Nat) (e : TypeId) (i : TypeInfo) (z : Value) (bytes : Nat) (ht : P.underlying t = some (.slice e)) (hi : P.info? e = some i) (hz : i.zero = some z)
    (hsize : i.size = 1) (hby : i.bytes = bytes) (hzs : z.cells.size = 1) (g : Nat) (hs : a.eval s = .slice (some ⟨g, 0, none⟩) 0 0) (hbg : base ≤ g) (hg : w.heap[g]? = some (.cells #[] e (0, 0)))
    (B : Nat) (y : Value) (l : List UInt8) (hx : a.eval x = y) (hr : Bytes w B y l) (hl : l.length ≤ 65536) (hb1 : bytes = 1)
    (h : ∀ v' w', w'.ownsRow base e 1 v' l.length (u8s l) → w.grownBy w' (some g) → (v'.ownBlock = some g ∨ v'.ownBlock = some w.heap.size) → Below base w w' → K (a.put o.dst v') w') :
    if Region.wanted o (yielded ops a.tmps) = true then Oper.wp P o a w K Q else E := by
  have hgl : g < w.heap.size := by
    rcases Nat.lt_or_ge g w.heap.size with hlt | hge
    · exact hlt
    · rw [Array.getElem?_eq_none hge] at hg; cases hg
  refine step_append_row w hgd s x t ho base e i z bytes ht hi hz hsize hby hzs _ 0 [] hs (empty_own hbg hg) B y (u8s l) hx hr (u8s_one l) ?_ ?_ (by omega) (fun v' w' h1 h2 h3 h4 => ?_)
  · rw [u8s_length]; unfold maxLen; omega
  · rw [u8s_length, hb1]; omega
  · rw [u8s_length, Nat.zero_add, List.nil_append] at h1
    exact h v' w' h1 h2 h3 h4
theorem alloc_at (w : World) (o : Obj) (g : Nat) (hg : g = w.heap.size) : (w.alloc o).heap[g]? = some o := by subst hg; exact heap_alloc_new w o
theorem alloc_at2 (w : World) (o o2 : Obj) (g : Nat) (hg : g = w.heap.size) : ((w.alloc o).alloc o2).heap[g]? = some o := by
  subst hg
  exact (Below.heap_alloc _ _ _ (by simp)).trans (heap_alloc_new w o)

set_option maxHeartbeats 1000000 in
theorem ropen_good (v : Value) (L : List UInt8) (w : World) (hp : Bytes w w.heap.size v L) (hLL : L.length ≤ 65536) (N : Nat) (hN : leNum (L.take 2) = N) (hn : N ≤ 2048) (hc6 : N + 6 ≤ L.length)
    (hs : leNum ((L.drop 2).take 4) = Crc.sum (L.take 2 ++ (L.drop 6).take N)) :
    Calls Tryd.prog 18 #[v] w (GoodNum ((L.drop 6).take N) (L.drop (N + 6)) w) := by
  obtain ⟨i0, hi, hz0, hz1, hz2⟩ := info_parts infoB
  have HI := Lib.hid hi
  have HP := Lib.hid hp
  have hfr : frame ((L.drop 6).take N) = L.take (N + 6) := (frame_iff L N hN hc6).2 hs
  obtain ⟨A, c, rfl, _, _, _⟩ := hp.form
  obtain ⟨b, o, x, y, rfl, h0, h1, hx, hy, hN2⟩ := head_of hp (by omega)
  obtain rfl : x + 256 * y = N := hN2.symm.trans hN
  obtain ⟨A1, c1, l1, hl1, hr1, hB1⟩ := cut_lh hp 6 (x + 256 * y + 6) 6 (6 + ((x : Int) + 256 * y)) rfl (by omega) (by omega) hc6
  obtain ⟨A2, c2, l2, hl2, hr2, hB2⟩ := cut_h hp (x + 256 * y + 6) (6 + ((x : Int) + 256 * y)) (by omega) hc6
  obtain ⟨A3, c3, l3, hl3, hr3, hB3⟩ := cut_l hp (x + 256 * y + 6) (6 + ((x : Int) + 256 * y)) (by omega) hc6
  have e1 : l1 = (L.drop 6).take (x + 256 * y) := by rw [hl1.out, List.drop_take, Nat.add_sub_cancel]
  have E1 := Lib.hid e1
  have hk1 : l1.length ≤ 65535 := by rw [e1]; simp; omega
  have hk3 : l3.length ≤ 65536 := by rw [hl3.out]; simp; omega
  have HF := Lib.hid (show frame l1 = l2 by rw [e1, hl2.out]; exact hfr)
  have HB1 := Lib.hid hB1
  have HB2 := Lib.hid hB2
  have HB3 := Lib.hid hB3
  clear hp hN hN2 hs hfr e1 hB1 hB2 hB3 hi
  go_enter Tryd.func18, Tryd.ntmps18
  go_wp2_with fail
  have e1 : IntKind.i64.wrap (256 * (y : Int)) = 256 * (y : Int) := IntWalk.i64_in _ (by omega)
  have e2 : IntKind.i64.wrap ((x : Int) + 256 * (y : Int)) = (x : Int) + 256 * (y : Int) := IntWalk.i64_in _ (by omega)
  have e3 : IntKind.i64.wrap (x : Int) = (x : Int) := IntWalk.i64_in _ (by omega)
  have e4 : IntKind.i64.wrap (y : Int) = (y : Int) := IntWalk.i64_in _ (by omega)
  have i0' : (0 : Int) < (L.length : Int) := by omega
  have i1' : (1 : Int) < (L.length : Int) := by omega
  go_quiet (fail)
  clear e1 e2 e3 e4
  go_wp2_with fail
  have K1 := Lib.hid (show ∀ W : World, Below w.heap.size w W → Bytes W W.heap.size (.slice A1 l1.length c1) l1 from fun W hb => (HB1.out.below hb).more hb.size)
  have K2 := Lib.hid (show ∀ W : World, Below w.heap.size w W → Bytes W W.heap.size (.slice A2 l2.length c2) l2 from fun W hb => (HB2.out.below hb).more hb.size)
  have K3 := Lib.hid (show ∀ W : World, Below w.heap.size w W → Bytes W W.heap.size (.slice A3 l3.length c3) l3 from fun W hb => (HB3.out.below hb).more hb.size)
  have cv2 := fun n => conv_bytes (K2.out _ (below_drewN' (Below.refl _ _) n))
  have e5 : IntKind.i64.wrap (6 + ((x : Int) + 256 * (y : Int))) = 6 + ((x : Int) + 256 * (y : Int)) := IntWalk.i64_in _ (by omega)
  go_region_with (first
    | (go_at_call 17; ((with_reducible refine (rframe_any _ l1 _ ?_ hk1).mono ?_); exact K1.out _ (below_drewN' (Below.refl _ _) _)); rw [HF.out]; rintro e w1 ⟨v1, rfl, hown1, hb1⟩; have cw1 := conv_bytes (Bytes.of_own hown1); have cw2 := conv_bytes (K2.out _ ((below_drewN' (Below.refl _ _) _).trans hb1))))
  all_goals
    have hbW : Below w.heap.size w w1 := (below_drewN' (Below.refl _ _) _).trans hb1
    have HBW := Lib.hid hbW
    clear hbW hb1 cw1 cw2 cv2
    go_wp2_with fail
    have hs1 := HBW.out.size
    clear K2 HB2
    go_region_law (first | (refine step_empty _ rfl (.tmp 38) (.tmp 42) _ rfl w.heap.size 5 i0 (.int .u8 0) 1 Tryd.underlying24 HI.out hz0 hz1 hz2 rfl _ rfl ?_ ?_ _ _ l1 rfl (K1.out _ ?_) (by omega) rfl ?_; (first | exact hs1 | omega); (solve | (refine alloc_at _ _ _ ?_; simp) | (refine alloc_at2 _ _ _ _ ?_; simp)); (solve | exact (HBW.out.alloc hs1 _).drew | (refine ((HBW.out.alloc hs1 _).alloc ?_ _).drew; simp; omega)); intro v2 w2 hown2 hg2 hat2 hbw2; have hbY := Below.trans (by solve | exact (HBW.out.alloc hs1 _).drew | (refine ((HBW.out.alloc hs1 _).alloc ?_ _).drew; simp; omega)) hbw2; have HO2 := Lib.hid hown2; have HG2 := Lib.hid hg2; have HA2 := Lib.hid hat2; have HB2 := Lib.hid hbY; clear hown2 hg2 hat2 hbw2 hbY) | (refine step_empty _ rfl (.tmp 44) (.tmp 48) _ rfl w.heap.size 5 i0 (.int .u8 0) 1 Tryd.underlying24 HI.out hz0 hz1 hz2 rfl _ rfl ?_ ?_ _ _ l3 rfl (K3.out _ ?_) hk3 rfl ?_; (first | exact HB2.out.size | exact hs1 | omega); (solve | exact alloc_at _ _ _ rfl | (refine (HG2.out.block _ ?_ ?_).trans ?_; (simp <;> omega); (intro e; injection e; omega); (solve | (refine alloc_at _ _ _ ?_; simp) | (refine alloc_at2 _ _ _ _ ?_; simp)))); (first | exact HB2.out | exact HB2.out.alloc HB2.out.size _); intro v3 w3 hown3 hg3 hat3 hbw3; have hbY := Below.trans (by first | exact HB2.out | exact HB2.out.alloc HB2.out.size _) hbw3; have HO3 := Lib.hid hown3; have HB3 := Lib.hid hbY; have hO2 : w3.ownsRow w.heap.size 5 1 v2 l1.length (u8s l1) := (by solve | (refine HO2.out.kept hg3 (.inr ?_); intro e; rcases HA2.out with h | h <;> (rw [h] at e; injection e with e; simp at e <;> omega)) | (refine (HO2.out.alloc _).kept hg3 (.inr ?_); intro e; exact absurd ((HO2.out.lt _ e).2) (Nat.lt_irrefl _))); have HO2' := Lib.hid hO2; clear hown3 hg3 hat3 hbw3 hbY hO2))
    all_goals
      go_wp2_with fail
      go_ret3
      refine ⟨v2, v3, rfl, ?_, ?_, HB3.out⟩
      · rw [← E1.out]
        exact Bytes.of_own HO2'.out
      · rw [← hl3.out]
        exact Bytes.of_own HO3.out
end Go.Proofs.YtnbkkdeheedahaaDoor
