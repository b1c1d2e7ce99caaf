/- The document's own unit: bytes put together. -/
import Derived.Test.YtcpanaokfbojnaaGreatDoorGSgA
import Derived.Test.YtcpanaokfbojnaaGreatDoorGRPackW
namespace Go.Proofs.YtcpanaokfbojnaaGreatDoor
open Go Go.RowKit Tide

theorem Parts.new3 {w : World} {B : Nat} {v v2 v3 : Value} {l l2 l3 : List UInt8} (e : TypeId) (g : Nat) (hg : g = w.heap.size) (hB : B ≤ w.heap.size) (h : Bytes w B v l) (h2 : Bytes w B v2 l2) (h3 : Bytes w B v3 l3) :
    Parts (w.alloc (.cells #[v, v2, v3] e)) (w.heap.size + 1) (.slice (some ⟨g, 0, none⟩) 3 3) [l, l2, l3] :=
  ⟨[v, v2, v3], Row.new w e #[v, v2, v3] (0, 0) g 3 hg rfl (by omega), rfl, fun i u p hu hp => by
    have hj := (List.getElem?_eq_some_iff.1 hu).1
    have : i = 0 ∨ i = 1 ∨ i = 2 := by simp at hj; omega
    rcases this with rfl | rfl | rfl
    · simp at hu hp; subst hu hp
      exact (h.alloc hB).more (by omega)
    · simp at hu hp; subst hu hp
      exact (h2.alloc hB).more (by omega)
    · simp at hu hp; subst hu hp
      exact (h3.alloc hB).more (by omega)⟩
set_option maxRecDepth 100000 in
set_option maxHeartbeats 2000000 in
theorem row_any {w : World} {B : Nat} {v : Value} {ps : List (List UInt8)} (hB : B ≤ w.heap.size) (hp : Parts w B v ps) (hl : ps.length ≤ 10) (hs : ∀ p ∈ ps, p.length ≤ 100000) : Calls Tryz.prog 46 #[v] w (OwnR ps.flatten w) := by
  obtain ⟨i0, hi, hz0, hz1, hz2⟩ := info_parts infoB
  have HI := Lib.hid hi
  obtain ⟨hlen, A, c, rfl, hcell⟩ := hp.form
  clear hi
  have HP := Lib.hid hp
  have HC := Lib.hid hcell
  obtain ⟨L, hL⟩ : ∃ L, ps.length = L := ⟨_, rfl⟩
  have HL := Lib.hid hL
  have HS := Lib.hid hs
  have hl' : L ≤ 10 := by omega
  rw [hL]
  have hst : (w.alloc (.cells #[] 5)).ownsRow w.heap.size 5 1 (.slice (some ⟨w.heap.size, 0, none⟩) 0 0) ([] : List UInt8).length (u8s []) := own_new _ _ _ _ _ _ _ _ rfl (Nat.le_refl _) (Nat.le_refl _) (by simp [maxLen]) rfl rfl
  have HSt := Lib.hid hst
  clear hp hcell hL hl hs hlen hst
  go_enter Tryz.func46, Tryz.ntmps46
  go_wp2_with fail
  go_loopw [9, 3] (fun i s3 wr => ∃ (j : Nat) (l1 : List UInt8), i = .int .i64 j ∧ j ≤ L ∧ Hid ((ps.take j).flatten = l1) ∧ Hid (wr.ownsRow w.heap.size 5 1 s3 l1.length (u8s l1)) ∧ Hid (Below w.heap.size w wr)) (fun i _ _ => L - (intOf i).toNat)
  case atStart => exact ⟨0, [], rfl, Nat.zero_le _, Lib.hid rfl, HSt, Lib.hid ((Below.refl _ _).alloc (Nat.le_refl _) _)⟩
  case round =>
    obtain ⟨j, l1, rfl, hj, hl1, ho, hb⟩ := hrel
    by_cases hlj : j < L
    · have hjp : j < ps.length := by rw [HL.out]; exact hlj
      obtain ⟨b, o, y, rfl, d0, hy⟩ := HC.out j hjp
      obtain ⟨vs, hrow, _, _⟩ := HP.out
      have hbw : b < w.heap.size := by
        obtain ⟨_, A', c', e1, _, _, h3⟩ := hrow
        injection e1 with e2 e3 _
        obtain ⟨b', o', e4, h5, _⟩ := h3 (by intro e; rw [e] at e3; have := HL.out; have e5 : ps.length = 0 := e3; omega)
        rw [e4] at e2
        injection e2 with e2
        injection e2 with e2
        omega
      have d0' := (hb.out.cell (p := ⟨b, o + j, none⟩) hbw).trans d0
      have HY := Lib.hid ((hy.more hB).below hb.out)
      have hlen2 : (ps.take j).flatten.length ≤ 1000000 := by
        have h1 : (ps.take j).length ≤ 10 := by rw [List.length_take]; omega
        have h2 : ∀ q ∈ ps.take j, q.length ≤ 100000 := fun q hq => HS.out q (List.mem_of_mem_take hq)
        rw [List.length_flatten]
        have : ∀ (l : List (List UInt8)), (∀ q ∈ l, q.length ≤ 100000) → (l.map List.length).sum ≤ 100000 * l.length := by
          intro l
          induction l with
          | nil => intro _; simp
          | cons x t ih =>
            intro h
            have := ih (fun q hq => h q (List.mem_cons_of_mem _ hq))
            have := h x List.mem_cons_self
            simp only [List.map_cons, List.sum_cons, List.length_cons]
            omega
        have := this _ h2
        omega
      have hl3 := HS.out _ (List.getElem_mem hjp)
      have HT := Lib.hid (show (ps.take (j + 1)).flatten = (ps.take j).flatten ++ ps[j] by rw [List.take_succ_eq_append_getElem hjp, List.flatten_append]; simp)
      obtain ⟨l2, hl2⟩ : ∃ l2, ps[j] = l2 := ⟨_, rfl⟩
      rw [hl1.out] at hlen2 HT
      rw [hl2] at HY hl3 HT
      have HLn := Lib.hid (And.intro hlen2 hl3)
      obtain ⟨l3, hl4⟩ : ∃ l3, l1 ++ l2 = l3 := ⟨_, rfl⟩
      rw [hl4] at HT
      have HE := Lib.hid hl4.symm
      clear hl2 hlen2 hl3 hrow hy d0 hl4
      go_wp2_with (at_builtin; refine wpList_append_bytes _ rfl (.tmp 13) (.tmp 14) _ rfl w.heap.size 5 i0 Tryz.underlying45 HI.out hz0 hz1 hz2 _ l1 rfl ho.out w.heap.size y l2 rfl HY.out l3 HE.out ?d1 ?d2 ?_)
      case d1 => have := HLn.out; omega
      case d2 => exact hb.out.size
      intro v' w' k1 k2 _
      have HO2 := Lib.hid k1
      have HB2 := Lib.hid (hb.out.grown k2 hb.out.size (fun k e => (ho.out.lt k e).1))
      clear k1 k2
      go_wp2_with fail
      go_roundw
      case rel => exact ⟨j + 1, _, by go_num, by omega, HT, HO2, HB2⟩
      case measure => simp [intOf]; omega
    · have hje : j = L := by omega
      subst hje
      have HT := Lib.hid (show ps.flatten = l1 by rw [← hl1.out, ← HL.out, List.take_length])
      go_wp2_with fail
      go_ret
      refine ⟨_, rfl, ?_, hb.out⟩
      rw [HT.out]
      exact ho.out
end Go.Proofs.YtcpanaokfbojnaaGreatDoor
