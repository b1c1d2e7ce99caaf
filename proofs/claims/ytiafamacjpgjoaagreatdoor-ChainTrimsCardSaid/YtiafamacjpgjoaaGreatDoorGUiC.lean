/- Package unit's count. -/
import Derived.Test.YtiafamacjpgjoaaGreatDoorGUiT
import Derived.Test.YtiafamacjpgjoaaGreatDoorGUiR
import Derived.Deep.RegionLaw
namespace Go.Proofs.YtiafamacjpgjoaaGreatDoor
open Go Go.RowKit Tide

theorem run_put_page {w : World} {b : Nat} {ps : List PageU} (hown : PMap w b ps) (hsz : ps.length ≤ 100000) (adr seg : Nat) (page : List UInt8) (hp : (ps.any fun q => (q.adr : Int) == (adr : Int)) = false) (hadr : adr ≤ 100000) :
    ∃ w', (Instr.mapUpdate 110 (.map (some b)) (.int .i64 (adr : Int)) (.agg #[.string ⟨page.toArray⟩, .int .i64 (seg : Int)])).run Tryz.prog w = .ok () w' ∧ PMap w' b (ps ++ [⟨adr, page, seg⟩]) ∧ Kept (fun j => j = b) w w' := by
  obtain ⟨D, h2, h3⟩ := hown
  obtain ⟨w', hrun, r1, r2⟩ := h2.store lawI Tryz.underlying110 (by rw [h3.size]; exact Nat.lt_of_le_of_lt hsz (by decide)) (keyI_of (adr : Int) (by omega) (by omega)) (pageElem_mk ⟨page.toArray⟩ (seg : Int))
  exact ⟨w', hrun, ⟨_, own_least r1, h3.put ⟨adr, page, seg⟩ hp⟩, turned_kept r2⟩
theorem len_pages {ps : List PageU} (hn : (ps.map PageU.adr).Nodup) (ha : ∀ q ∈ ps, q.adr ≤ 4095) : ps.length ≤ 4096 := by
  have h1 : (ps.map PageU.adr).Perm ((List.range 4096).filter fun x => decide (x ∈ ps.map PageU.adr)) := (List.perm_ext_iff_of_nodup hn (List.nodup_range.filter _)).2 (fun x => by
    rw [List.mem_filter]
    constructor
    · intro hx
      obtain ⟨q, hq, rfl⟩ := List.mem_map.1 hx
      have := ha q hq
      exact ⟨List.mem_range.2 (by omega), by simpa using hx⟩
    · rintro ⟨_, hx⟩
      simpa using hx)
  have h2 := h1.length_eq
  have h3 := List.length_filter_le (fun x => decide (x ∈ ps.map PageU.adr)) (List.range 4096)
  rw [List.length_range] at h3
  rw [List.length_map] at h2
  omega
section
variable {W : World} {g p bm : Nat} {s : StU}
set_option maxRecDepth 100000 in
set_option maxHeartbeats 2000000 in
theorem count1_any (h : UnW W g p bm s) (hk : OkS s) (adr seg : Nat) (page : List UInt8) (ep : Int) (hadr : adr ≤ 4095) :
    Calls Tryz.prog 81 #[.pointer (some ⟨g, 0, none⟩), .agg #[.int .i64 1, .int .i64 (adr : Int), .int .i64 ep, .string ⟨page.toArray⟩], .int .i64 (seg : Int)] W fun e w' =>
      e = .returned (.tuple #[]) ∧ UnW w' g p bm (if hasU s adr then s else { s with pages := s.pages ++ [⟨adr, page, seg⟩] }) ∧ Kept (fun k => k = bm) W w' := by
  have B0 := (Below.refl W.heap.size W).alloc (Nat.le_refl _) (.cells #[.int .i64 1, .int .i64 (adr : Int), .int .i64 ep, .string ⟨page.toArray⟩] 115)
  have hc := heap_alloc_new W (.cells #[.int .i64 1, .int .i64 (adr : Int), .int .i64 ep, .string ⟨page.toArray⟩] 115)
  have HC := Lib.hid hc
  have HB0 := Lib.hid B0
  have H0 := Lib.hid (h.below B0)
  have HH := Lib.hid (uhas_any (h.below B0) (adr : Int) (by omega) (by omega))
  have hhe : hasU s adr = s.pages.any fun q => (q.adr : Int) == (adr : Int) := by
    unfold hasU
    congr 1
    funext q
    by_cases e : q.adr = adr
    · rw [e, beq_self_eq_true, beq_self_eq_true]
    · rw [beq_eq_false_iff_ne.2 e, beq_eq_false_iff_ne.2 (show ¬ (q.adr : Int) = (adr : Int) by omega)]
  have HHe := Lib.hid hhe
  have HLen := Lib.hid (len_pages hk.once hk.adrs)
  obtain ⟨R, hR⟩ : ∃ R, (s.pages.any fun q => (q.adr : Int) == (adr : Int)) = R := ⟨_, rfl⟩
  rw [hR] at HH hhe
  have HR := Lib.hid hR
  rw [hhe]
  clear h hk B0 hc hhe hR
  obtain ⟨_, c0, c1, c2, c3⟩ := rec_facts HC.out
  go_enter Tryz.func81, Tryz.ntmps81
  go_wp2_with fail
  refine HH.out.mono ?_
  rintro e w1 ⟨rfl, hb⟩
  have B1 := Lib.hid (HB0.out.trans (hb.mono HB0.out.size))
  have U1 := Lib.hid (H0.out.below hb)
  have HC1 := Lib.hid ((Kept.of_below (F := fun _ => False) hb).heap HC.out (fun h => h))
  clear hb c0 c1 c2 c3
  cases R with
  | true =>
    go_wp2_with fail
    go_end0
    exact ⟨rfl, U1.out, Kept.of_below B1.out⟩
  | false =>
    obtain ⟨_, c0, c1, c2, c3⟩ := rec_facts HC1.out
    obtain ⟨_, d0, d1, d2, d3, _⟩ := U1.out.facts
    obtain ⟨w2, hrun, hp2, hk2⟩ := run_put_page (U1.out.map.below (Below.refl _ w1).drew) (by have := HLen.out; omega) adr seg page HR.out (by omega)
    have HK3 := Lib.hid ((Kept.of_below (F := fun k => k = bm) B1.out).trans (w' := w1) (G := fun k => k = bm) ⟨hk2.os, hk2.tape, hk2.output, hk2.size, hk2.block⟩ (fun i hi => .inl hi))
    have HU3 := Lib.hid (show UnW w2 g p bm { s with pages := s.pages ++ [⟨adr, page, seg⟩] } from ⟨hk2.heap (show w1.drew.heap[g]? = _ from U1.out.cells) (fun e => U1.out.ne e), hp2⟩)
    clear hp2 hk2
    go_wp2_with fail
    go_region
    go_wp2_with fail
    go_end0
    exact ⟨rfl, HU3.out, HK3.out⟩
end
end Go.Proofs.YtiafamacjpgjoaaGreatDoor

/- Package unit's count of a trim, and of a seal; of whatever right record. -/
namespace Go.Proofs.YtiafamacjpgjoaaGreatDoor
open Go Go.RowKit Tide
section
variable {W : World} {g p bm : Nat} {s : StU}

set_option maxRecDepth 100000 in
set_option maxHeartbeats 2000000 in
theorem count2_any (h : UnW W g p bm s) (adr ep seg : Nat) (page : ByteArray) :
    Calls Tryz.prog 81 #[.pointer (some ⟨g, 0, none⟩), .agg #[.int .i64 2, .int .i64 (adr : Int), .int .i64 (ep : Int), .string page], .int .i64 (seg : Int)] W fun e w' =>
      e = .returned (.tuple #[]) ∧ UnW w' g p bm { s with trimmed := adr, epoch := ep } ∧ Kept (fun k => k = g) W w' := by
  have B0 := (Below.refl W.heap.size W).alloc (Nat.le_refl _) (.cells #[.int .i64 2, .int .i64 (adr : Int), .int .i64 (ep : Int), .string page] 115)
  have H0 := Lib.hid h
  have hc := heap_alloc_new W (.cells #[.int .i64 2, .int .i64 (adr : Int), .int .i64 (ep : Int), .string page] 115)
  obtain ⟨_, c0, c1, c2, c3⟩ := rec_facts hc
  obtain ⟨_, d0, d1, d2, d3, df⟩ := h.facts
  have hgn := h.lt
  have hgne : ¬ g = W.heap.size := by omega
  clear h B0 hc
  go_enter Tryz.func81, Tryz.ntmps81
  go_wp2_with fail
  go_region
  go_wp2_with fail
  go_end0
  have UX : UnW ((W.setCell ⟨g, 2, none⟩ (.int .i64 (adr : Int))).setCell ⟨g, 3, none⟩ (.int .i64 (ep : Int))) g p bm { s with trimmed := adr, epoch := ep } := ⟨set_cells (set_cells H0.out.cells 2 (.int .i64 (adr : Int))) 3 (.int .i64 (ep : Int)),
    H0.out.map.kept (F := fun k => k = g) (((Kept.refl (fun k => k = g) _).setCell (p := ⟨g, 2, none⟩) (.inl rfl) _).setCell (p := ⟨g, 3, none⟩) (.inl rfl) _) (fun e => H0.out.ne e.symm)⟩
  have KX := ((Kept.refl (fun k => k = g) W).setCell (p := ⟨g, 2, none⟩) (.inl rfl) (.int .i64 (adr : Int))).setCell (p := ⟨g, 3, none⟩) (.inl rfl) (.int .i64 (ep : Int))
  exact ⟨rfl, UX.below (((Below.refl _ _).alloc (Nat.le_refl _) _).drew), (KX.alloc _).drew⟩

set_option maxRecDepth 100000 in
set_option maxHeartbeats 2000000 in
theorem count3_any (h : UnW W g p bm s) (adr ep seg : Nat) (page : ByteArray) :
    Calls Tryz.prog 81 #[.pointer (some ⟨g, 0, none⟩), .agg #[.int .i64 3, .int .i64 (adr : Int), .int .i64 (ep : Int), .string page], .int .i64 (seg : Int)] W fun e w' =>
      e = .returned (.tuple #[]) ∧ UnW w' g p bm { s with epoch := ep } ∧ Kept (fun k => k = g) W w' := by
  have B0 := (Below.refl W.heap.size W).alloc (Nat.le_refl _) (.cells #[.int .i64 3, .int .i64 (adr : Int), .int .i64 (ep : Int), .string page] 115)
  have H0 := Lib.hid h
  have hc := heap_alloc_new W (.cells #[.int .i64 3, .int .i64 (adr : Int), .int .i64 (ep : Int), .string page] 115)
  obtain ⟨_, c0, c1, c2, c3⟩ := rec_facts hc
  obtain ⟨_, d0, d1, d2, d3, df⟩ := h.facts
  have hgn := h.lt
  have hgne : ¬ g = W.heap.size := by omega
  clear h B0 hc
  go_enter Tryz.func81, Tryz.ntmps81
  go_wp2_with fail
  go_end0
  have UX : UnW (W.setCell ⟨g, 3, none⟩ (.int .i64 (ep : Int))) g p bm { s with epoch := ep } := ⟨set_cells H0.out.cells 3 (.int .i64 (ep : Int)),
    H0.out.map.kept (F := fun k => k = g) ((Kept.refl (fun k => k = g) _).setCell (p := ⟨g, 3, none⟩) (.inl rfl) _) (fun e => H0.out.ne e.symm)⟩
  have KX := (Kept.refl (fun k => k = g) W).setCell (p := ⟨g, 3, none⟩) (.inl rfl) (.int .i64 (ep : Int))
  exact ⟨rfl, UX.below ((Below.refl _ _).alloc (Nat.le_refl _) _), KX.alloc _⟩

theorem count_any (h : UnW W g p bm s) (hk : OkS s) (r : RecU) (hr : GoodR r) (seg : Nat) :
    Calls Tryz.prog 81 #[.pointer (some ⟨g, 0, none⟩), recV r, .int .i64 (seg : Int)] W fun e w' => e = .returned (.tuple #[]) ∧ UnW w' g p bm (countU s r seg) ∧ Kept (fun k => k = g ∨ k = bm) W w' := by
  obtain ⟨kind, adr, ep, page⟩ := r
  rcases hr with ⟨h1, h2, h3, h4⟩ | ⟨h1, h2, h3⟩ | ⟨h1, h2⟩
  · simp only at h1 h2 h3 h4
    subst h1
    refine (count1_any h hk adr seg page ep h2).mono fun e w' ⟨a1, a2, a3⟩ => ⟨a1, ?_, a3.mono (fun _ _ h => .inr h)⟩
    unfold countU
    rw [if_pos rfl]
    exact a2
  · simp only at h1 h2 h3
    subst h1
    refine (count2_any h adr ep seg ⟨page.toArray⟩).mono fun e w' ⟨a1, a2, a3⟩ => ⟨a1, ?_, a3.mono (fun _ _ h => .inl h)⟩
    unfold countU
    rw [if_neg (show ¬ (2 : Nat) = 1 by decide), if_pos rfl]
    exact a2
  · simp only at h1 h2
    subst h1
    refine (count3_any h adr ep seg ⟨page.toArray⟩).mono fun e w' ⟨a1, a2, a3⟩ => ⟨a1, ?_, a3.mono (fun _ _ h => .inl h)⟩
    unfold countU
    rw [if_neg (show ¬ (3 : Nat) = 1 by decide), if_neg (show ¬ (3 : Nat) = 2 by decide)]
    exact a2
end
end Go.Proofs.YtiafamacjpgjoaaGreatDoor
