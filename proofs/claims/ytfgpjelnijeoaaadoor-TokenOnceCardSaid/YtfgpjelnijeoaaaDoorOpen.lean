/- Arguments opened: a slice of bytes, and a slice of slices of bytes, that came in, as lists of bytes. They speak of no law. -/
import Derived.Test.YtfgpjelnijeoaaaDoorMem
import Derived.Test.YtfgpjelnijeoaaaDoorLaw
import Derived.Deep.Matrix
namespace Go.Proofs.YtfgpjelnijeoaaaDoor
open Go Go.ChangeShapes Go.WideShapes Go.ChangeAt Go.RowKit Tide

/-- Numbers as bytes. -/
def bytesOf (zs : List Int) : List UInt8 := zs.map fun z => UInt8.ofNat z.toNat
theorem u8s_bytesOf {zs : List Int} (h : ∀ z ∈ zs, (Lit.int .u8 z).wf = true) : u8s (bytesOf zs) = zs.map (Value.int .u8) := by
  unfold u8s bytesOf
  rw [List.map_map]
  apply List.map_congr_left
  intro z hz
  have := bounds_u8 (h z hz)
  have e : ((UInt8.ofNat z.toNat).toNat : Int) = z := by
    rw [UInt8.toNat_ofNat_of_lt' (show z.toNat < 256 by omega)]
    omega
  show Value.int .u8 ((UInt8.ofNat z.toNat).toNat : Int) = Value.int .u8 z
  rw [e]

theorem row_of_cells {w : World} {a : Addr} {len cap : Nat} {zs : List Int} (hl : len ≤ cap) (hc : cap ≤ maxLen) (hz : len ≤ zs.length) (hw : ∀ z ∈ zs, (Lit.int .u8 z).wf = true)
    (hcell : ∀ i, i < len → w.cell? (a.add i) = some (.int .u8 (zs.getD i 0))) : Bytes w w.heap.size (.slice (some a) len cap) (bytesOf (zs.take len)) := by
  unfold maxLen at hc
  have hlen : (bytesOf (zs.take len)).length = len := by simp [bytesOf]; omega
  have hwt : ∀ z ∈ zs.take len, (Lit.int .u8 z).wf = true := fun z h => hw z (List.mem_of_mem_take h)
  refine ⟨by rw [u8s_length]; omega, some a, cap, by rw [u8s_length, hlen], by rw [u8s_length]; omega, hc, fun hne => ?_⟩
  have hpos : 0 < len := by
    rcases Nat.eq_zero_or_pos len with h0 | h0
    · subst h0; exact absurd (by simp [bytesOf, u8s]) hne
    · exact h0
  obtain ⟨b, off, spot⟩ := a
  have hspot : spot = none := by simpa [Addr.add] using World.cell?_spot (hcell 0 hpos)
  subst hspot
  have ha : ∀ j, (⟨b, off, none⟩ : Addr).add j = ⟨b, off + j, none⟩ := fun j => by unfold Addr.add; split <;> simp_all
  refine ⟨b, off, rfl, ?_, fun j u hu => ?_⟩
  · have := World.block_lt_of_cell? _ _ (hcell 0 hpos)
    rw [ha] at this
    exact this
  · rw [u8s_bytesOf hwt] at hu
    have hj : j < len := by
      have := (List.getElem?_eq_some_iff.1 hu).1
      simp at this
      omega
    rw [List.getElem?_map, List.getElem?_take_of_lt hj] at hu
    have h1 := hcell j hj
    rw [ha, List.getD_eq_getElem?_getD] at h1
    have hjz : j < zs.length := by omega
    rw [List.getElem?_eq_getElem hjz] at h1 hu
    simp at h1 hu
    rw [h1, hu]
theorem bytes_nil (w : World) (B : Nat) : Bytes w B (.slice none 0 0) [] := ⟨by simp [u8s], none, 0, by simp [u8s], by simp [u8s], by simp, fun h => absurd rfl h⟩

theorem open_bytes {H : Type} {enc : TypeId × Value → H} {P : Program} {W : World} {t e : TypeId} {v : Value} {d : DataW H} {p : List MemPlace} (ht : P.underlying t = some (.slice e)) (he : P.underlying e = some (.int .u8)) (hc : P.cellsOf e = 1)
    {base : Nat} (hok : Value.okWide P W .any base t v) (h : DataW.Trod enc P W 0 (fun _ => true) true t v d p) : ∃ l, Bytes W W.heap.size v l := by
  obtain ⟨a0, len0, cap0, rfl⟩ := okWide_slice ht hok
  obtain ⟨fuel, hf⟩ := h
  rcases open_ints ht he hc hf with ⟨hcs, _⟩ | ⟨a, len, cap, zs, hcs, _, hl, hm, hz, _, hcell, hwz⟩
  · have : Value.slice a0 len0 cap0 = .slice none 0 0 := by simpa [Value.cells] using hcs
    rw [this]
    exact ⟨[], bytes_nil W _⟩
  · have : Value.slice a0 len0 cap0 = .slice (some a) len cap := by simpa [Value.cells] using hcs
    rw [this]
    simp only [if_true] at hz
    exact ⟨_, row_of_cells hl hm (by omega) hwz (fun i hi => hcell i (by omega))⟩

theorem open_parts {H : Type} {enc : TypeId × Value → H} {P : Program} {W : World} {t e q : TypeId} {v : Value} {d : DataW H} {p : List MemPlace} (ht : P.underlying t = some (.slice e)) (he : P.underlying e = some (.slice q)) (hq : P.underlying q = some (.int .u8)) (ce : P.cellsOf e = 1) (cq : P.cellsOf q = 1)
    {base : Nat} (hok : Value.okWide P W .any base t v) (h : DataW.Trod enc P W 0 (fun _ => true) true t v d p) : ∃ ps, Parts W W.heap.size v ps := by
  obtain ⟨a0, len0, cap0, rfl⟩ := okWide_slice ht hok
  obtain ⟨fuel, hf⟩ := h
  rcases Go.Deep.open_int_rows ht he hq ce cq hf with ⟨hcs, _⟩ | ⟨a, len, cap, A, L, C, Z, hcs, _, hl, hm, _, hr⟩
  · have : Value.slice a0 len0 cap0 = .slice none 0 0 := by simpa [Value.cells] using hcs
    rw [this]
    exact ⟨[], [], ⟨by simp, none, 0, rfl, by simp, by simp, fun h => absurd rfl h⟩, rfl, fun i u p hu => by simp at hu⟩
  · have : Value.slice a0 len0 cap0 = .slice (some a) len cap := by simpa [Value.cells] using hcs
    rw [this]
    unfold maxLen at hm
    refine ⟨(List.range len).map fun r => bytesOf ((Z r).take (L r)), (List.range len).map fun r => .slice (A r) (L r) (C r), ?_, by simp, ?_⟩
    · refine ⟨by simp; omega, some a, cap, by simp, by simpa using hl, hm, fun hne => ?_⟩
      have hpos : 0 < len := by
        rcases Nat.eq_zero_or_pos len with h0 | h0
        · subst h0; exact absurd rfl hne
        · exact h0
      obtain ⟨b, off, spot⟩ := a
      have hspot : spot = none := by simpa [Addr.add] using World.cell?_spot (hr 0 (by omega)).1
      subst hspot
      have ha : ∀ j, (⟨b, off, none⟩ : Addr).add j = ⟨b, off + j, none⟩ := fun j => by unfold Addr.add; split <;> simp_all
      refine ⟨b, off, rfl, ?_, fun j u hu => ?_⟩
      · have := World.block_lt_of_cell? _ _ (hr 0 (by omega)).1
        rw [ha] at this
        exact this
      · have hj : j < len := by
          have := (List.getElem?_eq_some_iff.1 hu).1
          simpa using this
        have h1 := (hr j (by omega)).1
        rw [ha] at h1
        rw [h1]
        simpa [hj] using hu
    · intro i u p' hu hp'
      have hi : i < len := by
        have := (List.getElem?_eq_some_iff.1 hu).1
        simpa using this
      simp [hi] at hu hp'
      subst hu hp'
      obtain ⟨_, h2, h3, h4, h5, h6, h7⟩ := hr i (by omega)
      cases hA : A i with
      | none =>
        have hC := h6 hA
        have hL : L i = 0 := by omega
        rw [hC, hL]
        simpa [bytesOf] using bytes_nil W W.heap.size
      | some a' => exact row_of_cells h2 h3 (by omega) h5 (fun j hj => (h7 a' hA).2 j (by omega))
end Go.Proofs.YtfgpjelnijeoaaaDoor
