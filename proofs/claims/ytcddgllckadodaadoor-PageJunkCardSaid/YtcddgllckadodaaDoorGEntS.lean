/- Entries: which are right, their bytes, streams and keys; entries that lie in memory. It speaks of no program's own form. -/
import Derived.Test.YtcddgllckadodaaDoorGRunesD
import Derived.Test.YtcddgllckadodaaDoorGNum7
import Derived.Test.YtcddgllckadodaaDoorGUtf
import Derived.Test.YtcddgllckadodaaDoorGRecs
namespace Go.Proofs.YtcddgllckadodaaDoor
open Go.RowKit Tide Utf

/-- An operation. -/
structure OpD where
  kind : Int
  key : ByteArray
  value : ByteArray
  old : ByteArray
  version : Int
/-- An entry. -/
structure EntD where
  kind : Int
  shard : Int
  other : Int
  server : Int
  client : Int
  seq : Int
  ops : List OpD
  key : ByteArray
  upto : Int
  part : Int
  parts : Int
  data : List UInt8
def uptoB (n m : Int) : Bool := decide (1 ≤ n) && decide (n ≤ m)
def keyB (s : ByteArray) : Bool := decide (keyNum s = 0)
/-- An operation's fields, its key aside, are right. -/
def opF (o : OpD) : Bool :=
  if o.kind = 1 then decide ((o.value.size : Int) ≤ 64) else if o.kind = 2 then true else if o.kind = 3 then decide ((o.value.size : Int) ≤ 64) && decide ((o.old.size : Int) ≤ 64) else
    if o.kind = 4 then decide (0 ≤ o.version) && decide (o.version ≤ 4096) else false
def opR (o : OpD) : Bool := keyB o.key && opF o
def twoB (e : EntD) : Bool := uptoB e.shard 12 && (uptoB e.other 12 && !decide (e.shard = e.other))
def headW (e : EntD) : Bool := uptoB e.shard 12 && (uptoB e.client 4 && (uptoB e.seq 1073741824 && uptoB e.ops.length 8))
def partB (e : EntD) : Bool :=
  decide (0 ≤ e.shard) && (decide (e.shard ≤ 12) && (decide (0 ≤ e.upto) && (decide (e.upto ≤ 4096) && (uptoB e.parts 64 && (decide (0 ≤ e.part) && (decide (e.part < e.parts) && decide ((e.data.length : Int) ≤ 256)))))))
/-- An entry is right. -/
def entR (e : EntD) : Bool :=
  if e.kind = 1 then headW e && e.ops.all opR else if e.kind = 2 then uptoB e.shard 12 && uptoB e.server 4 else
    if e.kind = 3 then twoB e && (uptoB e.server 4 && keyB e.key) else if e.kind = 4 then twoB e else if e.kind = 5 then partB e else false

/-- An operation's bytes. -/
def opE (o : OpD) : List UInt8 :=
  num7 o.kind.toNat ++ text7 o.key ++ (if o.kind = 3 then text7 o.old else []) ++ (if o.kind = 1 ∨ o.kind = 3 then text7 o.value else []) ++ (if o.kind = 4 then num7 o.version.toNat else [])
/-- The numbers at an entry's front. -/
def headE (e : EntD) : List Int :=
  if e.kind = 1 then [e.kind, e.shard, e.client, e.seq, e.ops.length] else if e.kind = 2 then [e.kind, e.shard, e.server] else
    if e.kind = 3 then [e.kind, e.shard, e.other, e.server] else if e.kind = 4 then [e.kind, e.shard, e.other] else
      if e.kind = 5 then [e.kind, e.shard, e.upto, e.parts, e.part] else [e.kind, e.shard]
/-- What follows them. -/
def tailE (e : EntD) : List UInt8 :=
  if e.kind = 1 then e.ops.flatMap opE else if e.kind = 3 then text7 e.key else if e.kind = 5 then num7 e.data.length ++ e.data else []
def encE (e : EntD) : List UInt8 := ((headE e).map Int.toNat).flatMap num7 ++ tailE e
/-- The streams of a right entry. -/
def inStream (e : EntD) (s : Nat) : Bool :=
  (decide (s = 0) && (decide (2 ≤ e.kind) && decide (e.kind ≤ 4))) || (decide ((s : Int) = e.shard) || ((decide (e.kind = 3) || decide (e.kind = 4)) && decide ((s : Int) = e.other)))
def streamsE (e : EntD) : List Nat := (List.range 13).filter (inStream e)
def keysE (e : EntD) : List ByteArray := if e.kind = 1 then e.ops.map OpD.key else if e.kind = 3 then [e.key] else []
def sameE (x y : EntD) : Bool := entR x && (entR y && decide (encE x = encE y))
/-- More than is asked. -/
def longO (o : OpD) : Bool := decide ((300 : Int) < (o.key.size : Int)) || (decide ((300 : Int) < (o.value.size : Int)) || decide ((300 : Int) < (o.old.size : Int)))
def longE (e : EntD) : Bool := (decide ((20 : Int) < (e.ops.length : Int)) || (decide ((300 : Int) < (e.key.size : Int)) || decide ((600 : Int) < (e.data.length : Int)))) || e.ops.any longO

/-- No more than is asked. -/
def SizeE (e : EntD) : Prop := (∀ o ∈ e.ops, o.key.size ≤ 300 ∧ o.value.size ≤ 300 ∧ o.old.size ≤ 300) ∧ e.key.size ≤ 300 ∧ e.data.length ≤ 600 ∧ e.ops.length ≤ 20
theorem size_of_long {e : EntD} (h : longE e = false) : SizeE e := by
  unfold longE at h
  rw [Bool.or_eq_false_iff] at h
  obtain ⟨h1, h2⟩ := h
  simp at h1
  refine ⟨fun o ho => ?_, by omega, by omega, by omega⟩
  have := List.any_eq_false.1 h2 o ho
  unfold longO at this
  simp at this
  omega
/-- An operation's cells. -/
def opV (o : OpD) : List Value := [.int .i64 o.kind, .string o.key, .string o.value, .string o.old, .int .i64 o.version]
/-- An entry's cells. -/
def entC (e : EntD) (vo vd : Value) : Array Value := #[.int .i64 e.kind, .int .i64 e.shard, .int .i64 e.other, .int .i64 e.server, .int .i64 e.client, .int .i64 e.seq, vo, .string e.key, .int .i64 e.upto, .int .i64 e.part, .int .i64 e.parts, vd]
/-- What an entry's two lists hold, below B. -/
def ListsOf (w : World) (B : Nat) (e : EntD) (vo vd : Value) : Prop := Recs w B vo 5 (e.ops.map opV) ∧ Bytes w B vd e.data
/-- The value v is the entry e. -/
def EntIs (w : World) (B : Nat) (v : Value) (e : EntD) : Prop := ∃ vo vd, v = .agg (entC e vo vd) ∧ ListsOf w B e vo vd
section
variable {w w' : World} {B B' : Nat} {v vo vd : Value} {e : EntD}
theorem Recs.more {k : Nat} {es : List (List Value)} (h : Recs w B v k es) (hB : B ≤ B') : Recs w B' v k es := by
  obtain ⟨hn, A, c, rfl, hc⟩ := h
  refine ⟨hn, A, c, rfl, fun hx => ?_⟩
  obtain ⟨b, o, e, hb, hcell⟩ := hc hx
  exact ⟨b, o, e, Nat.lt_of_lt_of_le hb hB, hcell⟩
theorem ListsOf.below (h : ListsOf w B e vo vd) (hb : Below B w w') : ListsOf w' B e vo vd := ⟨h.1.below hb, h.2.below hb⟩
theorem ListsOf.more (h : ListsOf w B e vo vd) (hB : B ≤ B') : ListsOf w B' e vo vd := ⟨h.1.more hB, h.2.more hB⟩
theorem EntIs.below (h : EntIs w B v e) (hb : Below B w w') : EntIs w' B v e := by
  obtain ⟨vo, vd, rfl, h⟩ := h
  exact ⟨vo, vd, rfl, h.below hb⟩
theorem EntIs.more (h : EntIs w B v e) (hB : B ≤ B') : EntIs w B' v e := by
  obtain ⟨vo, vd, rfl, h⟩ := h
  exact ⟨vo, vd, rfl, h.more hB⟩
theorem ops_form {ops : List OpD} (h : Recs w B vo 5 (ops.map opV)) : ∃ A c, vo = .slice A ops.length c ∧ ops.length ≤ 9223372036854775807 ∧ ∀ i (hi : i < ops.length), ∃ b o, A = some ⟨b, o, none⟩ ∧ b < B ∧
    w.cell? ⟨b, o + i * 5, none⟩ = some (.int .i64 ops[i].kind) ∧ w.cell? ⟨b, o + i * 5 + 1, none⟩ = some (.string ops[i].key) ∧ w.cell? ⟨b, o + i * 5 + 2, none⟩ = some (.string ops[i].value) ∧
    w.cell? ⟨b, o + i * 5 + 3, none⟩ = some (.string ops[i].old) ∧ w.cell? ⟨b, o + i * 5 + 4, none⟩ = some (.int .i64 ops[i].version) := by
  obtain ⟨hn, A, c, rfl, hc⟩ := h
  refine ⟨A, c, by rw [List.length_map], by simpa using hn, fun i hi => ?_⟩
  obtain ⟨b, o, rfl, hb, hcell⟩ := hc (by intro e; have h9 : (ops.map opV).length = 0 := by rw [e]; rfl
                                          rw [List.length_map] at h9; omega)
  have he : (ops.map opV)[i]? = some (opV ops[i]) := by simp [hi]
  have e : ∀ j, o + i * 5 + j = o + (i * 5 + j) := fun j => Nat.add_assoc _ _ _
  exact ⟨b, o, rfl, hb, hcell i 0 _ _ he rfl, by rw [e]; exact hcell i 1 _ _ he rfl, by rw [e]; exact hcell i 2 _ _ he rfl, by rw [e]; exact hcell i 3 _ _ he rfl, by rw [e]; exact hcell i 4 _ _ he rfl⟩
end
end Go.Proofs.YtcddgllckadodaaDoor
