import Derived.Test.YtdilnodbfnlhdaaGreatDoorGMem
import Derived.Test.YtdilnodbfnlhdaaGreatDoorGKeep
import Derived.Test.YtdilnodbfnlhdaaGreatDoorGApp
import Derived.WalkKit
import Derived.WalkSpells
import Derived.WalkLawsBesides
import Derived.Deep.QuietTactic
import Derived.BigQuiet
import GoSem.Core.Utf8
namespace Go.Proofs.YtdilnodbfnlhdaaGreatDoor
open Go.RowKit Tide
structure aZ where
 kind:Int
 key:ByteArray
 value:ByteArray
 old:ByteArray
 version:Int
structure aD where
 kind:Int
 au:Int
 other:Int
 server:Int
 bF:Int
 seq:Int
 ops:List aZ
 key:ByteArray
 upto:Int
 part:Int
 parts:Int
 data:List UInt8
def cm (n m:Int):Bool:=decide (1<=n) && decide (n<=m)
def jL (o:aZ):Bool:=
 if o.kind=1 then decide ((o.value.size:Int)<=64) else if o.kind=2 then true else if o.kind=3 then decide ((o.value.size:Int)<=64) && decide ((o.old.size:Int)<=64) else
  if o.kind=4 then decide (0<=o.version) && decide (o.version<=4096) else false
def gI (e:aD):Bool:=cm e.au 12 && (cm e.other 12 && !decide (e.au=e.other))
def jC (e:aD):Bool:=cm e.au 12 && (cm e.bF 4 && (cm e.seq 1073741824 && cm e.ops.length 8))
def jQ (e:aD):Bool:=
 decide (0<=e.au) && (decide (e.au<=12) && (decide (0<=e.upto) && (decide (e.upto<=4096) && (cm e.parts 64 && (decide (0<=e.part) && (decide (e.part < e.parts) && decide ((e.data.length:Int)<=256)))))))
def fT (o:aZ):List UInt8:=
 ao o.kind.toNat ++ bN o.key ++ (if o.kind=3 then bN o.old else[]) ++ (if o.kind=1\/o.kind=3 then bN o.value else[]) ++ (if o.kind=4 then ao o.version.toNat else[])
def jB (e:aD):List Int:=
 if e.kind=1 then[e.kind,e.au,e.bF,e.seq,e.ops.length]else if e.kind=2 then[e.kind,e.au,e.server]else
  if e.kind=3 then[e.kind,e.au,e.other,e.server]else if e.kind=4 then[e.kind,e.au,e.other]else
   if e.kind=5 then[e.kind,e.au,e.upto,e.parts,e.part]else[e.kind,e.au]
def jZ (e:aD):List UInt8:=
 if e.kind=1 then e.ops.flatMap fT else if e.kind=3 then bN e.key else if e.kind=5 then ao e.data.length ++ e.data else[]
def aG (e:aD):List UInt8:=((jB e).map Int.toNat).flatMap ao ++ jZ e
def fQ (o:aZ):Bool:=decide ((300:Int) < (o.key.size:Int)) || (decide ((300:Int) < (o.value.size:Int)) || decide ((300:Int) < (o.old.size:Int)))
def iT (e:aD):Bool:=(decide ((20:Int) < (e.ops.length:Int)) || (decide ((300:Int) < (e.key.size:Int)) || decide ((600:Int) < (e.data.length:Int)))) || e.ops.any fQ
def eh (e:aD):Prop:=(∀o ∈ e.ops,o.key.size<=300/\o.value.size<=300/\o.old.size<=300)/\e.key.size<=300/\e.data.length<=600/\e.ops.length<=20
theorem De {e:aD} (h:iT e=false):eh e:=by unfold iT at h;rw[Bool.or_eq_false_iff]at h;obtain⟨h1,h2⟩:=h;simp at h1;refine⟨λo ho=> ?_,by omega,by omega,by omega⟩;have:=List.any_eq_false.1 h2 o ho;unfold fQ at this;simp at this;omega
def bc (o:aZ):List Value:= [.int .i64 o.kind,.string o.key,.string o.value,.string o.old,.int .i64 o.version]
def cj (e:aD) (vo vd:Value):Array Value:= #[.int .i64 e.kind,.int .i64 e.au,.int .i64 e.other,.int .i64 e.server,.int .i64 e.bF,.int .i64 e.seq,vo,.string e.key,.int .i64 e.upto,.int .i64 e.part,.int .i64 e.parts,vd]
def dY (w:World) (B:Nat) (e:aD) (vo vd:Value):Prop:=bQ w B vo 5 (e.ops.map bc)/\Bytes w B vd e.data
section
variable {w w':World} {B B':Nat} {v vo vd:Value} {e:aD}
theorem bQ.more {k:Nat} {es:List (List Value)} (h:bQ w B v k es) (hB:B<=B'):bQ w B' v k es:=by obtain⟨hn,A,c,rfl,hc⟩:=h;refine⟨hn,A,c,rfl,λhx=> ?_⟩;obtain⟨b,o,e,hb,hcell⟩:=hc hx;exact⟨b,o,e,Nat.lt_of_lt_of_le hb hB,hcell⟩
theorem dY.below (h:dY w B e vo vd) (hb:Below B w w'):dY w' B e vo vd:=⟨h.1.below hb,h.2.below hb⟩
theorem eV {ops:List aZ} (h:bQ w B vo 5 (ops.map bc)):∃A c,vo= .slice A ops.length c/\ops.length<=9223372036854775807/\∀i (hi:i < ops.length),∃b o,A=some ⟨b,o,none⟩/\b < B/\
 w.cell? ⟨b,o+i * 5,none⟩=some (.int .i64 ops[i].kind)/\w.cell? ⟨b,o+i * 5+1,none⟩=some (.string ops[i].key)/\w.cell? ⟨b,o+i * 5+2,none⟩=some (.string ops[i].value)/\
 w.cell? ⟨b,o+i * 5+3,none⟩=some (.string ops[i].old)/\w.cell? ⟨b,o+i * 5+4,none⟩=some (.int .i64 ops[i].version):=by
 obtain⟨hn,A,c,rfl,hc⟩:=h;refine⟨A,c,by rw[List.length_map],by simpa using hn,λi hi=> ?_⟩
 obtain⟨b,o,rfl,hb,hcell⟩:=hc (by intro e;have h9:(ops.map bc).length=0:=by rw[e];rfl
                                  rw[List.length_map]at h9;omega)
 have he:(ops.map bc)[i]? =some (bc ops[i]):=by simp[hi]
 have e:∀j,o+i * 5+j=o+(i * 5+j):=λj=>Nat.add_assoc _ _ _;exact⟨b,o,rfl,hb,hcell i 0 _ _ he rfl,by rw[e];exact hcell i 1 _ _ he rfl,by rw[e];exact hcell i 2 _ _ he rfl,by rw[e];exact hcell i 3 _ _ he rfl,by rw[e];exact hcell i 4 _ _ he rfl⟩
end
end Go.Proofs.YtdilnodbfnlhdaaGreatDoor
