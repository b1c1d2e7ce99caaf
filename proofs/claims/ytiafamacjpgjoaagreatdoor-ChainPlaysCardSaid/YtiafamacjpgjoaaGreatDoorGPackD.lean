import Derived.Test.YtiafamacjpgjoaaGreatDoorGMem
import Derived.Test.YtiafamacjpgjoaaGreatDoorGKeep
import Derived.Test.YtiafamacjpgjoaaGreatDoorGErr
namespace Go.Proofs.YtiafamacjpgjoaaGreatDoor
open Go.RowKit Tide
abbrev nv:=World->(Nat->Prop)->Nat->Option (List UInt8)->Nat->Prop
def jd (O:nv) (W:World) (F:Nat->Prop) (p:Nat) (st:Option (List UInt8)) (n:Nat) (e:Ending) (w':World):Prop:=
 e= .returned (.tuple #[])/\∃F',O w' F' p st n/\(∀k,F' k->F k\/W.heap.size<=k)/\Kept F W w'
end Go.Proofs.YtiafamacjpgjoaaGreatDoor
namespace Go.Proofs.YtiafamacjpgjoaaGreatDoor
open Go.RowKit Tide
def dC (rest:List UInt8) (e:Nat) (most:Int):List UInt8 × Nat × Nat:=
 if e≠0 then(rest,e,0) else
  if(rdNum rest).1≠0 then(rest,(rdNum rest).1,0) else
   if most < ((rdNum rest).2.1:Int) then(rest.drop (rdNum rest).2.2,1,0) else(rest.drop (rdNum rest).2.2,0,(rdNum rest).2.1)
def gL (rest:List UInt8) (e:Nat) (most:Int):List UInt8 × Nat × List UInt8:=
 let r:=dC rest e most
 if r.2.1≠0 then(r.1,r.2.1, []) else if r.1.length < r.2.2 then(r.1,2, []) else(r.1.drop r.2.2,0,r.1.take r.2.2)
def ji (rest:List UInt8) (e:Nat):Nat:=if e≠0 then e else if rest.isEmpty then 0 else 4
abbrev nt:=World->(Nat->Prop)->Nat->Nat->List UInt8->Nat->Prop
def lM (I:nt) (W:World) (F:Nat->Prop) (B p:Nat) (rest:List UInt8) (er:Nat) (ans:Value->World->Prop) (e:Ending) (w':World):Prop:=
 ∃v F',e= .returned v/\ans v w'/\I w' F' B p rest er/\(∀k,F' k->F k\/W.heap.size<=k)/\Kept F W w'
end Go.Proofs.YtiafamacjpgjoaaGreatDoor
namespace Go.Proofs.YtiafamacjpgjoaaGreatDoor
open Go.RowKit Tide
theorem gK {n:Nat} (h:n < 2 ^ 62) (r:List UInt8) (most:Int) (hm:(n:Int)<=most):dC (aq n ++ r) 0 most=(r,0,n):=by have e:=B4 h r;unfold dC;rw[if_neg (by simp),e];rw[if_neg (by simp),if_neg (by simp only;omega)];simp
end Go.Proofs.YtiafamacjpgjoaaGreatDoor
namespace Go.Proofs.YtiafamacjpgjoaaGreatDoor
open Go.RowKit Tide
def pb (b:List UInt8):Option bh:=
 let k:=dC b 0 3
 if k.2.2=1 then
  let a:=dC k.1 k.2.1 4095
  let p:=gL a.1 a.2.1 2048
  if p.2.2= []then none else if ji p.1 p.2.1=0 then some ⟨1,a.2.2,0,p.2.2⟩else none
 else if k.2.2=2 then
  let a:=dC k.1 k.2.1 4096
  let e:=dC a.1 a.2.1 1073741824
  if ji e.1 e.2.1=0 then some ⟨2,a.2.2,e.2.2, []⟩else none
 else if k.2.2=3 then
  let e:=dC k.1 k.2.1 1073741824
  if ji e.1 e.2.1=0 then some ⟨3,0,e.2.2, []⟩else none
 else none
def gU (r:bh):Prop:=(r.kind=1->r.ep=0)/\(r.kind≠1->r.aK= [])/\(r.kind=3->r.af=0)
theorem zf {b:List UInt8} (h:b.length<=2048):gL (aq b.length ++ b) 0 2048=([],0,b):=by unfold gL;rw[gK (by omega) b 2048 (by omega)];simp
theorem Ce {r:bh} (hg:fQ r) (hn:gU r):pb (ax r)=some r:=by
 obtain⟨kind,af,ep,aK⟩:=r;unfold pb ax;rcases hg with⟨h1,h2,h3,h4⟩|⟨h1,h2,h3⟩|⟨h1,h2⟩
 · simp only at h1 h2 h3 h4;subst h1;have he:ep=0:=hn.1 rfl;subst he;rw[if_pos rfl,List.append_assoc];simp only;rw[gK (show 1 < 2 ^ 62 by decide) _ 3 (by omega)];simp only;rw[if_pos trivial,gK (show af < 2 ^ 62 by omega) _ 4095 (by omega)];simp only;rw[zf h4];simp only;rw[if_neg (by intro e;rw[e]at h3;simp at h3)];rfl
 · simp only at h1 h2 h3;subst h1;have hp:aK= []:=hn.2.1 (show ¬(2:Nat)=1 by decide);subst hp;rw[if_neg (show ¬(2:Nat)=1 by decide),if_pos rfl,List.append_assoc];simp only;rw[gK (show 2 < 2 ^ 62 by decide) _ 3 (by omega)];simp only;rw[if_neg (show ¬(2:Nat)=1 by decide),if_pos trivial,gK (show af < 2 ^ 62 by omega) _ 4096 (by omega)];simp only;have:=gK (show ep < 2 ^ 62 by omega) [] 1073741824 (by omega);rw[List.append_nil]at this;rw[this];rfl
 · simp only at h1 h2;subst h1;have hp:aK= []:=hn.2.1 (show ¬(3:Nat)=1 by decide);have ha:af=0:=hn.2.2 rfl;subst hp ha;rw[if_neg (show ¬(3:Nat)=1 by decide),if_neg (show ¬(3:Nat)=2 by decide)];simp only;rw[gK (show 3 < 2 ^ 62 by decide) _ 3 (by omega)];simp only;rw[if_neg (show ¬(3:Nat)=1 by decide),if_neg (show ¬(3:Nat)=2 by decide),if_pos trivial];have:=gK (show ep < 2 ^ 62 by omega) [] 1073741824 (by omega);rw[List.append_nil]at this;rw[this];rfl
end Go.Proofs.YtiafamacjpgjoaaGreatDoor
