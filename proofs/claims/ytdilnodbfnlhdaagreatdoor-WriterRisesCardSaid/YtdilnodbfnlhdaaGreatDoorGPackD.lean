import Derived.Test.YtdilnodbfnlhdaaGreatDoorGMem
import Derived.Test.YtdilnodbfnlhdaaGreatDoorGKeep
import Derived.Test.YtdilnodbfnlhdaaGreatDoorGErr
namespace Go.Proofs.YtdilnodbfnlhdaaGreatDoor
open Go.RowKit Tide
abbrev mO:=World->(Nat->Prop)->Nat->Option (List UInt8)->Nat->Prop
def gN (O:mO) (W:World) (F:Nat->Prop) (p:Nat) (st:Option (List UInt8)) (n:Nat) (e:Ending) (w':World):Prop:=
 e= .returned (.tuple #[])/\∃F',O w' F' p st n/\(∀k,F' k->F k\/W.heap.size<=k)/\Kept F W w'
def dA (st:Option (List UInt8)):List UInt8 × Nat:=match st with
 | none=>([],1)
 | some q=>if q.length<=65536 then(q,0) else([],3)
def pf (a:Nat->Addr) (W:World) (F:Nat->Prop) (st:Option (List UInt8)) (e:Ending) (w':World):Prop:=
 ∃v x,e= .returned (.tuple #[v,x])/\Bytes w' w'.heap.size v (dA st).1/\bf a x (dA st).2/\Kept F W w'
end Go.Proofs.YtdilnodbfnlhdaaGreatDoor
namespace Go.Proofs.YtdilnodbfnlhdaaGreatDoor
open Go.RowKit Tide
def dq (rest:List UInt8) (e:Nat) (most:Int):List UInt8 × Nat × Nat:=
 if e≠0 then(rest,e,0) else
  if(rdNum rest).1≠0 then(rest,(rdNum rest).1,0) else
   if most < ((rdNum rest).2.1:Int) then(rest.drop (rdNum rest).2.2,1,0) else(rest.drop (rdNum rest).2.2,0,(rdNum rest).2.1)
def gh (rest:List UInt8) (e:Nat) (most:Int):List UInt8 × Nat × List UInt8:=
 let r:=dq rest e most
 if r.2.1≠0 then(r.1,r.2.1, []) else if r.1.length < r.2.2 then(r.1,2, []) else(r.1.drop r.2.2,0,r.1.take r.2.2)
def ix (rest:List UInt8) (e:Nat):Nat:=if e≠0 then e else if rest.isEmpty then 0 else 4
abbrev mL:=World->(Nat->Prop)->Nat->Nat->List UInt8->Nat->Prop
def kY (I:mL) (W:World) (F:Nat->Prop) (B p:Nat) (rest:List UInt8) (er:Nat) (ans:Value->World->Prop) (e:Ending) (w':World):Prop:=
 ∃v F',e= .returned v/\ans v w'/\I w' F' B p rest er/\(∀k,F' k->F k\/W.heap.size<=k)/\Kept F W w'
end Go.Proofs.YtdilnodbfnlhdaaGreatDoor
namespace Go.Proofs.YtdilnodbfnlhdaaGreatDoor
open Go.RowKit Tide
theorem gd {n:Nat} (h:n < 2 ^ 62) (r:List UInt8) (most:Int) (hm:(n:Int)<=most):dq (ao n ++ r) 0 most=(r,0,n):=by have e:=Bs h r;unfold dq;rw[if_neg (by simp),e];rw[if_neg (by simp),if_neg (by simp only;omega)];simp
end Go.Proofs.YtdilnodbfnlhdaaGreatDoor
namespace Go.Proofs.YtdilnodbfnlhdaaGreatDoor
open Go.RowKit Tide
def ox (b:List UInt8):Option aX:=
 let k:=dq b 0 3
 if k.2.2=1 then
  let a:=dq k.1 k.2.1 4095
  let p:=gh a.1 a.2.1 2048
  if p.2.2= []then none else if ix p.1 p.2.1=0 then some ⟨1,a.2.2,0,p.2.2⟩else none
 else if k.2.2=2 then
  let a:=dq k.1 k.2.1 4096
  let e:=dq a.1 a.2.1 1073741824
  if ix e.1 e.2.1=0 then some ⟨2,a.2.2,e.2.2, []⟩else none
 else if k.2.2=3 then
  let e:=dq k.1 k.2.1 1073741824
  if ix e.1 e.2.1=0 then some ⟨3,0,e.2.2, []⟩else none
 else none
def gM (r:aX):Prop:=(r.kind=1->r.ep=0)/\(r.kind≠1->r.aw= [])/\(r.kind=3->r.af=0)
theorem yj {b:List UInt8} (h:b.length<=2048):gh (ao b.length ++ b) 0 2048=([],0,b):=by unfold gh;rw[gd (by omega) b 2048 (by omega)];simp
theorem Bz {r:aX} (hg:fx r) (hn:gM r):ox (aV r)=some r:=by
 obtain⟨kind,af,ep,aw⟩:=r;unfold ox aV;rcases hg with⟨h1,h2,h3,h4⟩|⟨h1,h2,h3⟩|⟨h1,h2⟩
 · simp only at h1 h2 h3 h4;subst h1;have he:ep=0:=hn.1 rfl;subst he;rw[if_pos rfl,List.append_assoc];simp only;rw[gd (show 1 < 2 ^ 62 by decide) _ 3 (by omega)];simp only;rw[if_pos trivial,gd (show af < 2 ^ 62 by omega) _ 4095 (by omega)];simp only;rw[yj h4];simp only;rw[if_neg (by intro e;rw[e]at h3;simp at h3)];rfl
 · simp only at h1 h2 h3;subst h1;have hp:aw= []:=hn.2.1 (show ¬(2:Nat)=1 by decide);subst hp;rw[if_neg (show ¬(2:Nat)=1 by decide),if_pos rfl,List.append_assoc];simp only;rw[gd (show 2 < 2 ^ 62 by decide) _ 3 (by omega)];simp only;rw[if_neg (show ¬(2:Nat)=1 by decide),if_pos trivial,gd (show af < 2 ^ 62 by omega) _ 4096 (by omega)];simp only;have:=gd (show ep < 2 ^ 62 by omega) [] 1073741824 (by omega);rw[List.append_nil]at this;rw[this];rfl
 · simp only at h1 h2;subst h1;have hp:aw= []:=hn.2.1 (show ¬(3:Nat)=1 by decide);have ha:af=0:=hn.2.2 rfl;subst hp ha;rw[if_neg (show ¬(3:Nat)=1 by decide),if_neg (show ¬(3:Nat)=2 by decide)];simp only;rw[gd (show 3 < 2 ^ 62 by decide) _ 3 (by omega)];simp only;rw[if_neg (show ¬(3:Nat)=1 by decide),if_neg (show ¬(3:Nat)=2 by decide),if_pos trivial];have:=gd (show ep < 2 ^ 62 by omega) [] 1073741824 (by omega);rw[List.append_nil]at this;rw[this];rfl
end Go.Proofs.YtdilnodbfnlhdaaGreatDoor
namespace Go.Proofs.YtdilnodbfnlhdaaGreatDoor
open Go.RowKit Tide
end Go.Proofs.YtdilnodbfnlhdaaGreatDoor
