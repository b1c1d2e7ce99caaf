import Derived.Test.YtdilnodbfnlhdaaGreatDoorGUiG
import Derived.Test.YtdilnodbfnlhdaaGreatDoorGErr
import Derived.Test.YtdilnodbfnlhdaaGreatDoorGStO
import Derived.Test.YtdilnodbfnlhdaaGreatDoorGUmod
import Derived.Test.YtdilnodbfnlhdaaGreatDoorGKeep
import Derived.Test.YtdilnodbfnlhdaaGreatDoorGSgA
import Derived.Test.YtdilnodbfnlhdaaGreatDoorGMem
import Derived.Lib.SlBytesConst
import Derived.Deep.RegionLaw
namespace Go.Proofs.YtdilnodbfnlhdaaGreatDoor
open Go Go.RowKit Go.Shelf Tide
section
variable {D:az} {a:Nat->Addr} {w W:World}
end
end Go.Proofs.YtdilnodbfnlhdaaGreatDoor
namespace Go.Proofs.YtdilnodbfnlhdaaGreatDoor
open Go Go.RowKit Go.Shelf Tide
end Go.Proofs.YtdilnodbfnlhdaaGreatDoor
namespace Go.Proofs.YtdilnodbfnlhdaaGreatDoor
open Go Go.RowKit Go.Shelf Tide
section
variable {D:az} {a:Nat->Addr} {w W:World}
end
end Go.Proofs.YtdilnodbfnlhdaaGreatDoor
namespace Go.Proofs.YtdilnodbfnlhdaaGreatDoor
open Go Go.RowKit Go.Shelf Tide
section
variable {D:az} {a:Nat->Addr} {w W W':World} {FX:Nat->Prop} {X:World->Prop} {g p bm dev n N M:Nat} {u:av}
theorem UL.less {FX':Nat->Prop} {X':World->Prop} (h:UL D w FX X g p bm dev n N u W) (hF:∀k,FX' k->FX k) (hX:∀Y,X Y->X' Y):UL D w FX' X' g p bm dev n N u W:=by obtain⟨d,s,l,h1,h2⟩:=h;exact⟨d,s,l,h1.less hF hX,h2⟩
end
end Go.Proofs.YtdilnodbfnlhdaaGreatDoor
namespace Go.Proofs.YtdilnodbfnlhdaaGreatDoor
open Go.RowKit Tide
def gl (us:Nat->av) (n:Nat) (u:av):Nat->av:=λm=>if m=n then u else us m
theorem Ep (us:Nat->av) (n:Nat):gl us n (us n)=us:=by
 funext m;unfold gl;split
 · rename_i h;rw[h]
 · rfl
theorem mF (us:Nat->av) (n:Nat) (u:av):gl us n u n=u:=by simp[gl]
theorem kT (us:Nat->av) {n m:Nat} (u:av) (h:m≠n):gl us n u m=us m:=by simp[gl,h]
def dO (up:Nat->Bool) (n:Int):Bool:=decide (0<=n) && (decide (n < 12) && up n.toNat)
def eZ (up:Nat->Bool) (ep at':Int) (b:List UInt8) (us:Nat->av) (n:Int) (first:Bool):(Nat->av) × Nat:=
 if dO up n=false then(us,12)
 else if(cw (us n.toNat) ep at' b).2≠9\/first=true then(gl us n.toNat (cw (us n.toNat) ep at' b).1,(cw (us n.toNat) ep at' b).2)
 else(us,if(fa (us n.toNat) ep at').2=0/\(fa (us n.toNat) ep at').1≠b then 17 else(fa (us n.toNat) ep at').2)
def dN (up:Nat->Bool) (ep:Int) (cs:List (List Int)) (a k:Int) (b:List UInt8) (us:Nat->av):(Nat->av) × Nat:=
 if eY ep cs a≠0 then(us,eY ep cs a) else if k < 0\/(bU cs a).length<=k then(us,1) else eZ up ep (a / cs.length) b us ((bU cs a).getD k.toNat 0) (k.toNat == 0)
theorem Bh {up:Nat->Bool} {ep at':Int} {b:List UInt8} {us:Nat->av} {n:Int} {first:Bool} (h:dO up n=false):eZ up ep at' b us n first=(us,12):=by unfold eZ;rw[if_pos h]
theorem Eo {up:Nat->Bool} {n:Int} (h:dO up n=true):0<=n/\n < 12/\up n.toNat=true:=by unfold dO at h;simp only[Bool.and_eq_true,decide_eq_true_eq]at h;exact h
end Go.Proofs.YtdilnodbfnlhdaaGreatDoor
namespace Go.Proofs.YtdilnodbfnlhdaaGreatDoor
open Go Go.RowKit Tide
section
variable {D:az} {x a:Nat->Addr} {w W W':World} {FX FX' K:Nat->Prop} {X X':World->Prop} {g p bm dev n N:Nat} {us:List ah} {d:Dv} {s:aT} {u:av} {G S:Nat->Prop} {q:Nat}
theorem US.swap (hD:aC x D) (h:US D w FX X g p bm dev us d s W) (hk:Kept K W W') (hK:∀k,K k->FX k/\w.heap.size<=k) (hF:∀k,FX' k->FX k\/W.heap.size<=k) (hl:∀k,FX' k->k < W'.heap.size) (hX:X' W'):US D w FX' X' g p bm dev us d s W':=by
 obtain⟨Fd,Fs,vs,h1,h2,h3,h4,h5,h6,h7,h8,h9⟩:=h;have hn:∀k,(Fd k\/Fs k\/k=g\/k=bm)->¬K k:=λk hk e=>(h6 k hk).1 (hK k e).1;refine⟨Fd,Fs,vs,hD.an _ _ _ _ _ _ h1 hk (λk hf=>hn k (.inl hf)),h2.an hk (λk hf=>hn k (.inr (.inl hf))),h3.kept hk (hn g (.inr (.inr (.inl rfl)))) (hn bm (.inr (.inr (.inr rfl)))),h4,h5,λk hk'=>⟨λhf=> ?_,(h6 k hk').2.1,Nat.lt_of_lt_of_le (h6 k hk').2.2 hk.size⟩,hl,h8.trans (hk.below h8.size (λi hi=>(hK i hi).2)),hX⟩;rcases hF k hf with h|h
 · exact(h6 k hk').1 h
 · have:=(h6 k hk').2.2;omega
theorem UL.swap (hD:aC x D) (h:UL D w FX X g p bm dev n N u W) (hk:Kept K W W') (hK:∀k,K k->FX k/\w.heap.size<=k) (hF:∀k,FX' k->FX k\/W.heap.size<=k) (hl:∀k,FX' k->k < W'.heap.size) (hX:X' W'):UL D w FX' X' g p bm dev n N u W':=by obtain⟨d,s,l,h1,h2⟩:=h;exact⟨d,s,l,h1.swap hD hk hK hF hl hX,h2⟩
end
end Go.Proofs.YtdilnodbfnlhdaaGreatDoor
namespace Go.Proofs.YtdilnodbfnlhdaaGreatDoor
open Go Go.RowKit Tide
end Go.Proofs.YtdilnodbfnlhdaaGreatDoor
