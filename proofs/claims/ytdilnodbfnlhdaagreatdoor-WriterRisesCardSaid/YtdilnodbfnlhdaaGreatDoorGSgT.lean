import Derived.Test.YtdilnodbfnlhdaaGreatDoorGMem
import Derived.Test.YtdilnodbfnlhdaaGreatDoorGBits7
import Derived.Test.YtdilnodbfnlhdaaGreatDoorGKeep
import Derived.Deep.RegionLaw
import Derived.Deep.AppendLies
import Derived.WalkKit
import Derived.WalkSpells
import Derived.Deep.QuietTactic
import Derived.BigQuiet
import Derived.Deep.RegionHeld3
namespace Go.Proofs.YtdilnodbfnlhdaaGreatDoor
open Go.RowKit Tide
def mQ (W:World) (F:Nat->Prop) (rs:List Value) (bs:List (List UInt8)):Prop:=
 rs.length=bs.length/\∀ (i:Nat) (u:Value) (b:List UInt8),rs[i]? =some u->bs[i]? =some b->W.ownsRow 0 5 1 u b.length (aj b)/\(∀k,u.ownBlock=some k->F k)
section
variable {W W':World} {F G S:Nat->Prop} {p places:Nat} {vs:Value} {s:aM}
end
theorem gX (x:Int) (h1: -1000000<=x) (h2:x<=1000000):wrap64 x=x:=by unfold wrap64;omega
theorem gW (x:Int) (h1: -1000000<=x) (h2:x<=1000000):IntKind.i64.wrap x=x:=by simp[IntKind.wrap,IntKind.signed,IntKind.bits];omega
end Go.Proofs.YtdilnodbfnlhdaaGreatDoor
namespace Go.Proofs.YtdilnodbfnlhdaaGreatDoor
open Go.RowKit Tide
section
variable {W:World} {F S:Nat->Prop} {p places:Nat} {vs:Value}
end
end Go.Proofs.YtdilnodbfnlhdaaGreatDoor
namespace Go.Proofs.YtdilnodbfnlhdaaGreatDoor
open Go.RowKit Tide
theorem fG {W:World} {base:Nat} {e:TypeId} {size n k:Nat} {v:Value} {xs:List Value} (h:W.ownsRow base e size v n xs) (hv:v.ownBlock=some k):∃cur,W.heap[k]? =some (.cells cur e (0,0)):=by
 rcases h.2 with⟨rfl,_⟩|⟨g,cap,cur,rfl,_,hg,_⟩
 · cases hv
 · have:g=k:=by simpa[Value.ownBlock]using hv
   subst this;exact⟨cur,hg⟩
theorem kF {W:World} {base base':Nat} {e e':TypeId} {size size' n n':Nat} {v v':Value} {xs xs':List Value} (h:W.ownsRow base e size v n xs) (h':W.ownsRow base' e' size' v' n' xs') (hne:e≠e'):∀k,v.ownBlock=some k->v'.ownBlock≠some k:=λk hk hk'=>by obtain⟨c,h1⟩:=fG h hk;obtain⟨c',h2⟩:=fG h' hk';rw[h1]at h2;injection h2 with h2;injection h2 with _ h2 _;exact hne h2
theorem j7 {W:World} {base:Nat} {e t:TypeId} {size n g:Nat} {v x y:Value} {xs:List Value} (h:aH W g t x y) (h':W.ownsRow base e size v n xs) (hne:t≠e):v.ownBlock≠some g:=λhk=>by obtain⟨c,h1⟩:=fG h' hk;rw[show W.heap[g]? =_ from h]at h1;injection h1 with h1;injection h1 with _ h1 _;exact hne h1
section
variable {W:World} {F S:Nat->Prop} {p places:Nat} {vs:Value}
end
end Go.Proofs.YtdilnodbfnlhdaaGreatDoor
namespace Go.Proofs.YtdilnodbfnlhdaaGreatDoor
open Go.RowKit Tide
theorem lU {W:World} {base g n cap:Nat} {e:TypeId} {size:Nat} {xs:List Value} (h:W.ownsRow base e size (.slice (some ⟨g,0,none⟩) n cap) n xs) (i:Nat) (v:Value):(W.setCell ⟨g,i,none⟩ v).ownsRow base e size (.slice (some ⟨g,0,none⟩) n cap) n (xs.set i v):=by
 refine⟨by rw[List.length_set];exact h.1,?_⟩;rcases h.2 with⟨h1,_⟩|⟨g',cap',cur,h1,hb,hg,h2,h3,h4,h5⟩
 · cases h1
 · injection h1 with e1 _ e3;injection e1 with e1;injection e1 with e1 _;subst e1 e3;obtain⟨hlt,hk⟩:=Array.getElem?_eq_some_iff.1 hg;refine .inr ⟨g,cap,cur.setIfInBounds i v,rfl,hb,?_,h2,h3,by rw[Array.size_setIfInBounds];exact h4,?_⟩
   · show(W.heap.modify g _)[g]? =_;rw[Array.getElem?_eq_getElem (by rw[Array.size_modify];exact hlt),Array.getElem_modify_self,hk];simp
   · rw[Array.toList_setIfInBounds,<-h5,List.take_set]
section
variable {W W':World} {F S:Nat->Prop} {p places:Nat} {bs c:Nat}
end
end Go.Proofs.YtdilnodbfnlhdaaGreatDoor
