import Derived.Test.YtdilnodbfnlhdaaGreatDoorGPackD
import Derived.Test.YtdilnodbfnlhdaaGreatDoorGBits7
import Derived.WalkKit
import Derived.WalkSpells
import Derived.RegionTactic
import Derived.BigQuiet
import Derived.Deep.QuietTactic
namespace Go.Proofs.YtdilnodbfnlhdaaGreatDoor
open Go.RowKit Tide
def jl (a:Nat->Addr) (W:World) (st:Option (List UInt8)) (v x:Value):Prop:=
 match st with
 | none=>v= .slice none 0 0/\x=ai (a 0)
 | some q=>if q.length<=65536 then x= .nilIface/\W.ownsRow 0 5 1 v q.length (aj q) else v= .slice none 0 0/\x=ai (a 2)
theorem iX (a:Nat->Addr) (W:World) {q:List UInt8} (v x:Value) (hq:q.length<=65536):jl a W (some q) v x<->(x= .nilIface/\W.ownsRow 0 5 1 v q.length (aj q)):=by show(if q.length<=65536 then _ else _)<->_;rw[if_pos hq]
theorem jO (a:Nat->Addr) (W:World) {q:List UInt8} (v x:Value) (hq:¬q.length<=65536):jl a W (some q) v x<->(v= .slice none 0 0/\x=ai (a 2)):=by show(if q.length<=65536 then _ else _)<->_;rw[if_neg hq]
def cG (a:Nat->Addr) (F:Nat->Prop):Prop:=∀i,i < 19->¬F (bA.getD i 0)/\¬F (a i).block
theorem cG.new {a:Nat->Addr} {W:World} (hE:ar W a) {F:Nat->Prop} (hF:∀k,F k->W.heap.size<=k):cG a F:=λi hi=>by have h1:bA.getD i 0 < W.heap.size:=World.block_lt_of_cell? _ _ (hE.var i hi);have h2:=(hE.iS i hi).lt;exact⟨λh=>by have:=hF _ h;omega,λh=>by have:=hF _ h;omega⟩
theorem cG.more {a:Nat->Addr} {W:World} (hE:ar W a) {F G:Nat->Prop} (hA:cG a F) (hG:∀k,G k->F k\/W.heap.size<=k):cG a G:=λi hi=>by have h1:=cG.new hE (F:=λk=>W.heap.size<=k) (λ_ h=>h) i hi;exact⟨λh=>(hG _ h).elim (hA i hi).1 h1.1,λh=>(hG _ h).elim (hA i hi).2 h1.2⟩
theorem ar.kept {a:Nat->Addr} {W W':World} {F:Nat->Prop} (hE:ar W a) (hk:Kept F W W') (hA:cG a F):ar W' a:=
 ⟨λi hi=>(hk.cell (p:=⟨bA.getD i 0,0,none⟩) (World.block_lt_of_cell? _ _ (hE.var i hi)) (hA i hi).1).trans (hE.var i hi),
  λi hi=>by obtain⟨c,t,h⟩:=hE.iS i hi;exact⟨c,t,hk.heap h (hA i hi).2⟩,hE.apart⟩
def bg (a:Nat->Addr):mO:=λW F p st _=>F p/\(∀k,F k->k < W.heap.size)/\cG a F/\∃v x,aH W p 204 v x/\(∀k,v.ownBlock=some k->F k/\k≠p)/\jl a W st v x
theorem jl.kept {a:Nat->Addr} {W W':World} {st:Option (List UInt8)} {v x:Value} {G:Nat->Prop} (h:jl a W st v x) (hk:Kept G W W') (hv:∀k,v.ownBlock=some k->¬G k):jl a W' st v x:=by
 cases st with
 | none=>exact h
 | some q=>
   by_cases hq:q.length<=65536
   · rw[iX a _ v x hq]at *;exact⟨h.1,hk.own h.2 hv⟩
   · rw[jO a _ v x hq]at *;exact h
theorem lQ {a:Nat->Addr} {W W':World} {F G:Nat->Prop} {p:Nat} {st:Option (List UInt8)} {n:Nat} (h:bg a W F p st n) (hk:Kept G W W') (hd:∀k,F k->¬G k):bg a W' F p st n:=by obtain⟨h1,h2,hA,v,x,h3,h4,h5⟩:=h;exact⟨h1,λk hf=>Nat.lt_of_lt_of_le (h2 k hf) hk.size,hA,v,x,h3.kept hk (hd p h1),h4,h5.kept hk (λk hv=>hd k (h4 k hv).1)⟩
theorem kE (a:Nat->Addr) (W:World) (hE:ar W a):bg a (W.alloc (.cells #[.slice none 0 0,.nilIface] 204)) (λk=>k=W.heap.size) W.heap.size (some []) 0:=
 ⟨rfl,λk hk=>by subst hk;simp,cG.new hE (λk hk=>by omega),_,_,aH.new _ _ _ _,λk hk=>by simp[Value.ownBlock]at hk,(iX a _ _ _ (by simp)).2 ⟨rfl,by simp[aj],.inl ⟨rfl,rfl⟩⟩⟩
theorem ni (v x:Value) (b:Addr) (p:Nat) (W:World) (h:aH W p 204 v x):
 Calls Tryz.prog 144 #[.pointer (some ⟨p,0,none⟩),ai b] W λe w'=>e= .returned (.tuple #[])/\aH w' p 204 (.slice none 0 0) (ai b)/\Kept (λk=>k=p) W w':=by
 obtain⟨_,h0,h1,hf⟩:=h.facts;have H:=ab h;clear h
 go_enter Tryz.func144,Tryz.ntmps144
 go_wp2_with fail
 go_end0
 exact⟨rfl,(H.out.jX _).jY _,((Kept.refl (λk=>k=p) W).setCell (p:=⟨p,0,none⟩) (.inl rfl) _).setCell (p:=⟨p,1,none⟩) (.inl rfl) _⟩
end Go.Proofs.YtdilnodbfnlhdaaGreatDoor
namespace Go.Proofs.YtdilnodbfnlhdaaGreatDoor
open Go.RowKit Tide
theorem iD {W:World} {base n:Nat} {e:TypeId} {v:Value} {xs:List Value} (h:W.ownsRow base e 1 v n xs):∃A c,v= .slice A n c:=by
 rcases h.2 with⟨rfl,rfl⟩|⟨g,cap,cur,rfl,_⟩
 · exact⟨none,0,rfl⟩
 · exact⟨_,_,rfl⟩
theorem Cg (A:Option Addr) (n c size p:Nat) (W:World) (h:aH W p 204 (.slice A n c) .nilIface) (hs:n+size<=65536):
 Calls Tryz.prog 145 #[.pointer (some ⟨p,0,none⟩),.int .i64 size] W λe w'=>e= .returned (.bool true)/\W=w':=by
 obtain⟨_,h0,h1,hf⟩:=h.facts;have hq:decide ((65536:Int) - (n:Int) < (size:Int))=false:=by simp;omega
 clear h
 go_enter Tryz.func145,Tryz.ntmps145
 go_wp2_with fail
 go_ret
 exact⟨rfl,rfl⟩
theorem sG (v:Value) (b:Addr) (size p:Nat) (W:World) (h:aH W p 204 v (ai b)):
 Calls Tryz.prog 145 #[.pointer (some ⟨p,0,none⟩),.int .i64 size] W λe w'=>e= .returned (.bool false)/\W=w':=by
 obtain⟨_,h0,h1,hf⟩:=h.facts;clear h
 go_enter Tryz.func145,Tryz.ntmps145
 go_wp2_with fail
 go_ret
 exact⟨rfl,rfl⟩
theorem Cf (a:Nat->Addr) (A:Option Addr) (n c size p:Nat) (W:World) (h:aH W p 204 (.slice A n c) .nilIface) (hn:n<=65536) (hs:65536 < n+size) (hE:ar W a):
 Calls Tryz.prog 145 #[.pointer (some ⟨p,0,none⟩),.int .i64 size] W λe w'=>e= .returned (.bool false)/\aH w' p 204 (.slice none 0 0) (ai (a 2))/\Kept (λk=>k=p) W w':=by
 obtain⟨_,h0,h1,hf⟩:=h.facts;have H:=ab h;have hg:=hE.var 2 (by omega);simp only[bA,List.getD_cons_zero,List.getD_cons_succ]at hg;have hq:decide ((65536:Int) - (n:Int) < (size:Int))=true:=by simp;omega
 clear h hE
 go_enter Tryz.func145,Tryz.ntmps145
 go_wp2_with fail
 refine(ni _ _ (a 2) p _ H.out).mono ?_;rintro e w1 ⟨rfl,ht,hk⟩;have HT:=ab ht;have HK:=ab hk;obtain⟨_,g0,g1,gf⟩:=ht.facts;clear ht hk h0 h1 hf hg
 go_wp2_with fail
 go_ret
 exact⟨rfl,HT.out,HK.out⟩
def pq (a:Nat->Addr) (W:World) (F:Nat->Prop) (p:Nat) (st:Option (List UInt8)) (size:Nat) (e:Ending) (w':World):Prop:=
 (e= .returned (.bool true)/\W=w'/\∃q A c,st=some q/\q.length+size<=65536/\aH W p 204 (.slice A q.length c) .nilIface/\W.ownsRow 0 5 1 (.slice A q.length c) q.length (aj q)/\∀k,(Value.slice A q.length c).ownBlock=some k->F k/\k≠p)\/
 (e= .returned (.bool false)/\Kept F W w'/\∀ (t:List UInt8) (n':Nat),t.length=size->bg a w' F p (st.map (· ++ t)) n')
theorem sF (a:Nat->Addr) (W:World) (F:Nat->Prop) (p:Nat) (st:Option (List UInt8)) (n size:Nat) (h:bg a W F p st n) (hE:ar W a):
 Calls Tryz.prog 145 #[.pointer (some ⟨p,0,none⟩),.int .i64 size] W (pq a W F p st size):=by
 obtain⟨h1,h2,hA,v,x,h3,h4,h5⟩:=h;cases st with
 | none=>obtain⟨rfl,rfl⟩:=h5;exact(sG _ _ size p W h3).mono λe w' ⟨he,hw⟩=> .inr ⟨he,hw ▸ Kept.refl _ _,λt n' _=>hw ▸ ⟨h1,h2,hA,_,_,h3,h4,rfl,rfl⟩⟩
 | some q=>
   by_cases hq:q.length<=65536
   · rw[iX a W v x hq]at h5;obtain⟨rfl,hown⟩:=h5;obtain⟨A,c,rfl⟩:=iD hown;by_cases hs:q.length+size<=65536
     · exact(Cg A _ c size p W h3 hs).mono λe w' ⟨he,hw⟩=> .inl ⟨he,hw,q,A,c,rfl,hs,h3,hown,h4⟩
     · refine(Cf a A _ c size p W h3 hq (by omega) hE).mono λe w' ⟨he,ht,hk⟩=> .inr ⟨he,hk.mono λi _ hi=>by subst hi;exact h1,λt n' hl=> ?_⟩;exact⟨h1,λk hf=>Nat.lt_of_lt_of_le (h2 k hf) hk.size,hA,_,_,ht,λk hk=>by simp[Value.ownBlock]at hk,(jO a w' _ _ (by rw[List.length_append];omega)).2 ⟨rfl,rfl⟩⟩
   · rw[jO a W v x hq]at h5;obtain⟨rfl,rfl⟩:=h5;exact(sG _ _ size p W h3).mono λe w' ⟨he,hw⟩=> .inr ⟨he,hw ▸ Kept.refl _ _,λt n' _=>hw ▸ ⟨h1,h2,hA,_,_,h3,h4,(jO a W _ _ (by rw[List.length_append];omega)).2 ⟨rfl,rfl⟩⟩⟩
end Go.Proofs.YtdilnodbfnlhdaaGreatDoor
