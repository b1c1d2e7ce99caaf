import Derived.Test.YtiafamacjpgjoaaGreatDoorGMem
import Derived.Test.YtiafamacjpgjoaaGreatDoorGBits7
import Derived.Test.YtiafamacjpgjoaaGreatDoorGKeep
import Derived.Deep.RegionLaw
import Derived.Deep.AppendLies
import Derived.WalkKit
import Derived.WalkSpells
import Derived.Deep.QuietTactic
import Derived.BigQuiet
import Derived.Deep.RegionHeld3
set_option maxHeartbeats 2000000
set_option maxRecDepth 100000
namespace Go.Proofs.YtiafamacjpgjoaaGreatDoor
open Go.RowKit Tide
structure aw where
 d:aF
 vr:Value
 rs:List Value
def aw.cells (g:aw):List Value:= [.int .i64 (g.d.place:Int),.int .i64 (g.d.number:Int),.int .i64 (g.d.bJ:Int),g.vr]
theorem lE (gs:List aw):(gs.flatMap aw.cells).length=gs.length * 4:=by
 induction gs with
 | nil=>rfl
 | cons t gs ih=>rw[List.flatMap_cons,List.length_append,ih,List.length_cons];simp[aw.cells];omega
theorem um:∀ (gs:List aw) (i j:Nat) (h:i < gs.length),j < 4->(gs.flatMap aw.cells)[i * 4+j]? =(gs[i]).cells[j]?
 | [],_,_,h,_=>by simp at h
 | t :: gs,0,j,_,hj=>by rw[List.flatMap_cons,List.getElem?_append_left (by simp[aw.cells];omega)];simp
 | t :: gs,i+1,j,h,hj=>by have hl:t.cells.length=4:=rfl;rw[List.flatMap_cons,List.getElem?_append_right (by omega),hl,show(i+1) * 4+j - 4=i * 4+j by omega];exact um gs i j (by simpa using h) hj
def gi (W:World) (F:Nat->Prop) (rs:List Value) (bs:List (List UInt8)):Prop:=
 rs.length=bs.length/\∀ (i:Nat) (u:Value) (b:List UInt8),rs[i]? =some u->bs[i]? =some b->W.ownsRow 0 5 1 u b.length (al b)/\(∀k,u.ownBlock=some k->F k)
structure bC (W:World) (F S:Nat->Prop) (p:Nat) (places:Nat) (gs:List aw) (vs:Value):Prop where
 block:aI W p 145 (.int .i64 (places:Int)) vs
 ae:W.ownsRow 0 152 4 vs gs.length (gs.flatMap aw.cells)
 rows:∀g ∈ gs,W.ownsRow 0 47 1 g.vr g.rs.length g.rs/\(∀k,g.vr.ownBlock=some k->F k)/\gi W S g.rs g.d.aE
 fp:F p/\∀k,vs.ownBlock=some k->F k
 lt:∀k,F k\/S k->k < W.heap.size
 apart:gs.Pairwise λa b=>∀k,a.vr.ownBlock=some k->b.vr.ownBlock≠some k
def dy (W:World) (F S:Nat->Prop) (p:Nat) (s:aC):Prop:=∃gs vs,s.ae=gs.map aw.d/\bC W F S p s.places gs vs
section
variable {W W':World} {F G S:Nat->Prop} {p places:Nat} {gs:List aw} {vs:Value} {s:aC}
theorem gi.aj {rs:List Value} {bs:List (List UInt8)} (h:gi W F rs bs) (hk:Kept G W W') (hG:∀k,F k->¬G k):gi W' F rs bs:=
 ⟨h.1,λi u b hu hb=>⟨hk.own (h.2 i u b hu hb).1 (λk e=>hG k ((h.2 i u b hu hb).2 k e)),(h.2 i u b hu hb).2⟩⟩
theorem gi.mono {rs:List Value} {bs:List (List UInt8)} (h:gi W F rs bs) (hF:∀k,F k->G k):gi W G rs bs:=
 ⟨h.1,λi u b hu hb=>⟨(h.2 i u b hu hb).1,λk e=>hF k ((h.2 i u b hu hb).2 k e)⟩⟩
theorem bC.aj (h:bC W F S p places gs vs) (hk:Kept G W W') (hG:∀k,F k\/S k->¬G k):bC W' F S p places gs vs:=
 { h with
   block:=h.block.kept hk (hG _ (.inl h.fp.1))
   ae:=hk.own h.ae (λk e=>hG k (.inl (h.fp.2 k e)))
   rows:=λg hg=>⟨hk.own (h.rows g hg).1 (λk e=>hG k (.inl ((h.rows g hg).2.1 k e))),(h.rows g hg).2.1,(h.rows g hg).2.2.aj hk (λk hs=>hG k (.inr hs))⟩
   lt:=λk hf=>Nat.lt_of_lt_of_le (h.lt k hf) hk.size }
theorem bC.below (h:bC W F S p places gs vs) (hb:Below W.heap.size W W'):bC W' F S p places gs vs:=h.aj (G:=λ_=>False) (Kept.an hb) (λ_ _ h=>h)
theorem dy.aj (h:dy W F S p s) (hk:Kept G W W') (hG:∀k,F k\/S k->¬G k):dy W' F S p s:=by obtain⟨gs,vs,h1,h2⟩:=h;exact⟨gs,vs,h1,h2.aj hk hG⟩
theorem dy.below (h:dy W F S p s) (hb:Below W.heap.size W W'):dy W' F S p s:=h.aj (G:=λ_=>False) (Kept.an hb) (λ_ _ h=>h)
theorem bC.kN (h:bC W F S p places gs vs):∃A c,vs= .slice A gs.length c/\gs.length<=c/\c<=9223372036854775807:=by
 rcases h.ae.2 with⟨h1,h0⟩|⟨g,cap,cur,h1,_,_,h2,h3,_⟩
 · exact⟨none,0,by rw[h1,h0],by omega,by omega⟩
 · exact⟨_,cap,h1,h2,h3⟩
theorem bC.cells (h:bC W F S p places gs vs) (i:Nat) (hi:i < gs.length):∃b c,vs= .slice (some ⟨b,0,none⟩) gs.length c/\b < W.heap.size/\W.cell? ⟨b,i * 4,none⟩=some (.int .i64 ((gs[i]).d.place:Int))/\W.cell? ⟨b,i * 4+1,none⟩=some (.int .i64 ((gs[i]).d.number:Int))/\W.cell? ⟨b,i * 4+2,none⟩=some (.int .i64 ((gs[i]).d.bJ:Int))/\W.cell? ⟨b,i * 4+3,none⟩=some (gs[i]).vr:=by
 obtain⟨b,c,hv,_,hlt⟩:=h.ae.form (by omega);have hat:∀j u,((gs[i]).cells)[j]? =some u->j < 4->W.cell? ⟨b,i * 4+j,none⟩=some u:=λj u hu hj=>by
  have h1:=h.ae.cells (g:=b) (by rw[hv];rfl) (i * 4+j) u (by rw[um gs i j hi hj];exact hu)
  rwa[cV,Nat.zero_add]at h1
 exact⟨b,c,hv,hlt,hat 0 _ rfl (by omega),hat 1 _ rfl (by omega),hat 2 _ rfl (by omega),hat 3 _ rfl (by omega)⟩
end
theorem bC.lI {W:World} {F S:Nat->Prop} {p places:Nat} {gs:List aw} {vs:Value} (h:bC W F S p places gs vs) {g:aw} (hg:g ∈ gs):∃A c,g.vr= .slice A g.rs.length c/\g.rs.length<=c/\c<=9223372036854775807:=by
 rcases(h.rows g hg).1.2 with⟨h1,h0⟩|⟨b,cap,cur,h1,_,_,h2,h3,_⟩
 · exact⟨none,0,by rw[h1,h0],by omega,by omega⟩
 · exact⟨_,cap,h1,h2,h3⟩
theorem dH (x:Int) (h1: -1000000<=x) (h2:x<=1000000):wrap64 x=x:=by unfold wrap64;omega
theorem dG (x:Int) (h1: -1000000<=x) (h2:x<=1000000):IntKind.i64.wrap x=x:=by simp[IntKind.wrap,IntKind.signed,IntKind.bits];omega
theorem oC (A:Option Addr) (n c:Nat) (hn:n<=100000) (W:World):Calls Tryz.prog 93 #[.slice A n c] W λe w'=>e= .returned (.int .i64 ((cI n:Nat):Int))/\W=w':=by
 obtain⟨q,hq⟩:=aa ((n+63) / 64);have hN:=ab (show((cI n:Nat):Int)=1+(q:Int) from by unfold cI;omega);have w1:wrap64 ((n:Int)+63)=(n:Int)+63:=by unfold wrap64;omega
 have v1:IntKind.i64.wrap ((n:Int)+63)=(n:Int)+63:=by simp[IntKind.wrap,IntKind.signed,IntKind.bits];omega
 have q1:((n:Int)+63).tdiv 64=(q:Int):=by rw[Int.tdiv_eq_ediv_of_nonneg (by omega)];omega
 have q2:((n:Int)+63) / 64=(q:Int):=by omega
 have w2:wrap64 (q:Int)=(q:Int):=by unfold wrap64;omega
 have v2:IntKind.i64.wrap (q:Int)=(q:Int):=by simp[IntKind.wrap,IntKind.signed,IntKind.bits];omega
 have w3:wrap64 (1+(q:Int))=1+(q:Int):=by unfold wrap64;omega
 have v3:IntKind.i64.wrap (1+(q:Int))=1+(q:Int):=by simp[IntKind.wrap,IntKind.signed,IntKind.bits];omega
 clear hq hn
 go_enter Tryz.func93,Tryz.ntmps93
 go_wp2_with fail
 go_ret
 exact⟨by rw[hN.out];rfl,rfl⟩
end Go.Proofs.YtiafamacjpgjoaaGreatDoor
namespace Go.Proofs.YtiafamacjpgjoaaGreatDoor
open Go.RowKit Tide
theorem sH {gs:List aw} (h:gs≠ []):(gs.map aw.d).getLast? =some (gs[gs.length - 1]'(by have:=List.length_pos_iff.2 h;omega)).d:=by have hp:=List.length_pos_iff.2 h;rw[List.getLast?_eq_getElem?,List.length_map,List.getElem?_map,List.getElem?_eq_getElem (by omega)];rfl
section
variable {W:World} {F S:Nat->Prop} {p places:Nat} {gs:List aw} {vs:Value}
theorem nV (h:bC W F S p places gs vs) (hs:∀g ∈ gs,g.d.bJ<=63) (hmax:gs.length<=1000) (A:Option Addr) (n c:Nat) (hn:n<=100000):Calls Tryz.prog 91 #[.pointer (some ⟨p,0,none⟩),.slice A n c] W λe w'=>e= .returned (.bool (dN (gs.map aw.d) n))/\∃k,w'=W.drewN k:=by
 obtain⟨hpl,c0,c1,_⟩:=h.block.facts;have CN:=ab (λk=>show Calls Tryz.prog 93 #[.slice A n c] (W.drewN k) (λe w'=>e= .returned (.int .i64 ((cI n:Nat):Int))/\w'=W.drewN k) from(oC A n c hn (W.drewN k)).mono λ_ _ ⟨h1,h2⟩=>⟨h1,h2.symm⟩);by_cases hg:gs= []
 · subst hg;obtain⟨A2,c2,rfl,_,_⟩:=h.kN;clear h hs;simp only[List.length_nil]at c1
   go_enter Tryz.func91,Tryz.ntmps91
   go_wp2_with fail
   go_quiet (fail)
   go_wp2_with fail
   go_ret
   exact⟨rfl,_,rfl⟩
 · have hp:=List.length_pos_iff.2 hg;obtain⟨b,cc,rfl,hb,_,_,d2,_⟩:=h.cells (gs.length - 1) (by omega);have hsec:=hs _ (List.getElem_mem (show gs.length - 1 < gs.length by omega));have hF:=ab (show dN (gs.map aw.d) n=decide ((gs[gs.length - 1]'(by omega)).d.bJ+cI n<=63) from by unfold dN;rw[sH hg]);generalize gs[gs.length - 1]'(by omega)=g at *;generalize g.d.bJ=sc at *;obtain⟨L,hL⟩:=aa gs.length;rw[hL]at c1 d2 hp hmax;have hnd:cI n<=2000:=by unfold cI;omega
   have hF2:=ab (show dN (gs.map aw.d) n=decide ((sc:Int)+((cI n:Nat):Int)<=63) from by rw[hF.out,decide_eq_decide];omega);generalize cI n=nd at *;obtain⟨K,rfl⟩:∃K,L=K+1:=⟨L - 1,by omega⟩;simp only[Nat.add_sub_cancel]at d2;have hsc:sc<=63:=hsec;have q0:decide ((0:Int) < (K:Int)+1)=true:=decide_eq_true (by omega);have k1:(K:Int) < (K:Int)+1:=by omega
   have k0:(0:Int)<=(K:Int):=by omega
   have hK0:(-1000000:Int)<=(K:Int):=by omega
   have hK1:(K:Int)<=1000000:=by omega
   have hS0:(-1000000:Int)<=(sc:Int)+(nd:Int):=by omega
   have hS1:(sc:Int)+(nd:Int)<=1000000:=by omega
   have wK:=dH (K:Int) hK0 hK1;have vK:=dG (K:Int) hK0 hK1;have w1:=dH ((sc:Int)+(nd:Int)) hS0 hS1;have v1:=dG ((sc:Int)+(nd:Int)) hS0 hS1;clear hK0 hK1 hS0 hS1;clear h hs hF hg hL hsec hnd hsc hp hb hmax;cases hq:decide ((sc:Int)+(nd:Int)<=63)
   all_goals
    have HQ:=ab (hF2.out.trans hq)
    go_enter Tryz.func91,Tryz.ntmps91
    go_wp2_with fail
    go_quiet ((go_at_call 93;(with_reducible refine Calls.quiet_of_same (CN.out _))))
    go_wp2_with fail
    go_ret
    exact⟨by rw[HQ.out];rfl,_,rfl⟩
end
end Go.Proofs.YtiafamacjpgjoaaGreatDoor
namespace Go.Proofs.YtiafamacjpgjoaaGreatDoor
open Go.RowKit Tide
theorem sq:(Tryz.prog.info? 152).map (λi=>(i.zero,i.size,i.bytes))=some (some (.agg #[.int .i64 0,.int .i64 0,.int .i64 0,.slice none 0 0]),4,48):=by kernel_rfl
theorem Ed (gs:List aw) (j:Nat) (h:j < gs.length) (p:Int):eA ((gs.take (j+1)).map aw.d) p=(eA ((gs.take j).map aw.d) p || ((gs[j]).d.place:Int) == p):=by rw[List.take_succ_eq_append_getElem h,List.map_append];unfold eA;rw[List.any_append];simp
theorem Dp (gs:List aF) (P k:Nat):cU gs P (k+1)=if eA gs ((P:Int) - 1 - k) then cU gs P k else(P:Int) - 1 - k:=rfl
theorem eU {W:World} {base:Nat} {e:TypeId} {size n k:Nat} {v:Value} {xs:List Value} (h:W.ownsRow base e size v n xs) (hv:v.ownBlock=some k):∃cur,W.heap[k]? =some (.cells cur e (0,0)):=by
 rcases h.2 with⟨rfl,_⟩|⟨g,cap,cur,rfl,_,hg,_⟩
 · cases hv
 · have:g=k:=by simpa[Value.ownBlock]using hv
   subst this;exact⟨cur,hg⟩
theorem dF {W:World} {base base':Nat} {e e':TypeId} {size size' n n':Nat} {v v':Value} {xs xs':List Value} (h:W.ownsRow base e size v n xs) (h':W.ownsRow base' e' size' v' n' xs') (hne:e≠e'):∀k,v.ownBlock=some k->v'.ownBlock≠some k:=λk hk hk'=>by obtain⟨c,h1⟩:=eU h hk;obtain⟨c',h2⟩:=eU h' hk';rw[h1]at h2;injection h2 with h2;injection h2 with _ h2 _;exact hne h2
theorem fG {W:World} {base:Nat} {e t:TypeId} {size n g:Nat} {v x y:Value} {xs:List Value} (h:aI W g t x y) (h':W.ownsRow base e size v n xs) (hne:t≠e):v.ownBlock≠some g:=λhk=>by obtain⟨c,h1⟩:=eU h' hk;rw[show W.heap[g]? =_ from h]at h1;injection h1 with h1;injection h1 with _ h1 _;exact hne h1
section
variable {W:World} {F S:Nat->Prop} {p places:Nat} {gs:List aw} {vs:Value}
theorem bC.snoc (h:bC W F S p places gs vs) {W1 W9:World} (hb:Below W.heap.size W W1) (hg:W1.grownBy W9 vs.ownBlock) {g cap:Nat} (x:aF) (hx:x.aE= [])
 (hown:W9.ownsRow 0 152 4 (.slice (some ⟨g,0,none⟩) (gs.length+1) cap) (gs.length+1) (gs.flatMap aw.cells ++ [.int .i64 (x.place:Int),.int .i64 (x.number:Int),.int .i64 (x.bJ:Int),.slice none 0 0])) (hat:vs.ownBlock=some g\/g=W1.heap.size):
 ∃F',bC (W9.setCell ⟨p,1,none⟩ (.slice (some ⟨g,0,none⟩) (gs.length+1) cap)) F' S p places (gs ++ [⟨x,.slice none 0 0, []⟩]) (.slice (some ⟨g,0,none⟩) (gs.length+1) cap)/\(∀k,F' k->F k\/W.heap.size<=k)/\Kept F W (W9.setCell ⟨p,1,none⟩ (.slice (some ⟨g,0,none⟩) (gs.length+1) cap)):=by
 have hg2:=(hown.lt g rfl).2;have hpl:=h.block.lt;have hz1:=hb.size;have hz9:=hg.size;have hK1:Kept (λk=>vs.ownBlock=some k) W1 W9:=(Kept.refl _ _).grown hg (λk e=> .inl e);have hK:Kept (λk=>vs.ownBlock=some k) W W9:=(Kept.an hb).trans hK1 (λk e=> .inl e);have hvl:∀k,vs.ownBlock=some k->k < W.heap.size:=λk e=>h.lt k (.inl (h.fp.2 k e));have hpv:vs.ownBlock≠some p:=fG h.block h.ae (by decide);have hKp:Kept (λk=>k=p) W9 (W9.setCell ⟨p,1,none⟩ (.slice (some ⟨g,0,none⟩) (gs.length+1) cap)):=(Kept.refl (λk=>k=p) W9).setCell (p:=⟨p,1,none⟩) (.inl rfl) _;have hgp:g≠p:=by
  rcases hat with e|e
  · intro e2;subst e2;exact hpv e
  · omega
 have hall:Kept (λk=>vs.ownBlock=some k\/k=p) W (W9.setCell ⟨p,1,none⟩ (.slice (some ⟨g,0,none⟩) (gs.length+1) cap)):=(hK.mono (λk _ e=> .inl e)).setCell (.inl (.inr rfl)) _;have hrow:∀ {e:TypeId} {size n:Nat} {v:Value} {xs:List Value},W.ownsRow 0 e size v n xs->152≠e->145≠e->(W9.setCell ⟨p,1,none⟩ (.slice (some ⟨g,0,none⟩) (gs.length+1) cap)).ownsRow 0 e size v n xs:=λho h1 h2=>hall.own ho (λk e hk=>hk.elim (λhk=>dF h.ae ho h1 k hk e) (λhk=>by subst hk;exact fG h.block ho h2 e));refine⟨λk=>F k\/(W.heap.size<=k/\k < W9.heap.size),{ block:= ?_,ae:= ?_,rows:= ?_,fp:= ?_,lt:= ?_,apart:= ?_ },?_,?_⟩
 · exact(h.block.kept hK hpv).iR _
 · rw[List.length_append,List.flatMap_append];exact hKp.own hown (λk e=>by cases e;exact hgp)
 · intro y hy;rcases List.mem_append.1 hy with hy|hy
   · obtain⟨r1,r2,r3,r4⟩:=h.rows y hy;exact⟨hrow r1 (by decide) (by decide),λk e=> .inl (r2 k e),r3,λi u b hu hb=>⟨hrow (r4 i u b hu hb).1 (by decide) (by decide),(r4 i u b hu hb).2⟩⟩
   · simp only[List.mem_singleton]at hy;subst hy;exact⟨⟨rfl,.inl ⟨rfl,rfl⟩⟩,(λk e=>by cases e),(by rw[hx];rfl),(λi u b hu _=>by cases hu)⟩
 · refine⟨.inl h.fp.1,λk e=> ?_⟩;have e:g=k:=by simpa[Value.ownBlock]using e
   subst e;rcases hat with e|e
   · exact .inl (h.fp.2 _ e)
   · exact .inr ⟨by omega,hg2⟩
 · intro k hk;have hz:(W9.setCell ⟨p,1,none⟩ (.slice (some ⟨g,0,none⟩) (gs.length+1) cap)).heap.size=W9.heap.size:=by simp[World.setCell]
   rw[hz];rcases hk with(hk|hk)|hk
   · have:=h.lt k (.inl hk);omega
   · exact hk.2
   · have:=h.lt k (.inr hk);omega
 · refine List.pairwise_append.2 ⟨h.apart,by simp,λa _ b hb k _ e=> ?_⟩;simp only[List.mem_singleton]at hb;subst hb;cases e
 · rintro k (hk|hk)
   · exact .inl hk
   · exact .inr hk.1
 · exact(hK.mono (λk _ e=>h.fp.2 k e)).setCell (.inl h.fp.1) _
theorem bC.grown {W9:World} (h:bC W F S p places gs vs) (hg:W.grownBy W9 vs.ownBlock):W9.cell? ⟨p,1,none⟩=some vs/\W9.frozen? ⟨p,1,none⟩=false/\p < W9.heap.size:=by have hK:Kept (λk=>vs.ownBlock=some k) W W9:=(Kept.refl _ _).grown hg (λk e=> .inl e);obtain⟨h1,_,h2,h3⟩:=(h.block.kept hK (fG h.block h.ae (by decide))).facts;exact⟨h2,h3 1,h1⟩
theorem bC.last {L K:Nat} (h:bC W F S p places gs vs) (hL:gs.length=L) (hK:L=K+1):∃b c no,vs= .slice (some ⟨b,0,none⟩) L c/\b < W.heap.size/\W.cell? ⟨b,K * 4+1,none⟩=some (.int .i64 ((no:Nat):Int))/\cS (gs.map aw.d)=(no:Int)/\∃g ∈ gs,no=g.d.number:=by
 subst hK;obtain⟨b,c,hv,hb,_,d1,_,_⟩:=h.cells K (by omega);have hne:gs≠ []:=by intro e;subst e;simp at hL
 refine⟨b,c,(gs[K]).d.number,by rw[hv,hL],hb,d1,?_,gs[K],List.getElem_mem _,rfl⟩;unfold cS;rw[sH hne];have:gs.length - 1=K:=by omega
 simp only[this]
def vN (W:World) (F S:Nat->Prop) (p places:Nat) (gs:List aw) (e:Ending) (w':World):Prop:=
 (cU (gs.map aw.d) places places < 0/\e= .returned (.bool false)/\Below W.heap.size W w')\/
   (0<=cU (gs.map aw.d) places places/\e= .returned (.bool true)/\∃F' vs',bC w' F' S p places (gs ++ [⟨⟨(cU (gs.map aw.d) places places).toNat,(cS (gs.map aw.d)+1).toNat,0, []⟩,.slice none 0 0, []⟩]) vs'/\(∀k,F' k->F k\/W.heap.size<=k)/\Kept F W w')
theorem uK (h:bC W F S p places gs vs) (hP:places<=1000) (hmax:gs.length<=1000) (hno:∀g ∈ gs,g.d.number<=100000):Calls Tryz.prog 92 #[.pointer (some ⟨p,0,none⟩)] W (vN W F S p places gs):=by
 obtain⟨hpl,c0,c1,_⟩:=h.block.facts;obtain⟨A,c,rfl,_,_⟩:=h.kN;have H:=ab h;have HM:=ab hmax;have HNo:=ab hno;clear h hmax hno;have hP0:(-1000000:Int)<=(places:Int) - 1:=by omega
 have hP1:(places:Int) - 1<=1000000:=by omega
 have wP:=dH _ hP0 hP1;have vP:=dG _ hP0 hP1;clear hP0 hP1
 go_enter Tryz.func92,Tryz.ntmps92
 go_wp2_with fail
 clear wP vP
 go_loopw [3,4] (λu i wr=>∃k:Nat,i= .int .i64 ((places:Int) - 1 - k)/\u= .int .i64 (cU (gs.map aw.d) places k)/\k<=places/\Hid (Below W.heap.size W wr)) (λ_ i _=>(intOf i+1).toNat)
 case atStart=>exact⟨0,by simp,rfl,Nat.zero_le _,ab (Below.refl _ _)⟩
 case round=>
  obtain⟨k,rfl,rfl,hk,hb⟩:=hrel;have c1r:=(hb.out.cell (p:=⟨p,1,none⟩) hpl).trans c1;obtain⟨q,hq⟩:∃q:Int,(places:Int) - 1 - k=q:=⟨_,rfl⟩;have HQ:=ab hq;have HSc:=ab (Dp (gs.map aw.d) places k);rw[hq]at HSc ⊢;by_cases hlt:k < places
  · have q0:decide (0<=q)=true:=decide_eq_true (by omega);have hq0:(-1000000:Int)<=q - 1:=by omega
    have hq1:q - 1<=1000000:=by omega
    have HW:=ab (And.intro (dH _ hq0 hq1) (dG _ hq0 hq1));generalize cU (gs.map aw.d) places k=sc at *;clear hq0 hq1 hq
    go_wp2_with fail
    go_loopw [5,24] (λu i wr2=>∃j:Nat,i= .int .i64 j/\u= .bool (eA ((gs.take j).map aw.d) q)/\j<=gs.length/\Hid (Below W.heap.size W wr2)) (λ_ i _=>gs.length - (intOf i).toNat)
    case atStart=>exact⟨0,rfl,rfl,Nat.zero_le _,hb⟩
    case round=>
     obtain⟨j,rfl,rfl,hj,hb2⟩:=hrel;by_cases hlj:j < gs.length
     · obtain⟨bb,cc,hv,hbb,d0,d1,d2,d3⟩:=(H.out.below hb2.out).cells j hlj;injection hv with e1 _ e3;subst e1 e3;obtain⟨Av,cv,hvr,_,_⟩:=H.out.lI (List.getElem_mem hlj);have HT:=ab (Ed gs j hlj q);generalize gs[j]=g at *;rw[hvr]at d3;generalize eA ((gs.take j).map aw.d) q=tk at *;cases tk with
       | true=>
         have HT2:=ab (show eA ((gs.take (j+1)).map aw.d) q=true from by rw[HT.out,Bool.true_or]);have HB2:=ab (hb2.out.alloc hb2.out.size (.cells #[.int .i64 (g.d.place:Int),.int .i64 (g.d.number:Int),.int .i64 (g.d.bJ:Int),.slice Av g.rs.length cv] 152))
         go_wp2_with fail
         go_roundw
         case rel=>exact⟨j+1,by go_num,by rw[HT2.out],by omega,HB2⟩
         case measure=>simp[intOf];omega
       | false=>
         have HB2:=ab (hb2.out.alloc hb2.out.size (.cells #[.int .i64 (g.d.place:Int),.int .i64 (g.d.number:Int),.int .i64 (g.d.bJ:Int),.slice Av g.rs.length cv] 152));cases hpq:((g.d.place:Int) == q) with
         | true=>
           have HT2:=ab (show eA ((gs.take (j+1)).map aw.d) q=true from by rw[HT.out,hpq];rfl)
           go_wp2_with fail
           go_roundw
           case rel=>exact⟨j+1,by go_num,by rw[HT2.out],by omega,HB2⟩
           case measure=>simp[intOf];omega
         | false=>
           have HT2:=ab (show eA ((gs.take (j+1)).map aw.d) q=false from by rw[HT.out,hpq];rfl)
           go_wp2_with fail
           go_roundw
           case rel=>exact⟨j+1,by go_num,by rw[HT2.out],by omega,HB2⟩
           case measure=>simp[intOf];omega
     · have hje:j=gs.length:=by omega
       subst hje;rw[List.take_length];have hw:=HW.out;obtain⟨hw1,hw2⟩:=hw;cases htk:eA (gs.map aw.d) q with
       | true=>
         have HSc2:=ab (show cU (gs.map aw.d) places (k+1)=sc from by rw[HSc.out,htk,if_pos rfl])
         go_wp2_with fail
         clear hw1 hw2
         go_roundw
         case rel=>exact⟨k+1,by rw[<-HQ.out];congr 1;omega,by rw[HSc2.out],by omega,hb2⟩
         case measure=>have:=HQ.out;simp[intOf];omega
       | false=>
         have HSc2:=ab (show cU (gs.map aw.d) places (k+1)=q from by rw[HSc.out,htk];rfl)
         go_wp2_with fail
         clear hw1 hw2
         go_roundw
         case rel=>exact⟨k+1,by rw[<-HQ.out];congr 1;omega,by rw[HSc2.out],by omega,hb2⟩
         case measure=>have:=HQ.out;simp[intOf];omega
  · have hke:k=places:=by omega
    subst hke;have q0:decide (0<=q)=false:=decide_eq_false (by omega);clear hq;obtain⟨sc,hsc⟩:=aa (cU (gs.map aw.d) k k);have HSC:=ab hsc;rw[hsc]at HSc ⊢;have hlow:=pB (gs.map aw.d) k k (Nat.le_refl _);rw[hsc]at hlow;clear hsc;by_cases hneg:sc < 0
    · have q1:decide (sc < 0)=true:=decide_eq_true hneg;have HNeg:=ab hneg;clear hneg hlow
      go_wp2_with fail
      go_ret
      exact .inl ⟨by rw[HSC.out];exact HNeg.out,rfl,hb.out⟩
    · have q1:decide (sc < 0)=false:=decide_eq_false hneg;have HNeg:=ab (show 0<=sc by omega);obtain⟨at',rfl⟩:∃a:Nat,sc=(a:Int):=⟨sc.toNat,by omega⟩;clear hneg hlow;obtain⟨i0,hinf,hz0,hz1,hz2⟩:=info_parts sq;have HIn:=ab hinf;clear hinf;have hpr:=Nat.lt_of_lt_of_le hpl hb.out.size;obtain⟨L,hL⟩:=aa gs.length;have HSegs:=ab (show W.ownsRow 0 152 4 (.slice A L c) L (gs.flatMap aw.cells) from by have:=H.out.ae;rwa[hL]at this);have HL:=ab hL;have HLm:=ab (show L<=1000 from by have:=HM.out;omega);rw[hL]at c1r;clear hL;by_cases hg0:L=0
      · have q2:decide ((0:Int) < (L:Int))=false:=decide_eq_false (by omega);have q2n:decide (0 < L)=false:=decide_eq_false (by omega);have q3n:¬0 < L:=by omega
        have HNo0:=ab (show cS (gs.map aw.d)+1=0 from by have:gs= []:=List.eq_nil_of_length_eq_zero (by rw[HL.out];exact hg0);subst this;rfl);clear hg0
        go_wp2_with (at_builtin;refine wpList_append_lies _ rfl (.tmp 62) (.tmp 66) _ rfl 0 152 i0 _ 4 48 Tryz.underlying143 HIn.out hz0 hz1 hz2 rfl (by omega) _ L (gs.flatMap aw.cells) rfl ?d0 _ 1 _ [.int .i64 (at':Int),.int .i64 0,.int .i64 0,.slice none 0 0] rfl rfl ?d2 ?d3 (by omega) ?d4 ?d5 ?d6 _ rfl ?_)
        case d0=>exact bf (bf HSegs.out hb.out) ((Below.refl _ _).alloc (Nat.le_refl _) _)
        case d2=>exact λj u hu=>World.news_of_block (heap_alloc_new wr _) j u (by simpa using hu)
        case d3=>intro u hu;simp only[List.mem_cons,List.not_mem_nil,or_false]at hu;rcases hu with rfl|rfl|rfl|rfl<;>rfl
        case d4=>unfold maxLen;have:=HLm.out;omega
        case d5=>have:=HLm.out;omega
        case d6=>exact Nat.zero_le _
        intro g cap w9 h1 h2 h3 h4;have hba:=hb.out.alloc hb.out.size (.cells #[.int .i64 (at':Int),.int .i64 0,.int .i64 0,.slice none 0 0] 152);obtain⟨e1,e2,e3⟩:=(H.out.below hba).grown (by rw[HL.out];exact h2);have HX:=ab (H.out.snoc (g:=g) (cap:=cap) hba (by rw[HL.out];exact h2) ⟨at',0,0, []⟩ rfl (by rw[HL.out];exact h1) (by rw[HL.out,World.size_alloc];exact h3));clear h1 h2 h3 h4 hba;rw[HL.out]at e1
        go_wp2_with fail
        go_ret
        obtain⟨F',r1,r2,r3⟩:=HX.out;rw[HL.out]at r1 r3;refine .inr ⟨by rw[HSC.out];omega,rfl,F',.slice (some ⟨g,0,none⟩) (L+1) cap,?_,r2,r3⟩;rw[HSC.out,HNo0.out];exact r1
      · obtain⟨K,hK⟩:∃K,L=K+1:=⟨L - 1,by omega⟩;obtain⟨bb,cc,no,hv,hbb,d1,hlast,gx,hgx,hno⟩:=H.out.last HL.out hK;injection hv with e1 _ e3;subst e1 e3;have hnb:no<=100000:=by rw[hno];exact HNo.out gx hgx
        have HNo0:=ab (show(cS (gs.map aw.d)+1).toNat=no+1 from by rw[hlast];omega);have d1r:=(hb.out.cell (p:=⟨bb,K * 4+1,none⟩) hbb).trans d1;have q2:decide ((0:Int) < (L:Int))=true:=decide_eq_true (by omega);subst hK;have k1:(K:Int) < (K:Int)+1:=by omega
        have k0:(0:Int)<=(K:Int):=by omega
        have q2':decide ((0:Int) < (K:Int)+1)=true:=decide_eq_true (by omega);have hK0:(-1000000:Int)<=(K:Int):=by omega
        have hK1:(K:Int)<=1000000:=by have:=HLm.out;omega
        have hn0:(-1000000:Int)<=(no:Int)+1:=by omega
        have hn1:(no:Int)+1<=1000000:=by omega
        have wK:=dH _ hK0 hK1;have vK:=dG _ hK0 hK1;have w1:=dH _ hn0 hn1;have v1:=dG _ hn0 hn1;clear hK0 hK1 hn0 hn1 hg0 hlast hno hnb d1 hgx
        go_wp2_with (at_builtin;refine wpList_append_lies _ rfl (.tmp 62) (.tmp 66) _ rfl 0 152 i0 _ 4 48 Tryz.underlying143 HIn.out hz0 hz1 hz2 rfl (by omega) _ (K+1) (gs.flatMap aw.cells) rfl ?d0 _ 1 _ [.int .i64 (at':Int),.int .i64 ((no:Int)+1),.int .i64 0,.slice none 0 0] rfl rfl ?d2 ?d3 (by omega) ?d4 ?d5 ?d6 _ rfl ?_)
        case d0=>exact bf (bf HSegs.out hb.out) ((Below.refl _ _).alloc (Nat.le_refl _) _)
        case d2=>exact λj u hu=>World.news_of_block (heap_alloc_new wr _) j u (by simpa using hu)
        case d3=>intro u hu;simp only[List.mem_cons,List.not_mem_nil,or_false]at hu;rcases hu with rfl|rfl|rfl|rfl<;>rfl
        case d4=>clear wK vK w1 v1;unfold maxLen;have:=HLm.out;omega
        case d5=>clear wK vK w1 v1;have:=HLm.out;omega
        case d6=>exact Nat.zero_le _
        intro g cap w9 h1 h2 h3 h4;clear wK vK w1 v1;have hba:=hb.out.alloc hb.out.size (.cells #[.int .i64 (at':Int),.int .i64 ((no:Int)+1),.int .i64 0,.slice none 0 0] 152);obtain⟨e1,e2,e3⟩:=(H.out.below hba).grown (by rw[HL.out];exact h2);have HX:=ab (H.out.snoc (g:=g) (cap:=cap) hba (by rw[HL.out];exact h2) ⟨at',no+1,0, []⟩ rfl (by rw[HL.out];exact h1) (by rw[HL.out,World.size_alloc];exact h3));clear h1 h2 h3 h4 hba;rw[HL.out]at e1
        go_wp2_with fail
        go_ret
        obtain⟨F',r1,r2,r3⟩:=HX.out;rw[HL.out]at r1 r3;refine .inr ⟨by rw[HSC.out];omega,rfl,F',.slice (some ⟨g,0,none⟩) (K+1+1) cap,?_,r2,r3⟩;rw[HSC.out,HNo0.out];exact r1
end
end Go.Proofs.YtiafamacjpgjoaaGreatDoor
namespace Go.Proofs.YtiafamacjpgjoaaGreatDoor
open Go.RowKit Tide
theorem iN {W:World} {base g n cap:Nat} {e:TypeId} {size:Nat} {xs:List Value} (h:W.ownsRow base e size (.slice (some ⟨g,0,none⟩) n cap) n xs) (i:Nat) (v:Value):(W.setCell ⟨g,i,none⟩ v).ownsRow base e size (.slice (some ⟨g,0,none⟩) n cap) n (xs.set i v):=by
 refine⟨by rw[List.length_set];exact h.1,?_⟩;rcases h.2 with⟨h1,_⟩|⟨g',cap',cur,h1,hb,hg,h2,h3,h4,h5⟩
 · cases h1
 · injection h1 with e1 _ e3;injection e1 with e1;injection e1 with e1 _;subst e1 e3;obtain⟨hlt,hk⟩:=Array.getElem?_eq_some_iff.1 hg;refine .inr ⟨g,cap,cur.setIfInBounds i v,rfl,hb,?_,h2,h3,by rw[Array.size_setIfInBounds];exact h4,?_⟩
   · show(W.heap.modify g _)[g]? =_;rw[Array.getElem?_eq_getElem (by rw[Array.size_modify];exact hlt),Array.getElem_modify_self,hk];simp
   · rw[Array.toList_setIfInBounds,<-h5,List.take_set]
theorem qS (l:List aw) (x y:aw) (j:Nat) (v:Value) (hj:j < 4) (h:x.cells.set j v=y.cells):((l ++ [x]).flatMap aw.cells).set (l.length * 4+j) v=(l ++ [y]).flatMap aw.cells:=by
 have hl:=lE l;rw[List.flatMap_append,List.flatMap_append,List.set_append,if_neg (by omega),hl,Nat.add_sub_cancel_left]
 congr 1
section
variable {W W':World} {F S:Nat->Prop} {p places:Nat} {l:List aw} {x y:aw} {bs c:Nat}
theorem bC.reset (h:bC W F S p places (l ++ [x]) (.slice (some ⟨bs,0,none⟩) (l.length+1) c)) (v:Value) (j:Nat) (hj:j < 4) (hy:x.cells.set j v=y.cells) (hd:y.d.aE=x.d.aE) (hvr:y.vr=x.vr) (hrs:y.rs=x.rs):
 bC (W.setCell ⟨bs,l.length * 4+j,none⟩ v) F S p places (l ++ [y]) (.slice (some ⟨bs,0,none⟩) (l.length+1) c)/\Kept F W (W.setCell ⟨bs,l.length * 4+j,none⟩ v):=by
 have hlen:(l ++ [x]).length=l.length+1:=by simp
 have hseg:=h.ae;rw[hlen]at hseg;have hK:Kept (λk=>k=bs) W (W.setCell ⟨bs,l.length * 4+j,none⟩ v):=(Kept.refl (λk=>k=bs) W).setCell (p:=⟨bs,l.length * 4+j,none⟩) (.inl rfl) v;have hbs:p≠bs:=λe=>fG h.block hseg (by decide) (by rw[e];rfl);have hrow:∀ {e:TypeId} {size n:Nat} {u:Value} {xs:List Value},W.ownsRow 0 e size u n xs->152≠e->(W.setCell ⟨bs,l.length * 4+j,none⟩ v).ownsRow 0 e size u n xs:=λho h1=>hK.own ho (λk e hk=>by subst hk;exact dF hseg ho h1 _ rfl e);have hin:∀z ∈ l ++ [x],∀G:Nat->Prop,(∀k,F k->G k)->(W.setCell ⟨bs,l.length * 4+j,none⟩ v).ownsRow 0 47 1 z.vr z.rs.length z.rs/\(∀k,z.vr.ownBlock=some k->G k)/\gi (W.setCell ⟨bs,l.length * 4+j,none⟩ v) S z.rs z.d.aE:=λz hz G hG=>by obtain⟨r1,r2,r3,r4⟩:=h.rows z hz;exact⟨hrow r1 (by decide),λk e=>hG k (r2 k e),r3,λi u b hu hb=>⟨hrow (r4 i u b hu hb).1 (by decide),(r4 i u b hu hb).2⟩⟩
 refine⟨{ block:=h.block.kept hK hbs,ae:= ?_,rows:= ?_,fp:=h.fp,lt:=λk hf=>Nat.lt_of_lt_of_le (h.lt k hf) hK.size,apart:= ?_ },hK.mono (λk _ e=>by subst e;exact h.fp.2 _ rfl)⟩
 · have:=iN hseg (l.length * 4+j) v;rw[qS l x y j v hj hy]at this;rw[List.length_append,List.length_singleton];exact this
 · intro z hz;rcases List.mem_append.1 hz with hz|hz
   · exact hin z (List.mem_append.2 (.inl hz)) F (λ_ h=>h)
   · simp only[List.mem_singleton]at hz;subst hz;have:=hin x (by simp) F (λ_ h=>h);rw[hvr,hrs,hd];exact this
 · have:=h.apart;rw[List.pairwise_append]at this ⊢;refine⟨this.1,by simp,λa ha b hb=> ?_⟩;simp only[List.mem_singleton]at hb;subst hb;rw[hvr];exact this.2.2 a ha x (by simp)
theorem bC.tO (h:bC W F S p places (l ++ [x]) (.slice (some ⟨bs,0,none⟩) (l.length+1) c)) {W1 W9:World} (hb:Below W.heap.size W W1) {u:Value} {b:List UInt8} (hu:W1.ownsRow W.heap.size 5 1 u b.length (al b)) (hg:W1.grownBy W9 x.vr.ownBlock) {g cap:Nat}
 (hown:W9.ownsRow 0 47 1 (.slice (some ⟨g,0,none⟩) (x.rs.length+1) cap) (x.rs.length+1) (x.rs ++ [u])) (hat:x.vr.ownBlock=some g\/g=W1.heap.size) (hy:y.d= { x.d with aE:=x.d.aE ++ [b] }) (hvr:y.vr= .slice (some ⟨g,0,none⟩) (x.rs.length+1) cap) (hrs:y.rs=x.rs ++ [u]):
 ∃F' S',bC (W9.setCell ⟨bs,l.length * 4+3,none⟩ (.slice (some ⟨g,0,none⟩) (x.rs.length+1) cap)) F' S' p places (l ++ [y]) (.slice (some ⟨bs,0,none⟩) (l.length+1) c)/\(∀k,F' k->F k\/W.heap.size<=k)/\(∀k,S' k->S k\/W.heap.size<=k)/\Kept F W (W9.setCell ⟨bs,l.length * 4+3,none⟩ (.slice (some ⟨g,0,none⟩) (x.rs.length+1) cap)):=by
 have hlen:(l ++ [x]).length=l.length+1:=by simp
 have hseg:=h.ae;rw[hlen]at hseg;obtain⟨x1,x2,x3,x4⟩:=h.rows x (by simp);have hz1:=hb.size;have hz9:=hg.size;have hg2:=(hown.lt g rfl).2;have hK1:Kept (λk=>x.vr.ownBlock=some k) W1 W9:=(Kept.refl _ _).grown hg (λk e=> .inl e);have hK:Kept (λk=>x.vr.ownBlock=some k) W W9:=(Kept.an hb).trans hK1 (λk e=> .inl e);have hvl:∀k,x.vr.ownBlock=some k->k < W.heap.size:=λk e=>h.lt k (.inl (x2 k e));have hbsl:bs < W.heap.size:=(hseg.lt bs rfl).2;have hpl:=h.block.lt;have hbs:p≠bs:=λe=>fG h.block hseg (by decide) (by rw[e];rfl);have hvb:x.vr.ownBlock≠some bs:=dF hseg x1 (by decide) bs rfl;have hvp:x.vr.ownBlock≠some p:=fG h.block x1 (by decide);have hgb:g≠bs:=by
  rcases hat with e|e
  · intro e2;subst e2;exact hvb e
  · omega
 have hKb:Kept (λk=>k=bs) W9 (W9.setCell ⟨bs,l.length * 4+3,none⟩ (.slice (some ⟨g,0,none⟩) (x.rs.length+1) cap)):=(Kept.refl (λk=>k=bs) W9).setCell (p:=⟨bs,l.length * 4+3,none⟩) (.inl rfl) _;have hall:Kept (λk=>x.vr.ownBlock=some k\/k=bs) W (W9.setCell ⟨bs,l.length * 4+3,none⟩ (.slice (some ⟨g,0,none⟩) (x.rs.length+1) cap)):=(hK.mono (λk _ e=> .inl e)).setCell (.inl (.inr rfl)) _;have hbytes:∀ {size n:Nat} {v:Value} {xs:List Value},W.ownsRow 0 5 size v n xs->(W9.setCell ⟨bs,l.length * 4+3,none⟩ (.slice (some ⟨g,0,none⟩) (x.rs.length+1) cap)).ownsRow 0 5 size v n xs:=λho=>hall.own ho (λk e hk=>hk.elim (λhk=>dF x1 ho (by decide) k hk e) (λhk=>by subst hk;exact dF hseg ho (by decide) _ rfl e));refine⟨λk=>F k\/(W.heap.size<=k/\k < W9.heap.size),λk=>S k\/(W.heap.size<=k/\k < W9.heap.size),{ block:= ?_,ae:= ?_,rows:= ?_,fp:= ?_,lt:= ?_,apart:= ?_ },?_,?_,?_⟩
 · exact(h.block.kept hK hvp).kept hKb hbs
 · have:=iN (hK.own hseg (λk e=>by cases e;exact hvb)) (l.length * 4+3) (.slice (some ⟨g,0,none⟩) (x.rs.length+1) cap);rw[qS l x y 3 _ (by omega) (by simp[aw.cells,hy,hvr])]at this;rw[List.length_append,List.length_singleton];exact this
 · intro z hz;rcases List.mem_append.1 hz with hz|hz
   · obtain⟨r1,r2,r3,r4⟩:=h.rows z (List.mem_append.2 (.inl hz));have hap:=(List.pairwise_append.1 h.apart).2.2 z hz x (by simp);exact⟨hall.own r1 (λk e hk=>hk.elim (λhk=>hap k e hk) (λhk=>by subst hk;exact dF hseg r1 (by decide) _ rfl e)),λk e=> .inl (r2 k e),r3,λi u b hu hb=>⟨hbytes (r4 i u b hu hb).1,λk e=> .inl ((r4 i u b hu hb).2 k e)⟩⟩
   · simp only[List.mem_singleton]at hz;subst hz;rw[hvr,hrs,hy];refine⟨?_,?_,?_,?_⟩
     · rw[List.length_append,List.length_singleton];exact hKb.own hown (λk e=>by cases e;exact hgb)
     · intro k e;have e:g=k:=by simpa[Value.ownBlock]using e
       subst e;rcases hat with e|e
       · exact .inl (x2 _ e)
       · exact .inr ⟨by omega,hg2⟩
     · show(x.rs ++ [u]).length=(x.d.aE ++ [b]).length;rw[List.length_append,List.length_append,x3];rfl
     · intro i w d hw hd;by_cases hi:i < x.rs.length
       · rw[List.getElem?_append_left hi]at hw;have hd:x.d.aE[i]? =some d:=by rwa[List.getElem?_append_left (by omega)]at hd
         exact⟨hbytes (x4 i w d hw hd).1,λk e=> .inl ((x4 i w d hw hd).2 k e)⟩
       · rw[List.getElem?_append_right (by omega)]at hw;have hd:(x.d.aE ++ [b])[i]? =some d:=hd;rw[List.getElem?_append_right (by omega)]at hd;have h0:i - x.rs.length=0:=by have:=(List.getElem?_eq_some_iff.1 hw).1;simp at this;omega
         rw[h0]at hw;rw[<-x3,h0]at hd;simp only[List.getElem?_cons_zero,Option.some.injEq]at hw hd;subst hw hd;have hul:=λk e=>hu.lt k e;refine⟨hKb.own (hK1.own (ff hu (Nat.zero_le _)) (λk e hk=>by have:=(hul k e).1;have:=hvl k hk;omega)) (λk e hk=>by have:=(hul k e).1;omega),λk e=> .inr ⟨(hul k e).1,by have:=(hul k e).2;omega⟩⟩
 · exact⟨.inl h.fp.1,λk e=> .inl (h.fp.2 k e)⟩
 · intro k hk;have hz:(W9.setCell ⟨bs,l.length * 4+3,none⟩ (.slice (some ⟨g,0,none⟩) (x.rs.length+1) cap)).heap.size=W9.heap.size:=by simp[World.setCell]
   rw[hz];rcases hk with(hk|hk)|(hk|hk)
   · have:=h.lt k (.inl hk);omega
   · exact hk.2
   · have:=h.lt k (.inr hk);omega
   · exact hk.2
 · have hap:=List.pairwise_append.1 h.apart;refine List.pairwise_append.2 ⟨hap.1,by simp,λa ha z hz k e e2=> ?_⟩;simp only[List.mem_singleton]at hz;subst hz;rw[hvr]at e2;have e2:g=k:=by simpa[Value.ownBlock]using e2
   subst e2;rcases hat with e3|e3
   · exact hap.2.2 a ha x (by simp) _ e e3
   · have:=h.lt _ (.inl ((h.rows a (List.mem_append.2 (.inl ha))).2.1 _ e));omega
 · rintro k (hk|hk)
   · exact .inl hk
   · exact .inr hk.1
 · rintro k (hk|hk)
   · exact .inl hk
   · exact .inr hk.1
 · exact(hK.mono (λk _ e=>x2 k e)).setCell (p:=⟨bs,l.length * 4+3,none⟩) (.inl (h.fp.2 _ rfl)) _
end
end Go.Proofs.YtiafamacjpgjoaaGreatDoor
