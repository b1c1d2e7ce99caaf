import Derived.Test.YtiafamacjpgjoaaGreatDoorGSgT
import Derived.Test.YtiafamacjpgjoaaGreatDoorGApp
import Derived.Test.YtiafamacjpgjoaaGreatDoorGMem
import Derived.Test.YtiafamacjpgjoaaGreatDoorGKeep
import Derived.Deep.RegionLaw
set_option maxRecDepth 100000
set_option maxHeartbeats 4000000
namespace Go.Proofs.YtiafamacjpgjoaaGreatDoor
open Go.RowKit Tide
theorem oe:(Tryz.prog.info? 47).map (λi=>(i.zero,i.size,i.bytes))=some (some (.slice none 0 0),1,24):=by kernel_rfl
theorem oL {W:World} {base g n cap:Nat} {e:TypeId} {size:Nat} {xs:List Value} (h:W.ownsRow base e size (.slice (some ⟨g,0,none⟩) n cap) n xs) (i:Nat):W.frozen? ⟨g,i,none⟩=false:=by obtain⟨cur,hk⟩:=eU h (k:=g) rfl;unfold World.frozen?;rw[show W.heap[(⟨g,i,none⟩:Addr).block]? =_ from hk];simp
theorem mG {W:World} {base g:Nat} {e:TypeId} (hb:base<=g) (hg:W.heap[g]? =some (.cells #[] e (0,0))):W.ownsRow base e 1 (.slice (some ⟨g,0,none⟩) 0 0) 0 []:=
 ⟨rfl,.inr ⟨g,0,#[],rfl,hb,hg,Nat.le_refl _,Nat.zero_le _,rfl,rfl⟩⟩
theorem j9 {W W':World} {F:Nat->Prop} {u:Value} {l:List UInt8} {B:Nat} (h:Bytes W B u l) (hB:B<=W.heap.size) (hk:Kept F W W') (hf:∀k,u.ownBlock=some k->¬F k):Bytes W' B u l:=by obtain⟨hn,A,c,rfl,hc1,hc2,hc⟩:=h;refine⟨hn,A,c,rfl,hc1,hc2,λhx=> ?_⟩;obtain⟨b,o,e,hb,hcell⟩:=hc hx;subst e;exact⟨b,o,rfl,hb,λj u hu=>(hk.cell (p:=⟨b,o+j,none⟩) (Nat.lt_of_lt_of_le hb hB) (hf b rfl)).trans (hcell j u hu)⟩
theorem bC.ends {W:World} {F S:Nat->Prop} {p places:Nat} {l:List aw} {x:aw} {bs c:Nat} (h:bC W F S p places (l ++ [x]) (.slice (some ⟨bs,0,none⟩) (l.length+1) c)):bs < W.heap.size/\W.cell? ⟨bs,l.length * 4+1,none⟩=some (.int .i64 (x.d.number:Int))/\W.cell? ⟨bs,l.length * 4+3,none⟩=some x.vr/\∀i,W.frozen? ⟨bs,i,none⟩=false:=by
 have hlen:(l ++ [x]).length=l.length+1:=by simp
 obtain⟨b,c',hv,hb,_,d1,_,d3⟩:=h.cells l.length (by omega);have hx:(l ++ [x])[l.length]'(by omega)=x:=by simp
 rw[hx]at d1 d3;injection hv with e1 _ _;injection e1 with e1;injection e1 with e1 _;subst e1;exact⟨hb,d1,d3,oL (show W.ownsRow 0 152 4 (.slice (some ⟨bs,0,none⟩) (l ++ [x]).length c) (l ++ [x]).length _ from by have:=h.ae;rw[hlen]at this ⊢;exact this)⟩
theorem bC.ve {W W9:World} {F S:Nat->Prop} {p places:Nat} {l:List aw} {x:aw} {bs c:Nat} (h:bC W F S p places (l ++ [x]) (.slice (some ⟨bs,0,none⟩) (l.length+1) c)) (hg:W.grownBy W9 x.vr.ownBlock):W9.cell? ⟨bs,l.length * 4+3,none⟩=some x.vr/\W9.cell? ⟨bs,l.length * 4+1,none⟩=some (.int .i64 (x.d.number:Int))/\bs < W9.heap.size/\W9.frozen? ⟨bs,l.length * 4+3,none⟩=false:=by obtain⟨hb,d1,d3,hf⟩:=h.ends;have hK:Kept (λk=>x.vr.ownBlock=some k) W W9:=(Kept.refl _ _).grown hg (λk e=> .inl e);have hne:x.vr.ownBlock≠some bs:=dF h.ae (h.rows x (by simp)).1 (by decide) bs rfl;refine⟨(hK.cell (p:=⟨bs,_,none⟩) hb hne).trans d3,(hK.cell (p:=⟨bs,_,none⟩) hb hne).trans d1,Nat.lt_of_lt_of_le hb hK.size,?_⟩;obtain⟨cur,hc⟩:=eU h.ae (k:=bs) rfl;have hc9:=hK.heap hc hne;unfold World.frozen?;rw[show W9.heap[(⟨bs,l.length * 4+3,none⟩:Addr).block]? =_ from hc9];simp
def vy (W:World) (F S:Nat->Prop) (p:Nat) (r:aC × Int × Int) (e:Ending) (w':World):Prop:=
 e= .returned (.tuple #[.int .i64 r.2.1,.int .i64 r.2.2])/\∃F' S',dy w' F' S' p r.1/\(∀k,F' k->F k\/W.heap.size<=k)/\(∀k,S' k->S k\/W.heap.size<=k)/\Kept F W w'
section
variable {W:World} {F S:Nat->Prop} {p places:Nat} {gs:List aw} {vs:Value}
theorem BS (W:World) (p:Nat) (A:Option Addr) (n c:Nat) (hn:n < 1\/3968 < n):Calls Tryz.prog 62 #[.pointer (some ⟨p,0,none⟩),.slice A n c] W λe w'=>e= .returned (.tuple #[.int .i64 0,.int .i64 4])/\w'=W:=by
 by_cases h1:n < 1
 · have h0:n=0:=by omega
   subst h0;clear hn h1
   go_enter Tryz.func62,Tryz.ntmps62
   go_wp2_with fail
   go_ret2
   exact⟨rfl,rfl⟩
 · have q1:decide ((n:Int) < 1)=false:=decide_eq_false (by omega);have q2:decide ((3968:Int) < (n:Int))=true:=decide_eq_true (by omega);have q3:decide (3968 < n)=true:=decide_eq_true (by omega);have q4:¬n=0:=by omega
   have q5:3968 < n:=by omega
   have q6:decide (n=0)=false:=decide_eq_false q4;clear hn h1
   go_enter Tryz.func62,Tryz.ntmps62
   go_wp2_with fail
   go_ret2
   exact⟨rfl,rfl⟩
theorem BO {l:List aw} {x:aw} (h:bC W F S p places (l ++ [x]) vs) (hs:∀g ∈ l ++ [x],g.d.bJ<=63) (hmax:(l ++ [x]).length<=1000) (hrs:x.rs.length<=1000)
 {v:Value} {B:Nat} {b:List UInt8} (hv:Bytes W B v b) (hB:B<=W.heap.size) (hap:∀k,v.ownBlock=some k->¬F k) (hb:1<=b.length/\b.length<=3968) (hf:x.d.bJ+cI b.length<=63):
 Calls Tryz.prog 62 #[.pointer (some ⟨p,0,none⟩),v] W λe w'=>e= .returned (.tuple #[.int .i64 (x.d.number:Int),.int .i64 0])/\∃F' S' vs' y,bC w' F' S' p places (l ++ [y]) vs'/\y.d=x.d.push b/\(∀k,F' k->F k\/W.heap.size<=k)/\(∀k,S' k->S k\/W.heap.size<=k)/\Kept F W w':=by
 obtain⟨A,cb,rfl,_,_,_⟩:=hv.form;have hFit:dN ((l ++ [x]).map aw.d) b.length=true:=by rw[List.map_append,List.map_singleton,ld];exact decide_eq_true hf
 have CF:=ab (nV h hs hmax A b.length cb (by omega));rw[hFit]at CF;have CN:=ab (λW=>oC A b.length cb (by omega) W);have HL:=ab hb;have q1:decide ((b.length:Int) < 1)=false:=decide_eq_false (by omega);have q2:decide ((3968:Int) < (b.length:Int))=false:=decide_eq_false (by omega);have q3:decide (3968 < b.length)=false:=decide_eq_false (by omega);have q4:¬b= []:=by intro e;subst e;simp at hb
 have q5:¬3968 < b.length:=by omega
 have hlen:(l ++ [x]).length=l.length+1:=by simp
 obtain⟨bs,c,rfl,hbs,d0,d1,d2,d3⟩:=h.cells l.length (by omega);have hx:(l ++ [x])[l.length]'(by omega)=x:=by simp
 rw[hx]at d0 d1 d2 d3;rw[hlen]at h hmax;obtain⟨K,hK⟩:=aa l.length;have hKm:K<=1000:=by omega
 have H:=ab h;rw[hK]at d0 d1 d2 d3;have c1:=h.block.facts.2.2.1;rw[hK]at c1;have HKe:=ab hK;have fz:=λj=>oL (show W.ownsRow 0 152 4 (.slice (some ⟨bs,0,none⟩) (l ++ [x]).length c) (l ++ [x]).length _ from by have:=h.ae;rw[hlen]at this ⊢;exact this) (K * 4+j);have HV:=ab hv;have HAp:=ab hap;clear hv hap hFit hlen hx h hmax
 go_enter Tryz.func62,Tryz.ntmps62
 go_wp2_with fail
 refine CF.out.mono ?_;rintro en w1 ⟨rfl,n1,rfl⟩;have kL:(K:Int) < (K:Int)+1:=by omega
 have k0:(0:Int)<=(K:Int):=by omega
 have hK0:(-1000000:Int)<=(K:Int):=by omega
 have hK1:(K:Int)<=1000000:=by omega
 have hnd:cI b.length<=63:=by omega
 have hS0:(-1000000:Int)<=(x.d.bJ:Int)+((cI b.length:Nat):Int):=by omega
 have hS1:(x.d.bJ:Int)+((cI b.length:Nat):Int)<=1000000:=by omega
 have HW:=ab (And.intro (And.intro (dH _ hK0 hK1) (dG _ hK0 hK1)) (And.intro (dH _ hS0 hS1) (dG _ hS0 hS1)));clear hK0 hK1 hS0 hS1 hnd CF hK;have hw:=HW.out;obtain⟨⟨wK,vK⟩,wS,vS⟩:=hw
 go_wp2_with fail
 go_quiet (fail)
 go_wp2_with fail
 have HW0:=ab (show Below W.heap.size W ((W.drewN n1).drewN nq).drew from⟨rfl,rfl,rfl,Nat.le_refl _,λ_ _=>rfl⟩);have e2:=(HW0.out.cell (p:=⟨bs,K * 4+2,none⟩) hbs).trans d2;have e2f:((W.drewN n1).drewN nq).drew.frozen? ⟨bs,K * 4+2,none⟩=false:=fz 2;obtain⟨sc,hsc⟩:=aa x.d.bJ;obtain⟨nd,hnd⟩:=aa (cI b.length);have HSc:=ab (And.intro hsc hnd);rw[hsc]at e2 d2 wS vS hf;rw[hnd]at wS vS hf CN;clear hsc hnd
 go_region_with (first|(go_at_call 93;(with_reducible refine(CN.out _).mono ?_);rintro en w2 ⟨rfl,rfl⟩))
 all_goals
  have HB0:=ab (show Below W.heap.size W (W.drewN (n1+nq+1)) from⟨rfl,rfl,rfl,Nat.le_refl _,λ_ _=>rfl⟩);have HY:=(H.out.below HB0.out).reset (.int .i64 ((sc:Int)+(nd:Int))) 2 (y:=⟨{ x.d with bJ:=sc+nd },x.vr,x.rs⟩) (by omega) (by simp[aw.cells]) rfl rfl rfl;rw[HKe.out]at HY;generalize hW6:World.setCell (W.drewN (n1+nq+1)) ⟨bs,K * 4+2,none⟩ (.int .i64 ((sc:Int)+(nd:Int)))=W6 at *;obtain⟨R6',K6'⟩:=HY;have K6:=ab ((Kept.an (F:=F) HB0.out).trans K6' (λk hk=> .inl hk));rw[<-HKe.out]at R6';have R6:=ab R6';obtain⟨hbs6,g1,g3,gf⟩:=R6'.ends;rw[HKe.out]at g1 g3;obtain⟨Ar,cr,hvr,_,_⟩:=R6'.lI (g:=⟨{ x.d with bJ:=sc+nd },x.vr,x.rs⟩) (by simp);have hvr:x.vr= .slice Ar x.rs.length cr:=hvr;have HVR:=ab hvr;have g3:W6.cell? ⟨bs,K * 4+3,none⟩=some (.slice Ar x.rs.length cr):=by rw[g3];exact congrArg some hvr
  have g1:W6.cell? ⟨bs,K * 4+1,none⟩=some (.int .i64 (x.d.number:Int)):=g1;have HBy:=ab (j9 HV.out hB K6.out HAp.out);have HXr:=ab (show W6.ownsRow 0 47 1 (.slice Ar x.rs.length cr) x.rs.length x.rs from by rw[<-hvr];exact(R6'.rows ⟨{ x.d with bJ:=sc+nd },x.vr,x.rs⟩ (by simp)).1);obtain⟨i0,hinf,hz0,hz1,hz2⟩:=info_parts fW;have HI0:=ab hinf;obtain⟨i1,hinf1,hy0,hy1,hy2⟩:=info_parts oe;have HI1:=ab hinf1;clear hW6 R6' K6' hvr hinf hinf1 e2 e2f d0 d1 d2 d3 fz HW0 c1;have hB6:B<=W6.heap.size:=Nat.le_trans hB K6.out.size;have HRb:=ab (λW' (h:Below W6.heap.size W6 W')=>(show Row W' B (.slice A b.length cb) (al b) from HBy.out.below (h.mono hB6)));have HLb:=ab (show(al b).length=b.length from aW b);have hbl1:1<=b.length:=HL.out.1;have hbl2:b.length<=3968:=HL.out.2
  go_wp2_with fail
  go_region_law (first
   | (refine jw _ rfl (.tmp 49) (.tmp 50) _ rfl W6.heap.size 5 i0 (.int .u8 0) 1 Tryz.underlying47 HI0.out hz0 hz1 hz2 rfl _ 0 [] rfl ?_ B _ (al b) rfl ?_ (gB b) ?_ ?_ ?_ ?_;(exact mG (Nat.le_refl _) (heap_alloc_new W6 _));(exact HRb.out _ ((Below.refl _ W6).alloc (Nat.le_refl _) _).drew);(rw[HLb.out];unfold maxLen;omega);(rw[HLb.out];omega);(simp);intro v2 w2 h1 h2 h3 h4;rw[Nat.zero_add,HLb.out,List.nil_append]at h1;obtain⟨g2,cap2,rfl,_,_⟩:=h1.form hbl1;have HB2:=ab (((Below.refl _ W6).alloc (Nat.le_refl _) (.cells #[] 5)).drew.trans h4);have H1:=ab h1;have G3:=(HB2.out.cell (p:=⟨bs,K * 4+3,none⟩) hbs6).trans g3;have hbs2:=Nat.lt_of_lt_of_le hbs6 HB2.out.size;clear h1 h2 h3 h4)
   | (refine step_append_lies _ rfl (.tmp 48) (.tmp 52) _ rfl 0 47 i1 _ 1 24 Tryz.underlying117 HI1.out hy0 hy1 hy2 rfl (by omega) _ x.rs.length x.rs rfl ?_ _ 1 _ [.slice (some ⟨g2,0,none⟩) b.length cap2] rfl rfl ?_ ?_ (by omega) ?_ ?_ ?_ _ rfl ?_;(exact bf (bf HXr.out HB2.out) ((Below.refl _ _).alloc (Nat.le_refl _) _));(exact λj u hu=>World.news_of_block (heap_alloc_new w2 _) j u (by simpa using hu));(intro u hu;simp only[List.mem_singleton]at hu;subst hu;rfl);(unfold maxLen;exact Nat.le_trans (Nat.succ_le_succ hrs) (by omega));(exact Nat.le_trans (Nat.mul_le_mul_right 24 (Nat.succ_le_succ hrs)) (by omega));(exact Nat.zero_le _);intro g cap w9 h1 h2 h3 h4;have hb9:=HB2.out.alloc HB2.out.size (.cells #[.slice (some ⟨g2,0,none⟩) b.length cap2] 47);have h2':(w2.alloc (.cells #[.slice (some ⟨g2,0,none⟩) b.length cap2] 47)).grownBy w9 x.vr.ownBlock:=(by rw[HVR.out];exact h2);have h3':x.vr.ownBlock=some g\/g=(w2.alloc (.cells #[.slice (some ⟨g2,0,none⟩) b.length cap2] 47)).heap.size:=(by rw[HVR.out];first|exact h3|(rw[World.size_alloc];exact h3));obtain⟨G1,G2,G4,G5⟩:=(R6.out.below hb9).ve (x:=⟨{ x.d with bJ:=sc+nd },x.vr,x.rs⟩) h2';rw[HKe.out]at G1 G2 G5;have HX:=ab (R6.out.tO hb9 (bf H1.out ((Below.refl _ _).alloc (Nat.le_refl _) _)) h2' h1 h3' (y:=⟨{ x.d with bJ:=sc+nd,aE:=x.d.aE ++ [b] },.slice (some ⟨g,0,none⟩) (x.rs.length+1) cap,x.rs ++ [.slice (some ⟨g2,0,none⟩) b.length cap2]⟩) rfl rfl rfl);clear h1 h2 h3 h4 h2' h3' hb9))
  all_goals
   obtain⟨F',S',R10,hF',hS',hK10⟩:=HX.out;obtain⟨_,m1,_,_⟩:=R10.ends;rw[HKe.out]at m1 R10 hK10;have hsz:(⟨{ x.d with bJ:=sc+nd },x.vr,x.rs⟩:aw).rs.length=x.rs.length:=rfl;rw[hsz]at m1 R10 hK10;generalize hW10:World.setCell w9 ⟨bs,K * 4+3,none⟩ (.slice (some ⟨g,0,none⟩) (x.rs.length+1) cap)=W10 at *;have M1:W10.cell? ⟨bs,K * 4+1,none⟩=some (.int .i64 (x.d.number:Int)):=m1;have HR10:=ab R10;have HK10:=ab (K6.out.trans hK10 (λk hk=> .inl hk));have HF10:=ab (λk (hk:F' k)=>(hF' k hk).imp_right (λh=>Nat.le_trans K6.out.size h));have HS10:=ab (λk (hk:S' k)=>(hS' k hk).imp_right (λh=>Nat.le_trans K6.out.size h));clear hW10 R10 hK10 hF' hS' m1 HX G1 G2 G4 G5 g1 g3 gf wK vK wS vS
   go_wp2_with fail
   go_ret2
   exact⟨rfl,F',S',_,_,HR10.out,by unfold aF.push;rw[HSc.out.1,HSc.out.2],HF10.out,HS10.out,HK10.out⟩
end
theorem BQ {W0:World} {F0 S:Nat->Prop} {p places:Nat} {l:List aw} {vs:Value} (h:bC W0 F0 S p places l vs) (hP:places<=1000) (hs:∀g ∈ l,g.d.bJ<=63) (hmax:l.length<=999) (hno:∀g ∈ l,g.d.number<=100000)
 {v:Value} {B:Nat} {b:List UInt8} (hv:Bytes W0 B v b) (hB0:B<=W0.heap.size) (hap:∀k,v.ownBlock=some k->¬F0 k) (hb:1<=b.length/\b.length<=3968) (hfit:dN (l.map aw.d) b.length=false) (hsc0:0<=cU (l.map aw.d) places places):
 Calls Tryz.prog 62 #[.pointer (some ⟨p,0,none⟩),v] W0 λe w'=>e= .returned (.tuple #[.int .i64 ((cS (l.map aw.d)+1).toNat:Int),.int .i64 0])/\∃F' S' vs' y,bC w' F' S' p places (l ++ [y]) vs'/\y.d=aF.push ⟨(cU (l.map aw.d) places places).toNat,(cS (l.map aw.d)+1).toNat,0, []⟩ b/\(∀k,F' k->F0 k\/W0.heap.size<=k)/\(∀k,S' k->S k\/W0.heap.size<=k)/\Kept F0 W0 w':=by
 obtain⟨A,cb,rfl,_,_,hcell⟩:=hv.form;obtain⟨vb,vo,rfl,hvb,_⟩:=hcell 0 (by omega);have CF:=ab (nV h hs (by omega) (some ⟨vb,vo,none⟩) b.length cb (by omega));rw[hfit]at CF;have CT:=ab (λk=>uK (h.below (show Below W0.heap.size W0 (W0.drewN k) from⟨rfl,rfl,rfl,Nat.le_refl _,λ_ _=>rfl⟩)) hP (by omega) hno);have CN:=ab (λW=>oC (some ⟨vb,vo,none⟩) b.length cb (by omega) W);have HL:=ab hb;have HV0:=ab hv;have HAp0:=ab hap;have HSC0:=ab hsc0;have hf:(0:Nat)+cI b.length<=63:=by unfold cI;omega
 have q1:decide ((b.length:Int) < 1)=false:=decide_eq_false (by omega);have q2:decide ((3968:Int) < (b.length:Int))=false:=decide_eq_false (by omega);have q3:decide (3968 < b.length)=false:=decide_eq_false (by omega);have q4:¬b= []:=by intro e;subst e;simp at hb
 have q5:¬3968 < b.length:=by omega
 obtain⟨a0,ha0⟩:∃a,(cU (l.map aw.d) places places).toNat=a:=⟨_,rfl⟩;obtain⟨m0,hm0⟩:∃m,(cS (l.map aw.d)+1).toNat=m:=⟨_,rfl⟩;have HAM:=ab (And.intro ha0 hm0);clear hv hap hsc0 hcell h
 go_enter Tryz.func62,Tryz.ntmps62
 go_wp2_with fail
 refine CF.out.mono ?_;rintro en w1 ⟨rfl,n0,rfl⟩
 go_wp2_with fail
 refine(CT.out n0).mono ?_;rintro en W hT;have hT2:en= .returned (.bool true)/\∃F vs',bC W F S p places (l ++ [⟨⟨a0,m0,0, []⟩,.slice none 0 0, []⟩]) vs'/\(∀k,F k->F0 k\/W0.heap.size<=k)/\Kept F0 W0 W:=by
  rcases hT with⟨h1,_⟩|⟨_,h2,F,vs',h3,h4,h5⟩
  · exact absurd h1 (by have:=HSC0.out;omega)
  · rw[ha0,hm0]at h3;exact⟨h2,F,vs',h3,h4,(Kept.an (show Below W0.heap.size W0 (W0.drewN n0) from⟨rfl,rfl,rfl,Nat.le_refl _,λ_ _=>rfl⟩)).trans h5 (λk hk=> .inl hk)⟩
 clear hT CF CT ha0 hm0;obtain⟨rfl,F,vs1,h,hF1,hK1⟩:=hT2;obtain⟨x,hx0⟩:∃x:aw,x=⟨⟨a0,m0,0, []⟩,.slice none 0 0, []⟩:=⟨_,rfl⟩;rw[<-hx0]at h;have hrs:x.rs.length<=1000:=by rw[hx0];exact Nat.zero_le _
 have hf:x.d.bJ+cI b.length<=63:=by rw[hx0];exact hf
 have HX0:=ab hx0;have hB:B<=W.heap.size:=Nat.le_trans hB0 hK1.size;have HF1:=ab hF1;have HK1:=ab hK1;have HV:=ab (j9 HV0.out hB0 hK1 HAp0.out);have HAp:=ab (show ∀k,(Value.slice (some ⟨vb,vo,none⟩) b.length cb).ownBlock=some k->¬F k from λk e hf=>by
  rcases hF1 k hf with h1|h1
  · exact HAp0.out k e h1
  · have e:vb=k:=by simpa[Value.ownBlock]using e
    omega)
 have hlen:(l ++ [x]).length=l.length+1:=by simp
 obtain⟨bs,c,rfl,hbs,d0,d1,d2,d3⟩:=h.cells l.length (by omega);have hx:(l ++ [x])[l.length]'(by omega)=x:=by simp
 rw[hx]at d0 d1 d2 d3;rw[hlen]at h;obtain⟨K,hK⟩:=aa l.length;have hKm:K<=1000:=by omega
 have H:=ab h;rw[hK]at d0 d1 d2 d3;have c1:=h.block.facts.2.2.1;have hpl:=h.block.facts.1;rw[hK]at c1;have HKe:=ab hK;have fz:=λj=>oL (show W.ownsRow 0 152 4 (.slice (some ⟨bs,0,none⟩) (l ++ [x]).length c) (l ++ [x]).length _ from by have:=h.ae;rw[hlen]at this ⊢;exact this) (K * 4+j);clear hlen hx h hmax hx0 hF1 hK1 hs hno;have kL:(K:Int) < (K:Int)+1:=by omega
 have k0:(0:Int)<=(K:Int):=by omega
 have hK0:(-1000000:Int)<=(K:Int):=by omega
 have hK1:(K:Int)<=1000000:=by omega
 have hnd:cI b.length<=63:=by omega
 have hS0:(-1000000:Int)<=(x.d.bJ:Int)+((cI b.length:Nat):Int):=by omega
 have hS1:(x.d.bJ:Int)+((cI b.length:Nat):Int)<=1000000:=by omega
 have HW:=ab (And.intro (And.intro (dH _ hK0 hK1) (dG _ hK0 hK1)) (And.intro (dH _ hS0 hS1) (dG _ hS0 hS1)));clear hK0 hK1 hS0 hS1 hnd hK;have hw:=HW.out;obtain⟨⟨wK,vK⟩,wS,vS⟩:=hw
 go_wp2_with fail
 go_quiet (fail)
 go_wp2_with fail
 have HW0:=ab (show Below W.heap.size W (W.drewN nq).drew from⟨rfl,rfl,rfl,Nat.le_refl _,λ_ _=>rfl⟩);have e2:=(HW0.out.cell (p:=⟨bs,K * 4+2,none⟩) hbs).trans d2;have e2f:(W.drewN nq).drew.frozen? ⟨bs,K * 4+2,none⟩=false:=fz 2;obtain⟨sc,hsc⟩:=aa x.d.bJ;obtain⟨nd,hnd⟩:=aa (cI b.length);have HSc:=ab (And.intro hsc hnd);rw[hsc]at e2 d2 wS vS hf;rw[hnd]at wS vS hf CN;clear hsc hnd
 go_region_with (first|(go_at_call 93;(with_reducible refine(CN.out _).mono ?_);rintro en w2 ⟨rfl,rfl⟩))
 all_goals
  have HB0:=ab (show Below W.heap.size W (W.drewN (nq+1)) from⟨rfl,rfl,rfl,Nat.le_refl _,λ_ _=>rfl⟩);have HY:=(H.out.below HB0.out).reset (.int .i64 ((sc:Int)+(nd:Int))) 2 (y:=⟨{ x.d with bJ:=sc+nd },x.vr,x.rs⟩) (by omega) (by simp[aw.cells]) rfl rfl rfl;rw[HKe.out]at HY;generalize hW6:World.setCell (W.drewN (nq+1)) ⟨bs,K * 4+2,none⟩ (.int .i64 ((sc:Int)+(nd:Int)))=W6 at *;obtain⟨R6',K6'⟩:=HY;have K6:=ab ((Kept.an (F:=F) HB0.out).trans K6' (λk hk=> .inl hk));rw[<-HKe.out]at R6';have R6:=ab R6';obtain⟨hbs6,g1,g3,gf⟩:=R6'.ends;rw[HKe.out]at g1 g3;obtain⟨Ar,cr,hvr,_,_⟩:=R6'.lI (g:=⟨{ x.d with bJ:=sc+nd },x.vr,x.rs⟩) (by simp);have hvr:x.vr= .slice Ar x.rs.length cr:=hvr;have HVR:=ab hvr;have g3:W6.cell? ⟨bs,K * 4+3,none⟩=some (.slice Ar x.rs.length cr):=by rw[g3];exact congrArg some hvr
  have g1:W6.cell? ⟨bs,K * 4+1,none⟩=some (.int .i64 (x.d.number:Int)):=g1;have HBy:=ab (j9 HV.out hB K6.out HAp.out);have HXr:=ab (show W6.ownsRow 0 47 1 (.slice Ar x.rs.length cr) x.rs.length x.rs from by rw[<-hvr];exact(R6'.rows ⟨{ x.d with bJ:=sc+nd },x.vr,x.rs⟩ (by simp)).1);obtain⟨i0,hinf,hz0,hz1,hz2⟩:=info_parts fW;have HI0:=ab hinf;obtain⟨i1,hinf1,hy0,hy1,hy2⟩:=info_parts oe;have HI1:=ab hinf1;clear hW6 R6' K6' hvr hinf hinf1 e2 e2f d0 d1 d2 d3 fz HW0 c1;have hB6:B<=W6.heap.size:=Nat.le_trans hB K6.out.size;have HRb:=ab (λW' (h:Below W6.heap.size W6 W')=>(show Row W' B (.slice (some ⟨vb,vo,none⟩) b.length cb) (al b) from HBy.out.below (h.mono hB6)));have HLb:=ab (show(al b).length=b.length from aW b);have hbl1:1<=b.length:=HL.out.1;have hbl2:b.length<=3968:=HL.out.2
  go_wp2_with fail
  go_region_law (first
   | (refine jw _ rfl (.tmp 49) (.tmp 50) _ rfl W6.heap.size 5 i0 (.int .u8 0) 1 Tryz.underlying47 HI0.out hz0 hz1 hz2 rfl _ 0 [] rfl ?_ B _ (al b) rfl ?_ (gB b) ?_ ?_ ?_ ?_;(exact mG (Nat.le_refl _) (heap_alloc_new W6 _));(exact HRb.out _ ((Below.refl _ W6).alloc (Nat.le_refl _) _).drew);(rw[HLb.out];unfold maxLen;omega);(rw[HLb.out];omega);(simp);intro v2 w2 h1 h2 h3 h4;rw[Nat.zero_add,HLb.out,List.nil_append]at h1;obtain⟨g2,cap2,rfl,_,_⟩:=h1.form hbl1;have HB2:=ab (((Below.refl _ W6).alloc (Nat.le_refl _) (.cells #[] 5)).drew.trans h4);have H1:=ab h1;have G3:=(HB2.out.cell (p:=⟨bs,K * 4+3,none⟩) hbs6).trans g3;have hbs2:=Nat.lt_of_lt_of_le hbs6 HB2.out.size;clear h1 h2 h3 h4)
   | (refine step_append_lies _ rfl (.tmp 48) (.tmp 52) _ rfl 0 47 i1 _ 1 24 Tryz.underlying117 HI1.out hy0 hy1 hy2 rfl (by omega) _ x.rs.length x.rs rfl ?_ _ 1 _ [.slice (some ⟨g2,0,none⟩) b.length cap2] rfl rfl ?_ ?_ (by omega) ?_ ?_ ?_ _ rfl ?_;(exact bf (bf HXr.out HB2.out) ((Below.refl _ _).alloc (Nat.le_refl _) _));(exact λj u hu=>World.news_of_block (heap_alloc_new w2 _) j u (by simpa using hu));(intro u hu;simp only[List.mem_singleton]at hu;subst hu;rfl);(unfold maxLen;exact Nat.le_trans (Nat.succ_le_succ hrs) (by omega));(exact Nat.le_trans (Nat.mul_le_mul_right 24 (Nat.succ_le_succ hrs)) (by omega));(exact Nat.zero_le _);intro g cap w9 h1 h2 h3 h4;have hb9:=HB2.out.alloc HB2.out.size (.cells #[.slice (some ⟨g2,0,none⟩) b.length cap2] 47);have h2':(w2.alloc (.cells #[.slice (some ⟨g2,0,none⟩) b.length cap2] 47)).grownBy w9 x.vr.ownBlock:=(by rw[HVR.out];exact h2);have h3':x.vr.ownBlock=some g\/g=(w2.alloc (.cells #[.slice (some ⟨g2,0,none⟩) b.length cap2] 47)).heap.size:=(by rw[HVR.out];first|exact h3|(rw[World.size_alloc];exact h3));obtain⟨G1,G2,G4,G5⟩:=(R6.out.below hb9).ve (x:=⟨{ x.d with bJ:=sc+nd },x.vr,x.rs⟩) h2';rw[HKe.out]at G1 G2 G5;have HX:=ab (R6.out.tO hb9 (bf H1.out ((Below.refl _ _).alloc (Nat.le_refl _) _)) h2' h1 h3' (y:=⟨{ x.d with bJ:=sc+nd,aE:=x.d.aE ++ [b] },.slice (some ⟨g,0,none⟩) (x.rs.length+1) cap,x.rs ++ [.slice (some ⟨g2,0,none⟩) b.length cap2]⟩) rfl rfl rfl);clear h1 h2 h3 h4 h2' h3' hb9))
  all_goals
   obtain⟨F',S',R10,hF',hS',hK10⟩:=HX.out;obtain⟨_,m1,_,_⟩:=R10.ends;rw[HKe.out]at m1 R10 hK10;have hsz:(⟨{ x.d with bJ:=sc+nd },x.vr,x.rs⟩:aw).rs.length=x.rs.length:=rfl;rw[hsz]at m1 R10 hK10;generalize hW10:World.setCell w9 ⟨bs,K * 4+3,none⟩ (.slice (some ⟨g,0,none⟩) (x.rs.length+1) cap)=W10 at *;have M1:W10.cell? ⟨bs,K * 4+1,none⟩=some (.int .i64 (x.d.number:Int)):=m1;have HR10:=ab R10;have HK10:=ab (K6.out.trans hK10 (λk hk=> .inl hk));have HF10:=ab (λk (hk:F' k)=>(hF' k hk).imp_right (λh=>Nat.le_trans K6.out.size h));have HS10:=ab (λk (hk:S' k)=>(hS' k hk).imp_right (λh=>Nat.le_trans K6.out.size h));clear hW10 R10 hK10 hF' hS' m1 HX G1 G2 G4 G5 g1 g3 gf wK vK wS vS
   go_wp2_with fail
   go_ret2
   obtain⟨y1,y2⟩:=HSc.out;have hxd:x.d=⟨a0,m0,0, []⟩:=by rw[HX0.out]
   refine⟨by rw[hxd,<-HAM.out.2];simp[go_sem],F',S',_,_,HR10.out,?_,λk hk=>(HF10.out k hk).elim (HF1.out k) (λh=> .inr (Nat.le_trans HK1.out.size h)),λk hk=>(HS10.out k hk).imp_right (λh=>Nat.le_trans HK1.out.size h),HK1.out.trans HK10.out HF1.out⟩;rw[HAM.out.1,HAM.out.2,<-hxd];unfold aF.push;rw[y1,y2]
end Go.Proofs.YtiafamacjpgjoaaGreatDoor
namespace Go.Proofs.YtiafamacjpgjoaaGreatDoor
open Go.RowKit Tide
theorem BP {W:World} {F S:Nat->Prop} {p places:Nat} {gs:List aw} {vs:Value} (h:bC W F S p places gs vs) (hP:places<=1000) (hs:∀g ∈ gs,g.d.bJ<=63) (hmax:gs.length<=999) (hno:∀g ∈ gs,g.d.number<=100000) (A:Option Addr) (n cb:Nat) (hb:1<=n/\n<=3968)
 (hfit:dN (gs.map aw.d) n=false) (hneg:cU (gs.map aw.d) places places < 0):
 Calls Tryz.prog 62 #[.pointer (some ⟨p,0,none⟩),.slice A n cb] W λe w'=>e= .returned (.tuple #[.int .i64 0,.int .i64 13])/\Below W.heap.size W w':=by
 have CF:=ab (nV h hs (by omega) A n cb (by omega));rw[hfit]at CF;have CT:=ab (λk=>uK (h.below (show Below W.heap.size W (W.drewN k) from⟨rfl,rfl,rfl,Nat.le_refl _,λ_ _=>rfl⟩)) hP (by omega) hno);have HN:=ab hneg;have q1:decide ((n:Int) < 1)=false:=decide_eq_false (by omega);have q2:decide ((3968:Int) < (n:Int))=false:=decide_eq_false (by omega);have q3:decide (3968 < n)=false:=decide_eq_false (by omega);have q4:¬n=0:=by omega
 have q5:¬3968 < n:=by omega
 have q6:decide (n=0)=false:=decide_eq_false q4;clear h hs hno hneg
 go_enter Tryz.func62,Tryz.ntmps62
 go_wp2_with fail
 refine CF.out.mono ?_;rintro en w1 ⟨rfl,n0,rfl⟩
 go_wp2_with fail
 refine(CT.out n0).mono ?_;rintro en w2 hT;have hT2:en= .returned (.bool false)/\Below W.heap.size W w2:=by
  rcases hT with⟨_,h1,h2⟩|⟨h1,_⟩
  · exact⟨h1,(show Below W.heap.size W (W.drewN n0) from⟨rfl,rfl,rfl,Nat.le_refl _,λ_ _=>rfl⟩).trans h2⟩
  · exact absurd h1 (by have:=HN.out;omega)
 clear hT CT CF;obtain⟨rfl,hb2⟩:=hT2;have HB2:=ab hb2;clear hb2
 go_wp2_with fail
 go_ret2
 exact⟨rfl,HB2.out⟩
structure Small (s:aC):Prop where
 places:s.places<=1000
 ae:s.ae.length<=999
 each:∀g ∈ s.ae,g.bJ<=63/\g.number<=100000/\g.aE.length<=1000
theorem o9 {W:World} {F S:Nat->Prop} {p:Nat} {s:aC} (h:dy W F S p s) (hs:Small s) {v:Value} {B:Nat} {b:List UInt8} (hv:Bytes W B v b) (hB:B<=W.heap.size) (hap:∀k,v.ownBlock=some k->¬F k):
 Calls Tryz.prog 62 #[.pointer (some ⟨p,0,none⟩),v] W (vy W F S p (aZ s b)):=by
 obtain⟨gs,vs,hgs,hR⟩:=h;have hlen:gs.length=s.ae.length:=by rw[hgs,List.length_map]
 have heach:∀g ∈ gs,g.d.bJ<=63/\g.d.number<=100000/\g.d.aE.length<=1000:=λg hg=>hs.each g.d (by rw[hgs];exact List.mem_map.2 ⟨g,hg,rfl⟩);have hsec:∀g ∈ gs,g.d.bJ<=63:=λg hg=>(heach g hg).1;have hno:∀g ∈ gs,g.d.number<=100000:=λg hg=>(heach g hg).2.1;have hm1:=hs.ae;have hm2:=hs.places;unfold aZ;by_cases hw:b.length < 1\/3968 < b.length
 · rw[if_pos hw];obtain⟨A,c,rfl,_,_,_⟩:=hv.form;refine(BS W p A b.length c hw).mono ?_;rintro e w' ⟨rfl,rfl⟩;exact⟨rfl,F,S,⟨gs,vs,hgs,hR⟩,λk hk=> .inl hk,λk hk=> .inl hk,Kept.refl _ _⟩
 rw[if_neg hw];cases hf:dN s.ae b.length with
 | true=>
   rw[if_pos rfl];rcases List.eq_nil_or_concat gs with h0|⟨l,x,hc⟩
   · rw[hgs,h0]at hf;cases hf
   rw[List.concat_eq_append]at hc;subst hc;have hx:=heach x (by simp);have hxr:=(hR.rows x (by simp)).2.2.1;have hf2:=hf;rw[hgs,List.map_append,List.map_singleton,ld]at hf2;refine(BO hR hsec (by omega) (by omega) hv hB hap (by omega) (of_decide_eq_true hf2)).mono ?_;rintro e w' ⟨rfl,F',S',vs',y,h1,h2,h3,h3s,h4⟩;have hl:cS s.ae=(x.d.number:Int):=by rw[hgs,List.map_append,List.map_singleton,iK]
   refine⟨by rw[hl],F',S',⟨l ++ [y],vs',?_,h1⟩,h3,h3s,h4⟩;show fZ s.ae b=(l ++ [y]).map aw.d;rw[hgs,List.map_append,List.map_singleton,iv,List.map_append,List.map_singleton,h2]
 | false=>
   rw[if_neg (by simp)];have hf2:=hf;rw[hgs]at hf2;by_cases hneg:cU s.ae s.places s.places < 0
   · have ht:de s=none:=by unfold de;rw[if_pos hneg]
     rw[ht];obtain⟨A,c,rfl,_,_,_⟩:=hv.form;refine(BP hR hm2 hsec (by omega) hno A b.length c (by omega) hf2 (by rw[<-hgs];exact hneg)).mono ?_;rintro e w' ⟨rfl,hb⟩;exact⟨rfl,F,S,⟨gs,vs,hgs,hR.below hb⟩,λk hk=> .inl hk,λk hk=> .inl hk,Kept.an hb⟩
   · have ht:de s=some { s with ae:=s.ae ++ [⟨(cU s.ae s.places s.places).toNat,(cS s.ae+1).toNat,0, []⟩] }:=by unfold de;rw[if_neg hneg]
     rw[ht];refine(BQ hR hm2 hsec (by omega) hno hv hB hap (by omega) hf2 (by rw[<-hgs];omega)).mono ?_;rintro e w' ⟨rfl,F',S',vs',y,h1,h2,h3,h3s,h4⟩;rw[<-hgs]at h2;refine⟨?_,F',S',⟨gs ++ [y],vs',?_,h1⟩,h3,h3s,h4⟩
     · simp only[iK,hgs]
     · show fZ (s.ae ++ [_]) b=(gs ++ [y]).map aw.d;rw[iv,List.map_append,List.map_singleton,h2,<-hgs]
end Go.Proofs.YtiafamacjpgjoaaGreatDoor
namespace Go.Proofs.YtiafamacjpgjoaaGreatDoor
open Go.RowKit Tide
theorem uF {P:Program} (w:World) {ops:Array Oper} {o:Oper} {a:Act} {K:Act->World->Prop} {Q:Exit->Act->World->Prop} {E:Prop} (hgd:o.guard=none) (s x:Operand) (t:TypeId)
 (ho:o.op= .call { callee:= .builtin .append,args:= #[s,x],argTypes:= #[t,t] })
 (base:Nat) (e:TypeId) (i:TypeInfo) (z:Value) (size bytes:Nat) (ht:P.underlying t=some (.slice e)) (hi:P.info? e=some i) (hz:i.zero=some z)
 (hsize:i.size=size) (hby:i.bytes=bytes) (hzs:z.cells.size=size) (hsz:0 < size)
 (v:Value) (n:Nat) (xs:List Value) (hs:a.eval s=v) (hown:w.ownsRow base e size v n xs)
 (ad:Addr) (m c:Nat) (news:List Value) (hx:a.eval x= .slice (some ad) m c) (hl:news.length=m * size) (hnews:∀j u,news[j]? =some u->w.cell? (ad.add j)=some u) (h1:∀u ∈ news,u.oneCell'=true)
 (h63:n+m<=maxLen) (hbytes:(n+m) * bytes<=140737488355328) (hbase:base<=w.heap.size)
 (h:∀v' w',w'.ownsRow base e size v' (n+m) (xs ++ news)->Below base w w'->K (a.put o.dst v') w'):
 if Region.wanted o (yielded ops a.tmps)=true then Oper.wp P o a w K Q else E:=by
 have hw:Region.wanted o (yielded ops a.tmps)=true:=by simp[Region.wanted,hgd]
 rw[if_pos hw];obtain⟨v',w',hr,h2,h3,_,_⟩:=run_append_own_at (P:=P) w base t o.type e i z size bytes ht hi hz hsize hby hzs hsz v n xs hown ad m c news hl hnews h1 h63 hbytes hbase;unfold Oper.wp execOp;simp only[ho,resolve,invoke,builtin,Sem.run_bind,Sem.run_pure,Result.andThen_ok,List.map_toArray,List.map_cons,List.map_nil,hs,hx,hr];exact h v' w' h2 ((Below.refl base w).grown h3 hbase (λk e=>(hown.lt k e).1))
theorem ux (w:World):(Go.sizeOf (Tryz.prog.elem 143)).run Tryz.prog w= .ok 4 w:=by kernel_rfl
theorem rB:Tryz.prog.underlying 143=some (.slice (Tryz.prog.elem 143)):=by kernel_rfl
theorem Du (b n c hi:Nat) (ui:Int) (eu:ui=hi) (hhi:hi<=n) (hn:n<=c) (hc:0 < c) (W:World):
 (Instr.slice 143 (.slice (some ⟨b,0,none⟩) n c) none (some (.int .i64 ui)) none).run Tryz.prog W= .ok (.slice (some ⟨b,0,none⟩) hi c) W:=by
 subst eu;rw[run_slice_h _ _ _ _ _ rB _ _ (by omega) (by omega),ux];simp only[Result.andThen,Int.toNat_natCast];have ha:(⟨b,0,none⟩:Addr).add (0 * 4)=⟨b,0+0 * 4,none⟩:=cV b 0 _;have hne:c≠0:=by omega
 simp only[sliced,if_neg hne,Option.map_some,ha];simp
theorem Dt (b n c lo:Nat) (li:Int) (el:li=lo) (hlo:lo<=n) (hc:lo < c) (W:World):
 (Instr.slice 143 (.slice (some ⟨b,0,none⟩) n c) (some (.int .i64 li)) none none).run Tryz.prog W= .ok (.slice (some ⟨b,lo * 4,none⟩) (n - lo) (c - lo)) W:=by
 subst el;rw[run_slice_l _ _ _ _ _ rB _ _ (by omega) (by omega),ux];simp only[Result.andThen,Int.toNat_natCast];have ha:(⟨b,0,none⟩:Addr).add (lo * 4)=⟨b,0+lo * 4,none⟩:=cV b 0 _;have hne:c≠lo:=by omega
 simp only[sliced,if_neg hne,Option.map_some,ha,Nat.zero_add]
theorem pD (a b:List aw):(a ++ b).flatMap aw.cells=a.flatMap aw.cells ++ b.flatMap aw.cells:=List.flatMap_append
theorem uo (gs:List aw) (hv:∀g ∈ gs,g.vr.oneCell'=true):∀u ∈ gs.flatMap aw.cells,u.oneCell'=true:=by
 intro u hu;obtain⟨g,hg,hu⟩:=List.mem_flatMap.1 hu;simp only[aw.cells,List.mem_cons,List.not_mem_nil,or_false]at hu;rcases hu with rfl|rfl|rfl|rfl
 · rfl
 · rfl
 · rfl
 · exact hv g hg
section
variable {W:World} {F S:Nat->Prop} {p places:Nat} {gs:List aw} {vs:Value}
theorem bC.one (h:bC W F S p places gs vs):∀g ∈ gs,g.vr.oneCell'=true:=λg hg=>by obtain⟨A,c,e,_,_⟩:=h.lI hg;rw[e];rfl
theorem bC.part {b c:Nat} (h:bC W F S p places gs (.slice (some ⟨b,0,none⟩) gs.length c)) (lo:Nat) (l r:List aw) (hg:gs=l ++ r) (hl:l.length=lo):∀j u,(r.flatMap aw.cells)[j]? =some u->W.cell? ((⟨b,lo * 4,none⟩:Addr).add j)=some u:=λj u hu=>by have h1:=h.ae.cells (g:=b) rfl (lo * 4+j) u (by rw[hg,pD,List.getElem?_append_right (by rw[lE];omega),lE,hl,Nat.add_sub_cancel_left];exact hu);rw[cV,Nat.zero_add]at h1;rw[cV];exact h1
theorem bC.Cw (h:bC W F S p places gs vs) {W9:World} (hb:Below W.heap.size W W9) {gs':List aw} {vs':Value} (hsub:gs'.Sublist gs) (hown:W9.ownsRow W.heap.size 152 4 vs' gs'.length (gs'.flatMap aw.cells)):
 ∃F',bC (W9.setCell ⟨p,1,none⟩ vs') F' S p places gs' vs'/\(∀k,F' k->F k\/W.heap.size<=k)/\Kept F W (W9.setCell ⟨p,1,none⟩ vs'):=by
 have hpl:=h.block.lt;have hl:=λk e=>hown.lt k e;have h9:=h.below hb;have hKp:Kept (λk=>k=p) W9 (W9.setCell ⟨p,1,none⟩ vs'):=(Kept.refl (λk=>k=p) W9).setCell (p:=⟨p,1,none⟩) (.inl rfl) _;have hrow:∀ {e:TypeId} {size n:Nat} {v:Value} {xs:List Value},W9.ownsRow 0 e size v n xs->145≠e->(W9.setCell ⟨p,1,none⟩ vs').ownsRow 0 e size v n xs:=λho h2=>hKp.own ho (λk e hk=>by subst hk;exact fG h9.block ho h2 e);refine⟨λk=>F k\/(W.heap.size<=k/\k < W9.heap.size),{ block:=h9.block.iR _,ae:= ?_,rows:= ?_,fp:= ?_,lt:= ?_,apart:=h.apart.sublist hsub },?_,?_⟩
 · exact hKp.own (ff hown (Nat.zero_le _)) (λk e hk=>by have:=(hl k e).1;omega)
 · intro g hg;obtain⟨r1,r2,r3,r4⟩:=h9.rows g (hsub.subset hg);exact⟨hrow r1 (by decide),λk e=> .inl (r2 k e),r3,λi u b hu hb=>⟨hrow (r4 i u b hu hb).1 (by decide),(r4 i u b hu hb).2⟩⟩
 · exact⟨.inl h.fp.1,λk e=> .inr ⟨(hl k e).1,(hl k e).2⟩⟩
 · intro k hk;have hz:(W9.setCell ⟨p,1,none⟩ vs').heap.size=W9.heap.size:=by simp[World.setCell]
   rw[hz];have:=hb.size;rcases hk with(hk|hk)|hk
   · have:=h.lt k (.inl hk);omega
   · exact hk.2
   · have:=h.lt k (.inr hk);omega
 · rintro k (hk|hk)
   · exact .inl hk
   · exact .inr hk.1
 · exact(Kept.an (F:=F) hb).setCell (.inl h.fp.1) _
end
theorem xX {gs:List aw} {n:Int} {j:Nat} (hj:j < gs.length) (h:((gs[j]).d.number:Int)=n) (hne:∀k (hk:k < gs.length),k < j->((gs[k]).d.number:Int)≠n):gk (gs.map aw.d) n=some j:=by unfold gk;rw[List.findIdx?_eq_some_iff_getElem];refine⟨by rw[List.length_map];exact hj,by simpa using h,λk hk=> ?_⟩;have:=hne k (by omega) hk;simpa using this
theorem xW {gs:List aw} {n:Int} (hne:∀k (hk:k < gs.length),((gs[k]).d.number:Int)≠n):gk (gs.map aw.d) n=none:=by unfold gk;rw[List.findIdx?_eq_none_iff];intro x hx;obtain⟨g,hg,rfl⟩:=List.mem_map.1 hx;obtain⟨k,hk,rfl⟩:=List.getElem_of_mem hg;simpa using hne k hk
end Go.Proofs.YtiafamacjpgjoaaGreatDoor
namespace Go.Proofs.YtiafamacjpgjoaaGreatDoor
open Go.RowKit Tide
theorem Bi {W:World} {base g size:Nat} {e:TypeId} (hb:base<=g) (hg:W.heap[g]? =some (.cells #[] e (0,0))):W.ownsRow base e size (.slice (some ⟨g,0,none⟩) 0 0) 0 []:=
 ⟨by simp,.inr ⟨g,0,#[],rfl,hb,hg,Nat.le_refl _,Nat.zero_le _,by simp,by simp⟩⟩
def vB (W:World) (F S:Nat->Prop) (p:Nat) (r:aC × Int) (e:Ending) (w':World):Prop:=
 e= .returned (.int .i64 r.2)/\∃F',dy w' F' S p r.1/\(∀k,F' k->F k\/W.heap.size<=k)/\Kept F W w'
theorem B6 {W:World} {F S:Nat->Prop} {p:Nat} {s:aC} (h0:dy W F S p s) (hS:Small s) (n:Int):
 Calls Tryz.prog 88 #[.pointer (some ⟨p,0,none⟩),.int .i64 n] W (vB W F S p (fU s n)):=by
 obtain⟨gs,vs,hgs,h⟩:=h0;have hmax:gs.length<=999:=by have:=hS.ae;rw[hgs,List.length_map]at this;exact this
 have hsl:s.ae.length=gs.length:=by rw[hgs,List.length_map]
 obtain⟨i0,hinf,hz0,hz1,hz2⟩:=info_parts sq;have HIn:=ab hinf;have HG:=ab hgs;have HSL:=ab hsl;obtain⟨hpl,_,c1,_⟩:=h.block.facts;obtain⟨A,c,rfl,_,_⟩:=h.kN;have H:=ab h;have HM:=ab hmax;have HD0:=ab (show dy W F S p s from⟨gs,_,hgs,h⟩);clear hS hgs h hmax hsl hinf
 go_enter Tryz.func88,Tryz.ntmps88
 go_wp2_with fail
 go_loopw [12] (λi wr=>∃j:Nat,i= .int .i64 j/\j<=gs.length/\Hid (∀k (hk:k < gs.length),k < j->((gs[k]).d.number:Int)≠n)/\Hid (Below W.heap.size W wr)) (λi _=>gs.length - (intOf i).toNat)
 case atStart=>exact⟨0,rfl,Nat.zero_le _,ab (λk _ hk=>absurd hk (Nat.not_lt_zero k)),ab (Below.refl _ _)⟩
 case round=>
  obtain⟨j,rfl,hj,hne,hb⟩:=hrel;by_cases hlj:j < gs.length
  · obtain⟨bs,cc,hv,hbb,d0,d1,d2,d3⟩:=(H.out.below hb.out).cells j hlj;injection hv with e1 _ e3;subst e1 e3;obtain⟨Av,cv,hvr,_,_⟩:=H.out.lI (List.getElem_mem hlj);rw[hvr]at d3;have c1r:=(hb.out.cell (p:=⟨p,1,none⟩) hpl).trans c1;have hpr:=Nat.lt_of_lt_of_le hpl hb.out.size;obtain⟨no,hno⟩:=aa ((gs[j]).d.number);have HNo:=ab hno;rw[hno]at d1;have HB2:=ab (hb.out.alloc hb.out.size (.cells #[.int .i64 ((gs[j]).d.place:Int),.int .i64 (no:Int),.int .i64 ((gs[j]).d.bJ:Int),.slice Av (gs[j]).rs.length cv] 152));generalize (gs[j]).d.place=pl at *;generalize (gs[j]).d.bJ=sc at *;generalize (gs[j]).rs.length=rl at *;clear hno hvr;by_cases hnn:(no:Int)=n
    · have qn:((no:Int) != n)=false:=by rw[hnn];simp
      have HNN:=ab hnn;clear hnn;obtain⟨L,hL⟩:∃L,gs.length=L+1:=⟨gs.length - 1,by omega⟩;have HL:=ab hL;have hLm:L<=999:=by have:=HM.out;omega
      have HDA:=ab (show gk s.ae n=some j from by rw[HG.out];exact xX hlj (by rw[HNo.out];exact HNN.out) hne.out);rw[hL]at c1r hlj;have hjl:j<=L:=by omega
      have hK0:(-1000000:Int)<=(L:Int):=by omega
      have hK1:(L:Int)<=1000000:=by omega
      have hJ0:(-1000000:Int)<=(j:Int)+1:=by omega
      have hJ1:(j:Int)+1<=1000000:=by omega
      by_cases hjL:j=L
      · have HR:=ab (show fU s n=(s,17) from by unfold fU;rw[HDA.out];simp only;rw[if_pos (by rw[HSL.out,HL.out,hjL])]);subst hjL;have wK:=dH _ hK0 hK1;have vK:=dG _ hK0 hK1;clear hL hK0 hK1 hJ0 hJ1 hjl
        go_wp2_with fail
        go_ret
        refine⟨by rw[HR.out]<;>rfl,F,?_,λk hk=> .inl hk,Kept.an HB2.out⟩;rw[HR.out];exact HD0.out.below HB2.out
      · have qj:((j:Int) == (L:Int))=false:=by rw[beq_eq_false_iff_ne];omega
        have qj2:(j == L)=false:=by rw[beq_eq_false_iff_ne];exact hjL
        have HR:=ab (show fU s n=({ s with ae:=s.ae.eraseIdx j },0) from by unfold fU;rw[HDA.out];simp only;rw[if_neg (by rw[HSL.out,HL.out];omega)]);have hcap:L+1<=c:=by obtain⟨_,_,e,h1,_⟩:=H.out.kN;injection e with _ _ e;subst e;rw[HL.out]at h1;exact h1
        have hc1:=λW=>Du bs (L+1) c j (j:Int) rfl (by omega) hcap (by omega) W;have hc2:=λW=>Dt bs (L+1) c (j+1) ((j:Int)+1) (by omega) (by omega) (by omega) W;have HJ:=ab (show j < gs.length from by rw[HL.out];omega);have HL1:=ab (show(gs.take j).length=j from by rw[List.length_take];omega);have HL2:=ab (show(gs.take (j+1)).length=j+1 from by rw[List.length_take];omega);have HL3:=ab (show(gs.drop (j+1)).length=L - j from by rw[List.length_drop];omega);have HT:=ab (show gs=gs.take j ++ gs.drop j from(List.take_append_drop _ _).symm);have HT2:=ab (show gs=gs.take (j+1) ++ gs.drop (j+1) from(List.take_append_drop _ _).symm);have HE:=ab (show gs.eraseIdx j=gs.take j ++ gs.drop (j+1) from List.eraseIdx_eq_take_drop_succ _ _);have kL:(L:Int) < (L:Int)+1:=by omega
        have hsub:L+1 - (j+1)=L - j:=by omega
        have hJn:(j:Int)<=(L:Int)+1:=by omega
        have HP1:=ab (λW' (hw:Below W.heap.size W W')=>show ∀jj u,((gs.take j).flatMap aw.cells)[jj]? =some u->W'.cell? ((⟨bs,0,none⟩:Addr).add jj)=some u from λjj u hu=>by have h9:=H.out.below hw;refine h9.ae.cells (g:=bs) rfl jj u ?_;rw[HT.out,pD,List.getElem?_append_left (List.getElem?_eq_some_iff.1 hu).1];exact hu)
        have HP2:=ab (λW' (hw:Below W.heap.size W W')=>show ∀jj u,((gs.drop (j+1)).flatMap aw.cells)[jj]? =some u->W'.cell? ((⟨bs,(j+1) * 4,none⟩:Addr).add jj)=some u from
         (show bC W' F S p s.places gs (.slice (some ⟨bs,0,none⟩) gs.length c) from H.out.below hw).part (j+1) _ _ HT2.out HL2.out)
        have HO1:=ab (uo (gs.take j) (λg hg=>H.out.one g (List.mem_of_mem_take hg)));have HO2:=ab (uo (gs.drop (j+1)) (λg hg=>H.out.one g (List.mem_of_mem_drop hg)));have c17:=(HB2.out.cell (p:=⟨p,1,none⟩) hpl).trans c1;have HA1:=ab (show 0+j<=maxLen/\(0+j) * 48<=140737488355328 from⟨by unfold maxLen;omega,by omega⟩);have HA2:=ab (show 0+j+(L - j)<=maxLen/\(0+j+(L - j)) * 48<=140737488355328/\0 < 0+j+(L - j)/\0+j+(L - j)=L from⟨by unfold maxLen;omega,by omega,by omega,by omega⟩);have HN1:=ab (show((gs.take j).flatMap aw.cells).length=j * 4 from by rw[lE,HL1.out]);have HN2:=ab (show((gs.drop (j+1)).flatMap aw.cells).length=(L - j) * 4 from by rw[lE,HL3.out]);rw[HL.out]at c17;have wK:=dH _ hK0 hK1;have vK:=dG _ hK0 hK1;have wJ:=dH _ hJ0 hJ1;have vJ:=dG _ hJ0 hJ1;clear hK0 hK1 hJ0 hJ1 hjl;have c10:=c1;rw[HL.out]at c10;clear hjL hL hLm c1 c1r hpr hsub
        go_wp2_with fail
        generalize hW7:wr.alloc (.cells #[.int .i64 (pl:Int),.int .i64 (no:Int),.int .i64 (sc:Int),.slice Av rl cv] 152)=W7 at *;have hsz7:=HB2.out.size;have hp7:p < W7.heap.size:=Nat.lt_of_lt_of_le hpl hsz7;clear wK vK hW7;have HBW:=ab ((Below.refl W7.heap.size W7).alloc (Nat.le_refl _) (.cells #[] 152)).drew
        go_region_law (first
         | (refine uF _ rfl (.tmp 30) (.tmp 36) _ rfl W.heap.size 152 i0 _ 4 48 Tryz.underlying143 HIn.out hz0 hz1 hz2 rfl (Nat.succ_pos 3) _ 0 [] rfl ?_ ⟨bs,0,none⟩ j _ ((gs.take j).flatMap aw.cells) rfl HN1.out ?_ HO1.out HA1.out.1 HA1.out.2 ?_ ?_;(exact Bi hsz7 (heap_alloc_new W7 _));(exact HP1.out _ (HB2.out.trans (HBW.out.mono hsz7)));(exact Nat.le_trans hsz7 HBW.out.size);intro v2 w2 h1 h2;have HB8:=ab ((HB2.out.trans (HBW.out.mono hsz7)).trans h2);have H8:=ab h1;have c18:=(HB8.out.cell (p:=⟨p,1,none⟩) hpl).trans c10;have hp8:=Nat.lt_of_lt_of_le hpl HB8.out.size;clear h1 h2)
         | (refine uF _ rfl (.tmp 37) (.tmp 44) _ rfl W.heap.size 152 i0 _ 4 48 Tryz.underlying143 HIn.out hz0 hz1 hz2 rfl (Nat.succ_pos 3) _ (0+j) ([] ++ (gs.take j).flatMap aw.cells) rfl H8.out ⟨bs,(j+1) * 4,none⟩ (L - j) _ ((gs.drop (j+1)).flatMap aw.cells) rfl HN2.out ?_ HO2.out HA2.out.1 HA2.out.2.1 ?_ ?_;(exact HP2.out _ HB8.out);(exact HB8.out.size);intro v3 w3 h1 h2;obtain⟨g3,cap3,rfl,_,_⟩:=h1.form HA2.out.2.2.1;have HB9:=ab (HB8.out.trans h2);have H9:=ab h1;have hR9:=H.out.below HB9.out;obtain⟨hp9,_,c19,fz9⟩:=hR9.block.facts;clear h1 h2 hR9))
        all_goals
         have hlg:(gs.take j ++ gs.drop (j+1)).length=0+j+(L - j):=by rw[List.length_append,HL1.out,HL3.out,Nat.zero_add]
         have hX:=H.out.Cw HB9.out (gs':=gs.take j ++ gs.drop (j+1)) (vs':= .slice (some ⟨g3,0,none⟩) (0+j+(L - j)) cap3) (by rw[<-HE.out];exact List.eraseIdx_sublist gs j) (by rw[hlg,pD];exact H9.out);rw[Nat.zero_add]at hX;generalize hW10:World.setCell w3 ⟨p,1,none⟩ (.slice (some ⟨g3,0,none⟩) (j+(L - j)) cap3)=W10 at *;have HX:=ab hX;clear hX hW10 hlg wJ vJ
         go_wp2_with fail
         go_ret
         obtain⟨F',r1,r2,r3⟩:=HX.out;refine⟨by rw[HR.out]<;>rfl,F',?_,r2,r3⟩;rw[HR.out];refine⟨_,_,?_,r1⟩;show s.ae.eraseIdx j=_;rw[HG.out,List.eraseIdx_eq_take_drop_succ,List.map_append,List.map_take,List.map_drop]
    · have qn:((no:Int) != n)=true:=by rw[bne_iff_ne];exact hnn
      have HNe:=ab (show ∀k (hk:k < gs.length),k < j+1->((gs[k]).d.number:Int)≠n from λk hk hkj=>by
       by_cases hkj2:k < j
       · exact hne.out k hk hkj2
       · have:k=j:=by omega
         subst this;rw[HNo.out];exact hnn)
      clear hnn
      go_wp2_with fail
      go_roundw
      case rel=>exact⟨j+1,by go_num,by omega,HNe,HB2⟩
      case measure=>simp[intOf];omega
  · have hje:j=gs.length:=by omega
    have HR:=ab (show fU s n=(s,16) from by unfold fU;rw[HG.out,xW (λk hk=>hne.out k hk (by omega))]);subst hje
    go_wp2_with fail
    go_ret
    refine⟨by rw[HR.out]<;>rfl,F,?_,λk hk=> .inl hk,Kept.an hb.out⟩;rw[HR.out];exact HD0.out.below hb.out
end Go.Proofs.YtiafamacjpgjoaaGreatDoor
namespace Go.Proofs.YtiafamacjpgjoaaGreatDoor
open Go.RowKit Tide
theorem EL {P:Program} (w:World) {ops:Array Oper} {rest:List Oper} {o:Oper} {a:Act} {Q:Exit->Act->World->Prop} (hgd:o.guard=none) (s x:Operand) (t:TypeId)
 (ho:o.op= .call { callee:= .builtin .append,args:= #[s,x],argTypes:= #[t,t] })
 (base:Nat) (e:TypeId) (i:TypeInfo) (size:Nat) (ht:P.underlying t=some (.slice e)) (hi:P.info? e=some i)
 (v:Value) (n:Nat) (xs:List Value) (hs:a.eval s=v) (hown:w.ownsRow base e size v n xs) (hx:a.eval x= .slice none 0 0)
 (h:wpList P ops Q rest (a.put o.dst v) w):wpList P ops Q (o :: rest) a w:=by
 refine wpList_plain hgd λK hK=> ?_;have hr:=run_append_owned_none (P:=P) w base t o.type e i size ht hi v n xs hown;unfold Oper.wp execOp;simp only[ho,resolve,invoke,builtin,Sem.run_bind,Sem.run_pure,Result.andThen_ok,List.map_toArray,List.map_cons,List.map_nil,hs,hx,hr];exact hK _ _ h
theorem EM {P:Program} (w:World) {ops:Array Oper} {rest:List Oper} {o:Oper} {a:Act} {Q:Exit->Act->World->Prop} (hgd:o.guard=none) (s x:Operand) (t:TypeId)
 (ho:o.op= .call { callee:= .builtin .append,args:= #[s,x],argTypes:= #[t,t] })
 (base:Nat) (e:TypeId) (i:TypeInfo) (z:Value) (bytes:Nat) (ht:P.underlying t=some (.slice e)) (hi:P.info? e=some i) (hz:i.zero=some z)
 (hsize:i.size=1) (hby:i.bytes=bytes) (hzs:z.cells.size=1)
 (g n c0:Nat) (xs:List Value) (hs:a.eval s= .slice (some ⟨g,0,none⟩) n c0) (hown:w.ownsRow base e 1 (.slice (some ⟨g,0,none⟩) n c0) n xs)
 (u:Value) (b2 m:Nat) (news:List Value) (hx:a.eval x=u) (hu:w.ownsRow b2 e 1 u m news) (h1:∀u ∈ news,u.oneCell'=true)
 (h63:n+m<=maxLen) (hbytes:(n+m) * bytes<=140737488355328) (hbase:base<=w.heap.size)
 (h:∀g' c' w',w'.ownsRow base e 1 (.slice (some ⟨g',0,none⟩) (n+m) c') (n+m) (xs ++ news)->Below base w w'->wpList P ops Q rest (a.put o.dst (.slice (some ⟨g',0,none⟩) (n+m) c')) w'):wpList P ops Q (o :: rest) a w:=by
 rcases hu.2 with⟨rfl,rfl⟩|⟨g2,cap,cur,rfl,_⟩
 · have hn:news= []:=List.eq_nil_of_length_eq_zero (by have:=hu.1;omega);subst hn;refine EL w hgd s x t ho base e i 1 ht hi _ n xs hs hown hx ?_;have:=h g c0 w (by simpa using hown) (Below.refl _ _);simpa using this
 · refine wpList_append_own_at w hgd s x t ho base e i z 1 bytes ht hi hz hsize hby hzs (by omega) _ n xs hs hown ⟨g2,0,none⟩ m cap news hx (by simpa using hu.1) (hu.cells (g:=g2) rfl) h1 h63 hbytes hbase ?_;intro v' w' k1 k2 k3 k4;have hform:∃g' c',v'= .slice (some ⟨g',0,none⟩) (n+m) c':=by
    rcases k1.2 with⟨k5,_⟩|⟨g',cap',cur',k5,_⟩
    · exact absurd (k3.1 k5).1 (by simp)
    · exact⟨_,_,k5⟩
   obtain⟨g',c',rfl⟩:=hform;exact h g' c' w' k1 ((Below.refl base w).grown k2 hbase (λk e=>(hown.lt k e).1))
section
variable {W:World} {F S:Nat->Prop} {p places:Nat} {gs:List aw} {vs:Value}
end
theorem mV {W:World} {p i:Nat} {cs:Array Value} {t:TypeId} {fr:Nat × Nat} (h:W.heap[p]? =some (.cells cs t fr)) (v:Value):(W.setCell ⟨p,i,none⟩ v).heap[p]? =some (.cells (cs.setIfInBounds i v) t fr):=by obtain⟨hlt,hk⟩:=Array.getElem?_eq_some_iff.1 h;show(W.heap.modify p _)[p]? =_;rw[Array.getElem?_eq_getElem (by rw[Array.size_modify];exact hlt),Array.getElem_modify_self,hk];simp
end Go.Proofs.YtiafamacjpgjoaaGreatDoor
namespace Go.Proofs.YtiafamacjpgjoaaGreatDoor
open Go.RowKit Tide
theorem dy.tight {W:World} {F S:Nat->Prop} {p:Nat} {s:aC} (h:dy W F S p s):∃F' S',dy W F' S' p s/\(∀k,F' k->F k)/\(∀k,S' k->S k)/\∀k,F' k->¬S' k:=by
 obtain⟨gs,vs,hgs,hR⟩:=h;have hF:∀k,(k=p\/vs.ownBlock=some k\/∃g ∈ gs,g.vr.ownBlock=some k)->F k:=λk hk=>by
  rcases hk with rfl|hk|⟨g,hg,hk⟩
  · exact hR.fp.1
  · exact hR.fp.2 k hk
  · exact(hR.rows g hg).2.1 k hk
 have hS:∀k,(∃g ∈ gs,∃ (i:Nat) (u:Value) (b:List UInt8),g.rs[i]? =some u/\g.d.aE[i]? =some b/\u.ownBlock=some k)->S k:=λk hk=>by obtain⟨g,hg,i,u,b,h1,h2,h3⟩:=hk;exact((hR.rows g hg).2.2.2 i u b h1 h2).2 k h3
 refine⟨λk=>k=p\/vs.ownBlock=some k\/∃g ∈ gs,g.vr.ownBlock=some k,λk=>∃g ∈ gs,∃ (i:Nat) (u:Value) (b:List UInt8),g.rs[i]? =some u/\g.d.aE[i]? =some b/\u.ownBlock=some k,⟨gs,vs,hgs,{ block:=hR.block,ae:=hR.ae,rows:=λg hg=>⟨(hR.rows g hg).1,λk e=> .inr (.inr ⟨g,hg,e⟩),(hR.rows g hg).2.2.1,λi u b hu hb=>⟨((hR.rows g hg).2.2.2 i u b hu hb).1,λk e=>⟨g,hg,i,u,b,hu,hb,e⟩⟩⟩,fp:=⟨.inl rfl,λk e=> .inr (.inl e)⟩,lt:=λk hk=>hR.lt k (hk.imp (hF k) (hS k)),apart:=hR.apart }⟩,hF,hS,λk hk hs=> ?_⟩;obtain⟨g,hg,i,u,b,h1,h2,h3⟩:=hs;have hu:=((hR.rows g hg).2.2.2 i u b h1 h2).1;rcases hk with rfl|hk|⟨g',hg',hk⟩
 · exact fG hR.block hu (by decide) h3
 · exact dF hR.ae hu (by decide) k hk h3
 · exact dF (hR.rows g' hg').1 hu (by decide) k hk h3
theorem dy.lt {W:World} {F S:Nat->Prop} {p:Nat} {s:aC} (h:dy W F S p s):∀k,F k\/S k->k < W.heap.size:=by obtain⟨gs,vs,_,hR⟩:=h;exact hR.lt
end Go.Proofs.YtiafamacjpgjoaaGreatDoor
namespace Go.Proofs.YtiafamacjpgjoaaGreatDoor
open Go Go.RowKit Tide
def gG (u:ah):List Int:=u.rows.map λr=>(r.af:Int)
def gM (u:ah):List Int:=u.rows.map λr=>(r.aQ:Int)
def lX (p:Nat) (va vp vi:Value) (u:ah):Array Value:= #[.pointer (some ⟨p,0,none⟩),va,vp,vi,.int .i64 (u.trimmed:Int),.int .i64 (u.ag:Int),.int .i64 (u.top:Int)]
def dW (q:Nat) (va vp vi:Value) (k:Nat):Prop:=k=q\/va.ownBlock=some k\/vp.ownBlock=some k\/vi.ownBlock=some k
structure bT (W:World) (F S:Nat->Prop) (q p:Nat) (va vp vi:Value) (rs:List Value) (u:ah):Prop where
 cells:W.heap[q]? =some (.cells (lX p va vp vi u) 119 (0,0))
 store:dy W F S p u.store
 fH:W.ownsRow 0 3 1 va u.rows.length (az (gG u))
 aD:W.ownsRow 0 47 1 vp u.rows.length rs
 ins:W.ownsRow 0 3 1 vi u.rows.length (az (gM u))
 bytes:gi W S rs (u.rows.map bk.bs)
 two:∀k,va.ownBlock=some k->vi.ownBlock≠some k
 bF:∀k,dW q va vp vi k->¬F k/\¬S k/\k < W.heap.size
 apart:∀k,F k->¬S k
 lt:∀k,F k\/S k->k < W.heap.size
def RU (W:World) (G S:Nat->Prop) (q:Nat) (u:ah):Prop:=
 ∃F p va vp vi rs,bT W F S q p va vp vi rs u/\∀k,F k\/dW q va vp vi k<->G k
section
variable {W W':World} {F G S K:Nat->Prop} {q p:Nat} {va vp vi:Value} {rs:List Value} {u:ah}
theorem bT.aj (h:bT W F S q p va vp vi rs u) (hk:Kept K W W') (hG:∀k,F k\/S k\/dW q va vp vi k->¬K k):bT W' F S q p va vp vi rs u where
 cells:=hk.heap h.cells (hG q (.inr (.inr (.inl rfl))))
 store:=h.store.aj hk (λk hf=>hG k (hf.imp id .inl))
 fH:=hk.own h.fH (λk e=>hG k (.inr (.inr (.inr (.inl e)))))
 aD:=hk.own h.aD (λk e=>hG k (.inr (.inr (.inr (.inr (.inl e))))))
 ins:=hk.own h.ins (λk e=>hG k (.inr (.inr (.inr (.inr (.inr e))))))
 bytes:=h.bytes.aj hk (λk e=>hG k (.inr (.inl e)))
 two:=h.two
 bF:=λk e=>⟨(h.bF k e).1,(h.bF k e).2.1,Nat.lt_of_lt_of_le (h.bF k e).2.2 hk.size⟩
 apart:=h.apart
 lt:=λk e=>Nat.lt_of_lt_of_le (h.lt k e) hk.size
theorem bT.below (h:bT W F S q p va vp vi rs u) (hb:Below W.heap.size W W'):bT W' F S q p va vp vi rs u:=h.aj (K:=λ_=>False) (Kept.an hb) (λ_ _ h=>h)
theorem RU.aj (h:RU W G S q u) (hk:Kept K W W') (hG:∀k,G k\/S k->¬K k):RU W' G S q u:=by
 obtain⟨F,p,va,vp,vi,rs,h1,h2⟩:=h;refine⟨F,p,va,vp,vi,rs,h1.aj hk (λk e=>hG k ?_),h2⟩;rcases e with e|e|e
 · exact .inl ((h2 k).1 (.inl e))
 · exact .inr e
 · exact .inl ((h2 k).1 (.inr e))
theorem RU.lt (h:RU W G S q u):∀k,G k\/S k->k < W.heap.size:=by
 obtain⟨F,p,va,vp,vi,rs,h1,h2⟩:=h;intro k hk;rcases hk with hk|hk
 · rcases(h2 k).2 hk with h|h
   · exact h1.lt k (.inl h)
   · exact(h1.bF k h).2.2
 · exact h1.lt k (.inr hk)
theorem bT.facts (h:bT W F S q p va vp vi rs u):q < W.heap.size/\W.cell? ⟨q,0,none⟩=some (.pointer (some ⟨p,0,none⟩))/\W.cell? ⟨q,1,none⟩=some va/\W.cell? ⟨q,2,none⟩=some vp/\W.cell? ⟨q,3,none⟩=some vi/\W.cell? ⟨q,4,none⟩=some (.int .i64 (u.trimmed:Int))/\W.cell? ⟨q,5,none⟩=some (.int .i64 (u.ag:Int))/\W.cell? ⟨q,6,none⟩=some (.int .i64 (u.top:Int))/\∀i,W.frozen? ⟨q,i,none⟩=false:=by
 have hc:=h.cells;refine⟨(h.bF q (.inl rfl)).2.2,?_,?_,?_,?_,?_,?_,?_,λi=> ?_⟩
 · rw[cell_of_row _ _ 0 _ _ _ hc];rfl
 · rw[cell_of_row _ _ 1 _ _ _ hc];rfl
 · rw[cell_of_row _ _ 2 _ _ _ hc];rfl
 · rw[cell_of_row _ _ 3 _ _ _ hc];rfl
 · rw[cell_of_row _ _ 4 _ _ _ hc];rfl
 · rw[cell_of_row _ _ 5 _ _ _ hc];rfl
 · rw[cell_of_row _ _ 6 _ _ _ hc];rfl
 · unfold World.frozen?;rw[show W.heap[(⟨q,i,none⟩:Addr).block]? =_ from hc];simp
theorem fA {base:Nat} {e:TypeId} {size n:Nat} {v:Value} {xs:List Value} (h:W.ownsRow base e size v n xs):∃A c,v= .slice A n c/\n<=c/\c<=9223372036854775807:=by
 rcases h.2 with⟨h1,h0⟩|⟨g,cap,cur,h1,_,_,h2,h3,_⟩
 · exact⟨none,0,by rw[h1,h0],by omega,by omega⟩
 · exact⟨_,cap,h1,h2,h3⟩
theorem mD {base:Nat} {e:TypeId} {n:Nat} {v:Value} {xs:List Value} (h:W.ownsRow base e 1 v n xs) {i:Nat} {x:Value} (hi:xs[i]? =some x):∃b c,v= .slice (some ⟨b,0,none⟩) n c/\b < W.heap.size/\W.cell? ⟨b,i,none⟩=some x:=by
 have hl:=h.1;obtain⟨hlt,_⟩:=List.getElem?_eq_some_iff.1 hi;rcases h.2 with⟨h1,h0⟩|⟨g,cap,cur,h1,_,_,h2,h3,_⟩
 · omega
 · subst h1;have hc:=h.cells (g:=g) rfl i x hi;exact⟨g,cap,rfl,(h.lt g rfl).2,by rw[<-hc];congr 1;unfold Addr.add;simp⟩
end
end Go.Proofs.YtiafamacjpgjoaaGreatDoor
namespace Go.Proofs.YtiafamacjpgjoaaGreatDoor
open Go Go.RowKit Tide
section
variable {W:World} {F S:Nat->Prop} {q p:Nat} {va vp vi:Value} {rs:List Value} {u:ah}
theorem om (l:List Int) (i:Nat) (x:Int) (h:l[i]? =some x):(az l)[i]? =some (.int .i64 x):=by unfold az;rw[List.getElem?_map,h];rfl
theorem qC (u:ah) (i:Nat) (h:i < u.rows.length):(gG u)[i]? =some ((u.rows[i]).af:Int):=by unfold gG;rw[List.getElem?_map,List.getElem?_eq_getElem h];rfl
theorem zo (u:ah) (i:Nat) (h:i < u.rows.length):(gM u)[i]? =some ((u.rows[i]).aQ:Int):=by unfold gM;rw[List.getElem?_map,List.getElem?_eq_getElem h];rfl
theorem tQ (h:bT W F S q p va vp vi rs u) (a:Int):Calls Tryz.prog 86 #[.pointer (some ⟨q,0,none⟩),.int .i64 a] W λe w'=>e= .returned (.int .i64 (jk (gI u a)))/\W=w':=by
 obtain⟨hq,c0,c1,c2,c3,c4,c5,c6,_⟩:=h.facts;obtain⟨A,c,rfl,hc,hc2⟩:=fA h.fH;have H:=ab h;obtain⟨L,hL⟩:=aa u.rows.length;rw[hL]at c1 hc;have HL:=ab hL;clear h hL
 go_enter Tryz.func86,Tryz.ntmps86
 go_wp2_with fail
 go_loopw [12] (λi wr=>∃j:Nat,i= .int .i64 j/\j<=L/\Hid (∀k (hk:k < u.rows.length),k < j->¬(((u.rows[k]).af:Int)=a/\(u.trimmed:Int)<=a))/\wr=W) (λi _=>L - (intOf i).toNat)
 case atStart=>exact⟨0,rfl,Nat.zero_le _,ab (λk _ hk=>absurd hk (Nat.not_lt_zero k)),rfl⟩
 case round=>
  obtain⟨j,rfl,hj,hne,rfl⟩:=hrel;by_cases hlj:j < L
  · have hjr:j < u.rows.length:=by rw[HL.out];exact hlj
    obtain⟨b,cc,hv,hb,d0⟩:=mD H.out.fH (om _ _ _ (qC u j hjr));injection hv with e1 _ e3;subst e1 e3;obtain⟨x,hx⟩:∃x:Nat,(u.rows[j]).af=x:=⟨_,rfl⟩;rw[hx]at d0;have HX:=ab hx;clear hx;by_cases hxa:(x:Int)=a
    · by_cases hta:(u.trimmed:Int)<=a
      · have q1:((x:Int) == a)=true:=by rw[hxa];simp
        have q2:decide ((u.trimmed:Int)<=a)=true:=decide_eq_true hta;have HR:=ab (ys hjr hne.out (by rw[HX.out];exact hxa) hta);clear hxa hta
        go_wp2_with fail
        go_ret
        exact⟨by rw[HR.out];rfl,rfl⟩
      · have q1:((x:Int) == a)=true:=by rw[hxa];simp
        have q2:decide ((u.trimmed:Int)<=a)=false:=decide_eq_false hta;have HN:=ab (show ∀k (hk:k < u.rows.length),k < j+1->¬(((u.rows[k]).af:Int)=a/\(u.trimmed:Int)<=a) from λk hk hkj h=>hta h.2);clear hxa hta
        go_wp2_with fail
        go_roundw
        case rel=>exact⟨j+1,by go_num,by omega,HN,trivial⟩
        case measure=>simp[intOf];omega
    · have q1:((x:Int) == a)=false:=beq_eq_false_iff_ne.2 hxa;have HN:=ab (show ∀k (hk:k < u.rows.length),k < j+1->¬(((u.rows[k]).af:Int)=a/\(u.trimmed:Int)<=a) from λk hk hkj h=>by
       by_cases hkj2:k=j
       · subst hkj2;rw[HX.out]at h;exact hxa h.1
       · exact hne.out k hk (by omega) h)
      clear hxa
      go_wp2_with fail
      go_roundw
      case rel=>exact⟨j+1,by go_num,by omega,HN,trivial⟩
      case measure=>simp[intOf];omega
  · have hje:j=L:=by omega
    subst hje;have HR:=ab (yu (u:=u) (a:=a) (λk hk=>hne.out k hk (by rw[HL.out]at hk;exact hk)))
    go_wp2_with fail
    go_ret
    exact⟨by rw[HR.out];rfl,rfl⟩
theorem Cy (h:bT W F S q p va vp vi rs u) (a:Int):Calls Tryz.prog 124 #[.pointer (some ⟨q,0,none⟩),.int .i64 a] W λe w'=>e= .returned (.bool (gJ u a))/\W=w':=by
 have CF:=ab (tQ h a);have HH:=ab (yL u a);generalize jk (gI u a)=z at *;clear h
 go_enter Tryz.func124,Tryz.ntmps124
 go_wp2_with fail
 refine CF.out.mono ?_;rintro e w1 ⟨rfl,rfl⟩
 go_wp2_with fail
 go_ret
 exact⟨by rw[HH.out];rfl,rfl⟩
theorem pa (h:bT W F S q p va vp vi rs u) (ep a m:Int):Calls Tryz.prog 85 #[.pointer (some ⟨q,0,none⟩),.int .i64 ep,.int .i64 a,.int .i64 m] W λe w'=>e= .returned (.int .i64 (bG u.ag ep a m:Nat))/\W=w':=by
 obtain⟨hq,c0,c1,c2,c3,c4,c5,c6,_⟩:=h.facts;unfold bG;obtain⟨E,hE⟩:=aa u.ag;rw[hE]at c5 ⊢;clear h hE c0 c1 c2 c3 c4 c6;by_cases h1:ep < (E:Int)
 · have q1:decide (ep < (E:Int))=true:=decide_eq_true h1;rw[if_pos (.inl h1)];clear h1
   go_enter Tryz.func85,Tryz.ntmps85
   go_wp2_with fail
   go_ret
   exact⟨rfl,rfl⟩
 have q1:decide (ep < (E:Int))=false:=decide_eq_false h1;by_cases h2:1073741824 < ep
 · have q2:decide ((1073741824:Int) < ep)=true:=decide_eq_true h2;rw[if_pos (.inr h2)];clear h1 h2
   go_enter Tryz.func85,Tryz.ntmps85
   go_wp2_with fail
   go_ret
   exact⟨rfl,rfl⟩
 have q2:decide ((1073741824:Int) < ep)=false:=decide_eq_false h2;rw[if_neg (λh=>h.elim h1 h2)];clear h1 h2;by_cases h3:a < 0
 · have q3:decide (a < (0:Int))=true:=decide_eq_true h3;rw[if_pos (.inl h3)];clear h3
   go_enter Tryz.func85,Tryz.ntmps85
   go_wp2_with fail
   go_ret
   exact⟨rfl,rfl⟩
 have q3:decide (a < (0:Int))=false:=decide_eq_false h3;by_cases h4:m < a
 · have q4:decide (m < a)=true:=decide_eq_true h4;rw[if_pos (.inr h4)];clear h3 h4
   go_enter Tryz.func85,Tryz.ntmps85
   go_wp2_with fail
   go_ret
   exact⟨rfl,rfl⟩
 have q4:decide (m < a)=false:=decide_eq_false h4;rw[if_neg (λh=>h.elim h3 h4)];clear h3 h4
 go_enter Tryz.func85,Tryz.ntmps85
 go_wp2_with fail
 go_ret
 exact⟨rfl,rfl⟩
theorem py (h:bT W F S q p va vp vi rs u):Calls Tryz.prog 59 #[.pointer (some ⟨q,0,none⟩)] W λe w'=>e= .returned (.int .i64 ((max u.top u.trimmed:Nat):Int))/\Below W.heap.size W w':=by
 obtain⟨hq,c0,c1,c2,c3,c4,c5,c6,_⟩:=h.facts;obtain⟨T,hT⟩:=aa u.top;obtain⟨R,hR⟩:=aa u.trimmed;rw[hT]at c6 ⊢;rw[hR]at c4 ⊢;clear h hT hR c0 c1 c2 c3 c5;by_cases h1:(T:Int) < (R:Int)
 · rw[show max T R=R by omega]
   go_enter Tryz.func59,Tryz.ntmps59
   go_wp2_with fail
   go_quiet (fail)
   go_wp2_with fail
   go_ret
   exact⟨rfl,⟨rfl,rfl,rfl,Nat.le_refl _,λ_ _=>rfl⟩⟩
 · rw[show max T R=T by omega]
   go_enter Tryz.func59,Tryz.ntmps59
   go_wp2_with fail
   go_quiet (fail)
   go_wp2_with fail
   go_ret
   exact⟨rfl,⟨rfl,rfl,rfl,Nat.le_refl _,λ_ _=>rfl⟩⟩
end
end Go.Proofs.YtiafamacjpgjoaaGreatDoor
namespace Go.Proofs.YtiafamacjpgjoaaGreatDoor
open Go Go.RowKit Tide
theorem ij {w:World} {base n:Nat} {T:TypeId} {m:Nat} {v:Value} {xs:List Value} (h:w.ownsRow base T m v n xs):∀k,v.ownBlock=some k->base<=k/\k < w.heap.size:=by
 intro k hk;rcases h.2 with⟨rfl,_⟩|⟨g,cap,cur,rfl,h1,h2,_⟩
 · cases hk
 · injection hk with hk;rw[<-hk];exact⟨h1,(Array.getElem?_eq_some_iff.1 h2).1⟩
section
variable {W:World} {F S:Nat->Prop} {q p:Nat} {va vp vi:Value} {rs:List Value} {u:ah}
theorem Cv (h:bT W F S q p va vp vi rs u) (hs:∀r ∈ u.rows,u.trimmed<=r.af->r.bs.length<=2048) (ep a:Int):Calls Tryz.prog 53 #[.pointer (some ⟨q,0,none⟩),.int .i64 ep,.int .i64 a] W λe w'=>∃v,e= .returned (.tuple #[v,.int .i64 ((bt u ep a).2:Nat)])/\Bytes w' w'.heap.size v (bt u ep a).1/\(∀k,v.ownBlock=some k->W.heap.size<=k/\k < w'.heap.size)/\Below W.heap.size W w':=by
 obtain⟨hq,c0,c1,c2,c3,c4,c5,c6,_⟩:=h.facts;have CC:=ab (pa h ep a 4095);have CF:=ab (tQ h a);unfold bt;obtain⟨C,hC⟩:=aa (bG u.ag ep a 4095);rw[hC]at CC ⊢;clear hC;by_cases h1:C=0;rotate_left
 · rw[if_pos h1];have q1:((C:Int) != 0)=true:=by simp;omega
   clear h c0 c1 c2 c3 c4 c5 c6 CF h1
   go_enter Tryz.func53,Tryz.ntmps53
   go_wp2_with fail
   refine CC.out.mono ?_;rintro e w1 ⟨rfl,rfl⟩
   go_wp2_with fail
   go_ret2
   exact⟨_,rfl,di _ _,λ_ h=>by(cases h),Below.refl _ _⟩
 subst h1;rw[if_neg (by simp)];by_cases h2:a < (u.trimmed:Int)
 · rw[if_pos h2];have q2:decide (a < (u.trimmed:Int))=true:=decide_eq_true h2;clear h CF h2
   go_enter Tryz.func53,Tryz.ntmps53
   go_wp2_with fail
   refine CC.out.mono ?_;rintro e w1 ⟨rfl,rfl⟩
   go_wp2_with fail
   go_ret2
   exact⟨_,rfl,di _ _,λ_ h=>by(cases h),Below.refl _ _⟩
 rw[if_neg h2];have q2:decide (a < (u.trimmed:Int))=false:=decide_eq_false h2;rcases yt h2 with⟨e1,e2⟩|⟨i,hi,e1,e2⟩
 · rw[e2];rw[e1,show jk none= -1 from rfl]at CF;clear h h2 e1 e2
   go_enter Tryz.func53,Tryz.ntmps53
   go_wp2_with fail
   refine CC.out.mono ?_;rintro e w1 ⟨rfl,rfl⟩
   go_wp2_with fail
   refine CF.out.mono ?_;rintro e w1 ⟨rfl,rfl⟩
   go_wp2_with fail
   go_ret2
   exact⟨_,rfl,di _ _,λ_ h=>by(cases h),Below.refl _ _⟩
 · rw[e2];rw[e1,show jk (some i)=(i:Int) from rfl]at CF;have hir:i < rs.length:=by have:=h.bytes.1;rw[List.length_map]at this;omega
   obtain⟨b,cc,rfl,hb,d0⟩:=mD h.aD (List.getElem?_eq_getElem hir);have hrow:=h.bytes.2 i rs[i] (u.rows[i]).bs (List.getElem?_eq_getElem hir) (by rw[List.getElem?_map,List.getElem?_eq_getElem hi];rfl);obtain⟨y,hy⟩:=aa (rs[i]);rw[hy]at hrow d0;have hsz:=hs _ (List.getElem_mem hi) (by have h9:=List.find?_some e2;simp only[beq_iff_eq]at h9;omega);obtain⟨l,hl⟩:=aa ((u.rows[i]).bs);dsimp only;rw[hl]at hrow hsz ⊢;obtain⟨L,hL⟩:=aa u.rows.length;rw[hL]at c2 hi;have HO:=ab hrow.1;obtain⟨i0,hinf,hz0,hz1,hz2⟩:=info_parts fW;have HI:=ab hinf;have HS:=ab hsz;clear h h2 e1 e2 hir hrow hy hsz hl hL hs hinf
   go_enter Tryz.func53,Tryz.ntmps53
   go_wp2_with fail
   refine CC.out.mono ?_;rintro e w1 ⟨rfl,rfl⟩
   go_wp2_with fail
   refine CF.out.mono ?_;rintro e w1 ⟨rfl,rfl⟩;have d0':(W.alloc (.cells #[] 5)).cell? ⟨b,i,none⟩=some y:=(((Below.refl _ _).alloc (Nat.le_refl _) _).cell (p:=⟨b,i,none⟩) hb).trans d0
   go_wp2_with (at_builtin;refine EM _ rfl (.tmp 28) (.tmp 35) _ rfl W.heap.size 5 i0 (.int .u8 0) 1 Tryz.underlying47 HI.out hz0 hz1 hz2 rfl _ 0 _ [] rfl ?d0 y 0 l.length (al l) rfl ?d1 ?d2 ?d3 ?d4 ?d5 ?_)
   case d0=>exact mG (Nat.le_refl _) (heap_alloc_new W _)
   case d1=>exact bf HO.out ((Below.refl _ _).alloc (Nat.le_refl _) _)
   case d2=>exact gB l
   case d3=>have:=HS.out;unfold maxLen;omega
   case d4=>have:=HS.out;omega
   case d5=>simp
   intro g2 c2' w9 k1 k2;have HB:=ab (((Below.refl W.heap.size W).alloc (Nat.le_refl _) (.cells #[] 5)).trans k2);have HO9:=ab k1;clear k1 k2
   go_wp2_with fail
   go_ret2
   refine⟨_,rfl,?_,?_,HB.out⟩
   · exact Bytes.cm HO9.out
   · exact ij HO9.out
end
end Go.Proofs.YtiafamacjpgjoaaGreatDoor
