import Derived.Test.YtdilnodbfnlhdaaGreatDoorGSsR
import Derived.Test.YtdilnodbfnlhdaaGreatDoorGSeqX
import Derived.RangeFuncBox
import Derived.Stop.RegionWithIn
import Derived.OwnWalkIn
import Derived.TacticsInMore
import Derived.LoopNIn
import Derived.LoopIn
import Derived.Shelf.Abstract
set_option maxHeartbeats 4000000
set_option maxRecDepth 100000
namespace Go.Proofs.YtdilnodbfnlhdaaGreatDoor
open Go.RowKit Go.Shelf Tide
attribute [local go_sem] Oper.semAt_some
theorem jt {W:World} {b D:Nat} {t:TypeId} {v:Value} {o:Obj} (h:Boxed W b t v) (hD:D≠b):Boxed (W.putObj D o) b t v:=(World.putObj_heap_other (λe=>hD e.symm)).trans h
theorem js {B D:Nat} {w W:World} {o:Obj} (h:Below B w W) (hB:B<=W.heap.size) (hD:B<=D):Below B w (W.putObj D o):=h.grown (grownBy_putObj' W D o) hB (λk e=>by cases e;exact hD)
theorem yA {n₀:Nat} {w:World} (hn:n₀<=w.heap.size) (W:World) (l:Nat) (o o':Obj) (hl:w.heap.size<=l) (h:W.heap[l]? =some o) (_:o.isCells=false):Below n₀ W (W.putObj l o'):=
 (Below.refl n₀ W).grown (grownBy_putObj' W l o') (by have:=(Array.getElem?_eq_some_iff.1 h).1;omega) (λk e=>by cases e;omega)
def cI (us:List ah):List (Nat × ah):=(us.mapIdx λi u=>(i,u)).reverse
theorem u6 (us:List ah):(cI us).length=us.length:=by simp[cI]
theorem uZ (us:List ah) (k:Nat) (h:k < us.length) (hk:k < (cI us).length):(cI us)[k]=(us.length - 1 - k,us[us.length - 1 - k]'(by omega)):=by simp[cI]
abbrev nd (x:Nat × ah):Array Value:= #[.int .i64 (x.1:Int),.agg #[.int .i64 (x.2.no:Int),.int .i64 (x.2.first:Int),.int .i64 (x.2.fin:Int)]]
theorem vn (A:Option Addr) (L c:Nat) (w:World):Calls Tryz.prog 155 #[.slice A L c] w λe w'=>e= .returned (.func (.func 171) #[] #[.pointer (some ⟨w.heap.size,0,none⟩)])/\w'=w.alloc (.cells #[.slice A L c] 216):=by
 have hmf:∀ (fn:Fn) (first cap:Array Value) (w:World),(Instr.makeFunc fn first cap).run Tryz.prog w= .ok (.func fn first cap) w:=λ_ _ _ _=>rfl
 go_enter Tryz.func155,Tryz.ntmps155
 go_wp2_with fail
 go_ret
 exact⟨rfl,rfl⟩
theorem vh (n:Nat) (hn:1<=n) (b:Nat) (w:World) {F:Nat->Prop} {p dev:Nat} {us:List ah} {vs:Value} (h:aO w F p dev us vs) (hmax:us.length<=1000) (hb:Boxed w b 216 vs):
 kd Fence.wide n Tryz.prog 171 #[.pointer (some ⟨b,0,none⟩)] nd (Below w.heap.size) (cI us) w:=λlp J Jx W hW hJ hJx hY h0=>by
 have HY:=ab hY;have HJ:=ab hJ;have H:=ab h;have HW:=ab hW;have hlb:=hb.lt;have HB:=ab hb;have cb:=(show Boxed W b _ _ from(hW.block b hlb).trans hb).cell;have hbl:=u6 us;obtain⟨A,c,rfl,_,_⟩:=h.form;obtain⟨L,hL⟩:=aa us.length;have HL:=ab hL;rw[hL]at cb hmax;have q1:=gX ((L:Int) - 1) (by omega) (by omega);have q2:=gW ((L:Int) - 1) (by omega) (by omega);clear hW hY hJ h hb;refine callsIn_of_wp Tryz.func171 rfl trivial ?_ rfl;simp only[Tryz.ntmps171,List.size_toArray,List.length_cons,List.length_nil,Nat.reduceAdd,Nat.reduceSub,Array.replicate_succ,Array.replicate_zero,List.push_toArray,List.append_toArray,List.nil_append,List.cons_append]
 gi_wp2_with fail
 gi_loopw [3] (λi wr=>∃k:Nat,i= .int .i64 ((L:Int) - 1 - k)/\k<=L/\Hid (Below w.heap.size w wr)/\Hid (J ((cI us).take k) wr)) (λi _=>(intOf i+1).toNat)
 case atStart=>exact⟨0,by simp,Nat.zero_le _,HW,ab (by simpa using h0)⟩
 case round=>
  obtain⟨k,rfl,hk,hBk,hJp⟩:=hrel;clear q1 q2;by_cases hlt:k < L
  · obtain⟨m,hm⟩:∃m,L=k+1+m:=⟨L - k - 1,by omega⟩;have hi:(L:Int) - 1 - (k:Int)=(m:Int):=by omega
    rw[hi];have hml:m < us.length:=by have:=HL.out;omega
    obtain⟨gb,cc,hvs,hcc,hgb,_,d0,d1,d2,_⟩:=H.out.cells m hml;injection hvs with e1 _ e3;subst e1 e3;have f0:=(hBk.out.cell (p:=⟨gb,m * 3,none⟩) hgb).trans d0;have f1:=(hBk.out.cell (p:=⟨gb,m * 3+1,none⟩) hgb).trans d1;have f2:=(hBk.out.cell (p:=⟨gb,m * 3+2,none⟩) hgb).trans d2;have cbk:wr.cell? ⟨b,0,none⟩=some (.slice (some ⟨gb,0,none⟩) L c):=by
     have:=(hBk.out.cell (p:=⟨b,0,none⟩) hlb).trans HB.out.cell
     rwa[HL.out]at this
    have hkl:k < (cI us).length:=by rw[hbl];omega
    have hz:=Nx.at hkl;have htk:=List.take_succ_eq_append_getElem hkl;have hxe:(cI us)[k]=(m,us[m]):=by
     rw[uZ us k (by omega) hkl];have:us.length - 1 - k=m:=by have:=HL.out;omega
     simp only[this]
    rw[hxe]at hz htk;have HTK:=ab htk;obtain⟨fn,tmps,assign,body,hy,hR⟩:=HY.out _ (m,us[m]) _ hJp.out hz;dsimp only[nd]at hy;have HRd:=ab hR;generalize us[m]=u at *;obtain⟨no,fi,en⟩:=u;dsimp only at f0 f1 f2 hy;have hM:=ab hm;have hmL:(m:Int) < (L:Int):=by omega
    have hm0:(0:Int)<=(m:Int):=by omega
    have qd:decide ((0:Int)<=(m:Int))=true:=decide_eq_true hm0;clear hz htk hxe d0 d1 d2 hR hm hi hml hbl hkl h0 cb hk hlt HY
    gi_wp2_with fail
    refine HRd.out.mono ?_;rintro e W3 (⟨rfl,hJ3,hk3⟩|⟨rfl,hJx3⟩)
    · have HJ3:=ab hJ3;have HB3:=ab (hBk.out.trans hk3);have HMb:=ab (And.intro hm0 hmL);have b1:(-1000000:Int)<=(m:Int) - 1:=by omega
      have b2:(m:Int) - 1<=1000000:=by omega
      have q1:=gX _ b1 b2;have q2:=gW _ b1 b2;clear hJ3 hk3 HRd hy f0 f1 f2 cbk b1 b2 hm0 hmL qd
      gi_wp2_with fail
      clear q1 q2
      go_roundw
      case rel=>exact⟨k+1,congrArg _ (by have:=hM.out;omega),by have:=hM.out;omega,HB3,ab (by rw[HTK.out];exact HJ3.out)⟩
      case measure=>simp[intOf]
    · have HJ3:=ab hJx3;clear hJx3 HRd hy f0 f1 f2 cbk
      gi_wp2_with fail
      refine bodyPost_ret (results_none rfl _ _ _) rfl ?_;exact⟨⟨_,rfl⟩,.inr ⟨_,HJ3.out⟩⟩
  · have hke:k=L:=by omega
    rw[show(L:Int) - 1 - (k:Int)= -1 by omega];have HE:=ab (show(cI us).take k=cI us from List.take_of_length_le (by omega));clear hlt hk hke
    gi_wp2_with fail
    go_end0
    refine⟨⟨_,rfl⟩,.inl ?_⟩;rw[<-HE.out];exact hJp.out
def fg (us:List ah) (n:Int):Int:=match (cI us).find? λx=>(x.2.no:Int) == n with
 | none=> -1
 | some x=>(x.1:Int)
theorem xl {us:List ah} {n:Int} {pre:List (Nat × ah)} {x:Nat × ah} (h:Nx (cI us) pre x) (hp:∀y ∈ pre,((y.2.no:Int) == n)=false) (hx:((x.2.no:Int) == n)=true):fg us n=(x.1:Int):=by
 have e:cI us=pre ++ x :: (cI us).drop (pre.length+1):=by
  obtain⟨h1,h2,h3⟩:=h
  conv=>lhs;rw[<-List.take_append_drop pre.length (cI us),<-h2,List.drop_eq_getElem_cons h1,<-h3]
 unfold fg;rw[e,List.find?_append,List.find?_eq_none.2 (λy hy=>by simp only[hp y hy];exact Bool.false_ne_true),List.find?_cons,hx];rfl
theorem qx {us:List ah} {n:Int} (hp:∀y ∈ cI us,((y.2.no:Int) == n)=false):fg us n= -1:=by unfold fg;rw[List.find?_eq_none.2 (λy hy=>by simp only[hp y hy];exact Bool.false_ne_true)]
section
variable {W:World} {F:Nat->Prop} {p dev:Nat} {us:List ah} {vs:Value}
theorem xm (h:aO W F p dev us vs) (hmax:us.length<=1000) (n:Int):Calls Tryz.prog 119 #[.pointer (some ⟨p,0,none⟩),.int .i64 n] W λe w'=>e= .returned (.int .i64 (fg us n))/\Below W.heap.size W w':=by
 have H:=ab h;obtain⟨hpl,c0,c1,_⟩:=h.block.facts;obtain⟨A,c,rfl,_,_⟩:=h.form;have CB:=ab (λw=>vn A us.length c w);clear h;refine(callsIn_wide (n:=5)).1 ?_;refine callsIn_of_wp_marks Tryz.func119 rfl trivial ?_ rfl;simp only[Tryz.ntmps119,List.size_toArray,List.length_cons,List.length_nil,Nat.reduceAdd,Nat.reduceSub,Array.replicate_succ,Array.replicate_zero,List.push_toArray,List.append_toArray,List.nil_append,List.cons_append]
 gi_wp2_with fail
 refine⟨trivial,(callsIn_wide.2 (CB.out _)).mono ?_⟩;rintro e w1 ⟨rfl,rfl⟩
 gi_wp2_with fail
 generalize hW0:((W.alloc (.cells #[.int .i64 n] 3)).alloc (.cells #[.int .i64 0] 3)).alloc (.cells #[.slice A us.length c] 216)=W0 at *;have hz0:W0.heap.size=W.heap.size+3:=by rw[<-hW0];simp
 have hb0:Below W.heap.size W W0:=by rw[<-hW0];exact(((Below.refl W.heap.size W).alloc (Nat.le_refl _) _).alloc (by simp) _).alloc (by simp;omega) _
 have x0:Boxed W0 W.heap.size 3 (.int .i64 n):=by rw[<-hW0];exact((Boxed.new W _ _).alloc _).alloc _
 have x1:Boxed W0 (W.heap.size+1) 3 (.int .i64 0):=by
  rw[<-hW0];have:=(Boxed.new (W.alloc (.cells #[.int .i64 n] 3)) 3 (.int .i64 0)).alloc (.cells #[.slice A us.length c] 216)
  rwa[World.size_alloc]at this
 have x2:Boxed W0 (W.heap.size+1+1) 216 (.slice A us.length c):=by
  rw[<-hW0];have:=Boxed.new ((W.alloc (.cells #[.int .i64 n] 3)).alloc (.cells #[.int .i64 0] 3)) 216 (.slice A us.length c)
  rwa[World.size_alloc,World.size_alloc]at this
 have HB0:=ab hb0;have X0:=ab x0;have X1:=ab x1;have HZ0:=ab hz0;have H0:=ab (H.out.below hb0);have hlen0:us.length<=1000:=hmax;clear hW0 CB H c0 c1 hb0 x0 x1
 refine jT rfl (by omega) (gf:=171) rfl trivial (enters_of Tryz.func171 (by kernel_rfl) rfl) (encs:=nd)
  (λ_=>rfl) (vh _ (by omega) (W.heap.size+1+1) W0 H0.out hmax x2) (λh k=>h.trans k) (yA (Nat.le_refl _))
  (λpre X=>Below W0.heap.size W0 X/\∀x ∈ pre,((x.2.no:Int) == n)=false)
  (λcd _ X=>cd= .ret/\Boxed X (W.heap.size+1) 3 (.int .i64 (fg us n))/\Below W.heap.size W X)
  ?hI ?hIx ⟨Below.refl _ _,λx hx=>by cases hx⟩
  (λx a' X=>∃Bx,W0.heap.size<=Bx/\X.heap[Bx]? =some (.cells #[.int .i64 (x.2.no:Int),.int .i64 (x.2.first:Int),.int .i64 (x.2.fin:Int)] 224)/\a'= { tmps:= #[.pointer (some ⟨p,0,none⟩),.int .i64 n,undef,.pointer (some ⟨W.heap.size,0,none⟩),.pointer (some ⟨W.heap.size+1,0,none⟩),.int .i64 (x.1:Int),.pointer (some ⟨Bx,0,none⟩),.pointer (some ⟨p,0,none⟩),.pointer (some ⟨p,0,none⟩),.pointer (some ⟨p,1,none⟩),.slice A us.length c,.func (.func 171) #[] #[.pointer (some ⟨W.heap.size+1+1,0,none⟩)],.int .i64 (x.1:Int),.agg #[.int .i64 (x.2.no:Int),.int .i64 (x.2.first:Int),.int .i64 (x.2.fin:Int)],undef,undef,undef,undef,undef],defers:= [] })
  ?hAx ?assign ?body ?done ?stop
 case hI=>exact OwnFrom.and (ownFrom_below (Nat.le_refl _) (Nat.le_refl _)) (fU _ _)
 case hIx=>exact λcd=>OwnFrom.and (fU _ _) (OwnFrom.and (iB _ _ _ _) (ownFrom_below (Nat.le_refl _) (by omega)))
 case hAx=>rintro x a' s A C row ⟨Bx,h1,h2,h3⟩ hg hr;exact⟨Bx,h1,Aw (β:=Unit) _ (λ_=>Bx) (λ_=>_) (λ_=>rfl) () A C row h2 hg hr,h3⟩
 case assign=>
  rintro l pre x A0 K ⟨hI1,hI2⟩ hN hK
  gi_wp2_with fail
  exact hK _ _ ((KeepsOthers.alloc _ _).from _) ((Below.refl _ A0).alloc hI1.size _) ⟨hI1.alloc hI1.size _,hI2⟩ ⟨A0.heap.size,hI1.size,heap_alloc_new _ _,rfl⟩
 case body=>
  rintro l pre x a' A0 hl hr ⟨hI1,hI2⟩ ⟨Bx,hBx,hrow,rfl⟩ hN;have c0:A0.cell? ⟨Bx,0,none⟩=some (.int .i64 (x.2.no:Int)):=by rw[cell_of_row _ _ 0 _ _ _ hrow];rfl
  have cn:=(show Boxed A0 W.heap.size 3 (.int .i64 n) from(hI1.block _ X0.out.lt).trans X0.out).cell;have br:=(show Boxed A0 (W.heap.size+1) 3 (.int .i64 0) from(hI1.block _ X1.out.lt).trans X1.out);have cr:=br.cell;have fr:=br.frozen;have BR:=ab br;have HN:=ab hN;have HI1:=ab hI1;have HI2:=ab hI2;clear hN hI1 hI2 hrow br hr;cases q:((x.2.no:Int) == n) with
  | true=>
    have HF:=ab (xl HN.out HI2.out q)
    gi_wp2_with fail
    refine⟨(KeepsOthers.setCell _ _ _).from _,rfl,?_,?_⟩
    · rw[HF.out];exact BR.out.set _
    · exact((HB0.out.trans (HI1.out.mono (by have:=HZ0.out;omega)))).setCell (p:=⟨W.heap.size+1,0,none⟩) (by show W.heap.size<=W.heap.size+1;omega) _
  | false=>
    gi_wp2_with fail
    refine⟨KeepsFrom.refl _ _,Below.refl _ _,HI1.out,λy hy=> ?_⟩;rcases List.mem_append.1 hy with hy|hy
    · exact HI2.out y hy
    · simp only[List.mem_singleton]at hy;subst hy;exact q
 case done=>
  rintro D A0 hD ⟨hI1,hI2⟩ hdf;have HF:=ab (qx hI2);have br:=(show Boxed A0 (W.heap.size+1) 3 (.int .i64 0) from(hI1.block _ X1.out.lt).trans X1.out);have cr:=br.cell;have fr:=br.frozen;have BR:=ab br;have HDF:=ab hdf;have HI1:=ab hI1;clear hdf hI1 hI2 br
  gi_wp2_with fail
  refine⟨by simp,.inl ⟨_,_,rfl,run_takeDeferred ((Below.heap_setCell _ _ _ _ (show D≠W.heap.size+1 by have:=HZ0.out;omega)).trans HDF.out),?_⟩⟩;have hc:=(jt (o:= .deferred none) (BR.out.set (.int .i64 (-1))) (show D≠W.heap.size+1 by have:=HZ0.out;omega)).cell;refine⟨.int .i64 (-1),by simp[results,Tryz.results119,go_sem,hc],by rw[HF.out],?_⟩;have hbb:=(HB0.out.trans (HI1.out.mono (by have:=HZ0.out;omega))).setCell (p:=⟨W.heap.size+1,0,none⟩) (by show W.heap.size<=W.heap.size+1;omega) (.int .i64 (-1));exact js hbb hbb.size (by have:=HZ0.out;omega)
 case stop=>
  rintro D cd pre A0 hD ⟨rfl,hb1,hb2⟩ hdf;have HB1:=ab hb1;have HB2:=ab hb2;have HDF:=ab hdf;clear hb1 hb2 hdf
  gi_wp2_with fail
  refine⟨by simp,.inl ⟨_,_,rfl,run_takeDeferred HDF.out,?_⟩⟩;have hc:=(jt (o:= .deferred none) HB1.out (show D≠W.heap.size+1 by have:=HZ0.out;omega)).cell;refine⟨.int .i64 (fg us n),by simp[results,Tryz.results119,go_sem,hc],rfl,js HB2.out HB2.out.size (by have:=HZ0.out;omega)⟩
end
end Go.Proofs.YtdilnodbfnlhdaaGreatDoor
namespace Go.Proofs.YtdilnodbfnlhdaaGreatDoor
open Go.RowKit Go.Shelf Tide
attribute [local go_sem] Oper.semAt_some
abbrev nf (g:Nat) (k:Nat):Array Value:= #[.slice (some ⟨g,64 * k,none⟩) 64 64]
theorem vY (A:Option Addr) (L c:Nat) (w:World):Calls Tryz.prog 181 #[.slice A L c,.int .i64 64] w λe w'=>e= .returned (.func (.func 186) #[] #[.pointer (some ⟨w.heap.size,0,none⟩),.pointer (some ⟨w.heap.size+1,0,none⟩)])/\w'=(w.alloc (.cells #[.slice A L c] 38)).alloc (.cells #[.int .i64 64] 3):=by
 have hmf:∀ (fn:Fn) (first cap:Array Value) (w:World),(Instr.makeFunc fn first cap).run Tryz.prog w= .ok (.func fn first cap) w:=λ_ _ _ _=>rfl
 go_enter Tryz.func181,Tryz.ntmps181
 go_wp2_with fail
 go_ret
 exact⟨rfl,rfl⟩
theorem wJ (b n c lo:Nat) (li:Int) (el:li=lo) (hn:n<=c) (hc:lo < n) (W:World):
 (Instr.slice 38 (.slice (some ⟨b,0,none⟩) n c) (some (.int .i64 li)) none none).run Tryz.prog W= .ok (.slice (some ⟨b,lo,none⟩) (n - lo) (c - lo)) W:=by
 subst el;rw[run_slice_l _ _ _ _ _ iP _ _ (by omega) (by omega),jd];simp only[Result.andThen,Int.toNat_natCast];have ha:(⟨b,0,none⟩:Addr).add lo=⟨b,0+lo,none⟩:=da b 0 lo;have hne:c≠lo:=by omega
 simp[sliced,hne,ha]
theorem wN (b n c lo:Nat) (li ui:Int) (el:li=lo) (eu:ui=(lo:Int)+64) (hhi:lo+64<=n) (hn:n<=c) (W:World):
 (Instr.slice 38 (.slice (some ⟨b,0,none⟩) n c) (some (.int .i64 li)) (some (.int .i64 ui)) (some (.int .i64 ui))).run Tryz.prog W= .ok (.slice (some ⟨b,lo,none⟩) 64 64) W:=by
 subst el eu;rw[run_slice_lhm _ _ _ _ _ iP _ _ _ _ _ _ (by omega) (by omega) (by omega) (by omega),jd];simp only[Result.andThen,Int.toNat_natCast];have ha:(⟨b,0,none⟩:Addr).add lo=⟨b,0+lo,none⟩:=da b 0 lo;have e1:((lo:Int)+64).toNat=lo+64:=by omega
 have e2:lo+64 - lo=64:=by omega
 simp[sliced,ha,e1,e2]
theorem vZ (n:Nat) (hn:1<=n) (b g m c:Nat) (hc:64 * m<=c) (hm:m<=1000) (w:World) {G:Nat->Prop}
 (hb:Boxed w b 38 (.slice (some ⟨g,0,none⟩) (64 * m) c)) (hb1:Boxed w (b+1) 3 (.int .i64 64)) (hG:¬G b/\¬G (b+1)):
 kd Fence.wide n Tryz.prog 186 #[.pointer (some ⟨b,0,none⟩),.pointer (some ⟨b+1,0,none⟩)] (nf g) (Kept G) (List.range m) w:=λlp J Jx W hW hJ hJx hY h0=>by
 have HY:=ab hY;have HK0:=ab (Kept.al (F:=G) hW);have HB:=ab hb;have HB1:=ab hb1;have HJ:=ab hJ;clear hW hY hJ hb hb1;refine callsIn_of_wp Tryz.func186 rfl trivial ?_ rfl;simp only[Tryz.ntmps186,List.size_toArray,List.length_cons,List.length_nil,Nat.reduceAdd,Nat.reduceSub,Array.replicate_succ,Array.replicate_zero,List.push_toArray,List.append_toArray,List.nil_append,List.cons_append]
 gi_wp2_with fail
 gi_loopw [4] (λi wr=>∃k:Nat,i= .int .i64 ((64 * k:Nat):Int)/\k<=m/\Hid (Kept G w wr)/\Hid (J (List.range k) wr)) (λi _=>64 * m - (intOf i).toNat)
 case atStart=>exact⟨0,rfl,Nat.zero_le _,HK0,ab (by simpa using h0)⟩
 case round=>
  obtain⟨k,rfl,hk,hKw,hJp⟩:=hrel;have c0:wr.cell? ⟨b,0,none⟩=some (.slice (some ⟨g,0,none⟩) (64 * m) c):=(hKw.out.cell (p:=⟨b,0,none⟩) HB.out.lt hG.1).trans HB.out.cell;have c1:wr.cell? ⟨b+1,0,none⟩=some (.int .i64 64):=(hKw.out.cell (p:=⟨b+1,0,none⟩) HB1.out.lt hG.2).trans HB1.out.cell;by_cases hlt:k < m
  · have hz:Nx (List.range m) (List.range k) k:=by refine⟨by simpa using hlt,?_,by simp⟩;rw[List.length_range,List.take_range,Nat.min_eq_left (by omega)]
    have HZ:=ab hz;obtain⟨K,hK⟩:=aa (64 * k);obtain⟨R,hM⟩:∃R,64 * m=K+R:=⟨64 * m - K,by omega⟩;have HMK:=ab (And.intro hM hK);have hR64:64<=R:=by omega
    have hKR:K+R<=64000:=by omega
    rw[hM]at c0 hc;rw[hK];have q0:decide ((K:Int) < ((K+R:Nat):Int))=true:=decide_eq_true (by omega);have q1:¬((R:Int) < 64):=by omega
    have hsl1:=λW=>wJ g (K+R) c K (K:Int) rfl hc (by omega) W;have hsl2:=λW=>wN g (K+R) c K (K:Int) ((K:Int)+64) rfl rfl (by omega) hc W;have e1:K+R - K=R:=by omega
    rw[e1]at hsl1;have hlt2:K < K+R:=by omega
    obtain⟨w1,v1⟩:=eC ((K:Int)+64) (by omega) (by omega);clear hz hM hK hlt hk hR64 hKR e1 hc
    gi_wp2_with fail
    refine wpIn_wide.2 ?_
    go_quiet (fail)
    have HJn:=ab (HJ.out _ _ (wr.drewN nq) none hJp.out ⟨rfl,rfl,rfl,Nat.le_refl _,λ_ _ _=>rfl⟩ (λr e=>by cases e));obtain⟨fn,tmps,assign,body,hy,hR⟩:=HY.out _ k _ HJn.out HZ.out;dsimp only[nf]at hy;rw[HMK.out.2]at hy;have HRd:=ab hR;clear hR;have HW1:=ab (And.intro w1 v1)
    gi_wp2_with fail
    refine HRd.out.mono ?_;rintro e W3 (⟨rfl,hJ3,hk3⟩|⟨rfl,hJx3⟩)
    · have HJ3:=ab hJ3;have HK3:=ab (hKw.out.trans ((Kept.al (dp wr nq)).trans hk3 (λj hj=> .inl hj)) (λj hj=> .inl hj));have c13:W3.cell? ⟨b+1,0,none⟩=some (.int .i64 64):=(HK3.out.cell (p:=⟨b+1,0,none⟩) HB1.out.lt hG.2).trans HB1.out.cell;clear hJ3 hk3 HRd hy c0 c1 hsl1 hsl2 HJn
      gi_wp2_with fail
      clear w1 v1;have hmk:=HMK.out
      go_roundw
      case rel=>exact⟨k+1,congrArg _ (by omega),by omega,HK3,ab (by rw[List.range_succ];exact HJ3.out)⟩
      case measure=>simp[intOf];omega
    · have HJ3:=ab hJx3;clear hJx3 HRd hy c0 c1 hsl1 hsl2
      gi_wp2_with fail
      refine bodyPost_ret (results_none rfl _ _ _) rfl ?_;exact⟨⟨_,rfl⟩,.inr ⟨_,HJ3.out⟩⟩
  · obtain rfl:k=m:=by omega
    obtain⟨K,hK⟩:=aa (64 * k);rw[hK]at c0 ⊢;clear hK
    gi_wp2_with fail
    go_end0
    exact⟨⟨_,rfl⟩,.inl hJp.out⟩
end Go.Proofs.YtdilnodbfnlhdaaGreatDoor
namespace Go.Proofs.YtdilnodbfnlhdaaGreatDoor
open Go.RowKit Go.Shelf Tide
attribute [local go_sem] Oper.semAt_some
theorem nI {G:Nat->Prop} {w:World} (hn:∀k,w.heap.size<=k->G k) (W:World) (l:Nat) (o o':Obj) (hl:w.heap.size<=l) (_:W.heap[l]? =some o) (_:o.isCells=false):Kept G W (W.putObj l o'):=
 (Kept.refl G W).grown (grownBy_putObj' W l o') (λk e=>by cases e;exact .inl (hn _ hl))
abbrev lq (x:Nat × Nat):Array Value:= #[.int .i64 (x.1:Int),.int .i64 (x.2:Int)]
theorem qQ (p first:Nat) (w:World):Calls Tryz.prog 120 #[.pointer (some ⟨p,0,none⟩),.int .i64 (first:Nat)] w λe w'=>e= .returned (.func (.func 156) #[] #[.pointer (some ⟨w.heap.size+1,0,none⟩),.pointer (some ⟨w.heap.size,0,none⟩)])/\w'=(w.alloc (.cells #[.pointer (some ⟨p,0,none⟩)] 135)).alloc (.cells #[.int .i64 (first:Nat)] 3):=by
 have hmf:∀ (fn:Fn) (first cap:Array Value) (w:World),(Instr.makeFunc fn first cap).run Tryz.prog w= .ok (.func fn first cap) w:=λ_ _ _ _=>rfl
 go_enter Tryz.func120,Tryz.ntmps120
 go_wp2_with fail
 go_ret
 exact⟨rfl,rfl⟩
theorem nA (im:List UInt8) (lim k i:Nat) (h:¬(i < lim/\bL im i=some 1/\eP im i≠0/\ax i (eP im i)<=lim)):fh im lim k i= []:=by
 cases k with
 | zero=>rfl
 | succ k=>rw[fh,if_neg h]
theorem sP (im:List UInt8) (i:Nat):(ak im i)[63]? =bL im i:=by rw[iF _ _ _ (by omega)];rfl
theorem qR (n:Nat) (hn:1<=n) (b0 b1:Nat) (w:World) {D:az} {x:Nat->Addr} (hD:aC x D) {Fd Fs G:Nat->Prop} {p dev:Nat} {us:List ah} {vs:Value} {d:Dv} (hd:D w Fd dev d) (h:aO w Fs p dev us vs) (first:Nat) (hf:first+64<=d.ae.length / 64)
 (hb0:Boxed w b0 135 (.pointer (some ⟨p,0,none⟩))) (hb1:Boxed w b1 3 (.int .i64 (first:Nat))) (hG:(∀k,Fd k\/Fs k\/k=b0\/k=b1->¬G k)/\∀k,w.heap.size<=k->G k):
 kd Fence.wide n Tryz.prog 156 #[.pointer (some ⟨b1,0,none⟩),.pointer (some ⟨b0,0,none⟩)] lq (Kept G) (fD (aI d.ae d.aq) first) w:=λlp J Jx W hW hJ hJx hY h0=>by
 have hlen:=(hD.right _ _ _ _ hd).2.2.1;obtain⟨im,him⟩:=aa (aI d.ae d.aq);have HIm:=ab him;rw[him]at hY ⊢;have HY:=ab hY;have HJ:=ab hJ;have HK0:=ab (Kept.al (F:=G) hW);have HDv:=ab hd;have HS:=ab h;have HX0:=ab hb0;have HX1:=ab hb1;have HG:=ab hG.1;have HF:=ab hf;have hfi:first<=1000:=by omega
 have c1:=(show Boxed W b1 _ _ from(hW.block b1 hb1.lt).trans hb1).cell;have w1:=gX ((first:Int)+1) (by omega) (by omega);have v1:=gW ((first:Int)+1) (by omega) (by omega);clear hW hY hJ h hb0 hb1 hG hf hd him hlen;refine callsIn_of_wp Tryz.func156 rfl trivial ?_ rfl;simp only[Tryz.ntmps156,List.size_toArray,List.length_cons,List.length_nil,Nat.reduceAdd,Nat.reduceSub,Array.replicate_succ,Array.replicate_zero,List.push_toArray,List.append_toArray,List.nil_append,List.cons_append]
 gi_wp2_with fail
 gi_loopw [4] (λi wr=>∃ (a k:Nat) (pre:List (Nat × Nat)),i= .int .i64 a/\Hid (fD im first=pre ++ fh im (first+64) k a)/\Hid (first+64<=a+k)/\a<=100000/\Hid (Kept G w wr)/\Hid (J pre wr)) (λi _=>first+64 - (intOf i).toNat)
 case atStart=>exact⟨first+1,64, [],by push_cast;rfl,ab rfl,ab (by omega),by omega,HK0,ab h0⟩
 case round=>
  obtain⟨a,k,pre,rfl,hL,hfu,ha,hKw,hJp⟩:=hrel;clear w1 v1;have c1r:wr.cell? ⟨b1,0,none⟩=some (.int .i64 (first:Nat)):=(hKw.out.cell (p:=⟨b1,0,none⟩) HX1.out.lt (HG.out _ (.inr (.inr (.inr rfl))))).trans HX1.out.cell;have c0r:wr.cell? ⟨b0,0,none⟩=some (.pointer (some ⟨p,0,none⟩)):=(hKw.out.cell (p:=⟨b0,0,none⟩) HX0.out.lt (HG.out _ (.inr (.inr (.inl rfl))))).trans HX0.out.cell;by_cases hlt:a < first+64
  · have hDr:=ab (hD.an _ _ _ _ _ _ HDv.out hKw.out (λk hk=>HG.out k (.inl hk)));have hSr:=ab (HS.out.an hKw.out (λk hk=>HG.out k (.inr (.inl hk))));have CS:=ab (oJ hD hDr.out hSr.out a (by have:=HF.out;omega));have q0:decide ((a:Int) < (first:Int)+64)=true:=decide_eq_true (by omega);obtain⟨wf,vf⟩:=And.intro (gX ((first:Int)+64) (by omega) (by omega)) (gW ((first:Int)+64) (by omega) (by omega))
    gi_wp2_with fail
    have HWf:=ab (And.intro wf vf);clear wf vf;refine⟨trivial,(callsIn_wide.2 CS.out).mono ?_⟩;rintro e w1 ⟨v,rfl,ho,hb1'⟩;rw[HIm.out]at ho;have hsl:(ak im a).length=64:=by have:=ho.1;rw[aR]at this;omega
    obtain⟨gs,cs,rfl,_,hgl⟩:=ho.form (by omega);have hcs:64<=cs:=by
     rcases ho.2 with⟨h1,_⟩|⟨_,_,_,h1,_,_,h2,_⟩
     · cases h1
     · injection h1 with _ _ e;rw[e];exact h2
    have hcsm:cs<=9223372036854775807:=by
     rcases ho.2 with⟨h1,_⟩|⟨_,_,_,h1,_,_,_,h2,_⟩
     · cases h1
     · injection h1 with _ _ e;rw[e];exact h2
    have hb2:Bytes w1 w1.heap.size (.slice (some ⟨gs,0,none⟩) 2 cs) ((ak im a).take 2):=(Bytes.dm ho).take (by omega) rfl rfl (by omega) hcsm;have hs16:=oM im a;have CL:=ab (rz _ _ _ w1 hb2 (by rw[List.length_take];omega) (by show eP im a < _;omega));have hcut:=λW=>nc gs 64 cs 2 2 rfl (by omega) hcs (by omega) W;have hm:=sP im a;rw[List.getElem?_eq_getElem (by omega)]at hm;have c63:w1.cell? ⟨gs,63,none⟩=some (.int .u8 (((ak im a)[63]'(by omega)).toNat:Int)):=by
     have h1:=ho.cells (g:=gs) rfl 63 _ (ib _ 63 (by omega))
     rwa[da,Nat.zero_add]at h1
    generalize (ak im a)[63]'(by omega)=mk at *;have HM:=ab hm;have K1:=ab (hKw.out.trans (Kept.al (F:=G) hb1') (λk hk=> .inl hk));have hgr:wr.grownBy w1 none:=⟨hb1'.os,hb1'.tape,hb1'.output,hb1'.size,λk hk _=>hb1'.block k hk⟩;have HJ1:=ab (HJ.out _ _ _ none hJp.out hgr (λr e=>by cases e));have HJA:=ab (HJ.out _ _ w1.drew none HJ1.out ⟨rfl,rfl,rfl,Nat.le_refl _,λ_ _ _=>rfl⟩ (λr e=>by cases e));have KA:=ab K1.out.drew;have c1w:w1.cell? ⟨b1,0,none⟩=some (.int .i64 (first:Nat)):=(hb1'.cell (p:=⟨b1,0,none⟩) (World.block_lt_of_cell? _ _ c1r)).trans c1r;have c0w:w1.cell? ⟨b0,0,none⟩=some (.pointer (some ⟨p,0,none⟩)):=(hb1'.cell (p:=⟨b0,0,none⟩) (World.block_lt_of_cell? _ _ c0r)).trans c0r;have HSz:=ab (show bB ((ak im a).take 2)=eP im a from rfl);rw[HSz.out]at CL;obtain⟨sz,hsz⟩:=aa (eP im a);have HSZ:=ab hsz;rw[hsz]at CL hs16;have hbe:ax a sz<=200000:=by unfold ax;omega
    have CB:=ab (λw=>jr a sz (by omega) (by omega) w);obtain⟨be,hbee⟩:=aa (ax a sz);have HBE:=ab hbee;have hge:a+2<=ax a sz\/sz=0:=by unfold ax;omega
    rw[hbee]at hbe CB hge;clear hbee;clear ho hb1' hb2 hm hsl hgr c0r c1r hsz CS q0
    gi_wp2_with fail
    refine⟨trivial,(callsIn_wide.2 CL.out).mono ?_⟩;rintro e w2 ⟨rfl,rfl⟩
    gi_wp2_with fail
    have HNil:=ab (λhne=>show fD im first=pre from by rw[hL.out,nA im (first+64) k a hne,List.append_nil]);by_cases hmk:mk=1
    · have e1:((mk.toNat:Nat):Int)=1:=by rw[hmk];rfl
      rw[e1]at c63;have HMk:=ab (show bL im a=some 1 from by rw[<-HM.out,hmk]);clear hmk e1;by_cases hz:sz=0
      · have q2:((sz:Int) == 0)=true:=by rw[beq_iff_eq];omega
        have HN:=ab (HNil.out (λhh=>hh.2.2.1 (by rw[HSZ.out];exact hz)));clear hz;refine wpIn_wide.2 ?_
        go_quiet (fail)
        gi_wp2_with fail
        refine bodyPost_ret (results_none rfl _ _ _) rfl ?_;refine⟨⟨_,rfl⟩,.inl ?_⟩;rw[HN.out];exact HJ.out _ _ _ none HJ1.out ⟨rfl,rfl,rfl,Nat.le_refl _,λ_ _ _=>rfl⟩ (λr e=>by cases e)
      · have q2:((sz:Int) == 0)=false:=by rw[beq_eq_false_iff_ne];omega
        by_cases hb:be<=first+64
        · have q3:decide ((be:Int) > (first:Int)+64)=false:=decide_eq_false (by omega);have q3':decide ((first:Int)+64 < (be:Int))=false:=q3;have HSn:=ab (show fD im first=(pre ++ [(a,sz)]) ++ fh im (first+64) (k - 1) be/\fD im first=pre ++ (a,sz) :: fh im (first+64) (k - 1) be by obtain⟨k',rfl⟩:∃k',k=k'+1:=⟨k - 1,by have:=hfu.out;omega⟩;have h1:=hL.out;rw[fh,if_pos ⟨hlt,HMk.out,by rw[HSZ.out];exact hz,by rw[HSZ.out,HBE.out];exact hb⟩,HSZ.out,HBE.out]at h1;exact⟨by rw[h1];simp,by rw[h1];simp⟩);have hz':Nx (fD im first) pre (a,sz):=by refine⟨by rw[HSn.out.2];simp,by rw[HSn.out.2];simp,?_⟩;simp[HSn.out.2]
          obtain⟨fn,tmps,assign,body,hy,hR⟩:=HY.out _ (a,sz) _ HJA.out hz';dsimp only[lq]at hy;have HRd:=ab (RoundIn.mono hR (R':=λe B=>∃bb:Bool,e= .returned (.bool bb)/\Hid ((bb=true->J (pre ++ [(a,sz)]) B/\Kept G w1.drew B)/\(bb=false->Jx (pre ++ [(a,sz)]) B))) (by
           rintro e B (⟨rfl,h1,h2⟩|⟨rfl,h1⟩)
           · exact⟨true,rfl,ab ⟨λ_=>⟨h1,h2⟩,λe=>absurd e (by decide)⟩⟩
           · exact⟨false,rfl,ab ⟨λe=>absurd e (by decide),λ_=>h1⟩⟩))
          have HGe:=ab (show a+2<=be/\a < first+64/\be<=100000 by omega);have HB2:=ab hb;have HFu:=ab (show first+64<=be+(k - 1) by have:=hfu.out;omega);clear hz' hR hz hb hge HNil hlt hfi ha hcut hcs hcsm hs16 CL hbe hgl;obtain⟨wf,vf⟩:=HWf.out
          gi_region_with (first
           | (refine⟨trivial,?_⟩;gi_at_call 152;(with_reducible refine(callsIn_wide.2 (CB.out _)).mono ?_);rintro e w3 ⟨rfl,rfl⟩)
           | (with_reducible refine HRd.out.mono ?_;rintro e w3 ⟨bb,rfl,hbb⟩))
          all_goals
           have HBB:=ab hbb.out;clear hbb hy HRd HJA HJ1 K1 c63 c1w c0w q2 q3 q3' wf vf;cases bb with
           | true=>
             gi_wp2_with fail
             refine⟨trivial,(callsIn_wide.2 (CB.out _)).mono ?_⟩;rintro e w4 ⟨rfl,rfl⟩
             gi_wp2_with fail
             go_roundw
             case rel=>obtain⟨hJ3,hk3⟩:=HBB.out.1 (by simp);exact⟨be,k - 1,pre ++ [(a,sz)],rfl,ab HSn.out.1,HFu,HGe.out.2.2,ab (KA.out.trans hk3 (λj hj=> .inl hj)),ab hJ3⟩
             case measure=>have:=HGe.out;simp[intOf];omega
           | false=>
             gi_wp2_with fail
             refine bodyPost_ret (results_none rfl _ _ _) rfl ?_;exact⟨⟨_,rfl⟩,.inr ⟨_,HBB.out.2 (by simp)⟩⟩
        · have q3:decide ((be:Int) > (first:Int)+64)=true:=decide_eq_true (by omega);have q3':decide ((first:Int)+64 < (be:Int))=true:=q3;have HN:=ab (HNil.out (λhh=>hb (by have:=hh.2.2.2;rwa[HSZ.out,HBE.out]at this)));have CQ:=ab (λ(j:Nat)=>show Calls Tryz.prog 152 #[.int .i64 (a:Nat),.int .i64 (sz:Nat)] (w1.drewN j) (λe w'=>e= .returned (.int .i64 (be:Nat))/\w'=w1.drewN j) from(CB.out (w1.drewN j)).mono λ_ _ ⟨h1,h2⟩=>⟨h1,h2.symm⟩);clear hb hz hge hlt HNil;obtain⟨wf,vf⟩:=HWf.out;refine wpIn_wide.2 ?_
          go_quiet ((go_at_call 152;(with_reducible refine Calls.quiet_of_same (CQ.out _))))
          gi_wp2_with fail
          refine bodyPost_ret (results_none rfl _ _ _) rfl ?_;refine⟨⟨_,rfl⟩,.inl ?_⟩;rw[HN.out];exact HJ.out _ _ _ none HJ1.out ⟨rfl,rfl,rfl,Nat.le_refl _,λ_ _ _=>rfl⟩ (λr e=>by cases e)
    · have q1:(((mk.toNat:Nat):Int) != 1)=true:=by rw[bne_iff_ne];intro e;exact hmk (UInt8.toNat_inj.1 (by show mk.toNat=1;omega))
      have HN:=ab (HNil.out (λhh=>by have:=hh.2.1;rw[<-HM.out]at this;exact hmk (Option.some.inj this)));clear hmk;refine wpIn_wide.2 ?_
      go_quiet (fail)
      gi_wp2_with fail
      refine bodyPost_ret (results_none rfl _ _ _) rfl ?_;refine⟨⟨_,rfl⟩,.inl ?_⟩;rw[HN.out];exact HJ.out _ _ _ none HJ1.out ⟨rfl,rfl,rfl,Nat.le_refl _,λ_ _ _=>rfl⟩ (λr e=>by cases e)
  · have q0:decide ((a:Int) < (first:Int)+64)=false:=decide_eq_false (by omega);have HN:=ab (show fD im first=pre from by rw[hL.out,nA _ _ _ _ (λhh=>hlt hh.1),List.append_nil]);obtain⟨wf,vf⟩:=And.intro (gX ((first:Int)+64) (by omega) (by omega)) (gW ((first:Int)+64) (by omega) (by omega));clear hlt
    gi_wp2_with fail
    go_end0
    refine⟨⟨_,rfl⟩,.inl ?_⟩;rw[HN.out];exact hJp.out
end Go.Proofs.YtdilnodbfnlhdaaGreatDoor
namespace Go.Proofs.YtdilnodbfnlhdaaGreatDoor
open Go.RowKit Go.Shelf Tide
attribute [local go_sem] Oper.semAt_some
def aY (i:Nat) (whole:List UInt8) (m:Nat):List (Nat × List UInt8):=(List.range m).map λk=>(i+k,(whole.drop (64 * k)).take 64)
theorem jx (i:Nat) (whole:List UInt8) (m:Nat):(aY i whole m).length=m:=by simp[aY]
theorem we (i:Nat) (whole:List UInt8) (m k:Nat) (h:k < m):(aY i whole m).take k ++ [(i+k,(whole.drop (64 * k)).take 64)]=(aY i whole m).take (k+1):=by
 rw[List.take_succ_eq_append_getElem (show k < (aY i whole m).length by rw[jx];exact h)]
 congr 1
 simp[aY]
def gj (s:Option Nat) (k:Nat):Option Nat:=s.map (· - k)
theorem ry (s:Option Nat) (k:Nat):less (gj s k)=gj s (k+1):=by
 cases s with
 | none=>rfl
 | some n=>show some (n - k - 1)=some (n - (k+1));congr 1
theorem yU (s:Option Nat):gj s 0=s:=by cases s<;>rfl
def lY (s:Option Nat) (k:Nat):Prop:=∀n,s=some n->k<=n
theorem rW {β:Type} {D:az} {x:Nat->Addr} (hD:aC x D) (B dev:Nat) (f:β->Dv) (P:Nat->Prop):OwnFrom B (λ(s:β) X=>∃F',D X F' dev (f s)/\(∀k,F' k->P k)/\∀k,F' k->∃o,X.heap[k]? =some o/\o.isCells=true):=by
 rintro s A C row ⟨F',h1,h2,h3⟩ hg hr;have hk:Kept (λk=>row=some k) A C:=(Kept.refl _ A).grown hg (λk e=> .inl e);have hn:∀k,F' k->¬row=some k:=λk hf e=>by obtain⟨o,ho,hc⟩:=h3 k hf;obtain⟨_,o',ho',hc'⟩:=hr k e;rw[ho]at ho';injection ho' with ho';rw[<-ho',hc]at hc';cases hc'
 refine⟨F',hD.an _ _ _ _ _ _ h1 hk hn,h2,λk hf=> ?_⟩;obtain⟨o,ho,hc⟩:=h3 k hf;exact⟨o,hk.heap ho (hn k hf),hc⟩
theorem E3.jG {x:Nat->Addr} {W W':World} {F:Nat->Prop} (h:E3 x W) (hk:Kept F W W') (hF:∀k,F k->19<=k):E3 x W':=
 ⟨(hk.cell (p:=⟨_,0,none⟩) (World.block_lt_of_cell? _ _ h.range) (λhf=>absurd (hF _ hf) (by decide))).trans h.range,(hk.cell (p:=⟨_,0,none⟩) (World.block_lt_of_cell? _ _ h.form) (λhf=>absurd (hF _ hf) (by decide))).trans h.form,(hk.cell (p:=⟨_,0,none⟩) (World.block_lt_of_cell? _ _ h.down) (λhf=>absurd (hF _ hf) (by decide))).trans h.down⟩
theorem E3.wQ {x:Nat->Addr} {W:World} (h:E3 x W):E3 x W.drew:=⟨h.range,h.form,h.down⟩
theorem vI (W:World) (t0 t1 t2 t3 t4:TypeId) (v0 v1 v2 v3 v4:Value):∃W0,((((W.alloc (.cells #[v0] t0)).alloc (.cells #[v1] t1)).alloc (.cells #[v2] t2)).alloc (.cells #[v3] t3)).alloc (.cells #[v4] t4)=W0/\W0.heap.size=W.heap.size+5/\Below W.heap.size W W0/\
 Boxed W0 W.heap.size t0 v0/\Boxed W0 (W.heap.size+1) t1 v1/\Boxed W0 (W.heap.size+1+1) t2 v2/\Boxed W0 (W.heap.size+1+1+1) t3 v3/\Boxed W0 (W.heap.size+1+1+1+1) t4 v4:=by
 refine⟨_,rfl,by simp,((((Below.refl W.heap.size W).alloc (Nat.le_refl _) _).alloc (by simp) _).alloc (by simp;omega) _).alloc (by simp;omega) _ |>.alloc (by simp;omega) _,?_,?_,?_,?_,?_⟩
 · exact(((((Boxed.new W t0 v0).alloc _).alloc _).alloc _).alloc _)
 · have:=(((Boxed.new (W.alloc (.cells #[v0] t0)) t1 v1).alloc (.cells #[v2] t2)).alloc (.cells #[v3] t3)).alloc (.cells #[v4] t4)
   rwa[World.size_alloc]at this
 · have:=((Boxed.new ((W.alloc (.cells #[v0] t0)).alloc (.cells #[v1] t1)) t2 v2).alloc (.cells #[v3] t3)).alloc (.cells #[v4] t4)
   rwa[World.size_alloc,World.size_alloc]at this
 · have:=(Boxed.new (((W.alloc (.cells #[v0] t0)).alloc (.cells #[v1] t1)).alloc (.cells #[v2] t2)) t3 v3).alloc (.cells #[v4] t4)
   rwa[World.size_alloc,World.size_alloc,World.size_alloc]at this
 · have:=Boxed.new ((((W.alloc (.cells #[v0] t0)).alloc (.cells #[v1] t1)).alloc (.cells #[v2] t2)).alloc (.cells #[v3] t3)) t4 v4
   rwa[World.size_alloc,World.size_alloc,World.size_alloc,World.size_alloc]at this
section
variable {W:World} {D:az} {x:Nat->Addr} {Fd Fs:Nat->Prop} {p dev:Nat} {us:List ah} {vs:Value}
theorem sj (hD:aC x D) {W0 A0:World} {D0:Nat} {F1:Nat->Prop} {d:Dv} {a:Array Value} {R:Ending->World->Prop} (hz:W0.heap.size=W.heap.size+5) (hDz:W0.heap.size<=D0) (hdf:A0.heap[D0]? =some (.deferred (some []))) {v0:Value} (hr2:Boxed A0 (W.heap.size+1+1) 50 v0) (hD1:D A0 F1 dev d) (hn1:∀k,F1 k->k≠W.heap.size+1+1) (hF2:∀k,F1 k->Fd k\/W.heap.size<=k) (hwk:Kept Fd W A0) (hdn:∀k,F1 k->k≠D0) (v:Value)
 (hR:∀w' F',D w' F' dev d->(∀k,F' k->Fd k\/W.heap.size<=k)->Kept Fd W w'->R (.returned v) w') (ha:a[6]?.getD undef= .pointer (some ⟨W.heap.size+1+1,0,none⟩)):
 bodyPostM Fence.wide 7 Tryz.prog Tryz.f175 R Exit.ret { tmps:=a,defers:= [{ target:=Target.collected D0,args:= #[] }] } (A0.setCell ⟨W.heap.size+1+1,0,none⟩ v):=by
 have hDn:D0≠W.heap.size+1+1:=by omega
 have hset:Kept (λk=>k=W.heap.size+1+1) A0 (A0.setCell ⟨W.heap.size+1+1,0,none⟩ v):=(Kept.refl (λk=>k=W.heap.size+1+1) A0).setCell (p:=⟨W.heap.size+1+1,0,none⟩) (.inl rfl) _;have hput:Kept (λk=>k=D0) (A0.setCell ⟨W.heap.size+1+1,0,none⟩ v) ((A0.setCell ⟨W.heap.size+1+1,0,none⟩ v).putObj D0 (.deferred none)):=(Kept.refl _ _).grown (grownBy_putObj' _ _ _) (λk e=> .inl (by injection e with e;exact e.symm));refine⟨by simp,.inl ⟨_,_,rfl,run_takeDeferred (hset.heap hdf hDn),?_⟩⟩;have hc:=(jt (o:= .deferred none) (hr2.set v) hDn).cell;refine⟨v,by simp[results,Tryz.results175,go_sem,ha,hc],?_⟩;refine hR _ F1 (hD.an _ _ _ _ _ _ (hD.an _ _ _ _ _ _ hD1 hset hn1) hput hdn) hF2 ?_;exact(hwk.trans hset (λk e=> .inr (by omega))).trans hput (λk e=> .inr (by omega))
theorem Bg (hD:aC x D) (hE:E3 x W) {ae:List UInt8} {st:Option Nat} (hd:D W Fd dev ⟨ae, [],st⟩) (h:aO W Fs p dev us vs) (hap:∀k,Fd k->¬Fs k) (hNG:∀k,Fd k->19<=k) (hNW:19<=W.heap.size) (i m:Nat) (hi:i+m<=ae.length / 64) (hm:m<=100)
 (g c:Nat) (whole:List UInt8) (hw:Bytes W W.heap.size (.slice (some ⟨g,0,none⟩) (64 * m) c) whole) (hwl:whole.length=64 * m) (hg:¬Fd g):
 Calls Tryz.prog 175 #[.pointer (some ⟨p,0,none⟩),.int .i64 (i:Nat),.slice (some ⟨g,0,none⟩) (64 * m) c] W λe w'=>
  ((lY st (m+1)/\e= .returned .nilIface/\∃F',D w' F' dev ⟨aI ae (aY i whole m), [],gj st (m+1)⟩/\(∀k,F' k->Fd k\/W.heap.size<=k)/\Kept Fd W w')\/
   (∃s,st=some s/\s<=m/\e= .returned (ai (x 2))/\∃F',D w' F' dev ⟨ae,(aY i whole m).take s,some 0⟩/\(∀k,F' k->Fd k\/W.heap.size<=k)/\Kept Fd W w')):=by
 obtain⟨hcap,hcap2⟩:64 * m<=c/\c<=9223372036854775807:=by obtain⟨A,c',e,h1,h2,_⟩:=hw.form;injection e with _ _ e;subst e;exact⟨by omega,h2⟩
 have HS:=ab h;have HDv:=ab hd;have HE:=ab hE;have HW:=ab hw;have HWl:=ab hwl;have HI:=ab hi;have HAp:=ab hap;have HG:=ab hg;have CC:=ab (λw=>vY (some ⟨g,0,none⟩) (64 * m) c w);have hlen:=(hD.right _ _ _ _ hd).2.2.1;have HLen:=ab (show i+m<=1000/\ae.length<=30000 from⟨by dsimp only at hlen;omega,hlen⟩);clear h hd hE hw hwl hi hap hg hlen;obtain⟨M,hM⟩:=aa (64 * m);have HM:=ab hM;rw[hM]at CC ⊢;refine(callsIn_wide (n:=7)).1 ?_;refine callsIn_of_wp_marks Tryz.func175 rfl trivial ?_ rfl;simp only[Tryz.ntmps175,List.size_toArray,List.length_cons,List.length_nil,Nat.reduceAdd,Nat.reduceSub,Array.replicate_succ,Array.replicate_zero,List.push_toArray,List.append_toArray,List.nil_append,List.cons_append]
 gi_wp2_with fail
 refine⟨trivial,(callsIn_wide.2 (CC.out _)).mono ?_⟩;rintro e w1 ⟨rfl,rfl⟩
 gi_wp2_with fail
 obtain⟨W0,hW0,hz0,hbl,x0,x1,x2,x3,x4⟩:=vI W 135 3 50 38 3 (.pointer (some ⟨p,0,none⟩)) (.int .i64 (i:Nat)) .nilIface (.slice (some ⟨g,0,none⟩) M c) (.int .i64 64);rw[hW0];have hFl:=hD.lt _ _ _ _ HDv.out;have HFl:=ab hFl;have HD0:=ab (hD.an _ _ _ (λ_=>False) _ _ HDv.out (Kept.al hbl) (λ_ _ h=>h));have HS0:=ab (HS.out.below hbl);have HSl:=ab HS.out.lt;have HZ:=ab hz0;have HBl:=ab hbl;have X0:=ab x0;have X1:=ab x1;have X2:=ab x2;have HE0:=ab (HE.out.below hbl);have HB0:=ab (show Bytes W0 W.heap.size _ _ from HW.out.below hbl);rw[<-HM.out]at x3;obtain⟨Ft,hDt,hsub,hcl⟩:=hD.tight _ _ _ _ HD0.out;have HDt:=ab hDt;have HSub:=ab hsub;have HCl:=ab hcl;clear hW0 CC HDv HS hbl hz0 x0 x1 x2 HE HW HD0 hDt hsub hcl
 refine jT rfl (by omega) (gf:=186) rfl trivial (enters_of Tryz.func186 (by kernel_rfl) rfl) (encs:=nf g)
  (λ_=>rfl) (vZ _ (by omega) (W.heap.size+1+1+1) g m c hcap (by omega) W0 x3 x4 (G:=λk=>Fd k\/k=W.heap.size+1\/W0.heap.size<=k) ⟨λhk=>by
    have h1:=HZ.out;rcases hk with hk|hk|hk
    · have:=hFl _ hk;omega
    · omega
    · omega,λhk=>by
    have h1:=HZ.out;rcases hk with hk|hk|hk
    · have:=hFl _ hk;omega
    · omega
    · omega⟩) (λh k=>h.trans k (λj hj=> .inl hj)) (nI (λk hk=> .inr (.inr hk)))
  (λpre X=>(∃F',D X F' dev ⟨ae,(aY i whole m).take pre.length,gj st pre.length⟩/\(∀k,F' k->Fd k\/W0.heap.size<=k)/\∀k,F' k->∃o,X.heap[k]? =some o/\o.isCells=true)/\Kept (λk=>Fd k\/k=W.heap.size+1) W0 X/\Boxed X (W.heap.size+1) 3 (.int .i64 ((i+pre.length:Nat):Int))/\lY st pre.length)
  (λcd _ X=>cd= .ret/\(∃s,st=some s/\s<=m/\∃F',D X F' dev ⟨ae,(aY i whole m).take s,some 0⟩/\(∀k,F' k->Fd k\/W0.heap.size<=k)/\∀k,F' k->∃o,X.heap[k]? =some o/\o.isCells=true)/\Kept (λk=>Fd k\/W.heap.size<=k) W0 X/\Boxed X (W.heap.size+1+1) 50 (ai (x 2)))
  ?hI ?hIx ⟨⟨Ft,by rw[List.length_nil,List.take_zero,yU];exact HDt.out,λk hk=> .inl (HSub.out k hk),HCl.out⟩,Kept.refl _ _,X1.out,λ_ _=>Nat.zero_le _⟩
  (λy a' X=>a'= { tmps:= #[.pointer (some ⟨p,0,none⟩),.int .i64 (i:Nat),.slice (some ⟨g,0,none⟩) M c,.pointer (some ⟨W.heap.size,0,none⟩),.pointer (some ⟨W.heap.size+1,0,none⟩),undef,.pointer (some ⟨W.heap.size+1+1,0,none⟩),.slice (some ⟨g,64 * y,none⟩) 64 64,undef,.slice (some ⟨g,0,none⟩) M c,.func (.func 186) #[] #[.pointer (some ⟨W.heap.size+1+1+1,0,none⟩),.pointer (some ⟨W.heap.size+1+1+1+1,0,none⟩)],.slice (some ⟨g,64 * y,none⟩) 64 64,undef,undef,undef,undef,undef,undef,undef,undef,undef,undef,undef,undef,undef,undef,undef,undef,undef],defers:= [] })
  (λ_ _=>fU _ _) ?assign ?body ?done ?stop
 case hI=>exact OwnFrom.and (rW hD _ dev (λ(pre:List Nat)=>(⟨ae,(aY i whole m).take pre.length,gj st pre.length⟩:Dv)) _) (OwnFrom.and (nV _ W0 (Nat.le_refl _)) (OwnFrom.and (iB _ _ _ _) (fU _ _)))
 case hIx=>refine λcd=>OwnFrom.and (fU _ _) (OwnFrom.and ?_ (OwnFrom.and (nV _ W0 (Nat.le_refl _)) (iB _ _ _ _)));rintro s A C row ⟨s',h1,h2,h3⟩ hg hr;exact⟨s',h1,h2,rW (β:=Unit) hD _ dev (λ_=>(⟨ae,(aY i whole m).take s',some 0⟩:Dv)) _ () A C row h3 hg hr⟩
 case assign=>
  rintro l pre y A0 K hI hN hK
  gi_wp2_with fail
  exact hK _ _ (KeepsFrom.refl _ _) (Kept.refl _ _) hI rfl
 case body=>
  rintro l pre y a' A0 hl hr ⟨hI1,hI2,hI3,hI4⟩ rfl hN;obtain⟨F1,hD1,hF1,hC1⟩:=hI1;have hjm:pre.length < m:=by have:=hN.lt;simpa using this
  have hyj:y=pre.length:=by have h1:=hN.elem;rw[List.getElem?_range hjm]at h1;injection h1 with h1;exact h1.symm
  subst hyj;obtain⟨j,hj⟩:=aa pre.length;have HJ:=ab hj;rw[hj]at hD1 hI3 hI4 hjm ⊢;obtain⟨q,hq⟩:=aa (i+j);have HQ:=ab hq;rw[hq]at hI3;have hgl:g < W.heap.size:=by obtain⟨A,c',e,_,_,hc⟩:=HB0.out.form;obtain⟨b,o,e1,hb,_⟩:=hc 0 (by rw[HWl.out];omega);injection e with e _ _;rw[e1]at e;injection e with e;injection e with e _;omega
  have hz:=HZ.out;have hout:∀k,W.heap.size<=k->k≠W.heap.size+1->¬(Fd k\/k=W.heap.size+1):=λk h1 h2 h3=>by
   rcases h3 with h3|h3
   · have:=HFl.out _ h3;omega
   · exact h2 h3
  have hgF:¬F1 g:=λhf=>by
   rcases hF1 g hf with h1|h1
   · exact HG.out h1
   · omega
  have hbA:Bytes A0.drew W.heap.size (.slice (some ⟨g,0,none⟩) (64 * m) c) whole:=kk HB0.out (by omega) (hI2.drew) (λk e=>by
   have e:g=k:=by simpa[Value.ownBlock]using e
   subst e;rintro(h1|h1)
   · exact HG.out h1
   · omega)
  have hbC:Bytes A0.drew W.heap.size (.slice (some ⟨g,64 * j,none⟩) 64 64) ((whole.drop (64 * j)).take 64):=by
   have h1:=hbA.sub (lo:=64 * j) (hi:=64 * j+64) (m:=64) (c':=64) (l':=(whole.drop (64 * j)).take 64) (by omega) (by rw[HWl.out];omega) (by rw[List.drop_take];congr 1;omega) (by omega) (by omega) (by omega)
   rwa[Nat.zero_add]at h1
  have hcl64:((whole.drop (64 * j)).take 64).length=64:=by rw[List.length_take,List.length_drop,HWl.out];omega
  have HD1:=ab hD1;have hD1d:=hD.an _ _ _ (λ_=>False) _ _ hD1 ((Kept.refl _ A0).drew) (λ_ _ h=>h);have c0:=(show Boxed A0 W.heap.size 135 _ from hI2.heap X0.out (hout _ (by omega) (by omega))).cell;have hS1:=HS0.out.an hI2 (λk hf hk=>by
   rcases hk with h1|h1
   · exact HAp.out _ h1 hf
   · have:=HSl.out _ hf;omega)
  obtain⟨_,cs,_,_⟩:=hS1.block.facts;have c1:=hI3.cell;have HI3:=ab hI3;have hr2:=(show Boxed A0 (W.heap.size+1+1) 50 .nilIface from hI2.heap X2.out (hout _ (by omega) (by omega)));have c2:=hr2.cell;have f2:=hr2.frozen;have HR2:=ab hr2;have HI2:=ab hI2;have HF1:=ab hF1;have hil:q < ae.length / 64:=by have:=HI.out;omega
  have hpl:((aY i whole m).take j).length < 1000:=by rw[List.length_take,jx];omega
  have hij:q<=2000:=by have:=HLen.out;omega
  have hst:=we i whole m j hjm;rw[hq]at hst;have HSt:=ab hst;have hA0z:A0.heap.size=A0.drew.heap.size:=rfl;have hWA:W.heap.size<=A0.heap.size:=Nat.le_trans (show W.heap.size<=W0.heap.size by have:=HZ.out;omega) hI2.size;have HWA:=ab hWA;have HI4:=ab hI4;have HJm:=ab hjm;by_cases hpw:gj st j=some 0
  · have hEd:E3 x A0.drew:=E3.wQ (show E3 x A0 from HE0.out.jG hI2 (λk hk=>by
     rcases hk with h1|h1
     · exact hNG _ h1
     · omega))
    have CW:=ab (hD.mK A0.drew F1 dev ⟨ae,(aY i whole m).take j,gj st j⟩ q (.slice (some ⟨g,64 * j,none⟩) 64 64) W.heap.size _ hEd hD1d hpw hil hbC hcl64);clear hEd hD1d hbC hbA hD1 hI2 hI3 hr2 hF1 hS1 hpl hil hr hI4 hjm hst hq;have HP:=ab hpw;clear hpw
    gi_wp2_with fail
    gi_region_with (refine⟨trivial,?_⟩;gi_at_call 182;(with_reducible refine(CallsIn.inRound l (callsIn_wide.2 CW.out)).mono ?_);rintro e w3 ⟨rfl,rfl⟩)
    all_goals
     have HC1:=ab hC1;clear CW c0 c1 cs hC1 hgF hcl64 hgl hij hWA hA0z hz hN
     gi_wp2_with fail
     obtain⟨n,hst,hnj⟩:∃n,st=some n/\n=j:=by
      have h1:=HP.out;cases st with
      | none=>cases h1
      | some n=>refine⟨n,rfl,?_⟩;have h2:=HI4.out n rfl;have h3:n - j=0:=Option.some.inj h1;omega
     have hkk:Kept (λk=>Fd k\/W.heap.size<=k) W0 A0:=HI2.out.mono (λk _ hk=>hk.elim .inl (λe=> .inr (by omega)));have hset:Kept (λk=>k=W.heap.size+1+1) A0 (A0.setCell ⟨W.heap.size+1+1,0,none⟩ (ai (x 2))):=(Kept.refl (λk=>k=W.heap.size+1+1) A0).setCell (p:=⟨W.heap.size+1+1,0,none⟩) (.inl rfl) _;have hne:∀k,F1 k->k≠W.heap.size+1+1:=λk hf e=>by
      have h1:=HZ.out;rcases HF1.out k hf with h2|h2
      · have:=HFl.out _ h2;omega
      · omega
     have hko:KeepsFrom W0.heap.size A0 (A0.setCell ⟨W.heap.size+1+1,0,none⟩ (ai (x 2))):=(KeepsOthers.setCell A0 _ _).from _;refine⟨⟨hko.size,hko.same⟩,rfl,⟨j,by rw[hst,hnj],Nat.le_of_lt HJm.out,F1,?_,HF1.out,λk hf=> ?_⟩,?_,?_⟩
     · have h1:=hD.an _ _ _ _ _ _ HD1.out hset.drew hne
       rwa[HP.out]at h1
     · obtain⟨o,ho,hc⟩:=HC1.out k hf;exact⟨o,hset.heap ho (hne k hf),hc⟩
     · exact(hkk.setCell (p:=⟨W.heap.size+1+1,0,none⟩) (.inl (.inr (by show W.heap.size<=W.heap.size+1+1;omega))) _).drew
     · exact HR2.out.set _
  · have CW:=ab (hD.write A0.drew F1 dev ⟨ae,(aY i whole m).take j,gj st j⟩ q (.slice (some ⟨g,64 * j,none⟩) 64 64) W.heap.size _ hD1d hpw hpl hil hbC hWA (λk e hf=>by
     have e:g=k:=by simpa[Value.ownBlock]using e
     subst e;exact hgF hf) hcl64)
    clear hD1d hbC hbA hD1 hI2 hI3 hr2 hF1 hS1 hpl hil hr hI4 hjm hst hq;have HP:=ab hpw;clear hpw
    gi_wp2_with fail
    gi_region_with (refine⟨trivial,?_⟩;gi_at_call 182;(with_reducible refine(CallsIn.inRound l (callsIn_wide.2 CW.out)).mono ?_);rintro e w3 ⟨rfl,F2,hD2,hF2,hk2⟩)
    all_goals
     obtain⟨Ft3,hD3,hs3,hc3⟩:=hD.tight _ _ _ _ hD2;have hn1:∀k,F1 k->k≠W.heap.size+1:=λk hf e=>by
      rcases HF1.out k hf with h2|h2
      · have:=HFl.out _ h2;omega
      · omega
     have hn3:∀k,Ft3 k->Fd k\/W0.heap.size<=k:=λk hf=>by
      rcases hF2 k (hs3 k hf) with h2|h2
      · exact HF1.out k h2
      · exact .inr (Nat.le_trans HI2.out.size h2)
     have hn4:∀k,Ft3 k->k≠W.heap.size+1:=λk hf e=>by
      rcases hn3 k hf with h2|h2
      · have:=HFl.out _ h2;omega
      · omega
     have hb3:Boxed w3 (W.heap.size+1) 3 (.int .i64 (q:Nat)):=hk2.heap (show A0.drew.heap[W.heap.size+1]? =_ from HI3.out) (λhf=>hn1 _ hf rfl);have c13:=hb3.cell;have f13:=hb3.frozen;have HB3:=ab hb3;have hkf:KeepsFrom W0.heap.size A0 w3:=⟨hk2.size,λk o hk ho hc=>hk2.heap (show A0.drew.heap[k]? =some o from ho) (λhf=>by obtain⟨o',ho',hc'⟩:=hC1 k hf;rw[ho]at ho';injection ho' with ho';rw[<-ho',hc]at hc';cases hc')⟩;have HKF:=ab hkf;have HK2:=ab (show Kept F1 A0 w3 from⟨hk2.os,hk2.tape,hk2.output,hk2.size,hk2.block⟩);have HD3:=ab hD3;have HC3:=ab hc3;have HN3:=ab hn3;have HN4:=ab hn4;have HPw:=ab (show lY st (j+1) from λn hn=>by have h1:=HI4.out n hn;have h2:¬(n - j=0):=λe=>HP.out (by rw[hn];exact congrArg some e);omega);obtain⟨wq,vq⟩:=And.intro (gX ((q:Int)+1) (by omega) (by omega)) (gW ((q:Int)+1) (by omega) (by omega));clear CW c0 c1 cs hC1 hgF hcl64 hgl hij hWA hA0z hz hN hD2 hF2 hk2 hkf hD3 hs3 hc3 hn1 hn3 hn4 hb3 c2 f2
     gi_wp2_with fail
     clear wq vq;have hset:Kept (λk=>k=W.heap.size+1) w3 (w3.setCell ⟨W.heap.size+1,0,none⟩ (.int .i64 ((q:Int)+1))):=(Kept.refl (λk=>k=W.heap.size+1) _).setCell (p:=⟨W.heap.size+1,0,none⟩) (.inl rfl) _;have hl1:(pre ++ [j]).length=j+1:=by rw[List.length_append,HJ.out];rfl
     refine⟨HKF.out.trans ((KeepsOthers.setCell _ _ _).from _),?_,⟨Ft3,?_,HN3.out,λk hf=> ?_⟩,?_,?_,?_⟩
     · exact(HK2.out.mono (λk _ hf=>(HF1.out k hf).elim .inl (λh=> .inr (.inr h)))).setCell (p:=⟨W.heap.size+1,0,none⟩) (.inl (.inr (.inl rfl))) _
     · rw[hl1,<-HSt.out,<-ry];exact hD.an _ _ _ _ _ _ HD3.out hset HN4.out
     · obtain⟨o,ho,hc⟩:=HC3.out k hf;exact⟨o,hset.heap ho (HN4.out k hf),hc⟩
     · exact(HI2.out.trans HK2.out (λk hf=>(HF1.out k hf).elim (λh=> .inl (.inl h)) .inr)).setCell (p:=⟨W.heap.size+1,0,none⟩) (.inl (.inr rfl)) _
     · rw[hl1,show((i+(j+1):Nat):Int)=(q:Int)+1 by have:=HQ.out;omega];exact HB3.out.set _
     · rw[hl1];exact HPw.out
 case done=>
  rintro D0 A0 hD0 ⟨hI1,hI2,hI3,hI4⟩ hdf;obtain⟨F1,hD1,hF1,hC1⟩:=hI1;rw[List.length_range]at hD1 hI4;rw[List.take_of_length_le (by rw[jx];exact Nat.le_refl _)]at hD1;have hz:=HZ.out;have hout:∀k,W.heap.size<=k->k≠W.heap.size+1->¬(Fd k\/k=W.heap.size+1):=λk h1 h2 h3=>by
   rcases h3 with h3|h3
   · have:=HFl.out _ h3;omega
   · exact h2 h3
  have c0:=(show Boxed A0 W.heap.size 135 _ from hI2.heap X0.out (hout _ (by omega) (by omega))).cell;have hS1:=HS0.out.an hI2 (λk hf hk=>by
   rcases hk with h1|h1
   · exact HAp.out _ h1 hf
   · have:=HSl.out _ hf;omega)
  obtain⟨_,cs,_,_⟩:=hS1.block.facts;have hr2:=(show Boxed A0 (W.heap.size+1+1) 50 .nilIface from hI2.heap X2.out (hout _ (by omega) (by omega)));have c2:=hr2.cell;have f2:=hr2.frozen;have HR2:=ab hr2;have HDF:=ab hdf;have HI2:=ab hI2;have HF1:=ab hF1;have HI4:=ab hI4;have HD1:=ab hD1;have HC1:=ab hC1;have HDz:=ab hD0;have hwk:Kept Fd W A0:=((Kept.al HBl.out).trans hI2 (λk hk=>hk.elim .inl (λe=> .inr (by omega))));have HWK:=ab hwk;have hn1:∀k,F1 k->k≠W.heap.size+1+1:=λk hf e=>by
   rcases hF1 k hf with h2|h2
   · have:=HFl.out _ h2;omega
   · omega
  have HN1:=ab hn1;have HF2:=ab (show ∀k,F1 k->Fd k\/W.heap.size<=k from λk hf=>(hF1 k hf).elim .inl (λh=> .inr (by omega)));by_cases hpw:gj st m=some 0
  · have CF:=ab (hD.lz A0 F1 dev _ (HE0.out.jG hI2 (λk hk=>by
     rcases hk with h1|h1
     · exact hNG _ h1
     · omega)) hD1 hpw)
    have HP:=ab hpw;clear hpw hI2 hI3 hI4 hdf hr2 hS1 hD1 hF1 hC1 hwk hn1 hout hD0
    gi_wp2_with fail
    refine⟨trivial,(callsIn_wide.2 CF.out).mono ?_⟩;rintro e w3 ⟨rfl,rfl⟩
    gi_wp2_with fail
    exact sj hD HZ.out HDz.out HDF.out HR2.out HD1.out HN1.out HF2.out HWK.out (by intro k hf e;subst e;obtain⟨o,ho,hc⟩:=HC1.out _ hf;rw[HDF.out]at ho;injection ho with ho;rw[<-ho]at hc;cases hc) (ai (x 2)) (λw' F' h1 h2 h3=>by
     obtain⟨n,hst,hnj⟩:∃n,st=some n/\n=m:=by
      have h1:=HP.out;cases st with
      | none=>cases h1
      | some n=>refine⟨n,rfl,?_⟩;have h2:=HI4.out n rfl;have h3:n - m=0:=Option.some.inj h1;omega
     refine .inr ⟨m,by rw[hst,hnj],Nat.le_refl _,rfl,F',?_,h2,h3⟩;rw[List.take_of_length_le (by rw[jx];exact Nat.le_refl _)]
     rwa[HP.out]at h1) rfl
  · have CF:=ab (hD.flush A0 F1 dev _ hD1 hpw);have HP:=ab hpw;clear hpw hI2 hI3 hI4 hdf hr2 hS1 hD1 hF1 hC1 hwk hn1 hout hD0
    gi_wp2_with fail
    refine⟨trivial,(callsIn_wide.2 CF.out).mono ?_⟩;rintro e w3 ⟨rfl,hD3,hk3⟩;have hne3:∀k,F1 k->k≠W.heap.size+1+1:=HN1.out;have hdn:∀k,F1 k->k≠D0:=by intro k hf e;subst e;obtain⟨o,ho,hc⟩:=HC1.out _ hf;rw[HDF.out]at ho;injection ho with ho;rw[<-ho]at hc;cases hc
    have hr3:Boxed w3 (W.heap.size+1+1) 50 .nilIface:=hk3.heap HR2.out (λhf=>hne3 _ hf rfl);have c23:=hr3.cell;have f23:=hr3.frozen;have HR3:=ab hr3;have HD3:=ab hD3;have HDN:=ab hdn;have HDF3:=ab (hk3.heap HDF.out (λhf=>hdn _ hf rfl));have HW3:=ab (HWK.out.trans hk3 (λk hf=>HF2.out k hf));clear hD3 hk3 hr3 hne3 hdn CF c0 cs c2 f2
    gi_wp2_with fail
    exact sj hD HZ.out HDz.out HDF3.out HR3.out HD3.out HN1.out HF2.out HW3.out HDN.out .nilIface (λw' F' h1 h2 h3=>by
     refine .inl ⟨λn hn=> ?_,rfl,F',?_,h2,h3⟩
     · have h4:=HI4.out n hn;have h5:¬(n - m=0):=λe=>HP.out (by rw[hn];exact congrArg some e);omega
     · rw[ry]at h1;exact h1) rfl
 case stop=>
  rintro D0 cd pre A0 hD0 ⟨rfl,⟨s,hst,hsm,F1,hD1,hF1,hC1⟩,hI2,hI3⟩ hdf;have HDF:=ab hdf;have HI2:=ab hI2;have HI3:=ab hI3;have HD1:=ab hD1;clear hdf hI2 hI3 hD1
  gi_wp2_with fail
  have hz:=HZ.out;have hDn:∀k,F1 k->k≠D0:=λk hf e=>by subst e;obtain⟨o,ho,hc⟩:=hC1 k hf;rw[HDF.out]at ho;injection ho with ho;rw[<-ho]at hc;cases hc
  have hput:Kept (λk=>k=D0) A0 (A0.putObj D0 (.deferred none)):=(Kept.refl _ _).grown (grownBy_putObj' _ _ _) (λk e=> .inl (by injection e with e;exact e.symm));refine⟨by simp,.inl ⟨_,_,rfl,run_takeDeferred HDF.out,?_⟩⟩;have hc:=(jt (o:= .deferred none) HI3.out (show D0≠W.heap.size+1+1 by omega)).cell;refine⟨ai (x 2),by simp[results,Tryz.results175,go_sem,hc],.inr ⟨s,hst,hsm,rfl,F1,hD.an _ _ _ _ _ _ HD1.out hput hDn,λk hf=>(hF1 k hf).elim .inl (λh=> .inr (by omega)),?_⟩⟩;exact((Kept.al HBl.out).trans HI2.out (λk hk=>hk.elim .inl .inr)).trans hput (λk e=> .inr (by omega))
end
end Go.Proofs.YtdilnodbfnlhdaaGreatDoor
namespace Go.Proofs.YtdilnodbfnlhdaaGreatDoor
open Go.RowKit Tide
def bR (d:Dv) (i:Nat) (whole:List UInt8) (m:Nat):Bool × Dv:=match d.stop with
 | none=>(true,⟨aI d.ae (aY i whole m), [],none⟩)
 | some s=>if s<=m then(false,⟨d.ae,(aY i whole m).take s,some 0⟩) else(true,⟨aI d.ae (aY i whole m), [],some (s - (m+1))⟩)
theorem Be {d:Dv} {i m:Nat} {whole:List UInt8} (h:lY d.stop (m+1)):bR d i whole m=(true,⟨aI d.ae (aY i whole m), [],gj d.stop (m+1)⟩):=by
 unfold bR;cases hs:d.stop with
 | none=>rfl
 | some s=>have:=h s hs;simp only;rw[if_neg (by omega)];rfl
theorem Bd {d:Dv} {i m s:Nat} {whole:List UInt8} (h:d.stop=some s) (hs:s<=m):bR d i whole m=(false,⟨d.ae,(aY i whole m).take s,some 0⟩):=by unfold bR;simp only[h,if_pos hs]
theorem ov {d:Dv} {i m:Nat} {whole:List UInt8} (h:(bR d i whole m).1=true):(bR d i whole m).2.aq= []:=by
 unfold bR at h ⊢;cases hs:d.stop with
 | none=>rfl
 | some s=>
   simp only[hs]at h ⊢;by_cases hm:s<=m
   · rw[if_pos hm]at h;cases h
   · rw[if_neg hm]
def bx (d:Dv) (f no:Nat):Bool × Dv:=if(bR d f (aN 4096) 64).1=true then bR (bR d f (aN 4096) 64).2 f (dj no) 1 else(false,(bR d f (aN 4096) 64).2)
section
variable {D:az} {x:Nat->Addr} {W:World} {Fd Fs:Nat->Prop} {p dev:Nat} {us:List ah} {vs:Value} {d:Dv}
theorem l7 (hD:aC x D) (hE:E3 x W) (hd:D W Fd dev d) (hpe:d.aq= []) (h:aO W Fs p dev us vs) (hap:∀k,Fd k->¬Fs k) (hNG:∀k,Fd k->19<=k) (hNW:19<=W.heap.size) (i m:Nat) (hi:i+m<=d.ae.length / 64) (hm:m<=100)
 (g c M:Nat) (hM:M=64 * m) (whole:List UInt8) (hw:Bytes W W.heap.size (.slice (some ⟨g,0,none⟩) M c) whole) (hwl:whole.length=M) (hg:¬Fd g):
 Calls Tryz.prog 175 #[.pointer (some ⟨p,0,none⟩),.int .i64 (i:Nat),.slice (some ⟨g,0,none⟩) M c] W λe w'=>(((bR d i whole m).1=true/\e= .returned .nilIface)\/((bR d i whole m).1=false/\e= .returned (ai (x 2))))/\∃F',D w' F' dev (bR d i whole m).2/\(∀k,F' k->Fd k\/W.heap.size<=k)/\Kept Fd W w':=by
 subst hM;obtain⟨ae,aq,st⟩:=d;subst hpe;refine(Bg hD hE hd h hap hNG hNW i m hi hm g c whole hw hwl hg).mono ?_;rintro e w' (⟨h1,h2,F',h3⟩|⟨s,h0,h1,h2,F',h3⟩)
 · rw[Be (d:=⟨ae, [],st⟩) h1];exact⟨.inl ⟨rfl,h2⟩,F',h3⟩
 · rw[Bd (d:=⟨ae, [],st⟩) h0 h1];exact⟨.inr ⟨rfl,h2⟩,F',h3⟩
theorem lk (i:Nat) (whole:List UInt8) (m n:Nat) (hl:whole.length=64 * m) (hi:i+m<=n):gL n (aY i whole m):=by intro y hy;unfold aY at hy;obtain⟨k,hk,rfl⟩:=List.mem_map.1 hy;have hk:=List.mem_range.1 hk;refine⟨by simp only;omega,?_⟩;simp only;rw[List.length_take,List.length_drop];omega
theorem aO.snoc {W9:World} (h:aO W Fs p dev us vs) (hg:W.grownBy W9 vs.ownBlock) {g cap:Nat} (u:ah) (hown:W9.ownsRow 0 224 3 (.slice (some ⟨g,0,none⟩) (us.length+1) cap) (us.length+1) (us.flatMap ah.cells ++ u.cells)) (hat:vs.ownBlock=some g\/g=W.heap.size):
 ∃F',aO (W9.setCell ⟨p,1,none⟩ (.slice (some ⟨g,0,none⟩) (us.length+1) cap)) F' p dev (us ++ [u]) (.slice (some ⟨g,0,none⟩) (us.length+1) cap)/\(∀k,F' k->Fs k\/(W.heap.size<=k))/\Kept Fs W (W9.setCell ⟨p,1,none⟩ (.slice (some ⟨g,0,none⟩) (us.length+1) cap)):=by
 have hg2:=(hown.lt g rfl).2;have hpl:=h.block.lt;have hz9:=hg.size;have hK:Kept (λk=>vs.ownBlock=some k) W W9:=(Kept.refl _ _).grown hg (λk e=> .inl e);have hpv:vs.ownBlock≠some p:=j7 h.block h.used (by decide);have hgp:g≠p:=by
  rcases hat with e|e
  · intro e2;subst e2;exact hpv e
  · omega
 have hKp:Kept (λk=>k=p) W9 (W9.setCell ⟨p,1,none⟩ (.slice (some ⟨g,0,none⟩) (us.length+1) cap)):=(Kept.refl (λk=>k=p) W9).setCell (p:=⟨p,1,none⟩) (.inl rfl) _;refine⟨λk=>Fs k\/k=g,{ block:=(h.block.kept hK hpv).jY _,used:= ?_,fp:=⟨.inl h.fp.1,λk e=> ?_⟩,lt:= ?_ },?_,(hK.mono (λk _ e=>h.fp.2 k e)).setCell (.inl h.fp.1) _⟩
 · rw[List.length_append,List.flatMap_append];have:=hKp.own hown (λk e=>by cases e;exact hgp);simpa using this
 · have e:g=k:=by simpa[Value.ownBlock]using e
   exact .inr e.symm
 · intro k hk;have hz:(W9.setCell ⟨p,1,none⟩ (.slice (some ⟨g,0,none⟩) (us.length+1) cap)).heap.size=W9.heap.size:=by simp[World.setCell]
   rw[hz];rcases hk with hk|hk
   · have:=h.lt k hk;omega
   · omega
 · rintro k (hk|hk)
   · exact .inl hk
   · rcases hat with e|e
     · exact .inl (hk ▸ h.fp.2 _ e)
     · exact .inr (by omega)
end
end Go.Proofs.YtdilnodbfnlhdaaGreatDoor
namespace Go.Proofs.YtdilnodbfnlhdaaGreatDoor
open Go.RowKit Go.Shelf Tide
attribute [local go_sem] Oper.semAt_some
abbrev iQ (x:Nat):Array Value:= #[.int .i64 ((64 * x:Nat):Int)]
theorem qz (p:Nat) (w:World):Calls Tryz.prog 112 #[.pointer (some ⟨p,0,none⟩)] w λe w'=>e= .returned (.func (.func 150) #[] #[.pointer (some ⟨w.heap.size,0,none⟩)])/\w'=w.alloc (.cells #[.pointer (some ⟨p,0,none⟩)] 135):=by
 have hmf:∀ (fn:Fn) (first cap:Array Value) (w:World),(Instr.makeFunc fn first cap).run Tryz.prog w= .ok (.func fn first cap) w:=λ_ _ _ _=>rfl
 go_enter Tryz.func112,Tryz.ntmps112
 go_wp2_with fail
 go_ret
 exact⟨rfl,rfl⟩
theorem qA (n:Nat) (hn:1<=n) (b0:Nat) (w:World) {D:az} {x:Nat->Addr} (hD:aC x D) {Fd Fs:Nat->Prop} {p dev:Nat} {us:List ah} {vs:Value} {d:Dv} (hd:D w Fd dev d) (h:aO w Fs p dev us vs)
 (hb0:Boxed w b0 135 (.pointer (some ⟨p,0,none⟩))) (Kp:World->World->Prop):
 kd Fence.wide n Tryz.prog 150 #[.pointer (some ⟨b0,0,none⟩)] iQ Kp (List.range (d.ae.length / 64 / 64)) w:=λlp J Jx W hW hJ hJx hY h0=>by
 have hlen:=(hD.right _ _ _ _ hd).2.2.1;have HY:=ab hY;have c0:=(show Boxed W b0 _ _ from(hW.block b0 hb0.lt).trans hb0).cell;obtain⟨_,cd,_,_⟩:=(h.below hW).block.facts;have CL:=ab (hD.len W Fd dev d (hD.an _ _ _ (λ_=>False) _ _ hd (Kept.al hW) (λ_ _ h=>h)));obtain⟨S,hS⟩:=aa (d.ae.length / 64);rw[hS]at CL hY ⊢;have HYS:=ab hY;obtain⟨m,hm⟩:=aa (S / 64);have HM:=ab hm;have q1:(S:Int).tdiv 64=(m:Int):=by rw[Int.tdiv_eq_ediv_of_nonneg (by omega)];omega
 have q2:(S:Int) / 64=(m:Int):=by omega
 have hm1:m<=1000:=by omega
 obtain⟨q3,q4⟩:=eC (m:Int) (by omega) (by omega);clear hW hY hJ h hb0 hd hlen hS hm HY;refine callsIn_of_wp Tryz.func150 rfl trivial ?_ rfl;simp only[Tryz.ntmps150,List.size_toArray,List.length_cons,List.length_nil,Nat.reduceAdd,Nat.reduceSub,Array.replicate_succ,Array.replicate_zero,List.push_toArray,List.append_toArray,List.nil_append,List.cons_append]
 gi_wp2_with fail
 refine⟨trivial,(callsIn_wide.2 CL.out).mono ?_⟩;rintro e w1 ⟨rfl,rfl⟩
 gi_wp2_with fail
 clear q1 q2 q3 q4
 gi_loopw [10] (λi wr=>∃k:Nat,i= .int .i64 k/\k<=m/\Hid (J (List.range k) wr)) (λi _=>m - (intOf i).toNat)
 case atStart=>exact⟨0,rfl,Nat.zero_le _,ab (by simpa using h0)⟩
 case round=>
  obtain⟨k,rfl,hk,hJp⟩:=hrel;by_cases hlt:k < m
  · have hz:Nx (List.range (S / 64)) (List.range k) k:=by rw[HM.out];refine⟨by simpa using hlt,?_,by simp⟩;rw[List.length_range,List.take_range,Nat.min_eq_left (by omega)]
    obtain⟨fn,tmps,assign,body,hy,hR⟩:=HYS.out _ k _ hJp.out hz;dsimp only[iQ]at hy;have e64:((64 * k:Nat):Int)=(k:Int) * 64:=by omega
    rw[e64]at hy;have HRd:=ab hR;obtain⟨q1,q2⟩:=And.intro (eC ((k:Int) * 64) (by omega) (by omega)) (eC ((k:Int)+1) (by omega) (by omega));obtain⟨a1,a2⟩:=q1;obtain⟨a3,a4⟩:=q2;clear hz hR e64
    gi_wp2_with fail
    refine HRd.out.mono ?_;rintro e W3 (⟨rfl,hJ3,hk3⟩|⟨rfl,hJx3⟩)
    · have HJ3:=ab hJ3;clear hJ3 hk3 HRd hy
      gi_wp2_with fail
      clear a1 a2 a3 a4
      go_roundw
      case rel=>exact⟨k+1,by go_num,by omega,ab (by rw[List.range_succ];exact HJ3.out)⟩
      case measure=>simp[intOf];omega
    · have HJ3:=ab hJx3;clear hJx3 HRd hy
      gi_wp2_with fail
      refine bodyPost_ret (results_none rfl _ _ _) rfl ?_;exact⟨⟨_,rfl⟩,.inr ⟨_,HJ3.out⟩⟩
  · obtain rfl:k=m:=by omega
    gi_wp2_with fail
    go_end0
    refine⟨⟨_,rfl⟩,.inl ?_⟩;rw[HM.out];exact hJp.out
end Go.Proofs.YtdilnodbfnlhdaaGreatDoor
namespace Go.Proofs.YtdilnodbfnlhdaaGreatDoor
open Go.RowKit Go.Shelf Tide
attribute [local go_sem] Oper.semAt_some
theorem AW (u:ah) (b:Nat) (f:Int) (w:World) (hb:Boxed w b 3 (.int .i64 f)):Calls Tryz.prog 180 #[.agg #[.int .i64 (u.no:Int),.int .i64 (u.first:Int),.int .i64 (u.fin:Int)],.pointer (some ⟨b,0,none⟩)] w λe w'=>e= .returned (.bool ((u.first:Int) == f))/\Below w.heap.size w w':=by
 have cb:=hb.cell;have hlt:=hb.lt;clear hb;generalize hq:((u.first:Int) == f)=q;have HQ:=ab hq
 go_enter Tryz.func180,Tryz.ntmps180
 go_wp2_with fail
 go_ret
 refine⟨rfl,(Below.refl _ w).alloc (Nat.le_refl _) _⟩
def iw (us:List ah) (f:Int):Int:=match us.findIdx? λu=>(u.first:Int) == f with
 | none=> -1
 | some i=>(i:Int)
def eF (us:List ah) (f:Int):Bool:=us.any λu=>(u.first:Int) == f
theorem x7 (us:List ah) (f:Int):decide (iw us f>=0)=eF us f:=by
 unfold iw eF;cases h:us.findIdx? (λu=>(u.first:Int) == f) with
 | none=>rw[List.findIdx?_eq_none_iff]at h;rw[show us.any (λu=>(u.first:Int) == f)=false from List.any_eq_false.2 (λx hx=>by simp only[h x hx];exact Bool.false_ne_true)];rfl
 | some i=>obtain⟨h1,h2,_⟩:=List.findIdx?_eq_some_iff_getElem.1 h;rw[show us.any (λu=>(u.first:Int) == f)=true from List.any_eq_true.2 ⟨_,List.getElem_mem h1,h2⟩];show decide ((i:Int)>=0)=true;exact decide_eq_true (by omega)
theorem x9 {us:List ah} {f:Int} {j:Nat} (hj:j < us.length) (h:(((us[j]).first:Int) == f)=true) (hne:∀k (hk:k < us.length),k < j->(((us[k]).first:Int) == f)=false):iw us f=(j:Int):=by
 have:us.findIdx? (λu=>(u.first:Int) == f)=some j:=by rw[List.findIdx?_eq_some_iff_getElem];exact⟨hj,h,λk hk=>by simp only[hne k (by omega) hk];exact Bool.false_ne_true⟩
 unfold iw;rw[this]
theorem yb {us:List ah} {f:Int} (hne:∀k (hk:k < us.length),(((us[k]).first:Int) == f)=false):iw us f= -1:=by
 have:us.findIdx? (λu=>(u.first:Int) == f)=none:=by rw[List.findIdx?_eq_none_iff];intro x hx;obtain⟨k,hk,rfl⟩:=List.getElem_of_mem hx;exact hne k hk
 unfold iw;rw[this]
section
variable {W:World} {F:Nat->Prop} {p dev:Nat} {us:List ah} {vs:Value}
theorem yk (h:aO W F p dev us vs) (hmax:us.length<=1000) (b:Nat) (f:Int) (hb:Boxed W b 3 (.int .i64 f)):Calls Tryz.prog 185 #[vs,.func (.func 180) #[] #[.pointer (some ⟨b,0,none⟩)]] W λe w'=>e= .returned (.int .i64 (iw us f))/\Below W.heap.size W w':=by
 have H:=ab h;have HB:=ab hb;obtain⟨A,c,rfl,_,_⟩:=h.form;clear h hb;obtain⟨L,hL⟩:=aa us.length;have HL:=ab hL;rw[hL]at hmax ⊢;clear hL
 go_enter Tryz.func185,Tryz.ntmps185
 go_wp2_with fail
 go_loopw [8] (λi wr=>∃j:Nat,i= .int .i64 j/\j<=L/\Hid (∀k (hk:k < us.length),k < j->(((us[k]).first:Int) == f)=false)/\Hid (Below W.heap.size W wr)) (λi _=>L - (intOf i).toNat)
 case atStart=>exact⟨0,rfl,Nat.zero_le _,ab (λk _ h=>by omega),ab (Below.refl _ _)⟩
 case round=>
  obtain⟨j,rfl,hj,hne,hbl⟩:=hrel;by_cases hlt:j < L
  · have hju:j < us.length:=by have:=HL.out;omega
    obtain⟨gb,cc,hvs,_,hgb,_,d0,d1,d2,_⟩:=H.out.cells j hju;injection hvs with e1 _ e3;subst e1 e3;have f0:=(hbl.out.cell (p:=⟨gb,j * 3,none⟩) hgb).trans d0;have f1:=(hbl.out.cell (p:=⟨gb,j * 3+1,none⟩) hgb).trans d1;have f2:=(hbl.out.cell (p:=⟨gb,j * 3+2,none⟩) hgb).trans d2;have CP:=ab (AW us[j] b f wr ((hbl.out.block _ HB.out.lt).trans HB.out));have HJu:=ab hju;have HIdx:=ab (λhq=>x9 (f:=f) hju hq (λk hk hkj=>hne.out k hk hkj));have HNe:=ab (λ(hq:(((us[j]).first:Int) == f)=false)=>(show ∀k (hk:k < us.length),k < j+1->(((us[k]).first:Int) == f)=false from λk hk hkj=>by
     by_cases hkj2:k < j
     · exact hne.out k hk hkj2
     · have:k=j:=by omega
       subst this;exact hq))
    clear d0 d1 d2;generalize us[j]=u at *;obtain⟨no,fi,en⟩:=u;dsimp only at f0 f1 f2 CP HIdx HNe;clear hju;cases hq:((fi:Int) == f) with
    | true=>
      rw[hq]at CP;have HI:=ab (HIdx.out hq);clear HIdx HNe hq
      go_wp2_with fail
      refine CP.out.mono ?_;rintro en2 w3 ⟨rfl,hb3⟩;have HB3:=ab (hbl.out.trans (hb3.mono hbl.out.size));clear hb3 CP f0 f1 f2
      go_wp2_with fail
      go_ret
      exact⟨by rw[HI.out];rfl,HB3.out⟩
    | false=>
      rw[hq]at CP;have HI:=ab (HNe.out hq);clear HIdx HNe hq
      go_wp2_with fail
      refine CP.out.mono ?_;rintro en2 w3 ⟨rfl,hb3⟩;have HB3:=ab (hbl.out.trans (hb3.mono hbl.out.size));clear hb3 CP f0 f1 f2
      go_wp2_with fail
      go_roundw
      case rel=>exact⟨j+1,by go_num,by omega,HI,HB3⟩
      case measure=>simp[intOf];omega
  · have hje:j=L:=by omega
    have HI:=ab (yb (f:=f) (λk hk=>hne.out k hk (by have:=HL.out;omega)));subst hje
    go_wp2_with fail
    go_ret
    exact⟨by rw[HI.out];rfl,hbl.out⟩
theorem Cq (h:aO W F p dev us vs) (hmax:us.length<=1000) (b:Nat) (f:Int) (hb:Boxed W b 3 (.int .i64 f)):Calls Tryz.prog 179 #[vs,.func (.func 180) #[] #[.pointer (some ⟨b,0,none⟩)]] W λe w'=>e= .returned (.bool (eF us f))/\Below W.heap.size W w':=by
 have CI:=ab (yk h hmax b f hb);have HI:=ab (x7 us f);obtain⟨A,c,rfl,_,_⟩:=h.form;clear h hb;generalize iw us f=q at *;generalize eF us f=tk at *;have HT:=HI.out;have HT':decide (0<=q)=tk:=HT;clear HI
 go_enter Tryz.func179,Tryz.ntmps179
 go_wp2_with fail
 refine CI.out.mono ?_;rintro en w3 ⟨rfl,hb3⟩;have HB3:=ab hb3;clear hb3 CI;cases tk
 all_goals
  go_wp2_with fail
  go_ret
  exact⟨by simp[*],HB3.out⟩
end
end Go.Proofs.YtdilnodbfnlhdaaGreatDoor
namespace Go.Proofs.YtdilnodbfnlhdaaGreatDoor
open Go.RowKit Go.Shelf Tide
attribute [local go_sem] Oper.semAt_some
def dB (us:List ah) (m:Nat):List Nat:=(List.range m).filter λk=> !eF us ((64 * k:Nat):Int)
theorem xC (p:Nat) (w:World):Calls Tryz.prog 173 #[.pointer (some ⟨p,0,none⟩)] w λe w'=>e= .returned (.func (.func 178) #[] #[.pointer (some ⟨w.heap.size,0,none⟩)])/\w'=w.alloc (.cells #[.pointer (some ⟨p,0,none⟩)] 135):=by
 have hmf:∀ (fn:Fn) (first cap:Array Value) (w:World),(Instr.makeFunc fn first cap).run Tryz.prog w= .ok (.func fn first cap) w:=λ_ _ _ _=>rfl
 go_enter Tryz.func173,Tryz.ntmps173
 go_wp2_with fail
 go_ret
 exact⟨rfl,rfl⟩
def ph (E:Nat->Prop) (l:Nat):World->World->Prop:=Kept λk=>E k\/k=l
theorem xk {us:List ah} {pre:List Nat} {k:Nat}:(pre ++ [k]).filter (λk=> !eF us ((64 * k:Nat):Int))=pre.filter (λk=> !eF us ((64 * k:Nat):Int)) ++ (if eF us ((64 * k:Nat):Int) then[]else[k]):=by rw[List.filter_append,List.filter_cons];cases eF us ((64 * k:Nat):Int)<;>rfl
theorem zE {us:List ah} {m:Nat} {pre:List Nat} {k:Nat} (h:Nx (List.range m) pre k) (hf:eF us ((64 * k:Nat):Int)=false):Nx (dB us m) (pre.filter λk=> !eF us ((64 * k:Nat):Int)) k:=by
 obtain⟨h1,h2,h3⟩:=h;have e:List.range m=pre ++ k :: (List.range m).drop (pre.length+1):=by conv=>lhs;rw[<-List.take_append_drop pre.length (List.range m),<-h2,List.drop_eq_getElem_cons h1,<-h3]
 have e2:dB us m=(pre.filter λk=> !eF us ((64 * k:Nat):Int)) ++ k :: (((List.range m).drop (pre.length+1)).filter λk=> !eF us ((64 * k:Nat):Int)):=by
  unfold dB
  conv=>lhs;rw[e]
  rw[List.filter_append,List.filter_cons,hf];rfl
 refine⟨by rw[e2];simp,by rw[e2];simp,by simp[e2]⟩
theorem xD (n:Nat) (hn:3<=n) (b0:Nat) (w:World) {D:az} {x:Nat->Addr} (hD:aC x D) {Fd Fs E:Nat->Prop} {p dev:Nat} {us:List ah} {vs:Value} {d:Dv} (hd:D w Fd dev d) (h:aO w Fs p dev us vs) (hmax:us.length<=1000)
 (hb0:Boxed w b0 135 (.pointer (some ⟨p,0,none⟩))) (hE:∀k,E k->k < w.heap.size/\¬Fs k/\k≠b0):
 pw Fence.wide n Tryz.prog 178 #[.pointer (some ⟨b0,0,none⟩)] iQ (ph E) (dB us (d.ae.length / 64 / 64)) w:=λlp J Jx W hW hlp hJ hJx hY h0=>by
 have hn1:1<=n:=by omega
 have hn2:1<=n - 1:=by omega
 have hn3:1<=n - 1 - 1:=by omega
 have HY:=ab hY;have HJ:=ab hJ;have HJx:=ab hJx;have HE:=ab hE;have HDv:=ab (hD.an _ _ _ (λ_=>False) _ _ hd (Kept.al hW) (λ_ _ h=>h));have HS:=ab (h.below hW);have HX:=ab (show Boxed W b0 _ _ from(hW.block b0 hb0.lt).trans hb0);have HWz:=ab hW.size;have HSl:=ab h.lt;have HBl:=ab hb0.lt;have HJ0:=ab h0;clear hW hY hJ hJx h hb0 hE hd h0;refine callsIn_of_wp_marks Tryz.func178 rfl trivial ?_ rfl;simp only[Tryz.ntmps178,List.size_toArray,List.length_cons,List.length_nil,Nat.reduceAdd,Nat.reduceSub,Array.replicate_succ,Array.replicate_zero,List.push_toArray,List.append_toArray,List.nil_append,List.cons_append];have c0:=HX.out.cell;have CF:=ab (λw=>qz p w);have hb0l:=HX.out.lt
 gi_wp2_with fail
 refine⟨trivial,(callsIn_wide.2 (CF.out _)).mono ?_⟩;rintro e w1 ⟨rfl,rfl⟩
 gi_wp2_with fail
 generalize hW0:(W.alloc (.cells #[.func (.yield lp) #[] #[]] 76)).alloc (.cells #[.pointer (some ⟨p,0,none⟩)] 135)=W0 at *;have hz0:W0.heap.size=W.heap.size+2:=by rw[<-hW0];simp
 have hbl:Below W.heap.size W W0:=by rw[<-hW0];exact((Below.refl W.heap.size W).alloc (Nat.le_refl _) _).alloc (by simp) _
 have by0:Boxed W0 W.heap.size 76 (.func (.yield lp) #[] #[]):=by rw[<-hW0];exact(Boxed.new W _ _).alloc _
 have bp0:Boxed W0 (W.heap.size+1) 135 (.pointer (some ⟨p,0,none⟩)):=by
  rw[<-hW0];have:=Boxed.new (W.alloc (.cells #[.func (.yield lp) #[] #[]] 76)) 135 (.pointer (some ⟨p,0,none⟩))
  rwa[World.size_alloc]at this
 have HD0:=ab (hD.an _ _ _ (λ_=>False) _ _ HDv.out (Kept.al hbl) (λ_ _ h=>h));have HS0:=ab (HS.out.below hbl);have HX0:=ab (show Boxed W0 b0 135 (.pointer (some ⟨p,0,none⟩)) from(hbl.block b0 hb0l).trans HX.out);have HBY:=ab by0;have HZ:=ab (show W0.heap.size=W.heap.size+2/\w.heap.size<=lp/\lp < W.heap.size/\w.heap.size<=W.heap.size from⟨hz0,hlp.1,hlp.2,HWz.out⟩);have HJ1:=ab (HJ.out _ _ _ none HJ0.out ⟨hbl.os,hbl.tape,hbl.output,hbl.size,λk hk _=>hbl.block k hk⟩ (λr e=>by cases e));have HOut:=ab (show ∀k,E k\/k=lp->k < W0.heap.size/\¬Fs k/\k≠b0/\k≠W.heap.size from λk hk=>by
  have hz:=HZ.out;rcases hk with hk|rfl
  · obtain⟨h1,h2,h3⟩:=HE.out k hk;exact⟨by omega,h2,h3,by omega⟩
  · exact⟨by omega,λhf=>by have:=HSl.out _ hf;omega,by have:=HBl.out;omega,by omega⟩)
 clear hW0 CF HDv HS HX by0 hbl hz0 hlp c0 HJ0
 refine jT rfl (by omega) (gf:=150) rfl trivial (enters_of Tryz.func150 (by kernel_rfl) rfl) (encs:=iQ)
  (λ_=>rfl) (qA _ (by omega) (W.heap.size+1) W0 hD HD0.out HS0.out bp0 (λ_ _=>True)) (λ_ _=>trivial) (λ_ _ _ _ _ _ _=>trivial)
  (λpre X=>J (pre.filter λk=> !eF us ((64 * k:Nat):Int)) X/\Kept (λk=>E k\/k=lp) W0 X)
  (λcd _ X=>cd= .ret/\∃pre,Jx pre X)
  ?hI ?hIx ⟨HJ1.out,Kept.refl _ _⟩
  (λx a' X=>∃Bx,W0.heap.size<=Bx/\Boxed X Bx 3 (.int .i64 ((64 * x:Nat):Int))/\a'= { tmps:= #[.func (.yield lp) #[] #[],.pointer (some ⟨b0,0,none⟩),.pointer (some ⟨W.heap.size,0,none⟩),.pointer (some ⟨Bx,0,none⟩),undef,.pointer (some ⟨p,0,none⟩),.func (.func 150) #[] #[.pointer (some ⟨W.heap.size+1,0,none⟩)],.int .i64 ((64 * x:Nat):Int),undef,undef,undef,undef,undef,undef,undef,undef,undef,undef,undef,undef,undef,undef],defers:= [] })
  ?hAx ?assign ?body ?done ?stop
 case hI=>exact OwnFrom.and (λs A C row hs hg hr=>HJ.out _ A C row hs hg (λr e=>⟨by have:=(hr r e).1;have:=HZ.out;omega,(hr r e).2⟩)) (nV (λ_ k=>E k\/k=lp) W0 (Nat.le_refl _))
 case hIx=>exact λcd=>OwnFrom.and (fU _ _) (λs A C row ⟨pre,hs⟩ hg hr=>⟨pre,HJx.out _ A C row hs hg (λr e=>⟨by have:=(hr r e).1;have:=HZ.out;omega,(hr r e).2⟩)⟩)
 case hAx=>rintro x a' s A C row ⟨Bx,h1,h2,h3⟩ hg hr;exact⟨Bx,h1,iB (β:=Unit) _ Bx _ (λ_=>_) () A C row h2 hg hr,h3⟩
 case assign=>
  rintro l pre x A0 K ⟨hI1,hI2⟩ hN hK
  gi_wp2_with fail
  exact hK _ _ ((KeepsOthers.alloc _ _).from _) trivial ⟨HJ.out _ _ _ none hI1 (World.grownBy_alloc _ _ none) (λr e=>by cases e),hI2.alloc _⟩ ⟨A0.heap.size,hI2.size,Boxed.new _ _ _,rfl⟩
 case body=>
  rintro l pre x a' A0 hl hr ⟨hI1,hI2⟩ ⟨Bx,hBx,hbx,rfl⟩ hN;have hnot:∀k,(k < W0.heap.size->¬(E k\/k=lp))->k < W0.heap.size->¬(E k\/k=lp):=λk h h2=>h h2;have cb0:=(show Boxed A0 b0 135 _ from hI2.heap HX0.out (λhk=>(HOut.out _ hk).2.2.1 rfl)).cell;have cy:=(show Boxed A0 W.heap.size 76 _ from hI2.heap HBY.out (λhk=>(HOut.out _ hk).2.2.2 rfl));have hS0:=HS0.out.an hI2 (λk hf hk=>(HOut.out _ hk).2.1 hf);obtain⟨_,_,cs,_⟩:=hS0.block.facts;have CC:=ab (Cq hS0 hmax Bx _ hbx);obtain⟨Av,cv,rfl,_,_⟩:=hS0.form;have hmf:∀ (fn:Fn) (first cap:Array Value) (w:World),(Instr.makeFunc fn first cap).run Tryz.prog w= .ok (.func fn first cap) w:=λ_ _ _ _=>rfl;have HBX:=ab hbx;have HCY:=ab cy;have HI1:=ab hI1;have HI2:=ab hI2;have HN:=ab hN;clear hI1 hI2 hbx cy hS0 hN hnot
  gi_wp2_with fail
  refine⟨trivial,(CallsIn.inRound l (callsIn_wide.2 CC.out)).mono ?_⟩;rintro e w3 ⟨rfl,hb3⟩;have HK3:=ab (lG (B:=W0.heap.size) hb3);have HKp3:=ab (HI2.out.trans (Kept.al (F:=λk=>E k\/k=lp) hb3) (λj hj=> .inl hj));have HJ3:=ab (HJ.out _ _ _ none HI1.out ⟨hb3.os,hb3.tape,hb3.output,hb3.size,λk hk _=>hb3.block k hk⟩ (λr e=>by cases e));have cy3:=(show Boxed w3 W.heap.size 76 _ from(hb3.block _ HCY.out.lt).trans HCY.out).cell;have cx3:=(show Boxed w3 Bx 3 _ from(hb3.block _ HBX.out.lt).trans HBX.out).cell;clear hb3 cb0 cs CC;have HFs:=ab (xk (us:=us) (pre:=pre) (k:=x));have HNf:=ab (λhf=>zE HN.out (us:=us) hf);cases htk:eF us ((64 * x:Nat):Int) with
  | true=>
    rw[htk,if_pos rfl,List.append_nil]at HFs
    gi_wp2_with fail
    all_goals
     refine⟨λ_ h=>(by cases h),?_⟩
     gi_wp2_with fail
     refine⟨HK3.out,trivial,?_,HKp3.out⟩;rw[HFs.out];exact HJ3.out
  | false=>
    obtain⟨fn,tmps,assign,body,hy,hR⟩:=HY.out _ x _ HJ3.out (HNf.out htk);dsimp only[iQ]at hy;rw[htk,if_neg (by decide)]at HFs;have e64:((64 * x:Nat):Int)=64 * (x:Int):=by push_cast;rfl
    rw[e64]at hy;have HRd:=ab (RoundIn.deep (l₀:=l) (m':=n - 1 - 1 - 1) hR);clear hR HNf e64
    gi_wp2_with fail
    refine HRd.out.mono ?_;rintro e W5 (⟨rfl,hJ5,hk5⟩|⟨rfl,hJx5,hk5⟩)
    · have HJ5:=ab hJ5;have HK5:=ab (show Kept (λk=>E k\/k=lp) w3 W5 from hk5);clear hJ5 hk5 HRd hy cy3 cx3
      gi_wp2_with fail
      refine⟨HK3.out.trans ⟨HK5.out.size,λk o hk ho _=> ?_⟩,trivial,?_,HKp3.out.trans HK5.out (λj hj=> .inl hj)⟩
      · exact HK5.out.heap ho (λhh=>by have:=(HOut.out _ hh).1;omega)
      · rw[HFs.out];exact HJ5.out
    · have HJ5:=ab hJx5;have HK5:=ab hk5;clear hJx5 hk5 HRd hy cy3 cx3
      gi_wp2_with fail
      refine⟨HK3.out.trans ⟨HK5.out.size,λk o hk ho hc=>HK5.out.same k o (by have:=HZ.out;omega) (by have:=HZ.out;omega) ho hc⟩,rfl,_,HJ5.out⟩
 case done=>
  rintro D0 A0 hD0 ⟨hI1,hI2⟩ hdf;have HI1:=ab hI1;have HDF:=ab hdf;clear hI1 hI2 hdf
  gi_wp2_with fail
  refine⟨by simp,.inl ⟨_,_,rfl,run_takeDeferred HDF.out,?_⟩⟩;refine⟨_,results_none rfl _ _ _,⟨_,rfl⟩,.inl ?_⟩;exact HJ.out.putObj _ HI1.out (by have:=HZ.out;omega) HDF.out rfl
 case stop=>
  rintro D0 cd pre A0 hD0 ⟨rfl,pre',hJ3⟩ hdf;have HI1:=ab hJ3;have HDF:=ab hdf;clear hJ3 hdf
  gi_wp2_with fail
  refine⟨by simp,.inl ⟨_,_,rfl,run_takeDeferred HDF.out,?_⟩⟩;refine⟨_,results_none rfl _ _ _,⟨_,rfl⟩,.inr ⟨pre',?_⟩⟩;exact HJx.out.putObj _ HI1.out (by have:=HZ.out;omega) HDF.out rfl
end Go.Proofs.YtdilnodbfnlhdaaGreatDoor
namespace Go.Proofs.YtdilnodbfnlhdaaGreatDoor
open Go.RowKit Go.Shelf Tide
attribute [local go_sem] Oper.semAt_some
theorem yE {E:Nat->Prop} {w:World} (W:World) (l:Nat) (o o':Obj) (_:w.heap.size<=l) (_:W.heap[l]? =some o) (_:o.isCells=false):ph E l W (W.putObj l o'):=
 (Kept.refl _ W).grown (grownBy_putObj' W l o') (λk e=>by cases e;exact .inl (.inr rfl))
section
variable {W:World} {D:az} {x:Nat->Addr} {Fd Fs:Nat->Prop} {p dev:Nat} {us:List ah} {vs:Value} {d:Dv}
end
end Go.Proofs.YtdilnodbfnlhdaaGreatDoor
namespace Go.Proofs.YtdilnodbfnlhdaaGreatDoor
open Go.RowKit Go.Shelf Tide
attribute [local go_sem] Oper.semAt_some
theorem ny (im:List UInt8) (lim:Nat):∀ (k i:Nat) (x:Nat × Nat),x ∈ fh im lim k i->x.1 < lim/\bL im x.1=some 1/\x.2=eP im x.1/\x.2≠0/\ax x.1 x.2<=lim/\i<=x.1
 | 0,_,_,h=>by cases h
 | k+1,i,x,h=>by
   unfold fh at h;split at h
   · rename_i hc;rcases List.mem_cons.1 h with rfl|h
     · exact⟨hc.1,hc.2.1,rfl,hc.2.2.1,hc.2.2.2,Nat.le_refl _⟩
     · obtain⟨h1,h2,h3,h4,h5,h6⟩:=ny im lim k _ x h;exact⟨h1,h2,h3,h4,h5,Nat.le_trans (by unfold ax;omega) h6⟩
   · cases h
def lv (first:Nat) (pre:List (Nat × Nat)):Nat:=(pre.getLast?.map λx=>ax x.1 x.2).getD (first+1)
theorem wW (first:Nat) (pre:List (Nat × Nat)) (x:Nat × Nat):lv first (pre ++ [x])=ax x.1 x.2:=by simp[lv]
theorem vH (W:World) (t0 t1 t2:TypeId) (v0 v1 v2:Value):∃W0,((W.alloc (.cells #[v0] t0)).alloc (.cells #[v1] t1)).alloc (.cells #[v2] t2)=W0/\W0.heap.size=W.heap.size+3/\Below W.heap.size W W0/\
 Boxed W0 W.heap.size t0 v0/\Boxed W0 (W.heap.size+1) t1 v1/\Boxed W0 (W.heap.size+1+1) t2 v2:=by
 refine⟨_,rfl,by simp,(((Below.refl W.heap.size W).alloc (Nat.le_refl _) _).alloc (by simp) _).alloc (by simp;omega) _,?_,?_,?_⟩
 · exact((Boxed.new W t0 v0).alloc _).alloc _
 · have:=(Boxed.new (W.alloc (.cells #[v0] t0)) t1 v1).alloc (.cells #[v2] t2)
   rwa[World.size_alloc]at this
 · have:=Boxed.new ((W.alloc (.cells #[v0] t0)).alloc (.cells #[v1] t1)) t2 v2
   rwa[World.size_alloc,World.size_alloc]at this
section
variable {W:World} {D:az} {x:Nat->Addr} {Fd Fs:Nat->Prop} {p dev:Nat} {us:List ah} {vs:Value} {d:Dv}
theorem wX (hD:aC x D) (hd:D W Fd dev d) (h:aO W Fs p dev us vs) (first:Nat) (hf:first+64<=d.ae.length / 64):Calls Tryz.prog 115 #[.pointer (some ⟨p,0,none⟩),.int .i64 (first:Nat)] W λe w'=>e= .returned (.int .i64 (jz (aI d.ae d.aq) first:Nat))/\Below W.heap.size W w':=by
 have CH:=ab (λw=>qQ p first w);have HS:=ab h;have HDv:=ab hd;have HF:=ab hf;have hlen:=(hD.right _ _ _ _ hd).2.2.1;have hf1:first<=1000:=by omega
 have HF1:=ab hf1;obtain⟨f1,hf2⟩:=aa (first+1);have HF2:=ab hf2;have q1:(first:Int)+1=(f1:Int):=by omega
 have q2:wrap64 (f1:Int)=(f1:Int)/\IntKind.i64.wrap (f1:Int)=(f1:Int):=eC _ (by omega) (by omega);obtain⟨q2,q3⟩:=q2;clear h hd hf hlen hf2;refine(callsIn_wide (n:=7)).1 ?_;refine callsIn_of_wp_marks Tryz.func115 rfl trivial ?_ rfl;simp only[Tryz.ntmps115,List.size_toArray,List.length_cons,List.length_nil,Nat.reduceAdd,Nat.reduceSub,Array.replicate_succ,Array.replicate_zero,List.push_toArray,List.append_toArray,List.nil_append,List.cons_append]
 gi_wp2_with fail
 refine⟨trivial,(callsIn_wide.2 (CH.out _)).mono ?_⟩;rintro e w1 ⟨rfl,rfl⟩
 gi_wp2_with fail
 clear q2 q3;obtain⟨W0,hW0,hz0,hbl,x0,x1,x2⟩:=vH W 3 135 3 (.int .i64 (f1:Int)) (.pointer (some ⟨p,0,none⟩)) (.int .i64 (first:Nat));rw[hW0];have HD0:=ab (hD.an _ _ _ (λ_=>False) _ _ HDv.out (Kept.al hbl) (λ_ _ h=>h));have HS0:=ab (HS.out.below hbl);have HZ:=ab hz0;have HBl:=ab hbl;have HSl:=ab HS.out.lt;have HDl:=ab (hD.lt _ _ _ _ HDv.out);have X0:=ab x0;clear hW0 CH HDv HS hbl hz0 x0
 refine jT rfl (by omega) (gf:=156) rfl trivial (enters_of Tryz.func156 (by kernel_rfl) rfl) (encs:=lq)
  (λ_=>rfl) (qR _ (by omega) (W.heap.size+1) (W.heap.size+1+1) W0 hD HD0.out HS0.out first HF.out x1 x2 (G:=λk=>k=W.heap.size\/W0.heap.size<=k) ⟨λk hk hg=>by
    have hz:=HZ.out;rcases hk with hk|hk|hk|hk
    · have:=HDl.out _ hk;omega
    · have:=HSl.out _ hk;omega
    · omega
    · omega,λk hk=> .inr hk⟩) (λh k=>h.trans k (λj hj=> .inl hj)) (nI (λk hk=> .inr hk))
  (λpre X=>Boxed X W.heap.size 3 (.int .i64 (lv first pre:Nat))/\Below W.heap.size W X)
  (λ_ _ _=>False)
  ?hI (λ_=>nZ _) ⟨by rw[show lv first []=f1 from HF2.out];exact X0.out,HBl.out⟩
  (λy a' X=>a'= { tmps:= #[.pointer (some ⟨p,0,none⟩),.int .i64 (first:Nat),undef,undef,.int .i64 0,.pointer (some ⟨W.heap.size,0,none⟩),.int .i64 (y.1:Int),.int .i64 (y.2:Int),.int .i64 (first:Nat),.int .i64 (f1:Int),.pointer (some ⟨p,0,none⟩),.int .i64 (first:Nat),.func (.func 156) #[] #[.pointer (some ⟨W.heap.size+1+1,0,none⟩),.pointer (some ⟨W.heap.size+1,0,none⟩)],.int .i64 (y.1:Int),.int .i64 (y.2:Int),undef,undef,undef,undef],defers:= [] })
  (λ_ _=>fU _ _) ?assign ?body ?done (λ_ _ _ _ _ h=>h.elim)
 case hI=>exact OwnFrom.and (iB _ _ _ _) (ownFrom_below (Nat.le_refl _) (by have:=HZ.out;omega))
 case assign=>
  rintro l pre y A0 K ⟨hI1,hI2⟩ hN hK
  gi_wp2_with fail
  exact hK _ _ (KeepsFrom.refl _ _) (Kept.refl _ _) ⟨hI1,hI2⟩ rfl
 case body=>
  rintro l pre y a' A0 hl hr ⟨hI1,hI2⟩ rfl hN;have hmem:=ny _ _ _ _ _ hN.mem;have hlt:=oM (aI d.ae d.aq) y.1;have hf9:=HF1.out;have CB:=ab (λw=>jr y.1 y.2 (by omega) (by omega) w);have cn:=hI1.cell;have fn:=hI1.frozen;have HI1:=ab hI1;have HI2:=ab hI2;have HEs:=ab (wW first pre y);clear hI1 hI2 hmem hlt hf9 hN
  gi_wp2_with fail
  refine⟨trivial,(CallsIn.inRound l (callsIn_wide.2 (CB.out _))).mono ?_⟩;rintro e w3 ⟨rfl,rfl⟩
  gi_wp2_with fail
  refine⟨(KeepsOthers.setCell _ _ _).from _,(Kept.refl _ _).setCell (p:=⟨W.heap.size,0,none⟩) (.inl (.inl rfl)) _,?_,HI2.out.setCell (p:=⟨W.heap.size,0,none⟩) (Nat.le_refl _) _⟩;rw[HEs.out];exact HI1.out.set _
 case done=>
  rintro D0 A0 hD0 ⟨hI1,hI2⟩ hdf;have cn:=hI1.cell;have HI2:=ab hI2;have HDF:=ab hdf;clear hI1 hI2 hdf
  gi_wp2_with fail
  refine⟨by simp,.inl ⟨_,_,rfl,run_takeDeferred HDF.out,?_⟩⟩;refine⟨_,results_tmp rfl _ _ _,rfl,js HI2.out HI2.out.size (by have:=HZ.out;omega)⟩
end
end Go.Proofs.YtdilnodbfnlhdaaGreatDoor
namespace Go.Proofs.YtdilnodbfnlhdaaGreatDoor
open Go.RowKit Tide
theorem qE (i j:Nat) (whole b0:List UInt8):∀m,(aY i whole m).foldl (λb x=>if x.1=j then x.2 else b) b0=if i<=j/\j < i+m then(whole.drop (64 * (j - i))).take 64 else b0
 | 0=>by rw[if_neg (by omega)];rfl
 | m+1=>by
   have ih:=qE i j whole b0 m;unfold aY at ih ⊢;rw[List.range_succ,List.map_append,List.foldl_append,ih];simp only[List.map_cons,List.map_nil,List.foldl_cons,List.foldl_nil];by_cases h:i+m=j
   · subst h;rw[if_pos rfl,if_pos (by omega),Nat.add_sub_cancel_left]
   · rw[if_neg h];by_cases h2:i<=j/\j < i+m
     · rw[if_pos h2,if_pos (by omega)]
     · rw[if_neg h2,if_neg (by omega)]
theorem mq {n i m:Nat} {whole ae:List UInt8} (hl:whole.length=64 * m) (hi:i+m<=n) (himg:ae.length=64 * n) (j:Nat):
 ak (aI ae (aY i whole m)) j=if i<=j/\j < i+m then(whole.drop (64 * (j - i))).take 64 else ak ae j:=by
 rw[oz n j _ (lk i whole m n hl hi) ae himg];exact qE i j whole _ m
theorem wb {i m s:Nat} {whole:List UInt8} {x:Nat × List UInt8} (h:x ∈ (aY i whole m).take s):i<=x.1/\x.1 < i+m/\x.1 < i+s/\x.2=(whole.drop (64 * (x.1 - i))).take 64:=by
 obtain⟨k,hk,e⟩:=List.mem_take_iff_getElem.1 h;rw[jx]at hk;have hk2:k < (aY i whole m).length:=by rw[jx];omega
 have e2:(aY i whole m)[k]=(i+k,(whole.drop (64 * k)).take 64):=by simp only[aY,List.getElem_map,List.getElem_range]
 rw[e2]at e;subst e;refine⟨by simp only;omega,by simp only;omega,by simp only;omega,by simp only[Nat.add_sub_cancel_left]⟩
theorem wc (i:Nat) (whole:List UInt8) (m s:Nat):(((aY i whole m).take s).map (·.1)).Nodup:=by
 have h:((aY i whole m).map (·.1)).Nodup:=by unfold aY;rw[List.map_map];have e:((λx:Nat × List UInt8=>x.1) ∘ λk=>(i+k,(whole.drop (64 * k)).take 64))=λk=>i+k:=rfl;rw[e];refine List.Pairwise.map (R:=(· ≠ ·)) (S:=(· ≠ ·)) _ (λa b hab=>by omega) List.nodup_range
 rw[List.map_take];exact h.sublist (List.take_sublist _ _)
theorem jV {n i m s:Nat} {whole ae:List UInt8} (himg:ae.length=64 * n) {xs:List (Wr × Nat)} (hp:xs.map (λx=>x.1.pair)=(aY i whole m).take s) (hf:ij n xs) (j:Nat):
 ak (bC ae xs) j=ak ae j\/(i<=j/\j < i+m/\j < i+s/\∃c,c<=64/\ak (bC ae xs) j=((whole.drop (64 * (j - i))).take 64).take c ++ (ak ae j).drop c):=by
 by_cases h:∃x ∈ xs,x.1.sec=j
 · obtain⟨x,hx,rfl⟩:=h;right;have hm:x.1.pair ∈ (aY i whole m).take s:=by rw[<-hp];exact List.mem_map.2 ⟨x,hx,rfl⟩
   obtain⟨h1,h2,h3,h4⟩:=wb hm;have hn:(xs.map λx=>x.1.sec).Nodup:=by have h5:=wc i whole m s;rw[<-hp,List.map_map]at h5;exact h5
   have h4':x.1.b=(whole.drop (64 * (x.1.sec - i))).take 64:=h4;refine⟨h1,h2,h3,x.2,(hf x hx).2.2,?_⟩;rw[rT n xs ae hf himg hn x hx,h4']
 · left;exact lO n j xs ae hf himg (λx hx e=>h ⟨x,hx,e⟩)
theorem ly {n i m:Nat} {whole ae:List UInt8} (hl:whole.length=64 * m) (hi:i+m<=n) (himg:ae.length=64 * n):(aI ae (aY i whole m)).length=64 * n:=iv n _ (lk i whole m n hl hi) ae himg
theorem ki (im:List UInt8) (k:Nat):im[k]? =(ak im (k / 64))[k % 64]? :=by rw[iF _ _ _ (Nat.mod_lt _ (by omega)),Nat.div_add_mod]
theorem dC (im:List UInt8) (i:Nat):bL im i=(ak im i)[63]? :=by unfold bL;rw[iF _ _ _ (by omega)]
theorem mY (im:List UInt8) (i n j:Nat):(eK im i n)[j]? =if j < n then im[64 * i+j]? else none:=by
 unfold eK;by_cases h:j < n
 · rw[if_pos h,List.getElem?_take_of_lt h,List.getElem?_drop]
 · rw[if_neg h];exact List.getElem?_take_eq_none (by omega)
theorem vz {im im':List UInt8} {i n:Nat} (h:∀j,i<=j->j < i+(n+63) / 64->ak im' j=ak im j):eK im' i n=eK im i n:=by
 apply List.ext_getElem?;intro j;rw[mY,mY];by_cases hj:j < n
 · rw[if_pos hj,if_pos hj,ki im',ki im,h _ (by omega) (by omega)]
 · rw[if_neg hj,if_neg hj]
theorem AK (whole:List UInt8) (k j:Nat) (hj:j < 64):((whole.drop (64 * k)).take 64)[j]? =whole[64 * k+j]? :=by rw[List.getElem?_take_of_lt hj,List.getElem?_drop]
theorem kA (n k:Nat):(aN n)[k]? =if k < n then some 0 else none:=by unfold aN;rw[List.getElem?_replicate]
theorem pT {a b:List UInt8} {c j:Nat} (ha:a.length=64) (hc:c<=64):(a.take c ++ b.drop c)[j]? =if j < c then a[j]? else b[j]? :=by
 by_cases h:j < c
 · rw[if_pos h,List.getElem?_append_left (by rw[List.length_take];omega),List.getElem?_take_of_lt h]
 · rw[if_neg h,List.getElem?_append_right (by rw[List.length_take];omega),List.length_take,List.getElem?_drop]
   congr 1
   omega
end Go.Proofs.YtdilnodbfnlhdaaGreatDoor
