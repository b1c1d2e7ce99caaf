import Derived.Test.YtiafamacjpgjoaaGreatDoorGPackIn
import Derived.Test.YtiafamacjpgjoaaGreatDoorGConv
import Derived.Test.YtiafamacjpgjoaaGreatDoorGPackD
set_option maxHeartbeats 1000000
namespace Go.Proofs.YtiafamacjpgjoaaGreatDoor
open Go.RowKit Tide
theorem BY (l:List UInt8):(rdNum l).2.2<=l.length:=by
 unfold rdNum;have hh:=sj 8 l;cases e:l[high 8 l]? with
 | none=>simp
 | some b=>have:=(List.getElem?_eq_some_iff.1 e).1;simp only;split<;>simp<;>omega
abbrev jT (a:Nat->Addr) (W:World) (F:Nat->Prop) (B p:Nat) (l:List UInt8) (e:Nat) (most:Int):Ending->World->Prop:=
 lM (eL a) W F B p (dC l e most).1 (dC l e most).2.1 λv _=>v= .int .i64 ((dC l e most).2.2:Nat)
theorem zw (a:Nat->Addr) (W:World) (F:Nat->Prop) (B p:Nat) (l:List UInt8) (m:Nat) (most:Int) (h:eL a W F B p l (m+1)):
 Calls Tryz.prog 121 #[.pointer (some ⟨p,0,none⟩),.int .i64 most] W (jT a W F B p l (m+1) most):=by
 have hN:=ab (show dC l (m+1) most=(l,m+1,0) from if_pos (by omega));have H:=ab h;obtain⟨A,c,x,h4,h5,_⟩:=mg h;obtain⟨_,g0,g1,gf⟩:=h4.facts;clear h h4;rcases h5 with⟨h0,_⟩|⟨m',hm,_,rfl⟩
 · omega
 · go_enter Tryz.func121,Tryz.ntmps121
   go_wp2_with fail
   go_ret
   exact⟨_,F,rfl,by rw[hN.out];rfl,by rw[hN.out];exact H.out,λk hf=> .inl hf,Kept.refl _ _⟩
theorem zx (a:Nat->Addr) (W:World) (F:Nat->Prop) (B p:Nat) (l:List UInt8) (most:Int) (h:eL a W F B p l 0) (hl:l.length<=100000) (hE:av W a):
 Calls Tryz.prog 121 #[.pointer (some ⟨p,0,none⟩),.int .i64 most] W (jT a W F B p l 0 most):=by
 have H:=ab h;obtain⟨A,c,x,h4,h5,h6⟩:=mg h;have H4:=ab h4;have hx:x= .nilIface:=by
  rcases h5 with⟨_,h⟩|⟨m,_,h0,_⟩
  · exact h
  · omega
 subst hx;obtain⟨_,g0,g1,gf⟩:=h4.facts;have cN:=ab (At a (.slice A l.length c) l W.heap.size W (h6.bytes (λk hf=>(h.2.2.1 k hf.1).2)) hl hE);have HE:=ab hE;by_cases hbad:(rdNum l).1=0
 · obtain⟨A',c',l',hl',hcut,hbi⟩:=qY h6 (rdNum l).2.2 ((rdNum l).2.2:Nat) rfl (BY l);have HBI:=ab hbi;have hB0:=ab hbad;have hN:=ab (show dC l 0 most=if most < ((rdNum l).2.1:Int) then(l',1,0) else(l',0,(rdNum l).2.1) by unfold dC;rw[if_neg (by simp),if_neg (by rw[hbad];simp),hl'.out]);have hnum:=cN.out;unfold nu at hnum;have hc2:=ab hnum;clear cN hnum hbad h4 h6 h hE hbi h5;generalize (rdNum l).2.1=n at *;generalize (rdNum l).2.2=k at *;generalize (rdNum l).1=er at *;obtain rfl:=hB0.out
   go_enter Tryz.func121,Tryz.ntmps121
   go_wp2_with fail
   refine hc2.out.mono ?_;rintro e w1 ⟨x1,rfl,hx1,hb1⟩;have hx1n:x1= .nilIface:=by
    rcases hx1 with⟨_,h⟩|⟨m,_,h0,_⟩
    · exact h
    · omega
   rw[hx1n];have HB1:=ab hb1;have T1:=ab (H4.out.below hb1 H4.out.lt);obtain⟨_,k0,k1,kf⟩:=T1.out.facts;have hg:=(HE.out.below hb1).var 0 (by omega);simp only[cL,List.getD_cons_zero]at hg;have hgp:¬p=2:=λe=>(H.out.2.2.2.1 0 (by omega)).1 (by rw[show cL.getD 0 0=2 from rfl,<-e];exact H.out.2.1);have hin:=ab (lh H.out (Kept.an (F:=λ_=>False) hb1) (λ_ _ h=>h));have hbi1:=ab (HBI.out.kept (Kept.an (F:=λ_=>False) hb1) (λk hf=>⟨λh=>h,(H.out.2.2.1 k hf.1).2⟩));clear hx1 hb1 hx1n x1 g0 g1 gf;by_cases hmost:most < (n:Int)
   · have hq:decide (most < (n:Int))=true:=by simp;omega
     rw[if_pos hmost]at hN
     go_wp2_with fail
     go_ret
     obtain⟨hi,hf,hk⟩:=lj hin.out (w2:=(w1.setCell ⟨p,0,none⟩ (.slice A' l'.length c')).setCell ⟨p,1,none⟩ (ao (a 0))) (e':=1) (((Kept.refl (λk=>k=p) w1).setCell (p:=⟨p,0,none⟩) (.inl rfl) _).setCell (p:=⟨p,1,none⟩) (.inl rfl) _) ((T1.out.kI _).iR _) (bL a 0 (by omega)) hbi1.out;exact⟨_,F,rfl,by rw[hN.out];rfl,by rw[hN.out];exact hi,λk hf=> .inl hf,(Kept.an HB1.out).trans hk (λ_ h=> .inl h)⟩
   · have hq:decide (most < (n:Int))=false:=by simp;omega
     rw[if_neg hmost]at hN
     go_wp2_with fail
     go_ret
     obtain⟨hi,hf,hk⟩:=lj hin.out (w2:=w1.setCell ⟨p,0,none⟩ (.slice A' l'.length c')) (e':=0) ((Kept.refl (λk=>k=p) w1).setCell (p:=⟨p,0,none⟩) (.inl rfl) _) (T1.out.kI _) (fw a) hbi1.out;exact⟨_,F,rfl,by rw[hN.out];rfl,by rw[hN.out];exact hi,λk hf=> .inl hf,(Kept.an HB1.out).trans hk (λ_ h=> .inl h)⟩
 · have hN:=ab (show dC l 0 most=(l,(rdNum l).1,0) by unfold dC;rw[if_neg (by simp),if_pos hbad]);have H6:=ab h6;have hnum:=cN.out;unfold nu at hnum;have hc2:=ab hnum;clear cN hnum h4 h6 h hE h5;generalize (rdNum l).2.1=n at *;generalize (rdNum l).2.2=k at *;generalize (rdNum l).1=er at *
   go_enter Tryz.func121,Tryz.ntmps121
   go_wp2_with fail
   refine hc2.out.mono ?_;rintro e w1 ⟨x1,rfl,hx1,hb1⟩;obtain⟨m,hm,hem,hx1n⟩:∃m,m < 19/\er=m+1/\x1=ao (a m):=by
    rcases hx1 with⟨h0,_⟩|h
    · exact absurd h0 hbad
    · exact h
   rw[hx1n];have HB1:=ab hb1;have T1:=ab (H4.out.below hb1 H4.out.lt);obtain⟨_,k0,k1,kf⟩:=T1.out.facts;have hin:=ab (lh H.out (Kept.an (F:=λ_=>False) hb1) (λ_ _ h=>h));have hbi1:=ab (H6.out.kept (Kept.an (F:=λ_=>False) hb1) (λk hf=>⟨λh=>h,(H.out.2.2.1 k hf.1).2⟩));have HEM:=ab hem;clear hx1 hb1 hx1n x1 g0 g1 gf hem hbad
   go_wp2_with fail
   go_ret
   obtain⟨hi,hf,hk⟩:=lj hin.out (w2:=w1.setCell ⟨p,1,none⟩ (ao (a m))) (e':=er) ((Kept.refl (λk=>k=p) w1).setCell (p:=⟨p,1,none⟩) (.inl rfl) _) (T1.out.iR _) (by rw[HEM.out];exact bL a m hm) hbi1.out;exact⟨_,F,rfl,by rw[hN.out];rfl,by rw[hN.out];exact hi,λk hf=> .inl hf,(Kept.an HB1.out).trans hk (λ_ h=> .inl h)⟩
theorem oq (a:Nat->Addr) (W:World) (F:Nat->Prop) (B p:Nat) (l:List UInt8) (e:Nat) (most:Int) (h:eL a W F B p l e) (hl:l.length<=100000) (hE:av W a):
 Calls Tryz.prog 121 #[.pointer (some ⟨p,0,none⟩),.int .i64 most] W (jT a W F B p l e most):=by
 rcases e with _|m
 · exact zx a W F B p l most h hl hE
 · exact zw a W F B p l m most h
end Go.Proofs.YtiafamacjpgjoaaGreatDoor
namespace Go.Proofs.YtiafamacjpgjoaaGreatDoor
open Go.RowKit Tide
theorem so {I:nt} {W w1 w2:World} {F F1:Nat->Prop} {B p er:Nat} {rest:List UInt8} {ans:Value->World->Prop} {e:Ending} (hF1:∀k,F1 k->F k\/W.heap.size<=k) (hK1:Kept F W w1) (h:lM I w1 F1 B p rest er ans e w2):lM I W F B p rest er ans e w2:=by
 obtain⟨v,F2,he,ha,hO,hF2,hK2⟩:=h;refine⟨v,F2,he,ha,hO,λk hf=> ?_,hK1.trans hK2 hF1⟩;rcases hF2 k hf with h|h
 · exact hF1 k h
 · exact .inr (Nat.le_trans hK1.size h)
theorem za (l:List UInt8) (e:Nat) (most:Int):(dC l e most).1.length<=l.length:=by
 unfold dC;split
 · exact Nat.le_refl _
 · split
   · exact Nat.le_refl _
   · split<;>simp
theorem zc (l:List UInt8) (e:Nat) (most:Int) (h:(dC l e most).2.1≠0):(dC l e most).2.2=0:=by
 unfold dC at *;split
 · rfl
 · rename_i h1;split
   · rfl
   · rename_i h2;rw[if_neg h1,if_neg h2]at h;split
     · rfl
     · rename_i h3;rw[if_neg h3]at h;exact absurd rfl h
end Go.Proofs.YtiafamacjpgjoaaGreatDoor
namespace Go.Proofs.YtiafamacjpgjoaaGreatDoor
open Go.RowKit Tide
theorem zA (a:Nat->Addr) (W:World) (F:Nat->Prop) (B p:Nat) (l:List UInt8) (e:Nat) (most:Int) (h:eL a W F B p l e) (hl:l.length<=100000) (hE:av W a):
 Calls Tryz.prog 122 #[.pointer (some ⟨p,0,none⟩),.int .i64 most] W
  (lM (eL a) W F B p (gL l e most).1 (gL l e most).2.1 λv _=>v= .string ⟨(gL l e most).2.2.toArray⟩):=by
 have HE:=ab hE;have H:=ab h;have hn:=oq a W F B p l e most h hl hE;unfold jT at hn;have hz:=zc l e most;have hln:=Nat.le_trans (za l e most) hl;obtain⟨r,hr⟩:=aa (dC l e most);have hT:gL l e most=if r.2.1≠0 then(r.1,r.2.1, []) else if r.1.length < r.2.2 then(r.1,2, []) else(r.1.drop r.2.2,0,r.1.take r.2.2):=by unfold gL;rw[hr]
 rw[hr]at hn hz hln;obtain⟨l1,e1,n⟩:=r;simp only at hn hz hln hT;have CN:=ab hn;clear hE h hl hn hr
 go_enter Tryz.func122,Tryz.ntmps122
 go_wp2_with fail
 refine CN.out.mono ?_;rintro en w1 ⟨v,F1,rfl,rfl,hI1,hF1,hK1⟩;have HI1:=ab hI1;have HF1:=ab hF1;have HK1:=ab hK1;obtain⟨A,c,x,h4,h5,h6⟩:=mg hI1;have H4:=ab h4;have H5:=ab h5;obtain⟨_,g0,g1,gf⟩:=h4.facts;have HE1:=ab (HE.out.kept hK1 H.out.2.2.2.1);have hx:(∃b,x=ao b)\/x= .nilIface:=by
  rcases h5 with⟨_,h⟩|⟨m,_,_,h⟩
  · exact .inr h
  · exact .inl ⟨_,h⟩
 by_cases hlong:l1.length < n
 · have he1:e1=0:=by
    rcases Nat.eq_zero_or_pos e1 with h|h
    · exact h
    · have:=hz (by omega);omega
   subst he1;rw[if_neg (by simp),if_pos hlong]at hT;have HT:=ab hT;have H6:=ab h6;have hq:decide ((l1.length:Int) < (n:Int))=true:=decide_eq_true (by omega);have hg:=HE1.out.var 1 (by omega);simp only[cL,List.getD_cons_zero,List.getD_cons_succ]at hg;clear hI1 hF1 hK1 h4 h5 h6 hz hT;rcases hx with⟨b,rfl⟩|rfl
   · exfalso;rcases H5.out with⟨_,h⟩|⟨m,_,h0,_⟩
     · cases h
     · omega
   go_wp2_with fail
   go_ret
   obtain⟨hi,hf,hk⟩:=lj HI1.out (w2:=w1.setCell ⟨p,1,none⟩ (ao (a 1))) (e':=2) ((Kept.refl (λk=>k=p) w1).setCell (p:=⟨p,1,none⟩) (.inl rfl) _) (H4.out.iR _) (bL a 1 (by omega)) H6.out;exact so HF1.out HK1.out ⟨_,F1,rfl,by rw[HT.out];rfl,by rw[HT.out];exact hi,λk hf=> .inl hf,hk⟩
 · obtain⟨A',c',l',hl',hcut,hbi⟩:=qY h6 n (n:Nat) rfl (by omega);obtain⟨A2,c2,l2,hl2,hcut2,hb2⟩:=xB (h6.bytes (B:=w1.heap.size) (λk hf=>(hI1.2.2.1 k hf.1).2)) n (n:Nat) rfl (by omega);have cv:=fT hb2;have hT2:gL l e most=(l',e1,l2):=by
    rw[hT,hl'.out,hl2.out];by_cases he:e1=0
    · rw[if_neg (by simpa using he),if_neg (by omega),he]
    · have hn0:n=0:=hz he;rw[if_pos he,hn0];simp
   have HT:=ab hT2;have HBI:=ab hbi;have hq:decide ((l1.length:Int) < (n:Int))=false:=decide_eq_false (by omega);have hnl:¬l1.length < n:=hlong;clear hI1 hF1 hK1 h4 h5 h6 hz hT hT2 hbi hb2 hx hlong
   go_wp2_with fail
   go_ret
   obtain⟨hi,hf,hk⟩:=lj HI1.out (w2:=w1.setCell ⟨p,0,none⟩ (.slice A' l'.length c')) (e':=e1) ((Kept.refl (λk=>k=p) w1).setCell (p:=⟨p,0,none⟩) (.inl rfl) _) (H4.out.kI _) H5.out HBI.out;exact so HF1.out HK1.out ⟨_,F1,rfl,by rw[HT.out];rfl,by rw[HT.out];exact hi,λk hf=> .inl hf,hk⟩
end Go.Proofs.YtiafamacjpgjoaaGreatDoor
namespace Go.Proofs.YtiafamacjpgjoaaGreatDoor
open Go.RowKit Tide
theorem ze {s:ByteArray} {most:Int} (h:s.size<=100000) (hm:(s.size:Int)<=most) (r:List UInt8):gL (eB s ++ r) 0 most=(r,0,s.data.toList):=by
 have e:=gK (show s.size < 2 ^ 62 by omega) (s.data.toList ++ r) most hm;have hl:s.data.toList.length=s.size:=by rw[Array.length_toList];rfl
 unfold gL eB;rw[List.append_assoc,e];simp only;rw[if_neg (by simp),if_neg (by rw[List.length_append];omega),<-hl];simp
def PR (a:Nat->Addr) (W:World) (F:Nat->Prop) (B p:Nat) (l:List UInt8) (w:World):Prop:=∃F1,eL a w F1 B p l 0/\(∀k,F1 k->F k\/W.heap.size<=k)/\Kept F W w
section
variable {a:Nat->Addr} {W w w':World} {F:Nat->Prop} {B p n:Nat} {l:List UInt8}
theorem PR.start (h:eL a W F B p l 0):PR a W F B p l W:=⟨F,h,λ_ hk=> .inl hk,Kept.refl _ _⟩
theorem PR.eR (h:PR a W F B p l w) (hE:av W a) (hA:dh a F):av w a:=by obtain⟨_,_,_,hK⟩:=h;exact hE.kept hK hA
theorem PR.trans {F1:Nat->Prop} (hF1:∀k,F1 k->F k\/W.heap.size<=k) (hK:Kept F W w) (h:PR a w F1 B p l w'):PR a W F B p l w':=by
 obtain⟨F2,hO,hF2,hK2⟩:=h;refine⟨F2,hO,λk hf=> ?_,hK.trans hK2 hF1⟩;rcases hF2 k hf with h|h
 · exact hF1 k h
 · exact .inr (Nat.le_trans hK.size h)
def vH (a:Nat->Addr) (W:World) (F:Nat->Prop) (B p:Nat) (l:List UInt8) (v:Value) (e:Ending) (w:World):Prop:=e= .returned v/\PR a W F B p l w
theorem PR.num (h:PR a W F B p (aq n ++ l) w) (hE:av W a) (hA:dh a F) (hn:n < 2 ^ 62) {most:Int} (hm:(n:Int)<=most) (hl:(aq n ++ l).length<=100000):
 Calls Tryz.prog 121 #[.pointer (some ⟨p,0,none⟩),.int .i64 most] w (vH a W F B p l (.int .i64 (n:Nat))):=by
 have hE':=h.eR hE hA;obtain⟨F1,hO,hF1,hK⟩:=h;have hc:=oq a w F1 B p _ 0 most hO hl hE';unfold jT at hc;rw[gK hn l most hm]at hc;exact hc.mono λ_ _ ⟨v,F2,he,hv,hO2,hF2,hK2⟩=>⟨by rw[he,hv],PR.trans hF1 hK ⟨F2,hO2,hF2,hK2⟩⟩
end
end Go.Proofs.YtiafamacjpgjoaaGreatDoor
