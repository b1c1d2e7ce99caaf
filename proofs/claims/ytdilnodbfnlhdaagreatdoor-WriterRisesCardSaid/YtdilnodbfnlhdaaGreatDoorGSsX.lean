import Derived.Test.YtdilnodbfnlhdaaGreatDoorGSsV
import Derived.Test.YtdilnodbfnlhdaaGreatDoorGSsF
import Derived.Test.YtdilnodbfnlhdaaGreatDoorGSsC
import Derived.Test.YtdilnodbfnlhdaaGreatDoorGSsR
set_option maxRecDepth 100000
set_option maxHeartbeats 4000000
namespace Go.Proofs.YtdilnodbfnlhdaaGreatDoor
open Go.RowKit Go.Shelf Tide
attribute [local go_sem] Oper.semAt_some
def RS (D:az) (W0:World) (Fd Fs:Nat->Prop) (p dev:Nat) (us:List ah) (d:Dv) (W:World):Prop:=
 ∃F' G' vs',D W F' dev d/\aO W G' p dev us vs'/\(∀k,F' k->¬G' k)/\(∀k,F' k->Fd k\/W0.heap.size<=k)/\(∀k,G' k->Fs k\/W0.heap.size<=k)/\Kept (λk=>Fd k\/Fs k) W0 W
section
variable {D:az} {x:Nat->Addr} {W W0 W1:World} {Fd Fs:Nat->Prop} {p dev:Nat} {us:List ah} {vs:Value} {d:Dv}
theorem RS.cells (hD:aC x D) (h:RS D W0 Fd Fs p dev us d W):∃F' G' vs',D W F' dev d/\aO W G' p dev us vs'/\(∀k,F' k->¬G' k)/\(∀k,F' k->Fd k\/W0.heap.size<=k)/\(∀k,G' k->Fs k\/W0.heap.size<=k)/\Kept (λk=>Fd k\/Fs k) W0 W/\(∀k,F' k\/G' k->∃o,W.heap[k]? =some o/\o.isCells=true):=by
 obtain⟨F,G,v,h1,h2,h3,h4,h5,h6⟩:=h;obtain⟨F',g1,g2,g3⟩:=hD.tight _ _ _ _ h1;have ht:=h2.tight;refine⟨F',_,v,g1,ht,λk hk hg=> ?_,λk hk=>h4 k (g2 k hk),λk hk=> ?_,h6,λk hk=> ?_⟩
 · rcases hg with rfl|e
   · exact h3 _ (g2 _ hk) h2.fp.1
   · exact h3 _ (g2 _ hk) (h2.fp.2 _ e)
 · rcases hk with rfl|e
   · exact h5 _ h2.fp.1
   · exact h5 _ (h2.fp.2 _ e)
 · rcases hk with hk|rfl|e
   · exact g3 k hk
   · exact⟨_,h2.block,rfl⟩
   · obtain⟨cur,ho⟩:=fG h2.used e;exact⟨_,ho,rfl⟩
theorem RS.kept (hD:aC x D) (h:RS D W0 Fd Fs p dev us d W) {G:Nat->Prop} (hk:Kept G W W1) (hG:∀k,G k->W0.heap.size<=k/\∀o,W.heap[k]? =some o->o.isCells=false):RS D W0 Fd Fs p dev us d W1:=by
 obtain⟨F,G',v,h1,h2,h3,h4,h5,h6,h7⟩:=h.cells hD;have hn:∀k,F k\/G' k->¬G k:=λk hf hg=>by obtain⟨o,ho,hc⟩:=h7 k hf;rw[(hG k hg).2 o ho]at hc;cases hc
 exact⟨F,G',v,hD.an _ _ _ _ _ _ h1 hk (λk hf=>hn k (.inl hf)),h2.an hk (λk hg=>hn k (.inr hg)),h3,h4,h5,h6.trans hk (λk hg=> .inr (hG k hg).1)⟩
theorem AA {β:Type} (hD:aC x D) {B:Nat} (hB:W0.heap.size<=B) (us:β->List ah) (d:β->Dv):OwnFrom B (λ(s:β) X=>RS D W0 Fd Fs p dev (us s) (d s) X):=by rintro s A C row h hg hr;refine h.kept hD (G:=λk=>row=some k) ((Kept.refl _ A).grown hg (λk e=> .inl e)) (λk e=> ?_);obtain⟨h1,o,ho,hc⟩:=hr k e;exact⟨by omega,λo' ho'=>by rw[ho]at ho';injection ho' with ho';rw[<-ho',hc]⟩
theorem RS.start (hd:D W Fd dev d) (h:aO W Fs p dev us vs) (hap:∀k,Fd k->¬Fs k):RS D W Fd Fs p dev us d W:=⟨Fd,Fs,vs,hd,h,hap,λ_ h=> .inl h,λ_ h=> .inl h,Kept.refl _ _⟩
theorem RS.below (hD:aC x D) (h:RS D W0 Fd Fs p dev us d W) (hb:Below W.heap.size W W1):RS D W0 Fd Fs p dev us d W1:=h.kept hD (G:=λ_=>False) (Kept.al hb) (λ_ h=>h.elim)
theorem RS.trans {W2:World} {us':List ah} {d':Dv} {F G:Nat->Prop} (hk:Kept (λk=>Fd k\/Fs k) W0 W1) (hf:∀k,F k->Fd k\/W0.heap.size<=k) (hg:∀k,G k->Fs k\/W0.heap.size<=k) (h:RS D W1 F G p dev us' d' W2):RS D W0 Fd Fs p dev us' d' W2:=by
 obtain⟨F',G',v,h1,h2,h3,h4,h5,h6⟩:=h;have hz:=hk.size;refine⟨F',G',v,h1,h2,h3,λk hk=>(h4 k hk).elim (hf k) (λh=> .inr (by omega)),λk hk=>(h5 k hk).elim (hg k) (λh=> .inr (by omega)),hk.trans h6 (λk hk=> ?_)⟩;rcases hk with hk|hk
 · exact(hf k hk).imp .inl id
 · exact(hg k hk).imp .inr id
theorem RS.late {W2:World} {b:Nat} (hD:aC x D) (hb0:Below W.heap.size W W0) (h:RS D W0 Fd Fs p dev us d W1) (hF:∀k,Fd k\/Fs k->k < W.heap.size) (hb:W.heap.size<=b) (hb':b < W0.heap.size) (hk:Kept (λk=>k=b) W1 W2):RS D W Fd Fs p dev us d W2:=by
 obtain⟨F',G',v,h1,h2,h3,h4,h5,h6⟩:=h;have hz:=hb0.size;have hn:∀k,F' k\/G' k->¬k=b:=λk hk e=>by
  rcases hk with hk|hk
  · rcases h4 k hk with h7|h7
    · have:=hF k (.inl h7);omega
    · omega
  · rcases h5 k hk with h7|h7
    · have:=hF k (.inr h7);omega
    · omega
 exact⟨F',G',v,hD.an _ _ _ _ _ _ h1 hk (λk hf=>hn k (.inl hf)),h2.an hk (λk hg=>hn k (.inr hg)),h3,λk hk=>(h4 k hk).imp id (λh=>by omega),λk hk=>(h5 k hk).imp id (λh=>by omega),
  ((Kept.al hb0).trans h6 (λk h=> .inl h)).trans hk (λk e=> .inr (by omega))⟩
theorem DS (hD:aC x D) (hE:E3 x W) (hd:D W Fd dev d) (hpe:d.aq= []) (h:aO W Fs p dev us vs) (hap:∀k,Fd k->¬Fs k) (hNG:∀k,Fd k->19<=k) (hNW:19<=W.heap.size) (f no:Nat) (hf:f+64<=d.ae.length / 64) (hno:no < 2 ^ 63) (hmax:us.length<=1000):
 Calls Tryz.prog 174 #[.pointer (some ⟨p,0,none⟩),.int .i64 (f:Nat),.int .i64 (no:Nat)] W λe w'=>e= .returned (if(bx d f no).1 then .nilIface else ai (x 2))/\RS D W Fd Fs p dev (if(bx d f no).1 then us ++ [⟨no,f,f+1⟩]else us) (bx d f no).2 w':=by
 have hlt:=h.lt;refine(DT hD hE hd hpe h hap hNG hNW f no hf hno hmax).mono ?_;rintro e w' (⟨h0,rfl,F',G',v,h1,h2,h3,h4,h5,h6⟩|⟨h0,rfl,F',h1,h4,h6⟩)
 · rw[h0];exact⟨rfl,F',G',v,h1,h2,h3,h4,h5,h6⟩
 · rw[h0];refine⟨rfl,F',Fs,vs,h1,h.an h6 (λk hs hf=>hap k hf hs),λk hk hs=> ?_,h4,λk hk=> .inl hk,h6.mono (λk _ h=> .inl h)⟩;rcases h4 k hk with h7|h7
   · exact hap k h7 hs
   · have:=hlt k hs;omega
end
end Go.Proofs.YtdilnodbfnlhdaaGreatDoor
namespace Go.Proofs.YtdilnodbfnlhdaaGreatDoor
open Go.RowKit Go.Shelf Tide
attribute [local go_sem] Oper.semAt_some
theorem ar.xF {W:World} {a:Nat->Addr} (h:ar W a):W.cell? ⟨12,0,none⟩=some (ai (a 12)):=by have h0:=h.var 12 (by omega);simp only[bA,List.getD_cons_zero,List.getD_cons_succ]at h0;exact h0
def bW (us:List ah):Nat:=(gi us+1).toNat
section
variable {D:az} {a:Nat->Addr} {W:World} {Fd Fs:Nat->Prop} {p dev:Nat} {us:List ah} {vs:Value} {d:Dv}
theorem xK (hD:aC (three a) D) (hE:ar W a) (hd:D W Fd dev d) (hpe:d.aq= []) (h:aO W Fs p dev us vs) (hap:∀k,Fd k->¬Fs k) (hNG:∀k,Fd k->19<=k) (hNW:19<=W.heap.size) (hmax:us.length<=1000) (hlast: -1<=gi us/\gi us < 2 ^ 62):
 Calls Tryz.prog 160 #[.pointer (some ⟨p,0,none⟩)] W λe w'=>
  (dB us (d.ae.length / 64 / 64)= []/\e= .returned (ai (a 12))/\Below W.heap.size W w')\/
  (∃k r,dB us (d.ae.length / 64 / 64)=k :: r/\e= .returned (if(bx d (64 * k) (bW us)).1 then .nilIface else ai (a 11))/\
    RS D W Fd Fs p dev (if(bx d (64 * k) (bW us)).1 then us ++ [⟨bW us,64 * k,64 * k+1⟩]else us) (bx d (64 * k) (bW us)).2 w'):=by
 have CF:=ab (λw=>xC p w);have HS:=ab h;have HDv:=ab hd;have HE:=ab hE;have HAp:=ab hap;have HG:=ab hNG;have HFl:=ab (hD.lt _ _ _ _ hd);have HSl:=ab h.lt;have HR:=ab (hD.right _ _ _ _ hd);have HLa:=ab hlast;obtain⟨WA,hWA⟩:=aa ((W.alloc (.cells #[.pointer (some ⟨p,0,none⟩)] 135)).alloc (.cells #[.nilIface] 50));have hza:WA.heap.size=W.heap.size+2:=by rw[<-hWA];simp
 have hba:Below W.heap.size W WA:=by rw[<-hWA];exact((Below.refl W.heap.size W).alloc (Nat.le_refl _) _).alloc (by simp) _
 have xs:Boxed WA W.heap.size 135 (.pointer (some ⟨p,0,none⟩)):=by rw[<-hWA];exact(Boxed.new W _ _).alloc _
 have xe:Boxed WA (W.heap.size+1) 50 .nilIface:=by
  rw[<-hWA];have:=Boxed.new (W.alloc (.cells #[.pointer (some ⟨p,0,none⟩)] 135)) 50 .nilIface
  rwa[World.size_alloc]at this
 have CL:=ab (rn (h.below hba) hmax);have cs:=xs.cell;have HWA:=ab hWA;have HZA:=ab hza;have HBA:=ab hba;have XE:=ab xe;have XS:=ab xs;obtain⟨la,hla⟩:=aa (gi us);have HLe:=ab hla;rw[hla]at CL;have hlb:=HLa.out;rw[hla]at hlb;have q0:(la == 9223372036854775807)=false:=by rw[beq_eq_false_iff_ne];omega
 clear h hd hE hap hNG hlast hWA hza hba xs xe hla hlb;refine(callsIn_wide (n:=7)).1 ?_;refine callsIn_of_wp_marks Tryz.func160 rfl trivial ?_ rfl;simp only[Tryz.ntmps160,List.size_toArray,List.length_cons,List.length_nil,Nat.reduceAdd,Nat.reduceSub,Array.replicate_succ,Array.replicate_zero,List.push_toArray,List.append_toArray,List.nil_append,List.cons_append]
 gi_wp2_with fail
 rw[HWA.out];refine⟨trivial,(callsIn_wide.2 CL.out).mono ?_⟩;rintro e w1 ⟨rfl,kq,rfl⟩;have cs1:(WA.drewN kq).cell? ⟨W.heap.size,0,none⟩=_:=cs
 gi_wp2_with fail
 have hzb:(WA.drewN kq).heap.size=W.heap.size+2:=HZA.out;have CF2:=CF.out (WA.drewN kq);rw[hzb]at CF2;refine⟨trivial,(callsIn_wide.2 CF2).mono ?_⟩;rintro e w2 ⟨rfl,hw2⟩;have hz2:w2.heap.size=W.heap.size+3:=by rw[hw2,World.size_alloc,hzb]
 have hb2:Below W.heap.size W w2:=by rw[hw2];exact(HBA.out.trans ((dp WA kq).mono HBA.out.size)).alloc (by rw[hzb];omega) _
 have xs2:Boxed w2 W.heap.size 135 (.pointer (some ⟨p,0,none⟩)):=by rw[hw2];exact(show Boxed (WA.drewN kq) _ _ _ from XS.out).alloc _
 have xe2:Boxed w2 (W.heap.size+1) 50 .nilIface:=by rw[hw2];exact(show Boxed (WA.drewN kq) _ _ _ from XE.out).alloc _
 have xf2:Boxed w2 (W.heap.size+2) 135 (.pointer (some ⟨p,0,none⟩)):=by
  rw[hw2];have:=Boxed.new (WA.drewN kq) 135 (.pointer (some ⟨p,0,none⟩))
  rwa[hzb]at this
 have HD2:=ab (hD.an _ _ _ (λ_=>False) _ _ HDv.out (Kept.al hb2) (λ_ _ h=>h));have HS2:=ab (HS.out.below hb2);have HE2:=ab (HE.out.below hb2);have HZ2:=ab hz2;have HB2:=ab hb2;have XE2:=ab xe2;have XS2:=ab xs2;have hE2:=HE2.out;clear hw2 CF CF2 CL cs cs1 hzb HWA HZA HBA XE XS hz2 hb2 xs2 xe2 hE2
 gi_wp2_with fail
 refine Bk rfl (by omega) (gf:=178) rfl trivial (enters_of Tryz.func178 (by kernel_rfl) rfl) (encs:=iQ)
  (λ_=>rfl) (xD _ (by omega) (W.heap.size+2) w2 hD HD2.out HS2.out hmax xf2 (E:=λk=>False) (λk e=>e.elim)) (λh k=>h.trans k (λj hj=> .inl hj)) yE
  (λpre X=>pre= []/\Below w2.heap.size w2 X)
  (λcd _ X=>cd= .ret/\∃k r,dB us (d.ae.length / 64 / 64)=k :: r/\Boxed X (W.heap.size+1) 50 (if(bx d (64 * k) (bW us)).1 then .nilIface else ai (a 11))/\
    RS D W Fd Fs p dev (if(bx d (64 * k) (bW us)).1 then us ++ [⟨bW us,64 * k,64 * k+1⟩]else us) (bx d (64 * k) (bW us)).2 X)
  ?hI ?hIx ⟨rfl,Below.refl _ _⟩
  (λy a' X=>a'= { tmps:= #[.pointer (some ⟨p,0,none⟩),.pointer (some ⟨W.heap.size,0,none⟩),.pointer (some ⟨W.heap.size+1,0,none⟩),.int .i64 ((64 * y:Nat):Int),.pointer (some ⟨p,0,none⟩),.int .i64 la,.bool false,undef,.pointer (some ⟨p,0,none⟩),.func (.func 178) #[] #[.pointer (some ⟨W.heap.size+2,0,none⟩)],.int .i64 ((64 * y:Nat):Int),undef,undef,undef,undef,undef,undef,undef],defers:= [] })
  (λ_ _=>fU _ _) ?assign ?body ?done ?stop
 case hI=>exact OwnFrom.and (fU _ _) (ownFrom_below (Nat.le_refl _) (Nat.le_refl _))
 case hIx=>refine λcd=>OwnFrom.and (fU _ _) ?_;rintro pre A C row ⟨k,r,h1,h2,h3⟩ hg hr;exact⟨k,r,h1,iB (β:=Unit) _ _ _ (λ_=>_) () A C row h2 hg hr,AA (β:=Unit) hD (by have:=HZ2.out;omega) (λ_=>_) (λ_=>_) () A C row h3 hg hr⟩
 case assign=>
  rintro l pre y A0 K ⟨hI1,hI2⟩ hN hK
  gi_wp2_with fail
  exact hK _ _ (KeepsFrom.refl _ _) (Kept.refl _ _) ⟨hI1,hI2⟩ (by simp)
 case body=>
  rintro l pre y a' A0 hl hr ⟨rfl,hI2⟩ rfl hN;obtain⟨r,hL⟩:∃r,dB us (d.ae.length / 64 / 64)=y :: r:=by
   have h1:=hN.elem;cases hc:dB us (d.ae.length / 64 / 64) with
   | nil=>rw[hc]at h1;simp at h1
   | cons z r=>rw[hc]at h1;simp at h1;exact⟨r,by rw[h1]⟩
  have hym:y < d.ae.length / 64 / 64:=by have h1:=hN.mem;unfold dB at h1;exact List.mem_range.1 (List.mem_filter.1 h1).1
  have hll:=HR.out.2.2.1;have hlb:=HLa.out;obtain⟨no,hno⟩:=aa (bW us);have hlan:la+1=(no:Int):=by rw[<-hno,<-HLe.out];unfold bW;omega
  have hno62:no < 2 ^ 63:=by rw[HLe.out]at hlb;omega
  have hz2:=HZ2.out;have hbA:Below W.heap.size W A0.drew:=(HB2.out.trans (hI2.mono (by omega))).drew;have bs:=(show Boxed A0 W.heap.size 135 _ from(hI2.block _ XS2.out.lt).trans XS2.out);have be:=(show Boxed A0 (W.heap.size+1) 50 _ from(hI2.block _ XE2.out.lt).trans XE2.out);have c0:=bs.cell;have hFS:∀k,Fd k\/Fs k->k < W.heap.size:=λk hk=>hk.elim (HFl.out k) (HSl.out k);have CL2:=ab (show Calls Tryz.prog 172 #[.pointer (some ⟨p,0,none⟩)] A0.drew (λe w'=>e= .returned (.int .i64 la)/\∃k,w'=A0.drew.drewN k) from by have:=rn (HS.out.below hbA) hmax;rw[HLe.out]at this;exact this)
  have ct:∀k5,Calls Tryz.prog 174 #[.pointer (some ⟨p,0,none⟩),.int .i64 ((64 * y:Nat):Int),.int .i64 (no:Int)] (A0.drewN (1+k5)) (λe w'=>∃v,e= .returned v/\(v= .nilIface\/∃ad,v=ai ad)/\
   Hid (w'.cell? ⟨W.heap.size+1,0,none⟩=some .nilIface/\w'.frozen? ⟨W.heap.size+1,0,none⟩=false/\W.heap.size+1 < w'.heap.size/\KeepsFrom w2.heap.size A0 (w'.setCell ⟨W.heap.size+1,0,none⟩ v)/\
    Boxed (w'.setCell ⟨W.heap.size+1,0,none⟩ v) (W.heap.size+1) 50 (if(bx d (64 * y) (bW us)).1 then .nilIface else ai (a 11))/\
    RS D W Fd Fs p dev (if(bx d (64 * y) (bW us)).1 then us ++ [⟨bW us,64 * y,64 * y+1⟩]else us) (bx d (64 * y) (bW us)).2 (w'.setCell ⟨W.heap.size+1,0,none⟩ v))):=λk5=>by
   have hbk:Below W.heap.size W (A0.drewN (1+k5)):=(HB2.out.trans (hI2.mono (by omega))).trans ((dp A0 (1+k5)).mono (by have:=hI2.size;omega));have hbz:(A0.drewN (1+k5)).heap.size=A0.heap.size:=rfl;have hAz:=hI2.size;refine(DS hD (E3.iV (HE.out.below hbk)) (hD.an _ _ _ (λ_=>False) _ _ HDv.out (Kept.al hbk) (λ_ _ h=>h)) hpe (HS.out.below hbk) HAp.out HG.out (Nat.le_trans hNW hbk.size) (64 * y) no (by omega) hno62 hmax).mono ?_;rintro e w6 ⟨rfl,hrs⟩;rw[hno];obtain⟨F',G',v',g1,g2,g3,g4,g5,g6⟩:=hrs;have hne:∀k,W.heap.size<=k->¬(Fd k\/Fs k):=λk hk h=>by have:=hFS k h;omega
   have be6:Boxed w6 (W.heap.size+1) 50 .nilIface:=g6.heap (show(A0.drewN (1+k5)).heap[W.heap.size+1]? =_ from be) (hne _ (by omega));refine⟨_,rfl,by split;exact .inl rfl;exact .inr ⟨_,rfl⟩,ab ⟨be6.cell,be6.frozen,be6.lt,⟨?_,λk o hB hk ho=> ?_⟩,be6.set _,?_⟩⟩
   · have:=g6.size;rw[hbz]at this;simpa[World.setCell]using this
   · rw[Below.heap_setCell _ _ _ _ (show k≠W.heap.size+1 by omega)];exact g6.heap (show(A0.drewN (1+k5)).heap[k]? =_ from hk) (hne _ (by omega))
   · exact RS.late hD hbk ⟨F',G',v',g1,g2,g3,g4,g5,g6⟩ hFS (b:=W.heap.size+1) (by omega) (by rw[hbz];omega) ((Kept.refl (λk=>k=W.heap.size+1) w6).setCell (p:=⟨W.heap.size+1,0,none⟩) (.inl rfl) _)
  have CT:=ab ct;have HL:=ab hL;have HWq:=ab (eC (no:Int) (by omega) (by omega));obtain⟨f,hf⟩:=aa ((((64 * y:Nat)):Int));rw[hf]at CT ⊢;clear ct hL hym hll hlb hno hno62 hz2 hbA bs be hFS hf hI2 hN hr xf2;obtain⟨wq,vq⟩:=HWq.out
  gi_wp2_with fail
  refine wpIn_region_any (by kernel_rfl) ?_;refine mJ (nQ (by kernel_rfl)) (λ⟨_,_,h⟩=>h) _ _ _ _ ?_;change wpAny _ _ _ _ _ _ _ (World.drew _);refine wpAny_take (i:=1) (v:= ?v11) rfl (by kernel_rfl) (by kernel_rfl) (by kernel_rfl) (λ_ _ _ h=>h) (Or.inl ⟨by rfl,?h11⟩) ?r11
  case h11=>
   intro w
   go_simp
   try with_reducible rfl
  refine wpAny_ready (rs:= [0,2]) (by kernel_rfl) (by simp) ?_;refine AllReady.cons rfl (λK hK=> ?_) (AllReady.cons rfl (λK hK=> ?_) AllReady.nil)
  · go_simp
    refine hK _ _ ?_;clear hK K;refine wpAny_ready (rs:= [2]) (by kernel_rfl) (by simp) ?_;refine AllReady.cons rfl (λK hK=> ?_) AllReady.nil
    go_simp
    refine hK _ _ ?_;clear hK K;refine wpAny_ready (rs:= [3]) (by kernel_rfl) (by simp) ?_;refine AllReady.cons rfl (λK hK=> ?_) AllReady.nil
    go_simp
    (with_reducible refine(CL2.out).mono ?_)
    rintro e w5 ⟨rfl,k5,rfl⟩;refine hK _ _ ?_;clear hK K;refine wpAny_take (i:=4) (v:= ?v12) rfl (by kernel_rfl) (by kernel_rfl) (by kernel_rfl) (λ_ _ _ h=>h) (Or.inl ⟨by rfl,?h12⟩) ?r12
    case h12=>
     intro w
     go_simp
     try with_reducible rfl
    refine wpAny_ready (rs:= [5]) (by kernel_rfl) (by simp) ?_;refine AllReady.cons rfl (λK hK=> ?_) AllReady.nil
    go_simp
    (with_reducible refine(CT.out k5).mono ?_)
    rintro e w6 ⟨v6,rfl,hv6,hr6⟩;have c66:=hr6.out.1;have f66:=hr6.out.2.1;have l66:=hr6.out.2.2.1;rcases hv6 with rfl|⟨ad,rfl⟩
    all_goals
     refine hK _ _ ?_;clear hK K;refine wpAny_ready (rs:= [6]) (by kernel_rfl) (by simp) ?_;refine AllReady.cons rfl (λK hK=> ?_) AllReady.nil
     go_simp
     refine hK _ _ ?_;clear hK K;refine wpAny_done (by kernel_rfl) ?_ _
     gi_wp2_with fail
     obtain⟨_,_,_,r1,r2⟩:=hr6.out;exact⟨r1,rfl,y,r,HL.out,r2⟩
  · go_simp
    refine hK _ _ ?_;clear hK K;refine wpAny_ready (rs:= [0,3]) (by kernel_rfl) (by simp) ?_;refine AllReady.cons rfl (λK hK=> ?_) (AllReady.cons rfl (λK hK=> ?_) AllReady.nil)
    · go_simp
      refine hK _ _ ?_;clear hK K;refine wpAny_ready (rs:= [3]) (by kernel_rfl) (by simp) ?_;refine AllReady.cons rfl (λK hK=> ?_) AllReady.nil
      go_simp
      (with_reducible refine(CL2.out).mono ?_)
      rintro e w5 ⟨rfl,k5,rfl⟩;refine hK _ _ ?_;clear hK K;refine wpAny_take (i:=4) (v:= ?v13) rfl (by kernel_rfl) (by kernel_rfl) (by kernel_rfl) (λ_ _ _ h=>h) (Or.inl ⟨by rfl,?h13⟩) ?r13
      case h13=>
       intro w
       go_simp
       try with_reducible rfl
      refine wpAny_ready (rs:= [5]) (by kernel_rfl) (by simp) ?_;refine AllReady.cons rfl (λK hK=> ?_) AllReady.nil
      go_simp
      (with_reducible refine(CT.out k5).mono ?_)
      rintro e w6 ⟨v6,rfl,hv6,hr6⟩;have c66:=hr6.out.1;have f66:=hr6.out.2.1;have l66:=hr6.out.2.2.1;rcases hv6 with rfl|⟨ad,rfl⟩
      all_goals
       refine hK _ _ ?_;clear hK K;refine wpAny_ready (rs:= [6]) (by kernel_rfl) (by simp) ?_;refine AllReady.cons rfl (λK hK=> ?_) AllReady.nil
       go_simp
       refine hK _ _ ?_;clear hK K;refine wpAny_done (by kernel_rfl) ?_ _
       gi_wp2_with fail
       obtain⟨_,_,_,r1,r2⟩:=hr6.out;exact⟨r1,rfl,y,r,HL.out,r2⟩
    · go_simp
      (with_reducible refine(CL2.out).mono ?_)
      rintro e w5 ⟨rfl,k5,rfl⟩;refine hK _ _ ?_;clear hK K;refine wpAny_take (i:=4) (v:= ?v14) rfl (by kernel_rfl) (by kernel_rfl) (by kernel_rfl) (λ_ _ _ h=>h) (Or.inl ⟨by rfl,?h14⟩) ?r14
      case h14=>
       intro w
       go_simp
       try with_reducible rfl
      refine wpAny_ready (rs:= [0]) (by kernel_rfl) (by simp) ?_;refine AllReady.cons rfl (λK hK=> ?_) AllReady.nil
      go_simp
      refine hK _ _ ?_;clear hK K;refine wpAny_ready (rs:= [5]) (by kernel_rfl) (by simp) ?_;refine AllReady.cons rfl (λK hK=> ?_) AllReady.nil
      go_simp
      (with_reducible refine(CT.out k5).mono ?_)
      rintro e w6 ⟨v6,rfl,hv6,hr6⟩;have c66:=hr6.out.1;have f66:=hr6.out.2.1;have l66:=hr6.out.2.2.1;rcases hv6 with rfl|⟨ad,rfl⟩
      all_goals
       refine hK _ _ ?_;clear hK K;refine wpAny_ready (rs:= [6]) (by kernel_rfl) (by simp) ?_;refine AllReady.cons rfl (λK hK=> ?_) AllReady.nil
       go_simp
       refine hK _ _ ?_;clear hK K;refine wpAny_done (by kernel_rfl) ?_ _
       gi_wp2_with fail
       obtain⟨_,_,_,r1,r2⟩:=hr6.out;exact⟨r1,rfl,y,r,HL.out,r2⟩
 case done=>
  rintro D0 A0 hD0 ⟨hI1,hI2⟩ hdf;have br:=(show Boxed A0 (W.heap.size+1) 50 .nilIface from(hI2.block _ XE2.out.lt).trans XE2.out);have cr:=br.cell;have fr:=br.frozen;have e12:=(HE2.out.below hI2).xF;have BR:=ab br;have HDF:=ab hdf;have HI1:=ab hI1;have HI2:=ab hI2;clear hdf hI1 hI2 br
  gi_wp2_with fail
  refine⟨by simp,.inl ⟨_,_,rfl,run_takeDeferred ((Below.heap_setCell _ _ _ _ (show D0≠W.heap.size+1 by have:=HZ2.out;omega)).trans HDF.out),?_⟩⟩;have hc:=(jt (o:= .deferred none) (BR.out.set (ai (a 12))) (show D0≠W.heap.size+1 by have:=HZ2.out;omega)).cell;refine⟨ai (a 12),by simp[results,Tryz.results160,go_sem,hc],.inl ⟨HI1.out,rfl,?_⟩⟩;have hbb:=(HB2.out.trans (HI2.out.mono (by have:=HZ2.out;omega))).setCell (p:=⟨W.heap.size+1,0,none⟩) (by show W.heap.size<=W.heap.size+1;omega) (ai (a 12));exact js hbb hbb.size (by have:=HZ2.out;omega)
 case stop=>
  rintro D0 cd pre A0 hD0 ⟨rfl,k,r,h1,h2,h3⟩ hdf;have H1:=ab h1;obtain⟨v,hv⟩:=aa ((if(bx d (64 * k) (bW us)).1 then Value.nilIface else ai (a 11)));rw[hv]at h2;have HV:=ab hv;have H2:=ab h2;have H3:=ab h3;have HDF:=ab hdf;clear h1 h2 h3 hdf hv
  gi_wp2_with fail
  refine⟨by simp,.inl ⟨_,_,rfl,run_takeDeferred HDF.out,?_⟩⟩;have hc:=(jt (o:= .deferred none) H2.out (show D0≠W.heap.size+1 by have:=HZ2.out;omega)).cell;refine⟨v,by simp[results,Tryz.results160,go_sem,hc],.inr ⟨k,r,H1.out,by rw[HV.out],?_⟩⟩;refine H3.out.kept hD (G:=λj=>j=D0) ((Kept.refl _ _).grown (grownBy_putObj' _ _ _) (λj e=> .inl (by injection e with e;exact e.symm))) (λj e=> ?_);subst e;refine⟨by have:=HZ2.out;omega,λo ho=> ?_⟩;rw[HDF.out]at ho;injection ho with ho;rw[<-ho];rfl
end
end Go.Proofs.YtdilnodbfnlhdaaGreatDoor
namespace Go.Proofs.YtdilnodbfnlhdaaGreatDoor
open Go.RowKit Go.Shelf Tide
def gE (us:List ah) (d:Dv) (b:List UInt8):Option Nat × Nat × List ah × Dv:=match us.getLast? with
 | none=>(some 12,0,us,d)
 | some u=>if(cS d u.first u.fin b).1=true then(none,u.no,us.set (us.length - 1) ⟨u.no,u.first,ax u.fin b.length⟩,(cS d u.first u.fin b).2) else(some 11,0,us,(cS d u.first u.fin b).2)
def bX (us:List ah) (d:Dv) (b:List UInt8):Option Nat × Nat × List ah × Dv:=
 if b.length < 1\/3968 < b.length then(some 3,0,us,d)
 else if gz us b.length=true then gE us d b
 else match dB us (d.ae.length / 64 / 64) with
  | []=>(some 12,0,us,d)
  | k :: _=>if(bx d (64 * k) (bW us)).1=true then gE (us ++ [⟨bW us,64 * k,64 * k+1⟩]) (bx d (64 * k) (bW us)).2 b else(some 11,0,us,(bx d (64 * k) (bW us)).2)
def jA (a:Nat->Addr):Option Nat->Value
 | none=> .nilIface
 | some k=>ai (a k)
theorem tU:∀ (us:List ah) (i:Nat) (u:ah) (z:Nat) (h:i < us.length),us[i]=u->(us.flatMap ah.cells).set (i * 3+2) (.int .i64 (z:Int))=(us.set i ⟨u.no,u.first,z⟩).flatMap ah.cells
 | [],_,_,_,h,_=>by simp at h
 | v :: r,0,u,z,_,e=>by simp only[List.getElem_cons_zero]at e;subst e;rfl
 | v :: r,i+1,u,z,h,e=>by have ih:=tU r i u z (by simpa using h) (by simpa using e);rw[List.flatMap_cons,List.set_cons_succ,List.flatMap_cons,<-ih,show(i+1) * 3+2=(i * 3+2)+3 by omega];rfl
section
variable {W:World} {Fs:Nat->Prop} {p dev:Nat} {us:List ah}
theorem aO.BU {b c i z:Nat} {u:ah} (h:aO W Fs p dev us (.slice (some ⟨b,0,none⟩) us.length c)) (hi:i < us.length) (hu:us[i]=u):
 aO (W.setCell ⟨b,i * 3+2,none⟩ (.int .i64 (z:Int))) Fs p dev (us.set i ⟨u.no,u.first,z⟩) (.slice (some ⟨b,0,none⟩) us.length c):=by
 have hpb:p≠b:=λe=>j7 h.block h.used (by decide) (by rw[e];rfl);have hset:Kept (λk=>k=b) W (W.setCell ⟨b,i * 3+2,none⟩ (.int .i64 (z:Int))):=(Kept.refl (λk=>k=b) W).setCell (p:=⟨b,i * 3+2,none⟩) (.inl rfl) _;have h2:=lU h.used (i * 3+2) (.int .i64 (z:Int));rw[tU us i u z hi hu]at h2
 exact { block:=h.block.kept hset hpb
         used:=by rw[List.length_set];exact h2
         fp:=h.fp
         lt:=λk hk=>Nat.lt_of_lt_of_le (h.lt k hk) hset.size }
end
end Go.Proofs.YtdilnodbfnlhdaaGreatDoor
namespace Go.Proofs.YtdilnodbfnlhdaaGreatDoor
open Go.RowKit Go.Shelf Tide
theorem ar.xB {W:World} {a:Nat->Addr} (h:ar W a):W.cell? ⟨2,0,none⟩=some (ai (a 3)):=by have h0:=h.var 3 (by omega);simp only[bA,List.getD_cons_zero,List.getD_cons_succ]at h0;exact h0
section
variable {D:az} {a x:Nat->Addr} {W:World} {Fd Fs:Nat->Prop} {p dev:Nat} {us:List ah} {vs:Value} {d:Dv}
theorem uQ (hE:ar W a) {A:Option Addr} {n c:Nat} (hn:n < 1\/3968 < n) (hc:n<=9223372036854775807):Calls Tryz.prog 134 #[.pointer (some ⟨p,0,none⟩),.slice A n c] W λe w'=>e= .returned (.tuple #[.int .i64 0,ai (a 3)])/\Below W.heap.size W w':=by
 have e3:=hE.xB;have e3':W.drew.cell? ⟨2,0,none⟩=some (ai (a 3)):=e3;rcases hn with hn|hn
 · have q1:decide ((n:Int) < 1)=true:=decide_eq_true (by omega);clear hn
   go_enter Tryz.func134,Tryz.ntmps134
   go_wp2_with fail
   go_quiet (fail)
   go_wp2_with fail
   go_ret2
   exact⟨rfl,dp W _⟩
 · have q1:decide ((n:Int) < 1)=false:=decide_eq_false (by omega);have q2:decide ((3968:Int) < n)=true:=decide_eq_true (by omega);clear hn
   go_enter Tryz.func134,Tryz.ntmps134
   go_wp2_with fail
   go_quiet (fail)
   go_wp2_with fail
   go_ret2
   exact⟨rfl,dp W _⟩
theorem DP {d:Dv} {f no n:Nat} (hf:f+64<=n) (hn:d.ae.length=64 * n):(bx d f no).2.ae.length=64 * n:=by
 have h1:=l6 (d:=d) (i:=f) (whole:=aN 4096) (m:=64) (dr 4096) hf hn;unfold bx;split
 · exact l6 (d:=(bR d f (aN 4096) 64).2) (i:=f) (whole:=dj no) (m:=1) (gA no) (by omega) h1
 · exact h1
theorem DQ {d:Dv} {f no:Nat} (h:(bx d f no).1=true):(bx d f no).2.aq= []:=by
 unfold bx at h ⊢;split at h
 · rename_i hc;rw[if_pos hc];exact ov h
 · cases h
structure kc (n:Nat) (us:List ah):Prop where
 len:us.length<=999
 on:∀u ∈ us,u.first+64<=n/\u.first < u.fin/\u.fin<=100000
 last: -1<=gi us/\gi us < 2 ^ 61
theorem pE {W1:World} {F1 G1:Nat->Prop} {us1:List ah} {u:ah} {K gb cc be:Nat}
 (hK:us1.length=K+1) (hu':us1[K]? =some u)
 (hk01:Kept (λk=>Fd k\/Fs k) W W1) (hf1:∀k,F1 k->Fd k\/W.heap.size<=k) (hg1:∀k,G1 k->Fs k\/W.heap.size<=k)
 (hs:aO W1 G1 p dev us1 (.slice (some ⟨gb,0,none⟩) (K+1) cc)) (hap:∀k,F1 k->¬G1 k)
 {W2:World} {F2:Nat->Prop} {d2:Dv} (hD:aC x D) (hd2:D W2 F2 dev d2) (hf2:∀k,F2 k->F1 k\/W1.heap.size<=k) (hk12:Kept F1 W1 W2):
 RS D W Fd Fs p dev (us1.set K ⟨u.no,u.first,be⟩) d2 (W2.setCell ⟨gb,K * 3+2,none⟩ (.int .i64 (be:Int))):=by
 obtain⟨hi,hu⟩:=List.getElem?_eq_some_iff.1 hu';have hs2:=hs.an hk12 (λk hg hf=>hap k hf hg);have hgb:G1 gb:=hs.fp.2 gb rfl;have hz:=hk01.size;have hne:∀k,F2 k->¬G1 k:=λk hf hg=>by
  rcases hf2 k hf with h|h
  · exact hap k h hg
  · have:=hs.lt k hg;omega
 rw[<-hK]at hs2;have hr:=hs2.BU (z:=be) hi hu;have hset:Kept (λk=>k=gb) W2 (W2.setCell ⟨gb,K * 3+2,none⟩ (.int .i64 (be:Int))):=(Kept.refl (λk=>k=gb) W2).setCell (p:=⟨gb,K * 3+2,none⟩) (.inl rfl) _;refine⟨F2,G1,_,hD.an _ _ _ _ _ _ hd2 hset (λk hf e=>hne k hf (e ▸ hgb)),hr,hne,λk hk=> ?_,hg1,?_⟩
 · rcases hf2 k hk with h|h
   · exact hf1 k h
   · exact .inr (by omega)
 · refine((hk01.trans hk12 (λk hk=> ?_)).trans hset (λk e=> ?_))
   · exact(hf1 k hk).imp .inl id
   · subst e;exact(hg1 _ hgb).imp .inr id
theorem uP (hD:aC (three a) D) (hE:ar W a) (hd:D W Fd dev d) (hpe:d.aq= []) (h:aO W Fs p dev us vs) (hap:∀k,Fd k->¬Fs k) (hNG:∀k,Fd k\/Fs k->19<=k) (hNW:19<=W.heap.size) (hok:kc (d.ae.length / 64) us)
 (vb:Value) (b:List UInt8) (B:Nat) (hb:Bytes W B vb b) (hB:B<=W.heap.size) (hbF:∀k,vb.ownBlock=some k->¬(Fd k\/Fs k)):
 Calls Tryz.prog 134 #[.pointer (some ⟨p,0,none⟩),vb] W λe w'=>e= .returned (.tuple #[.int .i64 ((bX us d b).2.1:Nat),jA a (bX us d b).1])/\RS D W Fd Fs p dev (bX us d b).2.2.1 (bX us d b).2.2.2 w':=by
 obtain⟨Ab,cb,rfl,hbc1,hbc2,_⟩:=hb.form;by_cases hbad:b.length < 1\/3968 < b.length
 · have e:bX us d b=(some 3,0,us,d):=by unfold bX;rw[if_pos hbad]
   rw[e];refine(uQ hE hbad (by omega)).mono ?_;rintro e w' ⟨rfl,hb⟩;exact⟨rfl,(RS.start hd h hap).below hD hb⟩
 · have hn1:1<=b.length:=by omega
   have hn2:b.length<=3968:=by omega
   have hlt:=hD.lt _ _ _ _ hd;have hr:=hD.right _ _ _ _ hd;obtain⟨n,hn⟩:=aa b.length;have HN:=ab hn;have q1:decide ((n:Int) < 1)=false:=decide_eq_false (by omega);have q2:decide ((3968:Int) < (n:Int))=false:=decide_eq_false (by omega);have hfitU:∀u ∈ us,u.fin<=100000/\u.first<=100000:=λu hu=>by have:=hok.on u hu;omega
   have CFit:=ab (xo h (by have:=hok.len;omega) hfitU n (by omega));have HS:=ab h;have HDv:=ab hd;have HE:=ab hE;have HAp:=ab hap;have HG:=ab hNG;have HFl:=ab hlt;have HR:=ab hr;have HOk:=ab hok;have HBy:=ab hb;have HBF:=ab hbF;have HNb:=ab (And.intro hn1 hn2)
   have HA:=ab (show bX us d b=if gz us b.length=true then gE us d b
    else match dB us (d.ae.length / 64 / 64) with
     | []=>(some 12,0,us,d)
     | k :: _=>if(bx d (64 * k) (bW us)).1=true then gE (us ++ [⟨bW us,64 * k,64 * k+1⟩]) (bx d (64 * k) (bW us)).2 b else(some 11,0,us,(bx d (64 * k) (bW us)).2) by unfold bX;exact if_neg hbad)
   generalize bX us d b=R at *;rw[hn]at HA hbc1 ⊢;have hn9:n<=10000:=by omega
   clear h hd hE hap hNG hlt hr hok hb hbF hn1 hn2 hn hbad hfitU;cases hfit:gz us n with
   | true=>
     rw[hfit]at HA CFit
     go_enter Tryz.func134,Tryz.ntmps134
     go_wp2_with fail
     refine CFit.out.mono ?_;rintro en w1 ⟨rfl,hb1⟩;have HB1:=ab hb1;have hfu:=hfit;unfold gz at hfu;cases hlu:us.getLast? with
     | none=>rw[hlu]at hfu;cases hfu
     | some u=>
       rw[hlu]at hfu;have hfu2:ax u.fin n<=u.first+64:=of_decide_eq_true hfu;have hne:us≠ []:=λe=>by rw[e]at hlu;cases hlu
       have hpos:=List.length_pos_iff.2 hne;obtain⟨K,hK⟩:∃K,us.length=K+1:=⟨us.length - 1,by omega⟩;have hgt:us[K]'(by omega)=u:=by rw[List.getLast?_eq_getElem?,hK,Nat.add_sub_cancel,List.getElem?_eq_getElem (by omega)]at hlu;injection hlu
       have hum:u ∈ us:=hgt ▸ List.getElem_mem _;have hon:=HOk.out.on u hum;obtain⟨us1,hus1⟩:∃l,us=l:=⟨_,rfl⟩;obtain⟨d1,hd1⟩:∃x,d=x:=⟨_,rfl⟩;have HRS1:=ab (show RS D W Fd Fs p dev us1 d1 w1 by rw[<-hus1,<-hd1];exact(RS.start HDv.out HS.out HAp.out).below hD hb1);have HPe1:=ab (show d1.aq= [] by rw[<-hd1];exact hpe);have HLn:=ab (show d1.ae.length / 64=d.ae.length / 64 by rw[hd1]);have HA1:=ab (show R=gE us1 d1 b by rw[<-hus1,<-hd1];have:=HA.out;rw[if_pos (by trivial)]at this;exact this);have HKl:=ab (show K<=1000 by have:=HOk.out.len;omega);have HU1:=ab (show ∃_:us1.length=K+1,us1[K]'(by omega)=u/\u.first < u.fin/\ax u.fin n<=u.first+64/\u.first+64<=d1.ae.length / 64 by subst hus1 hd1;exact⟨hK,hgt,hon.2.1,hfu2,hon.1⟩);clear hfu hlu hfu2 hne hpos hK hgt hum hon hb1 hus1 hd1 HB1 CFit;obtain⟨F1,G1,vs1,hd1,hs1,hap1,hf1,hg1,hk1⟩:=HRS1.out;obtain⟨hL1,hgt,hfe,hfit1,himg1⟩:=HU1.out;obtain⟨gb,cc,rfl,hcc,hgb,hgp,k0,k1,k2,fz⟩:=hs1.cells K (by omega);obtain⟨hp,c0,c1,fzp⟩:=hs1.block.facts;rw[hgt]at k0 k1 k2;obtain⟨no,fi,en⟩:=u;dsimp only at k0 k1 k2 hfe hfit1 himg1;rw[hL1]at c1 hcc;have hs1':=hs1;rw[hL1]at hs1';have hNGd:∀k,F1 k->19<=k:=λk hk=>(hf1 k hk).elim (λh=>HG.out k (.inl h)) (λh=>Nat.le_trans hNW h);have hNGa:∀k,Fd k\/Fs k->19<=k:=HG.out;have hE1:E3 (three a) w1:=(E3.iV HE.out).jG hk1 hNGa;have hby1:Bytes w1 B (.slice Ab n cb) b:=by have:=kk HBy.out hB hk1 HBF.out;rw[HN.out]at this;exact this
       have hz1:=hk1.size;have hlast:us1.getLast? =some ⟨no,fi,en⟩:=by rw[List.getLast?_eq_getElem?,hL1,Nat.add_sub_cancel,List.getElem?_eq_getElem (by omega),hgt]
       have hR:R=if(cS d1 fi en b).1=true then(none,no,us1.set K ⟨no,fi,ax en n⟩,(cS d1 fi en b).2) else(some 11,0,us1,(cS d1 fi en b).2):=by rw[HA1.out];unfold gE;rw[hlast,hL1,Nat.add_sub_cancel,HN.out]
       have CW:=ab (λk=>uh (no:=no) hD (hE1.below (dp w1 k)) (hD.an _ _ _ (λ_=>False) _ _ hd1 (Kept.al (dp w1 k)) (λ_ _ h=>h)) HPe1.out (hs1.below (dp w1 k)) hap1 hNGd (Nat.le_trans hNW hz1) (fi:=fi) (en:=en) (.slice Ab n cb) b B (hby1.below (dp w1 k |>.mono (Nat.le_trans hB hz1))) (Nat.le_trans hB hz1) HNb.out.1 hfe (by rw[HN.out];exact hfit1) himg1);obtain⟨T,hT⟩:=aa (cS d1 fi en b);rw[hT]at CW hR;obtain⟨be,hbe⟩:=aa (ax en n);rw[hbe]at hR;have hbl:be<=1000000:=by rw[<-hbe];have:=himg1;have:=HR.out.2.2.1;have:=HLn.out;omega
       have CB:=ab (λW'=>show Calls Tryz.prog 152 #[.int .i64 (en:Nat),.int .i64 (n:Nat)] W' (λe w'=>e= .returned (.int .i64 (be:Nat))/\W'=w') from by rw[<-hbe];exact jr en n (by have:=HR.out.2.2.1;have:=HLn.out;unfold ax at hfit1;omega) (by omega) W');have HR1:=ab hR;have HS1:=ab hs1';have HSz:=ab hs1;have HAp1:=ab hap1;have HF1:=ab hf1;have HG1:=ab hg1;have HK1:=ab hk1;have HGb:=ab (And.intro hgb (hs1.fp.2 gb rfl));have HL1:=ab hL1;have HGt:=ab (show us1[K]? =some ⟨no,fi,en⟩ by rw[List.getElem?_eq_getElem (by omega),hgt]);have HZ1:=ab hz1;have qK:(((K+1:Nat)):Int) - 1=(K:Int):=by omega
       have qK2:(K:Int)+1 - 1=(K:Int):=by omega
       have qlt:(K:Int) < (K:Int)+1:=by omega
       have q0K:(0:Int)<=(K:Int):=by omega
       clear hd1 hs1 hs1' hap1 hf1 hg1 hk1 hL1 hgt hfit1 himg1 hgb hgp hp hNGd hNGa hE1 hby1 hz1 hlast hR hT hbe HRS1 HU1;have hK9:K<=1000:=HKl.out
       go_wp2_with fail
       go_quiet (fail)
       go_wp2_with fail
       refine(CW.out _).mono ?_;rintro en2 w2 ⟨⟨hok,rfl⟩|⟨hok,rfl⟩,F2,hd2,hf2,hk2⟩
       · have hnF:¬F1 gb:=λh=>HAp1.out gb h HGb.out.2;have hkx:Kept F1 w1 w2:=((Kept.al (F:=F1) (dp w1 nq)).trans hk2 (λk h=> .inl h));have k0':=(hkx.cell (p:=⟨gb,K * 3,none⟩) HGb.out.1 hnF).trans k0;have k2':=(hkx.cell (p:=⟨gb,K * 3+2,none⟩) HGb.out.1 hnF).trans k2;obtain⟨cur,hcur⟩:=fG (HSz.out.an hkx (λk hg hf=>HAp1.out k hf hg)).used (k:=gb) rfl;have f2':w2.frozen? ⟨gb,K * 3+2,none⟩=false:=by unfold World.frozen?;rw[show w2.heap[(⟨gb,K * 3+2,none⟩:Addr).block]? =_ from hcur];simp
         have hl2:gb < w2.heap.size:=Nat.lt_of_lt_of_le HGb.out.1 hkx.size;have k0'':(w2.setCell ⟨gb,K * 3+2,none⟩ (.int .i64 (be:Int))).cell? ⟨gb,K * 3,none⟩=some (.int .i64 (no:Int)):=(World.cell?_setCell_other w2 ⟨gb,K * 3+2,none⟩ ⟨gb,K * 3,none⟩ _ (λe=>by injection e with _ e _;omega)).trans k0';have HD2:=ab hd2;have HF2:=ab (show ∀k,F2 k->F1 k\/w1.heap.size<=k from hf2);have HKx:=ab hkx;have HOk2:=ab hok;clear hd2 hf2 hk2 hkx hok hcur k0 k1 k2 fz
         go_wp2_with fail
         refine(CB.out _).mono ?_;rintro en3 w3 ⟨rfl,rfl⟩
         go_wp2_with fail
         go_ret2
         have hR:=HR1.out;rw[if_pos HOk2.out]at hR;rw[hR];exact⟨rfl,pE (u:=⟨no,fi,en⟩) HL1.out HGt.out HK1.out HF1.out HG1.out HS1.out HAp1.out hD HD2.out HF2.out HKx.out⟩
       · have HD2:=ab hd2;have HF2:=ab (show ∀k,F2 k->F1 k\/w1.heap.size<=k from hf2);have HKx:=ab (show Kept F1 w1 w2 from((Kept.al (F:=F1) (dp w1 nq)).trans hk2 (λk h=> .inl h)));have HOk2:=ab hok;clear hd2 hf2 hk2 hok k0 k1 k2 fz
         go_wp2_with fail
         go_ret2
         have hR:=HR1.out;rw[if_neg (by rw[HOk2.out];exact Bool.false_ne_true)]at hR;rw[hR];refine⟨rfl,F2,G1,_,HD2.out,HSz.out.an HKx.out (λk hg hf=>HAp1.out k hf hg),λk hf hg=> ?_,λk hk=> ?_,HG1.out,HK1.out.trans HKx.out (λk hk=>(HF1.out k hk).imp .inl id)⟩
         · rcases HF2.out k hf with h|h
           · exact HAp1.out k h hg
           · have:=HSz.out.lt k hg;omega
         · rcases HF2.out k hk with h|h
           · exact HF1.out k h
           · exact .inr (Nat.le_trans HZ1.out h)
   | false=>
     rw[hfit]at HA CFit;have CG:=ab (λW' (hb:Below W.heap.size W W')=>xK hD (HE.out.below hb) (hD.an _ _ _ (λ_=>False) _ _ HDv.out (Kept.al hb) (λ_ _ h=>h)) hpe (HS.out.below hb) HAp.out (λk hk=>HG.out k (.inl hk)) (Nat.le_trans hNW hb.size) (by have:=HOk.out.len;omega) (by have:=HOk.out.last;omega))
     go_enter Tryz.func134,Tryz.ntmps134
     go_wp2_with fail
     refine CFit.out.mono ?_;rintro en w0 ⟨rfl,hb1⟩;have HB0:=ab hb1;have CG1:=CG.out w0 HB0.out;clear hb1
     go_wp2_with fail
     refine CG1.mono ?_;rintro en w1 (⟨hf0,rfl,hb2⟩|⟨kf,rf,hf0,rfl,hrs⟩)
     · have hR:R=(some 12,0,us,d):=by have:=HA.out;rw[if_neg (by decide),hf0]at this;exact this
       have HR2:=ab hR;have HB2:=ab (HB0.out.trans (hb2.mono HB0.out.size));clear hR hb2 hf0 CG CG1 HA CFit
       go_wp2_with fail
       go_ret2
       rw[HR2.out];exact⟨rfl,(RS.start HDv.out HS.out HAp.out).below hD HB2.out⟩
     · have hA:=HA.out;rw[if_neg (by decide),hf0]at hA;have hkm:kf < d.ae.length / 64 / 64:=by
        have h1:kf ∈ dB us (d.ae.length / 64 / 64):=by rw[hf0];exact List.mem_cons_self
        unfold dB at h1;exact List.mem_range.1 (List.mem_filter.1 h1).1
       have hll:=HR.out.2.2.1;have htl:=DP (d:=d) (f:=64 * kf) (no:=bW us) (n:=d.ae.length / 64) (by omega) HR.out.1;have htp:=DQ (d:=d) (f:=64 * kf) (no:=bW us);have hRS1:RS D W Fd Fs p dev _ _ w1:=RS.trans (Kept.al HB0.out) (λk h=> .inl h) (λk h=> .inl h) hrs;dsimp only at hA;obtain⟨T,hT⟩:=aa (bx d (64 * kf) (bW us));rw[hT]at hRS1 hA htl htp ⊢;obtain⟨tb,d1⟩:=T;dsimp only at hRS1 hA htl htp ⊢;clear hrs CG CG1 HA CFit;cases tb with
       | false=>
         have hR:R=(some 11,0,us,d1):=by rw[hA];rfl
         have HR2:=ab hR;have HRS:=ab (show RS D W Fd Fs p dev us d1 w1 from hRS1);clear hR hRS1 hA hkm htl htp hT hll hf0;simp only[Bool.false_eq_true,if_false]
         go_wp2_with fail
         go_ret2
         rw[HR2.out];exact⟨rfl,HRS.out⟩
       | true=>
         obtain⟨u,hu0⟩:=aa (⟨bW us,64 * kf,64 * kf+1⟩:ah);obtain⟨K,hK0⟩:=aa us.length;have hu1:u.first=64 * kf:=by rw[<-hu0]
         have hu2:u.fin=64 * kf+1:=by rw[<-hu0]
         rw[if_pos rfl,hu0]at hRS1;rw[if_pos rfl,hu0]at hA;obtain⟨us1,hus1⟩:∃l,us ++ [u]=l:=⟨_,rfl⟩;rw[hus1]at hRS1 hA;have HRS1:=ab hRS1;have HPe1:=ab (show d1.aq= []from htp rfl);have HLn:=ab (show d1.ae.length / 64=d.ae.length / 64 by omega);have HA1:=ab hA;have HKl:=ab (show K<=1000 by have:=HOk.out.len;omega);have HU1:=ab (show ∃_:us1.length=K+1,us1[K]'(by omega)=u/\u.first < u.fin/\ax u.fin n<=u.first+64/\u.first+64<=d1.ae.length / 64 from by refine⟨by rw[<-hus1,List.length_append,hK0];rfl,?_,by omega,by rw[hu1,hu2];unfold ax;have:=HNb.out;have:=HN.out;omega,by rw[hu1];omega⟩;subst hus1;rw[List.getElem_append_right (by omega)];simp[hK0]);clear hRS1 hA hkm htl htp hT hll hf0 hu0 hK0 hu1 hu2 hus1 HB0;simp only[if_true];obtain⟨F1,G1,vs1,hd1,hs1,hap1,hf1,hg1,hk1⟩:=HRS1.out;obtain⟨hL1,hgt,hfe,hfit1,himg1⟩:=HU1.out;obtain⟨gb,cc,rfl,hcc,hgb,hgp,k0,k1,k2,fz⟩:=hs1.cells K (by omega);obtain⟨hp,c0,c1,fzp⟩:=hs1.block.facts;rw[hgt]at k0 k1 k2;obtain⟨no,fi,en⟩:=u;dsimp only at k0 k1 k2 hfe hfit1 himg1;rw[hL1]at c1 hcc;have hs1':=hs1;rw[hL1]at hs1';have hNGd:∀k,F1 k->19<=k:=λk hk=>(hf1 k hk).elim (λh=>HG.out k (.inl h)) (λh=>Nat.le_trans hNW h);have hNGa:∀k,Fd k\/Fs k->19<=k:=HG.out;have hE1:E3 (three a) w1:=(E3.iV HE.out).jG hk1 hNGa;have hby1:Bytes w1 B (.slice Ab n cb) b:=by have:=kk HBy.out hB hk1 HBF.out;rw[HN.out]at this;exact this
         have hz1:=hk1.size;have hlast:us1.getLast? =some ⟨no,fi,en⟩:=by rw[List.getLast?_eq_getElem?,hL1,Nat.add_sub_cancel,List.getElem?_eq_getElem (by omega),hgt]
         have hR:R=if(cS d1 fi en b).1=true then(none,no,us1.set K ⟨no,fi,ax en n⟩,(cS d1 fi en b).2) else(some 11,0,us1,(cS d1 fi en b).2):=by rw[HA1.out];unfold gE;rw[hlast,hL1,Nat.add_sub_cancel,HN.out]
         have CW:=ab (λk=>uh (no:=no) hD (hE1.below (dp w1 k)) (hD.an _ _ _ (λ_=>False) _ _ hd1 (Kept.al (dp w1 k)) (λ_ _ h=>h)) HPe1.out (hs1.below (dp w1 k)) hap1 hNGd (Nat.le_trans hNW hz1) (fi:=fi) (en:=en) (.slice Ab n cb) b B (hby1.below (dp w1 k |>.mono (Nat.le_trans hB hz1))) (Nat.le_trans hB hz1) HNb.out.1 hfe (by rw[HN.out];exact hfit1) himg1);obtain⟨T,hT⟩:=aa (cS d1 fi en b);rw[hT]at CW hR;obtain⟨be,hbe⟩:=aa (ax en n);rw[hbe]at hR;have hbl:be<=1000000:=by rw[<-hbe];have:=himg1;have:=HR.out.2.2.1;have:=HLn.out;omega
         have CB:=ab (λW'=>show Calls Tryz.prog 152 #[.int .i64 (en:Nat),.int .i64 (n:Nat)] W' (λe w'=>e= .returned (.int .i64 (be:Nat))/\W'=w') from by rw[<-hbe];exact jr en n (by have:=HR.out.2.2.1;have:=HLn.out;unfold ax at hfit1;omega) (by omega) W');have HR1:=ab hR;have HS1:=ab hs1';have HSz:=ab hs1;have HAp1:=ab hap1;have HF1:=ab hf1;have HG1:=ab hg1;have HK1:=ab hk1;have HGb:=ab (And.intro hgb (hs1.fp.2 gb rfl));have HL1:=ab hL1;have HGt:=ab (show us1[K]? =some ⟨no,fi,en⟩ by rw[List.getElem?_eq_getElem (by omega),hgt]);have HZ1:=ab hz1;have qK:(((K+1:Nat)):Int) - 1=(K:Int):=by omega
         have qK2:(K:Int)+1 - 1=(K:Int):=by omega
         have qlt:(K:Int) < (K:Int)+1:=by omega
         have q0K:(0:Int)<=(K:Int):=by omega
         clear hd1 hs1 hs1' hap1 hf1 hg1 hk1 hL1 hgt hfit1 himg1 hgb hgp hp hNGd hNGa hE1 hby1 hz1 hlast hR hT hbe HRS1 HU1;have hK9:K<=1000:=HKl.out
         go_wp2_with fail
         go_quiet (fail)
         go_wp2_with fail
         refine(CW.out _).mono ?_;rintro en2 w2 ⟨⟨hok,rfl⟩|⟨hok,rfl⟩,F2,hd2,hf2,hk2⟩
         · have hnF:¬F1 gb:=λh=>HAp1.out gb h HGb.out.2;have hkx:Kept F1 w1 w2:=((Kept.al (F:=F1) (dp w1 nq)).trans hk2 (λk h=> .inl h));have k0':=(hkx.cell (p:=⟨gb,K * 3,none⟩) HGb.out.1 hnF).trans k0;have k2':=(hkx.cell (p:=⟨gb,K * 3+2,none⟩) HGb.out.1 hnF).trans k2;obtain⟨cur,hcur⟩:=fG (HSz.out.an hkx (λk hg hf=>HAp1.out k hf hg)).used (k:=gb) rfl;have f2':w2.frozen? ⟨gb,K * 3+2,none⟩=false:=by unfold World.frozen?;rw[show w2.heap[(⟨gb,K * 3+2,none⟩:Addr).block]? =_ from hcur];simp
           have hl2:gb < w2.heap.size:=Nat.lt_of_lt_of_le HGb.out.1 hkx.size;have k0'':(w2.setCell ⟨gb,K * 3+2,none⟩ (.int .i64 (be:Int))).cell? ⟨gb,K * 3,none⟩=some (.int .i64 (no:Int)):=(World.cell?_setCell_other w2 ⟨gb,K * 3+2,none⟩ ⟨gb,K * 3,none⟩ _ (λe=>by injection e with _ e _;omega)).trans k0';have HD2:=ab hd2;have HF2:=ab (show ∀k,F2 k->F1 k\/w1.heap.size<=k from hf2);have HKx:=ab hkx;have HOk2:=ab hok;clear hd2 hf2 hk2 hkx hok hcur k0 k1 k2 fz
           go_wp2_with fail
           refine(CB.out _).mono ?_;rintro en3 w3 ⟨rfl,rfl⟩
           go_wp2_with fail
           go_ret2
           have hR:=HR1.out;rw[if_pos HOk2.out]at hR;rw[hR];exact⟨rfl,pE (u:=⟨no,fi,en⟩) HL1.out HGt.out HK1.out HF1.out HG1.out HS1.out HAp1.out hD HD2.out HF2.out HKx.out⟩
         · have HD2:=ab hd2;have HF2:=ab (show ∀k,F2 k->F1 k\/w1.heap.size<=k from hf2);have HKx:=ab (show Kept F1 w1 w2 from((Kept.al (F:=F1) (dp w1 nq)).trans hk2 (λk h=> .inl h)));have HOk2:=ab hok;clear hd2 hf2 hk2 hok k0 k1 k2 fz
           go_wp2_with fail
           go_ret2
           have hR:=HR1.out;rw[if_neg (by rw[HOk2.out];exact Bool.false_ne_true)]at hR;rw[hR];refine⟨rfl,F2,G1,_,HD2.out,HSz.out.an HKx.out (λk hg hf=>HAp1.out k hf hg),λk hf hg=> ?_,λk hk=> ?_,HG1.out,HK1.out.trans HKx.out (λk hk=>(HF1.out k hk).imp .inl id)⟩
           · rcases HF2.out k hf with h|h
             · exact HAp1.out k h hg
             · have:=HSz.out.lt k hg;omega
           · rcases HF2.out k hk with h|h
             · exact HF1.out k h
             · exact .inr (Nat.le_trans HZ1.out h)
end
end Go.Proofs.YtdilnodbfnlhdaaGreatDoor
namespace Go.Proofs.YtdilnodbfnlhdaaGreatDoor
open Go.RowKit Tide
def ka (n:Nat) (d:Dv) (Q:List UInt8->Prop):Prop:=∀xs:List (Wr × Nat),xs.map (λx=>x.1.pair)=d.aq->ij n xs->Q (bC d.ae xs)
theorem lZ {d:Dv} (i:Nat) (whole:List UInt8) (m:Nat):
 ((bR d i whole m).1=true/\∃st,(bR d i whole m).2=⟨aI d.ae (aY i whole m), [],st⟩/\(d.stop=none->st=none))\/
 ((bR d i whole m).1=false/\∃s,d.stop≠none/\s<=m/\(bR d i whole m).2=⟨d.ae,(aY i whole m).take s,some 0⟩):=by
 unfold bR;cases hs:d.stop with
 | none=>exact .inl ⟨rfl,none,rfl,λ_=>rfl⟩
 | some s=>
   simp only;by_cases h:s<=m
   · rw[if_pos h];exact .inr ⟨rfl,s,by simp,h,rfl⟩
   · rw[if_neg h];exact .inl ⟨rfl,some (s - (m+1)),rfl,λh=>by cases h⟩
theorem jI {n:Nat} {ae:List UInt8} (hi:ae.length=64 * n) {xs:List (Wr × Nat)} (hf:ij n xs):(bC ae xs).length=64 * n:=lP n xs ae hf hi
theorem ef.stop {im:List UInt8} {lim:Nat}:∀ {bs:List (List UInt8)} {i:Nat},ef im lim i bs->b9 i bs < lim->bL im (b9 i bs)≠some 1
 | [],i,h,hl=>by
   have e:b9 i []=i:=by simp[b9]
   rw[e]at hl ⊢;exact h hl
 | b :: bs,i,h,hl=>by rw[ir]at hl ⊢;exact h.2.stop hl
section
variable {n:Nat} {d:Dv} {m:aM}
theorem rJ (k:Nat) (h:k < 64):((aN 4096).drop (64 * k)).take 64=aN 64:=by
 unfold aN;rw[List.drop_replicate,List.take_replicate]
 congr 1
 omega
theorem qL (l:List UInt8) (hl:l.length=64) (i:Nat):(l.drop (64 * (i - i))).take 64=l:=by rw[Nat.sub_self];exact List.take_of_length_le (by simp[hl])
theorem rM {ae:List UInt8} {n i s:Nat} {whole:List UInt8} (himg:ae.length=64 * n) (hw:whole.length=64) {xs:List (Wr × Nat)} (hp:xs.map (λx=>x.1.pair)=(aY i whole 1).take s) (hf:ij n xs) (hs:(ak ae i).length=64):
 (∀j,j≠i->ak (bC ae xs) j=ak ae j)/\(ak (bC ae xs) i=whole\/(ak (bC ae xs) i)[63]? =(ak ae i)[63]?)/\∃c,c<=64/\ak (bC ae xs) i=whole.take c ++ (ak ae i).drop c:=by
 refine⟨λj hj=> ?_,?_⟩
 · rcases jV himg hp hf j with h|⟨h1,h2,_,_⟩
   · exact h
   · omega
 · rcases jV himg hp hf i with h|⟨_,_,_,c,hc,h⟩
   · exact⟨.inr (by rw[h]),0,by omega,by rw[h];simp⟩
   · rw[qL whole hw]at h;refine⟨?_,c,hc,h⟩;by_cases h64:c=64
     · left;rw[h,h64,List.take_of_length_le (by omega),List.drop_of_length_le (by omega),List.append_nil]
     · right;rw[h,pT hw hc,if_neg (by omega)]
theorem rN {ae:List UInt8} {n i:Nat} {whole:List UInt8} (himg:ae.length=64 * n) (hw:whole.length=64) (hi:i+1<=n):(∀j,j≠i->ak (aI ae (aY i whole 1)) j=ak ae j)/\ak (aI ae (aY i whole 1)) i=whole:=by
 refine⟨λj hj=> ?_,?_⟩
 · rw[mq (by omega) hi himg,if_neg (by omega)]
 · rw[mq (by omega) hi himg,if_pos (by omega),qL whole hw]
theorem DU (h:aQ n d.ae m) {P no:Nat} (hPn:P < n / 64) (hP:∀g ∈ m.ag,g.place≠P) (hno:no < 2 ^ 63) (hw:({ m with ag:=m.ag ++ [⟨P,no,0, []⟩] }:aM).Wf):
 ((bx d (64 * P) no).1=true/\aQ n (bx d (64 * P) no).2.ae { m with ag:=m.ag ++ [⟨P,no,0, []⟩] }/\(bx d (64 * P) no).2.aq= []/\(d.stop=none->(bx d (64 * P) no).2.stop=none))\/
 ((bx d (64 * P) no).1=false/\d.stop≠none/\(bx d (64 * P) no).2.ae.length=64 * n/\ka n (bx d (64 * P) no).2 λim=>aQ n im m\/aQ n im { m with ag:=m.ag ++ [⟨P,no,0, []⟩] }):=by
 have hi:64 * P+64<=n:=by omega
 have hfree:=h.free P (by rw[h.places];exact hPn) hP;unfold bx;rcases lZ (d:=d) (64 * P) (aN 4096) 64 with⟨h1,st,h2,h3⟩|⟨h1,s,h2,h3,h4⟩
 · rw[if_pos h1,h2];have hl1:(aI d.ae (aY (64 * P) (aN 4096) 64)).length=64 * n:=ly (dr _) hi h.len;have hs1:∀j,ak (aI d.ae (aY (64 * P) (aN 4096) 64)) j=if 64 * P<=j/\j < 64 * P+64 then((aN 4096).drop (64 * (j - 64 * P))).take 64 else ak d.ae j:=mq (dr _) hi h.len;generalize aI d.ae (aY (64 * P) (aN 4096) 64)=im1 at *;have hn1:∀j,64 * P<=j->j < 64 * P+64->ak im1 j=aN 64:=λj h5 h6=>by rw[hs1,if_pos ⟨h5,h6⟩,rJ _ (by omega)]
   have ho1:∀j,j < 64 * P\/64 * P+64<=j->ak im1 j=ak d.ae j:=λj h5=>by rw[hs1,if_neg (by omega)]
   have hm1:bL im1 (64 * P)≠some 1:=by rw[dC,hn1 _ (by omega) (by omega),kA];decide
   have hL1:aQ n im1 m:=h.outside hl1 hP ho1 hm1;have hdone:∀im2:List UInt8,im2.length=64 * n->(∀j,j≠64 * P->ak im2 j=ak im1 j)->ak im2 (64 * P)=dj no->aQ n im2 { m with ag:=m.ag ++ [⟨P,no,0, []⟩] }:=λim2 hl2 h5 h6=>by
    refine hL1.taken hl2 hP (λj hj=>h5 j (by omega)) ?_ ?_ ?_ hw
    · rw[dC,h6,qJ]
    · rw[h6,xO no hno]
    · rw[dC,h5 _ (by omega),hn1 _ (by omega) (by omega),kA];decide
   rcases lZ (d:=⟨im1, [],st⟩) (64 * P) (dj no) 1 with⟨h5,st2,h6,h7⟩|⟨h5,s,h6,h7,h8⟩
   · left;rw[h6];obtain⟨h8,h9⟩:=rN (i:=64 * P) hl1 (gA no) (by omega);exact⟨h5,hdone _ (ly (gA no) (by omega) hl1) h8 h9,rfl,λh=>h7 (h3 h)⟩
   · right;rw[h8];refine⟨h5,λh=>h6 (h3 h),hl1,λxs hx hf=> ?_⟩;obtain⟨h9,h10,_⟩:=rM hl1 (gA no) hx hf (by rw[hn1 _ (by omega) (by omega)];exact dr 64);rcases h10 with h10|h10
     · exact .inr (hdone _ (jI hl1 hf) h9 h10)
     · refine .inl (hL1.outside (jI hl1 hf) hP (λj hj=>h9 j (by omega)) ?_);show bL (bC im1 xs) _≠_;rw[dC,h10,<-dC];exact hm1
 · right;rw[if_neg (by rw[h1];decide),h4];refine⟨rfl,h2,h.len,λxs hx hf=> .inl (h.outside (jI h.len hf) hP (λj hj=> ?_) ?_)⟩
   · rcases jV h.len hx hf j with h5|⟨h5,h6,_,_⟩
     · exact h5
     · omega
   · rw[dC];rcases jV h.len hx hf (64 * P) with h5|⟨_,_,_,c,hc,h5⟩
     · show(ak (bC d.ae xs) (64 * P))[63]? ≠_;rw[h5,<-dC];exact hfree
     · show(ak (bC d.ae xs) (64 * P))[63]? ≠_;rw[h5,Nat.sub_self,rJ 0 (by omega),pT (dr 64) hc];split
       · rw[kA];decide
       · rw[<-dC];exact hfree
theorem pM {k:Nat} {b:List UInt8} (j:Nat):(dh k b)[j]? =if j < b.length then b[j]? else if j < b.length+(64 * k - b.length) then some 0 else none:=by
 unfold dh;by_cases h:j < b.length
 · rw[if_pos h,List.getElem?_append_left h]
 · rw[if_neg h,List.getElem?_append_right (by omega),kA];by_cases h2:j < b.length+(64 * k - b.length)
   · rw[if_pos h2,if_pos (by omega)]
   · rw[if_neg h2,if_neg (by omega)]
theorem ER {l:List aE} {g:aE} {b:List UInt8} (h:aQ n d.ae { m with ag:=l ++ [g] }) (hb1:1<=b.length) (hb2:b.length<=3968) (hfit:ax (bj g) b.length<=64 * g.place+64) (hw:({ m with ag:=l ++ [g.push b] }:aM).Wf):
 ((cS d (64 * g.place) (bj g) b).1=true/\aQ n (cS d (64 * g.place) (bj g) b).2.ae { m with ag:=l ++ [g.push b] }/\(cS d (64 * g.place) (bj g) b).2.aq= []/\(d.stop=none->(cS d (64 * g.place) (bj g) b).2.stop=none))\/
 ((cS d (64 * g.place) (bj g) b).1=false/\d.stop≠none/\(cS d (64 * g.place) (bj g) b).2.ae.length=64 * n/\ka n (cS d (64 * g.place) (bj g) b).2 λim=>aQ n im { m with ag:=l ++ [g] }\/aQ n im { m with ag:=l ++ [g.push b] }):=by
 have hgm:g ∈ ({ m with ag:=l ++ [g] }:aM).ag:=by simp
 have hon:=h.on hgm;have hE1:64 * g.place+1<=bj g:=by unfold bj;omega
 have hstop:=(h.ag g hgm).aL.stop;rw[kn h.wf hgm]at hstop;generalize hE:bj g=E at *;obtain⟨k,hk⟩:=aa (gk (64 * g.place) E b.length);have hk1:b.length<=64 * k/\E+1+k<=64 * g.place+64/\E+1+k=min (ax E b.length+1) (64 * g.place+64):=by rw[<-hk];unfold gk ax at *;omega
 unfold cS;rw[hk];rcases lZ (d:=d) (E+1) (dh k b) k with⟨h1,st,h2,h3⟩|⟨h1,s,h2,h3,h4⟩
 · rw[if_pos h1,h2];have hl1:(aI d.ae (aY (E+1) (dh k b) k)).length=64 * n:=ly (mZ hk1.1) (by omega) h.len;have hs1:∀j,ak (aI d.ae (aY (E+1) (dh k b) k)) j=if E+1<=j/\j < E+1+k then((dh k b).drop (64 * (j - (E+1)))).take 64 else ak d.ae j:=mq (mZ hk1.1) (by omega) h.len;generalize aI d.ae (aY (E+1) (dh k b) k)=im1 at *;have ho1:∀j,j < E+1\/E+1+k<=j->ak im1 j=ak d.ae j:=λj h5=>by rw[hs1,if_neg (by omega)]
   have hL1:aQ n im1 { m with ag:=l ++ [g] }:=h.behind hl1 hgm (λj hj=>ho1 j (by omega)) (λhlt=>by rw[hE]at hlt ⊢;rw[gT (ho1 E (by omega))];exact hstop hlt);have hdone:∀im2:List UInt8,im2.length=64 * n->(∀j,j≠E->ak im2 j=ak im1 j)->ak im2 E=dj b.length->aQ n im2 { m with ag:=l ++ [g.push b] }:=λim2 hl2 h5 h6=>by
    have hat:∀j,j < 64 * k->im2[64 * (E+1)+j]? =(dh k b)[j]? :=λj hj=>by
     rw[ki,show(64 * (E+1)+j) / 64=E+1+j / 64 by omega,show(64 * (E+1)+j) % 64=j % 64 by omega,h5 _ (by omega),hs1,if_pos (by omega),AK _ _ _ (Nat.mod_lt _ (by omega))]
     congr 1
     omega
    refine hL1.A9 hl2 (λj hj=>h5 j (by omega)) ?_ ?_ hw
    · rw[hE];refine⟨⟨hb1,hb2⟩,?_,?_,?_,hfit⟩
      · rw[dC,h6,qJ]
      · unfold eP;rw[h6,xP _ (by omega)]
      · apply List.ext_getElem?;intro j;rw[mY];by_cases hj:j < b.length
        · rw[if_pos hj,hat j (by omega),pM,if_pos hj]
        · rw[if_neg hj,List.getElem?_eq_none (by omega)]
    · rw[hE];intro hlt;rw[dC,h5 _ (by unfold ax;omega),<-dC];have h7:ax E b.length=E+1+(b.length+63) / 64:=rfl;have h8:=hat (64 * ((b.length+63) / 64)+63) (by omega);have h9:im1[64 * ax E b.length+63]? =im2[64 * (E+1)+(64 * ((b.length+63) / 64)+63)]? :=by rw[ki im1,ki im2,show(64 * ax E b.length+63) / 64=ax E b.length by omega,show(64 * (E+1)+(64 * ((b.length+63) / 64)+63)) / 64=ax E b.length by omega,h5 _ (by omega),show(64 * ax E b.length+63) % 64=(64 * (E+1)+(64 * ((b.length+63) / 64)+63)) % 64 by omega]
      unfold bL;rw[h9,h8,pM,if_neg (by omega),if_pos (by omega)];decide
   rcases lZ (d:=⟨im1, [],st⟩) E (dj b.length) 1 with⟨h5,st2,h6,h7⟩|⟨h5,s,h6,h7,h8⟩
   · left;rw[h6];obtain⟨h8,h9⟩:=rN (i:=E) hl1 (gA b.length) (by omega);exact⟨h5,hdone _ (ly (gA b.length) (by omega) hl1) h8 h9,rfl,λh=>h7 (h3 h)⟩
   · right;rw[h8];refine⟨h5,λh=>h6 (h3 h),hl1,λxs hx hf=> ?_⟩;obtain⟨h9,h10,_⟩:=rM hl1 (gA b.length) hx hf (gV _ _ (by omega));rcases h10 with h10|h10
     · exact .inr (hdone _ (jI hl1 hf) h9 h10)
     · refine .inl (hL1.behind (jI hl1 hf) hgm (λj hj=>h9 j (by omega)) (λhlt=> ?_));rw[hE]at hlt ⊢;show bL (bC im1 xs) _≠_;rw[dC,h10,<-dC,gT (ho1 E (by omega))];exact hstop hlt
 · right;rw[if_neg (by rw[h1];decide),h4];refine⟨rfl,h2,h.len,λxs hx hf=> .inl (h.behind (jI h.len hf) hgm (λj hj=> ?_) (λhlt=> ?_))⟩
   · rcases jV h.len hx hf j with h5|⟨h5,h6,_,_⟩
     · exact h5
     · omega
   · rw[hE]at hlt ⊢;rcases jV h.len hx hf E with h5|⟨h5,_,_,_⟩
     · rw[gT h5];exact hstop hlt
     · omega
end
end Go.Proofs.YtdilnodbfnlhdaaGreatDoor
namespace Go.Proofs.YtdilnodbfnlhdaaGreatDoor
open Go.RowKit Tide
def aB (m:aM):List ah:=m.ag.map λg=>⟨g.number,64 * g.place,bj g⟩
theorem gJ (m:aM):(aB m).length=m.ag.length:=by unfold aB;rw[List.length_map]
theorem tR (m:aM):(aB m).getLast? =m.ag.getLast?.map λg=>⟨g.number,64 * g.place,bj g⟩:=by unfold aB;rw[List.getLast?_map]
theorem nK (m:aM):gi (aB m)=eS m.ag:=by unfold gi eS;rw[tR];cases m.ag.getLast?<;>rfl
theorem qB (m:aM) (n:Nat):gz (aB m) n=fB m.ag n:=by
 unfold gz fB;rw[tR];cases m.ag.getLast? with
 | none=>rfl
 | some g=>simp only[Option.map_some];rw[lg];unfold bj;rw[decide_eq_decide];omega
theorem tG (m:aM) (k:Nat):eF (aB m) ((64 * k:Nat):Int)=ia m.ag (k:Int):=by
 unfold eF ia aB;rw[List.any_map]
 congr 1
 funext g;rw[Bool.eq_iff_iff];simp only[Function.comp,beq_iff_eq];omega
theorem sM (gs:List aE) (P:Nat):∀k,k<=P->fo gs P k=match ((List.range' (P - k) k).filter λp:Nat=> !ia gs (p:Int)) with | []=> -1|p :: _=>(p:Int)
 | 0,_=>rfl
 | k+1,h=>by
   have ih:=sM gs P k (by omega);have e1:List.range' (P - (k+1)) (k+1)=(P - (k+1)) :: List.range' (P - k) k:=by rw[List.range'_succ];congr 2;omega
   have e2:(P:Int) - 1 - (k:Int)=((P - (k+1):Nat):Int):=by omega
   unfold fo;rw[e1,e2,List.filter_cons];by_cases ht:ia gs ((P - (k+1):Nat):Int)=true
   · rw[if_pos ht,ht,ih];rfl
   · rw[if_neg ht,eq_false_of_ne_true ht];rfl
theorem tE (m:aM):(dB (aB m) m.places= []/\takeD m=none)\/∃k r,dB (aB m) m.places=k :: r/\takeD m=some { m with ag:=m.ag ++ [⟨k,bW (aB m),0, []⟩] }/\k < m.places/\∀g ∈ m.ag,g.place≠k:=by
 have h1:=sM m.ag m.places m.places (Nat.le_refl _);have e:dB (aB m) m.places=(List.range' (m.places - m.places) m.places).filter λp:Nat=> !ia m.ag (p:Int):=by
  unfold dB;rw[Nat.sub_self,<-List.range_eq_range']
  congr 1
  funext k;rw[tG]
 rw[<-e]at h1;cases hc:dB (aB m) m.places with
 | nil=>left;rw[hc]at h1;refine⟨rfl,?_⟩;unfold takeD;rw[h1,if_pos (by decide)]
 | cons k r=>
   right;rw[hc]at h1;simp only at h1;have hm:k ∈ dB (aB m) m.places:=by rw[hc];simp
   unfold dB at hm;obtain⟨h2,h3⟩:=List.mem_filter.1 hm;refine⟨k,r,rfl,?_,List.mem_range.1 h2,λg hg e=> ?_⟩
   · unfold takeD;rw[h1,if_neg (by omega)];unfold bW;rw[nK,Int.toNat_natCast]
   · rw[tG]at h3;have:=tF (by simpa using h3) g hg;omega
theorem yH {gs:List aE} {g:aE} (h:gs.getLast? =some g):∃l,gs=l ++ [g]:=by
 rcases List.eq_nil_or_concat gs with rfl|⟨l,x,hc⟩
 · cases h
 · rw[List.concat_eq_append]at hc;subst hc;rw[List.getLast?_append,List.getLast?_singleton]at h;simp only[Option.some_or,Option.some.injEq]at h;exact⟨l,by rw[h]⟩
theorem A7 (g:aE) (b:List UInt8):bj (g.push b)=ax (bj g) b.length:=by rw[lg];unfold bj aE.push;simp only;omega
theorem oV (P:Nat) (l:List aE) (g:aE):aB ⟨P,l ++ [g]⟩=aB ⟨P,l⟩ ++ [⟨g.number,64 * g.place,bj g⟩]:=by unfold aB;simp only[List.map_append,List.map_cons,List.map_nil]
theorem C7 (l:List ah) (x y:ah):(l ++ [x]).set ((l ++ [x]).length - 1) y=l ++ [y]:=by rw[List.length_append,List.length_singleton,Nat.add_sub_cancel,List.set_append_right _ _ (Nat.le_refl _),Nat.sub_self];rfl
theorem rp {n P:Nat} {l:List aE} {g:aE} {d:Dv} {b:List UInt8} (h:aQ n d.ae ⟨P,l ++ [g]⟩) (hb1:1<=b.length) (hb2:b.length<=3968) (hfit:fB (l ++ [g]) b.length=true):
 (∃d',gE (aB ⟨P,l ++ [g]⟩) d b=(none,g.number,aB ⟨P,l ++ [g.push b]⟩,d')/\aQ n d'.ae ⟨P,l ++ [g.push b]⟩/\d'.aq= []/\(d.stop=none->d'.stop=none))\/
 (∃us' d',gE (aB ⟨P,l ++ [g]⟩) d b=(some 11,0,us',d')/\d.stop≠none/\d'.ae.length=64 * n/\ka n d' λim=>aQ n im ⟨P,l ++ [g]⟩\/aQ n im ⟨P,l ++ [g.push b]⟩):=by
 have hw:=og h.wf b ⟨hb1,hb2⟩ hfit;simp only[iZ]at hw;rw[nt]at hfit;have hf2:ax (bj g) b.length<=64 * g.place+64:=by have:=of_decide_eq_true hfit;rw[lg];unfold bj;omega
 have hl:=ER (m:=⟨P,l ++ [g]⟩) (d:=d) (b:=b) h hb1 hb2 hf2 hw;unfold gE;rw[oV,List.getLast?_append,List.getLast?_singleton];simp only[Option.some_or];rcases hl with⟨h1,h2,h3,h4⟩|⟨h1,h2,h3,h4⟩
 · left;rw[if_pos h1,C7,oV,A7];exact⟨_,rfl,h2,h3,h4⟩
 · right;rw[if_neg (by rw[h1];decide)];exact⟨_,_,rfl,h2,h3,h4⟩
theorem uT {n:Nat} {m:aM} {d:Dv} (h:aQ n d.ae m) (hno:eS m.ag < 2 ^ 61) (b:List UInt8):
 (∃e:Nat,bX (aB m) d b=(some e,0,aB m,d)/\cJ m b=(m,0,((e+1:Nat):Int))/\(e=3\/e=12))\/
 (∃no d',bX (aB m) d b=(none,no,aB (cJ m b).1,d')/\(cJ m b).2=((no:Int),0)/\aQ n d'.ae (cJ m b).1/\d'.aq= []/\(d.stop=none->d'.stop=none))\/
 (∃us' d',bX (aB m) d b=(some 11,0,us',d')/\d.stop≠none/\d'.ae.length=64 * n/\ka n d' λim=>aQ n im m\/aQ n im (cJ m b).1\/(fB m.ag b.length=false/\∃t,takeD m=some t/\aQ n im t)):=by
 have hpl:d.ae.length / 64 / 64=m.places:=by have:=h.len;have:=h.places;omega
 unfold bX cJ;by_cases hb:b.length < 1\/3968 < b.length
 · left;rw[if_pos hb,if_pos hb];exact⟨3,rfl,rfl,.inl rfl⟩
 rw[if_neg hb,if_neg hb,qB,hpl];cases hf:fB m.ag b.length with
 | true=>
   right;rw[if_pos rfl];simp only[if_true];obtain⟨P,gs⟩:=m;simp only at hf ⊢;cases hg:gs.getLast? with
   | none=>unfold fB at hf;rw[hg]at hf;cases hf
   | some g=>
     obtain⟨l,rfl⟩:=yH hg;rw[iZ,lJ];rcases rp h (by omega) (by omega) hf with⟨d',h1,h2⟩|⟨us',d',h1,h2,h3,h4⟩
     · exact .inl ⟨g.number,d',h1,rfl,h2⟩
     · exact .inr ⟨us',d',h1,h2,h3,λxs hx hfx=>(h4 xs hx hfx).imp id .inl⟩
 | false=>
   rw[if_neg (by decide)];simp only[Bool.false_eq_true,if_false];rcases tE m with⟨h1,h2⟩|⟨k,r,h1,h2,hk,hfree⟩
   · left;rw[h1,h2];exact⟨12,rfl,rfl,.inr rfl⟩
   · right;rw[h1,h2];simp only;have hwt:=oQ h.wf h2;have hft:=tB h2 b.length (by omega);have hnx:bW (aB m) < 2 ^ 63:=by unfold bW;rw[nK];omega
     obtain⟨no,hno2⟩:=aa (bW (aB m));rw[hno2]at h2 hwt hft hnx ⊢;obtain⟨P,gs⟩:=m;simp only at *;rw[iZ,lJ];rcases DU (d:=d) h (P:=k) (no:=no) (by rw[<-h.places];exact hk) hfree hnx hwt with⟨g1,g2,g3,g4⟩|⟨g1,g2,g3,g4⟩
     · rw[if_pos g1];have hus:aB ⟨P,gs⟩ ++ [⟨no,64 * k,64 * k+1⟩]=aB ⟨P,gs ++ [⟨k,no,0, []⟩]⟩:=by rw[oV];rfl
       rw[hus];rcases rp (d:=(bx d (64 * k) no).2) (b:=b) g2 (by omega) (by omega) hft with⟨d',e1,e2,e3,e4⟩|⟨us',d',e1,e2,e3,e4⟩
       · exact .inl ⟨no,d',e1,rfl,e2,e3,λh=>e4 (g4 h)⟩
       · refine .inr ⟨us',d',e1,λh=>e2 (g4 h),e3,λxs hx hfx=> ?_⟩;rcases e4 xs hx hfx with e5|e5
         · exact .inr (.inr ⟨trivial,_,rfl,e5⟩)
         · exact .inr (.inl e5)
     · rw[if_neg (by rw[g1];decide)];refine .inr ⟨_,_,rfl,g2,g3,λxs hx hfx=> ?_⟩;rcases g4 xs hx hfx with e5|e5
       · exact .inl e5
       · exact .inr (.inr ⟨trivial,_,rfl,e5⟩)
theorem qy {m:aM} (h:m.Wf) (n:Int):
 ((∀g ∈ m.ag,(g.number:Int)≠n)/\ln m.ag n=none/\fg (aB m) n= -1/\(m.ag.find? λg=>(g.number:Int) == n)=none/\((cI (aB m)).find? λx=>(x.2.no:Int) == n)=none)\/
 ∃ (i:Nat) (hi:i < m.ag.length),((m.ag[i]).number:Int)=n/\ln m.ag n=some i/\fg (aB m) n=(i:Int)/\(m.ag.find? λg=>(g.number:Int) == n)=some m.ag[i]/\((cI (aB m)).find? λx=>(x.2.no:Int) == n)=some (i,⟨(m.ag[i]).number,64 * (m.ag[i]).place,bj m.ag[i]⟩):=by
 have hat:∀ (k:Nat) (hk:k < (aB m).length),(aB m)[k]=⟨(m.ag[k]'(by rw[gJ]at hk;exact hk)).number,64 * (m.ag[k]'(by rw[gJ]at hk;exact hk)).place,bj (m.ag[k]'(by rw[gJ]at hk;exact hk))⟩:=λk hk=>by simp only[aB,List.getElem_map]
 by_cases hex:∃ (i:Nat) (hi:i < m.ag.length),((m.ag[i]).number:Int)=n
 · right;obtain⟨i,hi,hn⟩:=hex;have huniq:∀ (k:Nat) (hk:k < m.ag.length),((m.ag[k]).number:Int)=n->k=i:=λk hk hkn=>by
    have h1:=List.pairwise_iff_getElem.1 h.jU;rcases Nat.lt_trichotomy k i with h2|h2|h2
    · have:=h1 k i (by simpa using hk) (by simpa using hi) h2;simp at this;omega
    · exact h2
    · have:=h1 i k (by simpa using hi) (by simpa using hk) h2;simp at this;omega
   have hb:((cI (aB m)).find? λx=>(x.2.no:Int) == n)=some (i,⟨(m.ag[i]).number,64 * (m.ag[i]).place,bj m.ag[i]⟩):=by
    have hsome:((cI (aB m)).find? λx=>(x.2.no:Int) == n).isSome=true:=by
     rw[List.find?_isSome];refine⟨(i,(aB m)[i]'(by rw[gJ];exact hi)),?_,?_⟩
     · unfold cI;rw[List.mem_reverse];exact List.mem_mapIdx.2 ⟨i,by rw[gJ];exact hi,rfl⟩
     · simp only[hat];simpa using hn
    obtain⟨x,hx⟩:=Option.isSome_iff_exists.1 hsome;obtain⟨hxl,hxe⟩:=mX (List.mem_of_find?_eq_some hx);have hp:=List.find?_some hx;have hxl2:x.1 < m.ag.length:=by rw[gJ]at hxl;exact hxl
    have hk:x.1=i:=huniq x.1 hxl2 (by rw[hat]at hxe;rw[<-hxe]at hp;simpa using hp);rw[hx]
    congr 1
    obtain⟨a,u⟩:=x;simp only at hk hxe ⊢;subst hk;rw[<-hxe,hat]
   refine⟨i,hi,hn,?_,?_,?_,hb⟩
   · unfold ln;rw[List.findIdx?_eq_some_iff_getElem];refine⟨hi,by simpa using hn,λj hj hc=> ?_⟩;have:=huniq j (by omega) (by simpa using hc);omega
   · unfold fg;rw[hb]
   · have hsome:(m.ag.find? λg=>(g.number:Int) == n).isSome=true:=by rw[List.find?_isSome];exact⟨m.ag[i],List.getElem_mem hi,by simpa using hn⟩
     obtain⟨x,hx⟩:=Option.isSome_iff_exists.1 hsome;obtain⟨k,hk,rfl⟩:=List.getElem_of_mem (List.mem_of_find?_eq_some hx);have:=huniq k hk (by simpa using List.find?_some hx);subst this;exact hx
 · left;have hne:∀g ∈ m.ag,(g.number:Int)≠n:=λg hg e=>by obtain⟨i,hi,rfl⟩:=List.getElem_of_mem hg;exact hex ⟨i,hi,e⟩
   have hb:∀y ∈ cI (aB m),((y.2.no:Int) == n)=false:=λy hy=>by obtain⟨hyl,hye⟩:=mX hy;rw[hat]at hye;rw[<-hye,beq_eq_false_iff_ne];exact hne _ (List.getElem_mem (by rw[gJ]at hyl;exact hyl))
   refine⟨hne,?_,qx hb,?_,?_⟩
   · unfold ln;rw[List.findIdx?_eq_none_iff];intro g hg;rw[beq_eq_false_iff_ne];exact hne g hg
   · rw[List.find?_eq_none];intro g hg;rw[beq_iff_eq];exact hne g hg
   · rw[List.find?_eq_none];intro y hy;rw[hb y hy];exact Bool.false_ne_true
theorem sS {im:List UInt8} {g:aE} (h:jo im g):fD im (64 * g.place)=gB (64 * g.place+1) g.aL:=by unfold fD;refine qN h.aL ?_;have h1:=sn h.aL (by omega);have h2:=qi (64 * g.place+1) g.aL;omega
theorem sR {im:List UInt8} {m:aM} (hw:m.Wf) {g:aE} (hg:g ∈ m.ag) (h:jo im g):jz im (64 * g.place)=bj g:=by unfold jz;rw[sS h,qP,kn hw hg]
theorem BN {n:Nat} {im:List UInt8} {m:aM} (h:aQ n im m) (no:Int):iE im (aB m) no=oA m.ag no:=by
 unfold iE oA;rcases qy h.wf no with⟨_,_,_,h1,h2⟩|⟨i,hi,_,_,_,h1,h2⟩
 · rw[h1,h2]
 · rw[h1,h2];simp only;rw[sS (h.ag _ (List.getElem_mem hi)),qO (h.ag _ (List.getElem_mem hi)).aL]
end Go.Proofs.YtdilnodbfnlhdaaGreatDoor
namespace Go.Proofs.YtdilnodbfnlhdaaGreatDoor
open Go.RowKit Tide
theorem y7 {n:Nat} {im:List UInt8} {m:aM} (h:aQ n im m):(bt im (n / 64)).Perm (aB m):=by
 have hn1:(bt im (n / 64)).Nodup:=by unfold bt;refine List.Pairwise.map (R:=(· ≠ ·)) (S:=(· ≠ ·)) _ (λa b hab e=> ?_) (List.nodup_range.filter _);have:64 * a=64 * b:=congrArg ah.first e;omega
 have hn2:(aB m).Nodup:=by unfold aB;refine(List.pairwise_map.1 h.wf.apart).map _ (λa b hab e=> ?_);have:64 * a.place=64 * b.place:=congrArg ah.first e;omega
 rw[List.perm_ext_iff_of_nodup hn1 hn2];intro x;unfold bt aB;rw[List.mem_map,List.mem_map];constructor
 · rintro⟨p,hp,rfl⟩;obtain⟨h1,h2⟩:=List.mem_filter.1 hp;have h3:bL im (64 * p)=some 1:=by simpa using h2
   have h4:=List.mem_range.1 h1;by_cases hex:∃g ∈ m.ag,g.place=p
   · obtain⟨g,hg,rfl⟩:=hex;have hs:=h.ag g hg;exact⟨g,hg,by rw[hs.num,sR h.wf hg hs]⟩
   · exact absurd h3 (h.free p (by rw[h.places];exact h4) (λg hg e=>hex ⟨g,hg,e⟩))
 · rintro⟨g,hg,rfl⟩;have hs:=h.ag g hg;have hpl:=h.wf.place g hg;refine⟨g.place,List.mem_filter.2 ⟨List.mem_range.2 (by rw[<-h.places];exact hpl),by rw[hs.mark];rfl⟩,by rw[hs.num,sR h.wf hg hs]⟩
theorem zT {n:Nat} {im:List UInt8} {m:aM} (h:aQ n im m):dE (bt im (n / 64)) (bt im (n / 64)).length=aB m:=by refine Dk (y7 h) ?_;unfold aB;exact List.pairwise_map.2 (List.pairwise_map.1 h.wf.jU)
theorem vy (n:Nat):aQ n (aN (64 * n)) ⟨n / 64, []⟩ where
 len:=dr _
 places:=rfl
 ag:=λg hg=>by cases hg
 free:=λp hp _=>by unfold bL;rw[kA];split<;>decide
 wf:=⟨λg hg=>(by cases hg),.nil,.nil,λg hg=>(by cases hg)⟩
end Go.Proofs.YtdilnodbfnlhdaaGreatDoor
namespace Go.Proofs.YtdilnodbfnlhdaaGreatDoor
open Go.RowKit Tide
variable {pre:List ah} {base r e N M:Nat}
end Go.Proofs.YtdilnodbfnlhdaaGreatDoor
