import Derived.Test.YtiafamacjpgjoaaGreatDoorGSsF
import Derived.Test.YtiafamacjpgjoaaGreatDoorGSsO
import Derived.Test.YtiafamacjpgjoaaGreatDoorGSgT
set_option maxRecDepth 100000
set_option maxHeartbeats 4000000
namespace Go.Proofs.YtiafamacjpgjoaaGreatDoor
open Go.RowKit Tide
theorem mL {d:Dv} {i m n:Nat} {whole:List UInt8} (hl:whole.length=64 * m) (hi:i+m<=n) (hn:d.img.length=64 * n):(bV d i whole m).2.img.length=64 * n:=by
 unfold bV;cases d.stop with
 | none=>exact jg _ _ (lY i whole m n hl hi) _ hn
 | some s=>
   simp only;by_cases hs:s<=m
   · rw[if_pos hs];exact hn
   · rw[if_neg hs];exact jg _ _ (lY i whole m n hl hi) _ hn
section
variable {D:aB} {x:Nat->Addr} {W:World} {Fd Fs:Nat->Prop} {p dev:Nat} {us:List ai} {vs:Value} {d:Dv}
theorem D8 (hD:ay x D) (hE:E3 x W) (hd:D W Fd dev d) (hpe:d.ar= []) (h:a7 W Fs p dev us vs) (hap:∀k,Fd k->¬Fs k) (hNG:∀k,Fd k->19<=k) (hNW:19<=W.heap.size) (f no:Nat) (hf:f+64<=d.img.length / 64) (hno:no < 2 ^ 63) (hmax:us.length<=1000):
 Calls Tryz.prog 150 #[.pointer (some ⟨p,0,none⟩),.int .i64 (f:Nat),.int .i64 (no:Nat)] W λe w'=>
  ((bN d f no).1=true/\e= .returned .nilIface/\∃F' G' vs',D w' F' dev (bN d f no).2/\a7 w' G' p dev (us ++ [⟨no,f,f+1⟩]) vs'/\(∀k,F' k->¬G' k)/\(∀k,F' k->Fd k\/W.heap.size<=k)/\(∀k,G' k->Fs k\/W.heap.size<=k)/\Kept (λk=>Fd k\/Fs k) W w')\/
  ((bN d f no).1=false/\e= .returned (ao (x 2))/\∃F',D w' F' dev (bN d f no).2/\(∀k,F' k->Fd k\/W.heap.size<=k)/\Kept Fd W w'):=by
 have mk:∀W:World,(Instr.makeSlice 47 (.int .i64 4096) (.int .i64 4096)).run Tryz.prog W= .ok (.slice (some ⟨W.heap.size,0,none⟩) 4096 4096) (W.alloc (.cells (al (bj 4096)).toArray 5)):=oA 4096 (by omega);obtain⟨i0,hinf,hz0,hz1,hz2⟩:=info_parts og;have HIn:=ab hinf;have hr:=hD.right _ _ _ _ hd;have hll:=hr.2.2.1;have hf9:f<=1000:=by omega
 have HR:=ab hr.1;have HDv:=ab hd;have HE:=ab hE;have HS:=ab h;have HAp:=ab hap;have HG:=ab hNG;have HF:=ab hf;have HFl:=ab (hD.lt _ _ _ _ hd);obtain⟨W0,hW0⟩:=aa (W.alloc (.cells (al (bj 4096)).toArray 5));have hb0:Below W.heap.size W W0:=by rw[<-hW0];exact(Below.refl W.heap.size W).alloc (Nat.le_refl _) _
 have CP:=ab (mM hD (hE.below hb0) (hD.aj _ _ _ (λ_=>False) _ _ hd (Kept.an hb0) (λ_ _ h=>h)) hpe (h.below hb0) hap hNG (Nat.le_trans hNW hb0.size) f 64 hf (by omega) W.heap.size 4096 4096 rfl (bj 4096)
  (by rw[<-hW0];exact Bytes.cm (mH (heap_alloc_new W _) (dE 4096) (Nat.le_refl _) (by omega))) (dE 4096) (λhF=>Nat.lt_irrefl _ (HFl.out _ hF)))
 have HW0:=ab hW0;have HB0:=ab hb0;have hl1:=ab (mL (d:=d) (i:=f) (whole:=bj 4096) (m:=64) (dE 4096) hf hr.1);obtain⟨r1,hr1⟩:∃r,bV d f (bj 4096) 64=r:=⟨_,rfl⟩;have HP1:=ab (λh=>o7 (d:=d) (i:=f) (m:=64) (whole:=bj 4096) h);rw[hr1]at CP hl1 HP1;have HT:=ab (show bN d f no=if r1.1=true then bV r1.2 f (du no) 1 else(false,r1.2) by unfold bN;rw[hr1]);generalize bN d f no=T at *;clear hd hE h hap hNG hf hr hW0 hb0 hr1 hll hinf
 go_enter Tryz.func150,Tryz.ntmps150
 go_wp2_with fail
 rw[HW0.out];refine CP.out.mono ?_;rintro en w1 ⟨⟨hok,rfl⟩|⟨hok,rfl⟩,F1,hd1,hF1,hk1⟩
 · have CN:=ab (sU no hno w1);have HD1:=ab hd1;have HF1:=ab (show ∀k,F1 k->Fd k\/W.heap.size<=k from λk hk=>(hF1 k hk).imp id (λh=>Nat.le_trans HB0.out.size h));have HK1:=ab (show Kept Fd W w1 from(Kept.an HB0.out).trans hk1 (λk h=> .inl h));have HOk:=ab hok;clear hd1 hF1 hk1 hok CP
   go_wp2_with fail
   refine CN.out.mono ?_;rintro en w2 ⟨v2,rfl,ho2,hb2⟩;obtain⟨g,cap,rfl,hg1,hg2⟩:=ho2.form (Nat.succ_pos 63);have hz1':=HK1.out.size;have hz2':=hb2.size;have hE2:E3 x w2:=(HE.out.kn HK1.out HG.out).below hb2;have hS2:=(HS.out.aj HK1.out (λk hF hd=>HAp.out k hd hF)).below hb2;have hap2:∀k,F1 k->¬Fs k:=λk hk hF=>by
    rcases HF1.out k hk with h1|h1
    · exact HAp.out k h1 hF
    · have:=HS.out.lt k hF;omega
   have hD2:=hD.aj _ _ _ (λ_=>False) _ _ HD1.out (Kept.an hb2) (λ_ _ h=>h);have hlt1:=hD.lt _ _ _ _ HD1.out;have cp:=mM hD hE2 hD2 (HP1.out HOk.out) hS2 hap2 (λk hk=>by rcases HF1.out k hk with h1|h1;exact HG.out k h1;omega) (by omega) f 1 (by rw[hl1.out];have:=HF.out;omega) (by omega) g cap 64 rfl (du no) (Bytes.cm ho2) (g7 no) (λhF=>by have:=hlt1 g hF;omega);have CP2:=ab cp;have HS2:=ab hS2;have HB2:=ab hb2;have HAp2:=ab hap2;clear hz1' hz2' hE2 hS2 hD2 hlt1 cp ho2 hb2 hap2 CN;have hT:=HT.out;rw[if_pos HOk.out]at hT;have HT2:=ab hT;rw[<-hT]at CP2;clear hT
   go_wp2_with fail
   refine CP2.out.mono ?_;rintro en w3 ⟨⟨hok,rfl⟩|⟨hok,rfl⟩,F3,hd3,hF3,hk3⟩
   · have hK3:Kept Fd W w3:=(HK1.out.trans (Kept.an (F:=F1) HB2.out) HF1.out).trans hk3 HF1.out;have hS3:=HS.out.aj hK3 (λk hF hd=>HAp.out k hd hF);obtain⟨hp3,c03,c13,fz3⟩:=hS3.block.facts;have HD3:=ab hd3;have HK3:=ab hK3;have HF3:=ab (show ∀k,F3 k->Fd k\/W.heap.size<=k from λk hk=>(hF3 k hk).elim (HF1.out k) (λh=> .inr (Nat.le_trans (Nat.le_trans HK1.out.size HB2.out.size) h)));have HOk2:=ab hok;have HS3:=ab hS3;have HU3:=ab hS3.used;have HM:=ab hmax;clear hd3 hF3 hk3 hok CP2 hK3 hS3 hmax
     go_wp2_with (at_builtin;refine wpList_append_lies _ rfl (.tmp 28) (.tmp 34) _ rfl 0 193 i0 _ 3 24 Tryz.underlying186 HIn.out hz0 hz1 hz2 rfl (by omega) _ us.length (us.flatMap ai.cells) rfl ?d0 _ 1 _ [.int .i64 (no:Nat),.int .i64 (f:Nat),.int .i64 ((f:Int)+1)] rfl rfl ?d2 ?d3 (by omega) ?d4 ?d5 ?d6 _ rfl ?_)
     case d0=>exact bf HU3.out ((Below.refl _ _).alloc (Nat.le_refl _) _)
     case d2=>exact λj u hu=>World.news_of_block (heap_alloc_new w3 _) j u (by simpa using hu)
     case d3=>intro u hu;simp only[List.mem_cons,List.not_mem_nil,or_false]at hu;rcases hu with rfl|rfl|rfl<;>rfl
     case d4=>unfold maxLen;have:=HM.out;omega
     case d5=>have:=HM.out;omega
     case d6=>exact Nat.zero_le _
     intro g9 cap9 w9 h1 h2 h3 h4;obtain⟨wa,hwa⟩:=aa (w3.alloc (.cells #[.int .i64 (no:Nat),.int .i64 (f:Nat),.int .i64 ((f:Int)+1)] 193));have hba:Below w3.heap.size w3 wa:=by rw[<-hwa];exact(Below.refl _ _).alloc (Nat.le_refl _) _
     have hsz:wa.heap.size=w3.heap.size+1:=by rw[<-hwa];simp
     rw[hwa]at h2;have hSa:=HS3.out.below hba;have hsn:=hSa.snoc (g:=g9) (cap:=cap9) h2 ⟨no,f,f+1⟩ h1 (by rw[hsz];exact h3);have hKo:Kept (λk=>vs.ownBlock=some k) wa w9:=(Kept.refl _ _).grown h2 (λk e=> .inl e);obtain⟨hp9,c09,c19,fz9⟩:=(hSa.block.kept hKo (fG hSa.block hSa.used (by decide))).facts;have HSn:=ab hsn;have HKa:=ab (And.intro hba (And.intro hsz (hD.aj _ _ _ _ _ _ (hD.aj _ _ _ (λ_=>False) _ _ HD3.out (Kept.an hba) (λ_ _ h=>h)) hKo (λk hk e=>by
      rcases HF3.out k hk with h5|h5
      · exact HAp.out k h5 (HS.out.fp.2 k e)
      · have:=HS.out.lt k (HS.out.fp.2 k e);omega))))
     clear h1 h2 h3 h4 hwa hba hsz hSa hsn hKo c03 c13 hp3 fz3
     go_wp2_with fail
     go_ret
     obtain⟨G',g1,g2,g3⟩:=HSn.out;obtain⟨hba,hsz,hd9⟩:=HKa.out;have hz3:=HK3.out.size;refine .inl ⟨HOk2.out,rfl,F3,G',_,hD.aj _ _ _ (λk=>k=p) _ _ hd9 ((Kept.refl (λk=>k=p) w9).setCell (p:=⟨p,1,none⟩) (.inl rfl) _) (λk hk e=> ?_),g1,λk hk hg=> ?_,HF3.out,λk hk=> ?_,?_⟩
     · rcases HF3.out k hk with h5|h5
       · exact HAp.out k h5 (e ▸ HS.out.fp.1)
       · have:=HS.out.lt p HS.out.fp.1;omega
     · have hl3:=hD.lt _ _ _ _ HD3.out k hk;rcases g2 k hg with h6|h6
       · rcases HF3.out k hk with h5|h5
         · exact HAp.out k h5 h6
         · have:=HS.out.lt k h6;omega
       · omega
     · rcases g2 k hk with h6|h6
       · exact .inl h6
       · exact .inr (by omega)
     · exact((HK3.out.mono (λk _ h=> .inl h)).trans (Kept.an (F:=λ_=>False) hba) (λ_ h=>h.elim)).trans g3 (λk h=> .inl (.inr h))
   · have HD3:=ab hd3;have HK3:=ab (show Kept Fd W w3 from(HK1.out.trans (Kept.an (F:=F1) HB2.out) HF1.out).trans hk3 HF1.out);have HF3:=ab (show ∀k,F3 k->Fd k\/W.heap.size<=k from λk hk=>(hF3 k hk).elim (HF1.out k) (λh=> .inr (Nat.le_trans (Nat.le_trans HK1.out.size HB2.out.size) h)));have HOk2:=ab hok;clear hd3 hF3 hk3 hok CP2
     go_wp2_with fail
     go_ret
     exact .inr ⟨HOk2.out,rfl,F3,HD3.out,HF3.out,HK3.out⟩
 · have HD1:=ab hd1;have HF1:=ab (show ∀k,F1 k->Fd k\/W.heap.size<=k from λk hk=>(hF1 k hk).imp id (λh=>Nat.le_trans HB0.out.size h));have HK1:=ab (show Kept Fd W w1 from(Kept.an HB0.out).trans hk1 (λk h=> .inl h));have hT:=HT.out;rw[if_neg (by rw[hok];exact Bool.false_ne_true)]at hT;have HT2:=ab hT;clear hd1 hF1 hk1 hok CP hT
   go_wp2_with fail
   go_ret
   refine .inr ⟨by rw[HT2.out],rfl,F1,by rw[HT2.out];exact HD1.out,HF1.out,HK1.out⟩
end
end Go.Proofs.YtiafamacjpgjoaaGreatDoor
namespace Go.Proofs.YtiafamacjpgjoaaGreatDoor
open Go.RowKit Tide
theorem av.none_ {W:World} {a:Nat->Addr} (h:av W a):W.cell? ⟨15,0,none⟩=some (ao (a 15)):=by have h0:=h.var 15 (by omega);simp only[cL,List.getD_cons_zero,List.getD_cons_succ]at h0;exact h0
theorem av.DP {W:World} {a:Nat->Addr} (h:av W a):W.cell? ⟨16,0,none⟩=some (ao (a 16)):=by have h0:=h.var 16 (by omega);simp only[cL,List.getD_cons_zero,List.getD_cons_succ]at h0;exact h0
theorem yq (us:List ai) (n:Int):dM us n= -1\/∃ (i:Nat) (hi:i < us.length),dM us n=(i:Nat)/\((us[i]).no:Int)=n:=by
 unfold dM;cases h:(da us).find? λx=>(x.2.no:Int) == n with
 | none=>exact .inl rfl
 | some x=>right;have h1:=List.mem_of_find?_eq_some h;have h2:=List.find?_some h;obtain⟨k,hk,e⟩:=List.getElem_of_mem h1;have hk2:=hk;rw[qM]at hk2;rw[qL us k hk2 hk]at e;subst e;exact⟨us.length - 1 - k,by omega,rfl,by simpa using h2⟩
section
variable {D:aB} {a:Nat->Addr} {W:World} {Fd Fs:Nat->Prop} {p dev:Nat} {us:List ai} {vs:Value}
theorem a7.yl {b c K:Nat} {W':World} {us':List ai} (h:a7 W Fs p dev us (.slice (some ⟨b,0,none⟩) (K+1) c)) (hk:Kept (λk=>k=b) W W') (ho:W'.ownsRow 0 193 3 (.slice (some ⟨b,0,none⟩) K c) K (us'.flatMap ai.cells)) (hK:us'.length=K):
 a7 (W'.setCell ⟨p,1,none⟩ (.slice (some ⟨b,0,none⟩) K c)) Fs p dev us' (.slice (some ⟨b,0,none⟩) K c):=by
 have hpb:p≠b:=λe=>fG h.block h.used (by decide) (by rw[e];rfl);have hset:Kept (λk=>k=p) W' (W'.setCell ⟨p,1,none⟩ (.slice (some ⟨b,0,none⟩) K c)):=(Kept.refl (λk=>k=p) W').setCell (p:=⟨p,1,none⟩) (.inl rfl) _;subst hK
 exact { block:=(h.block.kept hk hpb).iR _
         used:=hset.own ho (λk e=>by simp only[Value.ownBlock,Option.some.injEq]at e;subst e;exact λe=>hpb e.symm)
         fp:=⟨h.fp.1,λk e=>h.fp.2 k e⟩
         lt:=λk hf=>Nat.lt_of_lt_of_le (h.lt k hf) (Nat.le_trans hk.size hset.size) }
theorem xS (hD:ay (three a) D) (hE:av W a) {img:List UInt8} {st:Option Nat} (hd:D W Fd dev ⟨img, [],st⟩) (h:a7 W Fs p dev us vs) (hap:∀k,Fd k->¬Fs k) (hNG:∀k,Fd k->19<=k) (hNW:19<=W.heap.size) (hmax:us.length<=1000)
 (hus:∀u ∈ us,u.first < img.length / 64) (n:Int):
 Calls Tryz.prog 140 #[.pointer (some ⟨p,0,none⟩),.int .i64 n] W λe w'=>
  ((dM us n= -1/\e= .returned (ao (a 15))/\Below W.heap.size W w')\/
   (∃i:Nat,dM us n=i/\i+1=us.length/\e= .returned (ao (a 16))/\Below W.heap.size W w')\/
   (∃ (i:Nat) (hi:i+1 < us.length),dM us n=i/\
     ((lv st 2/\e= .returned .nilIface/\∃F' vs',D w' F' dev ⟨aR img (bz (us[i]).first ((ak img (us[i]).first).set 63 2) 1), [],fX st 2⟩/\a7 w' Fs p dev (us.eraseIdx i) vs'/\(∀k,F' k->Fd k\/W.heap.size<=k)/\Kept (λk=>Fd k\/Fs k) W w')\/
      (∃s,st=some s/\s<=1/\e= .returned (ao (a 11))/\∃F',D w' F' dev ⟨img,(bz (us[i]).first ((ak img (us[i]).first).set 63 2) 1).take s,some 0⟩/\(∀k,F' k->Fd k\/W.heap.size<=k)/\Kept Fd W w')))):=by
 have HE:=ab hE;have HDv:=ab hd;have HS:=ab h;have HAp:=ab hap;have HG:=ab hNG;have CF:=ab (rK h hmax n);have HFl:=ab (hD.lt _ _ _ _ hd);have HUs:=ab hus;clear hE hd h hap hNG hus;rcases yq us n with hf|⟨i,hi,hf,hno⟩
 · rw[hf]at CF
   go_enter Tryz.func140,Tryz.ntmps140
   go_wp2_with fail
   refine CF.out.mono ?_;rintro en w1 ⟨rfl,hb⟩;have e15:=(HE.out.below hb).none_;have HB:=ab hb;clear hb CF
   go_wp2_with fail
   go_ret
   exact .inl ⟨hf,rfl,HB.out⟩
 · rw[hf]at CF;have HF:=ab hf;clear hf;by_cases hl:i+1=us.length
   · go_enter Tryz.func140,Tryz.ntmps140
     go_wp2_with fail
     refine CF.out.mono ?_;rintro en w1 ⟨rfl,hb⟩;have e16:=(HE.out.below hb).DP;obtain⟨A,c,rfl,_,_⟩:=HS.out.form;obtain⟨hp,c0,c1,fz⟩:=(HS.out.below hb).block.facts;have HB:=ab hb;have HL:=ab hl;obtain⟨L,hL⟩:=aa us.length;have HLL:=ab hL;rw[hL]at c1 hl hmax;have q0:decide (((i:Nat):Int) < 0)=false:=decide_eq_false (by omega);have q1:(L:Int) - 1=(i:Int):=by omega
     clear hb CF hL
     go_wp2_with fail
     go_ret
     exact .inr (.inl ⟨i,HF.out,HL.out,rfl,HB.out⟩)
   · obtain⟨K,hK⟩:∃K,us.length=K+1:=⟨us.length - 1,by omega⟩;obtain⟨u,hu⟩:=aa (us[i]);have hum:u ∈ us:=hu ▸ List.getElem_mem hi;obtain⟨b,c,rfl,hcl,hbl,hbp,k0,k1,k2,fz⟩:=HS.out.cells i hi;rw[hu]at k0 k1 k2;have HU:=ab hu;have HK:=ab hK;have HFi:=ab (HUs.out u hum);obtain⟨f,hfe⟩:=aa u.first;have HFe:=ab hfe;rw[hfe]at k1;rw[hK]at hl hi hmax hcl;have HBp:=ab (And.intro hbp hbl);clear hK hu hum fz k0 k2 hfe hbp hbl;have hflen:=(hD.right _ _ _ _ HDv.out).2.2.1;have hf9:f<=1000:=by have h1:=HFi.out;rw[HFe.out]at h1;dsimp only at hflen;omega
     go_enter Tryz.func140,Tryz.ntmps140
     go_wp2_with fail
     refine CF.out.mono ?_;rintro en w1 ⟨rfl,hb⟩;have hS1:=HS.out.below hb;obtain⟨hp,c0,c1,fz⟩:=hS1.block.facts;rw[HK.out]at c1;have c2:w1.cell? ⟨b,i * 3+1,none⟩=some (.int .i64 (f:Int)):=(hb.cell (p:=⟨b,i * 3+1,none⟩) HBp.out.2).trans k1;have hD1:=hD.aj _ _ _ (λ_=>False) _ _ HDv.out (Kept.an hb) (λ_ _ h=>h);have cs0:=m4 hD hD1 hS1 f (by have h1:=HFi.out;rw[HFe.out]at h1;exact h1);have CS:=ab cs0;have HB:=ab hb;have HL:=ab hl;have hcK:=hcl;have q0:decide (((i:Nat):Int) < 0)=false:=decide_eq_false (by omega);have q1:(((i:Nat):Int) == ((K+1:Nat):Int) - 1)=false:=by rw[beq_eq_false_iff_ne];omega
     have q2:(((K+1:Nat):Int) - 1)=(K:Int):=by omega
     have q3:(((i:Nat):Int) == (K:Int))=false:=by rw[beq_eq_false_iff_ne];omega
     clear hb CF hS1 hD1 cs0 k1 hflen
     go_wp2_with fail
     refine CS.out.mono ?_;rintro en w2 ⟨v2,rfl,ho,hb2⟩;obtain⟨g,cap,rfl,hg1,hg2⟩:=ho.form (Nat.succ_pos 63);have ho':w2.ownsRow w1.heap.size 5 1 (.slice (some ⟨g,0,none⟩) (64 * 1) cap) 64 (al (ak img f)):=ho;have hsl:(ak img f).length=64:=gd _ _ (by have h1:=HFi.out;rw[HFe.out]at h1;have h2:=(hD.right _ _ _ _ HDv.out).1;dsimp only at h2;omega);have hset:=iN ho' 63 (.int .u8 (((2:UInt8).toNat:Nat):Int));rw[uV]at hset;obtain⟨whole,hwhole⟩:∃l,(ak img f).set 63 2=l:=⟨_,rfl⟩;rw[hwhole]at hset;have hwl:whole.length=64 * 1:=by rw[<-hwhole,List.length_set,hsl]
     have hbb:Below W.heap.size W w2:=HB.out.trans (hb2.mono HB.out.size);have hbs:Below W.heap.size W (w2.setCell ⟨g,63,none⟩ (.int .u8 2)):=hbb.setCell (p:=⟨g,63,none⟩) (by show W.heap.size<=g;have:=HB.out.size;omega) _;obtain⟨w3,hw3⟩:=aa (w2.setCell ⟨g,63,none⟩ (.int .u8 2));have hsz:w3.heap.size=w2.heap.size:=by rw[<-hw3];simp[World.setCell]
     rw[hw3]at hbs;have hset':w3.ownsRow w1.heap.size 5 1 (.slice (some ⟨g,0,none⟩) (64 * 1) cap) 64 (al whole):=by rw[<-hw3];exact hset
     have hlo:=hset'.lt g rfl;have cp:=tF hD (E3.mx (HE.out.below hbs)) (hD.aj _ _ _ (λ_=>False) _ _ HDv.out (Kept.an hbs) (λ_ _ h=>h)) (HS.out.below hbs) HAp.out HG.out (Nat.le_trans hNW hbs.size) f 1 (by have h1:=HFi.out;rw[HFe.out]at h1;exact h1) (by omega) g cap whole (Bytes.cm hset') hwl (λhF=>by have:=HFl.out g hF;have:=HB.out.size;omega);have CP:=ab cp;have c63:∃u,w2.cell? ⟨g,63,none⟩=some u:=by have h1:=ho.cells (g:=g) rfl 63 _ (by rw[List.getElem?_eq_getElem (by rw[aW];show 63 < (ak img f).length;omega)]);rw[cV,Nat.zero_add]at h1;exact⟨_,h1⟩
     obtain⟨u63,c63⟩:=c63;have f63:w2.frozen? ⟨g,63,none⟩=false:=by obtain⟨cur,hob⟩:=eU ho (k:=g) rfl;unfold World.frozen?;rw[show w2.heap[(⟨g,63,none⟩:Addr).block]? =_ from hob];simp
     have hcap:64<=cap:=by
      rcases ho.2 with⟨h0,_⟩|⟨_,_,_,h0,_,_,h1,_⟩
      · cases h0
      · injection h0 with _ _ h0;omega
     have hD3:=HFl.out;have HW3:=ab hw3;have HBS:=ab hbs;have HWh:=ab hwhole;clear ho ho' hb2 hset hsl hwhole hwl hbb hbs hw3 hsz hset' hlo cp CS c0 c2 hp fz c1
     go_wp2_with fail
     rw[HW3.out];refine CP.out.mono ?_;clear CP c63 f63 hD3;rintro en w4 (⟨hpw,rfl,F',hd4,hF4,hk4⟩|⟨s,hs,hsm,rfl,F',hd4,hF4,hk4⟩)
     · have hFF:∀k,F' k->Fd k\/W.heap.size<=k:=λk hk=>(hF4 k hk).imp id (λh=>Nat.le_trans HBS.out.size h);have hK4:Kept Fd W w4:=(Kept.an HBS.out).trans hk4 (λk h=> .inl h);have hS4:=(HS.out.below HBS.out).aj hk4 (λk hF hd=>HAp.out k hd hF);obtain⟨hp,c0,c1,fz⟩:=hS4.block.facts;rw[HK.out]at c1;have hu4:=hS4.used;rw[HK.out]at hu4;have HDe:=ab (xF hu4 HK.out (by omega) i (by omega));have HP:=ab hpw;have HD4:=ab hd4;have HF4:=ab hFF;have HK4:=ab hK4;have HS4:=ab hS4;clear hpw hd4 hF4 hk4 hFF hK4 hS4 hu4
       go_wp2_with fail
       refine HDe.out.mono ?_;rintro en w5 ⟨rfl,ho5,hk5⟩;obtain⟨hp5,c05,c15,fz5⟩:=(HS4.out.block.kept hk5 (λe=>HBp.out.1 e.symm)).facts;have HO5:=ab ho5;have HK5:=ab hk5;clear ho5 hk5 HDe c0 c1 fz hp
       go_wp2_with fail
       go_ret
       have hs4:=HS4.out;have hK5:=HK5.out;have hD4:=HD4.out;rw[<-HWh.out]at hD4;have hb_:Fs b:=HS.out.fp.2 b rfl;have hp_:Fs p:=HS.out.fp.1;have hapb:∀k,F' k->¬k=b:=λk hk e=>by
        rcases HF4.out k hk with h1|h1
        · exact HAp.out k h1 (e ▸ hb_)
        · have:=HBp.out.2;omega
       have hapP:∀k,F' k->¬k=p:=λk hk e=>by
        rcases HF4.out k hk with h1|h1
        · exact HAp.out k h1 (e ▸ hp_)
        · have:=HS.out.lt p hp_;omega
       have hset:Kept (λk=>k=p) w5 (w5.setCell ⟨p,1,none⟩ (.slice (some ⟨b,0,none⟩) K c)):=(Kept.refl (λk=>k=p) w5).setCell (p:=⟨p,1,none⟩) (.inl rfl) _;rw[HK.out]at hs4;refine .inr (.inr ⟨i,by rw[HK.out];omega,HF.out,.inl ⟨HP.out,rfl,F',_,hD.aj _ _ _ _ _ _ (hD.aj _ _ _ _ _ _ (by rw[HU.out,HFe.out];exact hD4) hK5 hapb) hset hapP,hs4.yl hK5 HO5.out ?_,HF4.out,?_⟩⟩)
       · rw[List.length_eraseIdx,if_pos (by rw[HK.out];omega),HK.out];rfl
       · refine(((HK4.out.mono (λk _ h=> .inl h)).trans hK5 (λk e=> ?_)).trans hset (λk e=> ?_))
         · subst e;exact .inl (.inr hb_)
         · subst e;exact .inl (.inr hp_)
     · have hFF:∀k,F' k->Fd k\/W.heap.size<=k:=λk hk=>(hF4 k hk).imp id (λh=>Nat.le_trans HBS.out.size h);have HK4:=ab (show Kept Fd W w4 from(Kept.an HBS.out).trans hk4 (λk h=> .inl h));have HF4:=ab hFF;have HD4:=ab hd4;have HSt:=ab (And.intro hs hsm);clear hs hsm hd4 hF4 hk4 hFF
       go_wp2_with fail
       go_ret
       refine .inr (.inr ⟨i,by rw[HK.out];omega,HF.out,.inr ⟨s,HSt.out.1,HSt.out.2,rfl,F',?_,HF4.out,HK4.out⟩⟩);have hd4:=HD4.out;rw[<-HWh.out]at hd4;rw[HU.out,HFe.out];exact hd4
end
end Go.Proofs.YtiafamacjpgjoaaGreatDoor
namespace Go.Proofs.YtiafamacjpgjoaaGreatDoor
open Go.RowKit Tide
def gS (fi en n:Nat):Nat:=min (aJ en n+1) (fi+64) - en - 1
def dr (m:Nat) (b:List UInt8):List UInt8:=b ++ bj (64 * m - b.length)
theorem nH {m:Nat} {b:List UInt8} (h:b.length<=64 * m):(dr m b).length=64 * m:=by unfold dr;rw[List.length_append,dE];omega
theorem wE (m:Nat) (b:List UInt8):splice (al (bj (64 * m))) 0 (al b)=al (dr m b):=by rw[pV];unfold splice dr bj;simp
def dk (d:Dv) (fi en:Nat) (b:List UInt8):Bool × Dv:=
 if(bV d (en+1) (dr (gS fi en b.length) b) (gS fi en b.length)).1=true
 then bV (bV d (en+1) (dr (gS fi en b.length) b) (gS fi en b.length)).2 en (du b.length) 1
 else(false,(bV d (en+1) (dr (gS fi en b.length) b) (gS fi en b.length)).2)
section
variable {D:aB} {x:Nat->Addr} {W:World} {Fd Fs:Nat->Prop} {p dev:Nat} {us:List ai} {vs:Value} {d:Dv}
theorem vt (hD:ay x D) (hE:E3 x W) (hd:D W Fd dev d) (hpe:d.ar= []) (h:a7 W Fs p dev us vs) (hap:∀k,Fd k->¬Fs k) (hNG:∀k,Fd k->19<=k) (hNW:19<=W.heap.size) (no fi en:Nat) (vb:Value) (b:List UInt8) (B:Nat) (hb:Bytes W B vb b) (hB:B<=W.heap.size)
 (hb1:1<=b.length) (hfe:fi < en) (hfit:aJ en b.length<=fi+64) (himg:fi+64<=d.img.length / 64):
 Calls Tryz.prog 131 #[.pointer (some ⟨p,0,none⟩),.agg #[.int .i64 (no:Nat),.int .i64 (fi:Nat),.int .i64 (en:Nat)],vb] W λe w'=>(((dk d fi en b).1=true/\e= .returned .nilIface)\/((dk d fi en b).1=false/\e= .returned (ao (x 2))))/\∃F',D w' F' dev (dk d fi en b).2/\(∀k,F' k->Fd k\/W.heap.size<=k)/\Kept Fd W w':=by
 obtain⟨Ab,cb,rfl,hbc1,hbc2,hbB⟩:=hb.form;obtain⟨gb,ob,rfl,_,_⟩:=hbB 0 (by omega);have hr:=hD.right _ _ _ _ hd;have hll:=hr.2.2.1;obtain⟨n,hn⟩:=aa b.length;obtain⟨m,hm⟩:=aa (gS fi en b.length);have hmn:n<=64 * m:=by rw[<-hm,hn];unfold gS;rw[hn]at hfit;unfold aJ at hfit ⊢;omega
 have hm1:en+1+m<=d.img.length / 64/\en < d.img.length / 64/\m<=64/\en<=1000/\fi<=1000/\n<=10000/\(en+1+m=min (aJ en n+1) (fi+64))/\aJ en n<=10000:=by rw[<-hm,hn];rw[hn]at hfit hb1;unfold gS;unfold aJ at hfit ⊢;omega
 obtain⟨M,hMm⟩:=aa (64 * m);have mk:=oA M (by omega);have HR:=ab hr.1;have HDv:=ab hd;have HE:=ab hE;have HS:=ab h;have HAp:=ab hap;have HG:=ab hNG;have HFl:=ab (hD.lt _ _ _ _ hd);have HBy:=ab hb;have HN:=ab hn;have HM:=ab hm1;have HBL:=ab (nH (m:=m) (b:=b) (by rw[hn];exact hmn));have HT:=ab (show dk d fi en b=if(bV d (en+1) (dr m b) m).1=true then bV (bV d (en+1) (dr m b) m).2 en (du n) 1 else(false,(bV d (en+1) (dr m b) m).2) by unfold dk;rw[hm,hn]);have hl1:=ab (mL (d:=d) (i:=en+1) (whole:=dr m b) (m:=m) (n:=d.img.length / 64) HBL.out hm1.1 hr.1);have HP1:=ab (λh=>o7 (d:=d) (i:=en+1) (m:=m) (whole:=dr m b) h);obtain⟨r1,hr1⟩:∃r,bV d (en+1) (dr m b) m=r:=⟨_,rfl⟩;rw[hr1]at HT hl1 HP1;have HR1:=ab hr1;clear hr1;generalize dk d fi en b=T at *;obtain⟨W0,hW0⟩:=aa (W.alloc (.cells #[.int .i64 (no:Nat),.int .i64 (fi:Nat),.int .i64 (en:Nat)] 193));have hb0:Below W.heap.size W W0:=by rw[<-hW0];exact(Below.refl W.heap.size W).alloc (Nat.le_refl _) _
 have hz0:W.heap.size < W0.heap.size:=by rw[<-hW0];simp
 have hrow:W0.heap[W.heap.size]? =some (.cells #[.int .i64 (no:Nat),.int .i64 (fi:Nat),.int .i64 (en:Nat)] 193):=by rw[<-hW0];exact heap_alloc_new W _
 have e1:W0.cell? ⟨W.heap.size,1,none⟩=some (.int .i64 (fi:Int)):=by rw[cell_of_row _ _ 1 _ _ _ hrow];rfl
 have e2:W0.cell? ⟨W.heap.size,2,none⟩=some (.int .i64 (en:Int)):=by rw[cell_of_row _ _ 2 _ _ _ hrow];rfl
 obtain⟨be,hbe⟩:=aa (aJ en n);have CB:=ab (λ(W:World) (k:Nat)=>show Calls Tryz.prog 132 #[.int .i64 (en:Nat),.int .i64 (n:Nat)] (W.drewN k) (λe w'=>e= .returned (.int .i64 (be:Nat))/\w'=W.drewN k) from(jZ en n (by omega) (by omega) (W.drewN k)).mono λ_ _ ⟨h1,h2⟩=>⟨by rw[h1,hbe],h2.symm⟩);have CN:=ab (CB.out W0);obtain⟨en2,hen2⟩:∃k,en+1+m=k:=⟨_,rfl⟩;have hmin:(if(fi:Int)+64 < (be:Int)+1 then(fi:Int)+64 else(be:Int)+1)=(en2:Int):=by rw[<-hbe,<-hen2];split<;>omega
 have HB0:=ab hb0;have HEn:=ab hen2;rw[hbe]at hm1;obtain⟨_,_,r2,r3,r4,r5,_,r7⟩:=hm1;have HW0:=ab hW0;rw[hn]at hb1 hbc1 ⊢;clear hrow hb0 hbe hm hr hd hE h hap hNG hb hbB hfit himg hfe hen2 hll CB hn hW0
 go_enter Tryz.func131,Tryz.ntmps131
 go_wp2_with fail
 rw[HW0.out]
 go_quiet ((go_at_call 132;(with_reducible refine Calls.quiet_of_same (CN.out _))))
 try rw[hmin]
 obtain⟨W1,hW1⟩:=aa (W0.drewN nq);have hb1':Below W.heap.size W W1:=by rw[<-hW1];exact HB0.out.trans ((dz W0 nq).mono HB0.out.size)
 have e1':W1.cell? ⟨W.heap.size,1,none⟩=some (.int .i64 (fi:Int)):=by rw[<-hW1];exact e1
 have e2':W1.cell? ⟨W.heap.size,2,none⟩=some (.int .i64 (en:Int)):=by rw[<-hW1];exact e2
 have hz1:W.heap.size < W1.heap.size:=by rw[<-hW1];exact hz0
 rw[hW1];have q1:((en2:Int) - (en:Int) - 1) * 64=(M:Int):=by have:=HEn.out;omega
 have q2:(en2:Int) - (en:Int) - 1=(m:Int):=by have:=HEn.out;omega
 have q3:(m:Int) * 64=(M:Int):=by omega
 have HB1:=ab hb1';have HZ1:=ab hz1;have HMm:=ab hMm;have HMn:=ab hmn;have hen2:en2<=10000:=by have:=HEn.out;omega
 have hM9:M<=10000:=by omega
 clear hW1 hb1' e1 e2 hz0 hz1 CN hMm hmn;have HSr:=ab (λ(W':World) (hb:Below W.heap.size W W')=>(HBy.out.below (hb.mono hB)))
 go_wp2_with (refine vl rfl (.tmp 27) (.tmp 28) _ _ rfl 5 Tryz.underlying47 lF W1.heap.size 0 M _ rfl (some ⟨gb,ob,none⟩) n cb rfl W.heap.size M M 5 (al (bj M)) ?d0 (al b) ?d1 ?d2 (gB b) ?d3 ?_)
 case d0=>exact mH (heap_alloc_new W1 _) (dE M) (Nat.le_of_lt HZ1.out) (by omega)
 case d1=>have:=HMn.out;have:=HMm.out;rw[aW,HN.out];show n=min n M;omega
 case d2=>have:=HMn.out;have:=HMm.out;rw[aW,HN.out];omega
 case d3=>exact λ_=>mW (by have:=HSr.out (W1.alloc (.cells (al (bj M)).toArray 5)) (HB1.out.alloc HB1.out.size _);rw[HN.out]at this;exact this) HN.out
 intro w4 o4 g4 z4;have h4:=o4.out;have hsp:splice (al (bj M)) 0 (al b)=al (dr m b):=by rw[<-HMm.out];exact wE m b
 rw[hsp]at h4;have hb14:Below W1.heap.size W1 w4:=((Below.refl W1.heap.size W1).alloc (Nat.le_refl _) _).grown g4.out (by simp) (λk e=>by cases e;exact Nat.le_refl _);have hb4:Below W.heap.size W w4:=HB1.out.trans (hb14.mono HB1.out.size);have e2'':=(hb14.cell (p:=⟨W.heap.size,2,none⟩) HZ1.out).trans e2';have CP:=ab (mM hD (HE.out.below hb4) (hD.aj _ _ _ (λ_=>False) _ _ HDv.out (Kept.an hb4) (λ_ _ h=>h)) hpe (HS.out.below hb4) HAp.out HG.out (Nat.le_trans hNW hb4.size) (en+1) m (by have:=HM.out;omega) (by omega) W1.heap.size M M HMm.out.symm (dr m b) (Bytes.cm h4) (HBL.out.trans HMm.out) (λhF=>by have:=HFl.out _ hF;have:=HZ1.out;omega));have HB4:=ab hb4;have HZ4:=ab (show W.heap.size < w4.heap.size from Nat.lt_of_lt_of_le HZ1.out hb14.size);rw[HR1.out]at CP;clear o4 g4 z4 h4 hsp hb14 hb4 e1' e2' HSr mk hmin q1 q2 q3
 go_wp2_with fail
 refine CP.out.mono ?_;rintro en5 w5 ⟨⟨hok,rfl⟩|⟨hok,rfl⟩,F1,hd1,hF1,hk1⟩
 · have e2b:=(hk1.cell (p:=⟨W.heap.size,2,none⟩) HZ4.out (λhF=>by have:=HFl.out _ hF;exact Nat.lt_irrefl _ this)).trans e2'';have HD1:=ab hd1;have HF1:=ab (show ∀k,F1 k->Fd k\/W.heap.size<=k from λk hk=>(hF1 k hk).imp id (λh=>Nat.le_trans HB4.out.size h));have HK1:=ab (show Kept Fd W w5 from(Kept.an HB4.out).trans hk1 (λk h=> .inl h));have HOk:=ab hok;have hk15:=hk1.size;have CN:=ab (sU n (by omega) w5.drew);have hT:=HT.out;rw[if_pos HOk.out]at hT;have HT2:=ab hT;have hap1:∀k,F1 k->¬Fs k:=λk hk hF=>by
    rcases HF1.out k hk with h1|h1
    · exact HAp.out k h1 hF
    · have:=HS.out.lt k hF;omega
   have hlt1:=hD.lt _ _ _ _ HD1.out;have hzz:=HK1.out.size
   have C6:∀ (w6:World) (g6 cap6:Nat),w6.ownsRow w5.drew.heap.size 5 1 (.slice (some ⟨g6,0,none⟩) 64 cap6) 64 (al (du n))->Below w5.drew.heap.size w5.drew w6->
    Calls Tryz.prog 151 #[.pointer (some ⟨p,0,none⟩),.int .i64 (en:Nat),.slice (some ⟨g6,0,none⟩) 64 cap6] w6 λe w'=>∃v,e= .returned v/\Hid
     (((T.1=true/\v= .nilIface)\/(T.1=false/\v=ao (x 2)))/\∃F',D w' F' dev T.2/\(∀k,F' k->Fd k\/W.heap.size<=k)/\Kept Fd W w'):=λw6 g6 cap6 ho hb=>by
    have hb5:Below w5.heap.size w5 w6:=((Below.refl w5.heap.size w5).drew).trans hb;have hE6:E3 x w6:=(HE.out.kn HK1.out HG.out).below hb5;have hS6:=(HS.out.aj HK1.out (λk hF hd=>HAp.out k hd hF)).below hb5;have hD6:=hD.aj _ _ _ (λ_=>False) _ _ HD1.out (Kept.an hb5) (λ_ _ h=>h);have hg6:=(ho.lt g6 rfl).1;have hg7:w5.heap.size<=g6:=hg6;have hz6:=hb5.size;refine(mM hD hE6 hD6 (HP1.out HOk.out) hS6 hap1 (λk hk=>by rcases HF1.out k hk with h1|h1;exact HG.out k h1;omega) (by omega) en 1 (by rw[hl1.out];have:=HM.out;omega) (by omega) g6 cap6 64 rfl (du n) (Bytes.cm ho) (g7 n) (λhF=>by have:=hlt1 g6 hF;omega)).mono ?_;rintro e w' ⟨he,F',h1,h2,h3⟩;rw[<-HT2.out]at he h1;have hrest:∃F',D w' F' dev T.2/\(∀k,F' k->Fd k\/W.heap.size<=k)/\Kept Fd W w':=⟨F',h1,λk hk=>(h2 k hk).elim (HF1.out k) (λh=> .inr (by omega)),(HK1.out.trans (Kept.an (F:=F1) hb5) HF1.out).trans h3 HF1.out⟩;rcases he with⟨he,rfl⟩|⟨he,rfl⟩
    · exact⟨_,rfl,ab ⟨.inl ⟨he,rfl⟩,hrest⟩⟩
    · exact⟨_,rfl,ab ⟨.inr ⟨he,rfl⟩,hrest⟩⟩
   have C6':=ab C6;clear hd1 hF1 hk1 hok CP hT e2'' hap1 hlt1 hzz C6
   go_wp2_with fail
   go_region_law (first
    | (go_simp;(with_reducible refine(CN.out).mono ?_);rintro en6 w6 ⟨v6,rfl,ho6,hb6⟩;obtain⟨g6,cap6,rfl,hg6,_⟩:=ho6.form (Nat.succ_pos 63);have HO6:=ab ho6;have HB6:=ab hb6;have e2c:=(hb6.cell (p:=⟨W.heap.size,2,none⟩) (Nat.lt_of_lt_of_le (Nat.lt_of_lt_of_le HZ4.out hk15) (Nat.le_refl _))).trans e2b;clear ho6 hb6)
    | (go_simp;(with_reducible refine(C6'.out w6 g6 cap6 HO6.out HB6.out).mono ?_);rintro en7 w7 ⟨v7,rfl,hrest⟩))
   all_goals
    go_wp2_with fail
    go_ret
    obtain⟨h1,h2⟩:=hrest.out;refine⟨?_,h2⟩;rcases h1 with⟨h1,rfl⟩|⟨h1,rfl⟩
    · exact .inl ⟨h1,rfl⟩
    · exact .inr ⟨h1,rfl⟩
 · have HD1:=ab hd1;have HF1:=ab (show ∀k,F1 k->Fd k\/W.heap.size<=k from λk hk=>(hF1 k hk).imp id (λh=>Nat.le_trans HB4.out.size h));have HK1:=ab (show Kept Fd W w5 from(Kept.an HB4.out).trans hk1 (λk h=> .inl h));have hT:=HT.out;rw[if_neg (by rw[hok];exact Bool.false_ne_true)]at hT;have HT2:=ab hT;clear hd1 hF1 hk1 hok CP hT
   go_wp2_with fail
   go_ret
   exact⟨.inr ⟨by rw[HT2.out],rfl⟩,F1,by rw[HT2.out];exact HD1.out,HF1.out,HK1.out⟩
end
end Go.Proofs.YtiafamacjpgjoaaGreatDoor
