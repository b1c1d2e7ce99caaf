import Derived.Test.YtdilnodbfnlhdaaGreatDoorGSsF
import Derived.Test.YtdilnodbfnlhdaaGreatDoorGSsO
import Derived.Test.YtdilnodbfnlhdaaGreatDoorGSgT
set_option maxRecDepth 100000
set_option maxHeartbeats 4000000
namespace Go.Proofs.YtdilnodbfnlhdaaGreatDoor
open Go.RowKit Tide
theorem l6 {d:Dv} {i m n:Nat} {whole:List UInt8} (hl:whole.length=64 * m) (hi:i+m<=n) (hn:d.ae.length=64 * n):(bR d i whole m).2.ae.length=64 * n:=by
 unfold bR;cases d.stop with
 | none=>exact iv _ _ (lk i whole m n hl hi) _ hn
 | some s=>
   simp only;by_cases hs:s<=m
   · rw[if_pos hs];exact hn
   · rw[if_neg hs];exact iv _ _ (lk i whole m n hl hi) _ hn
section
variable {D:az} {x:Nat->Addr} {W:World} {Fd Fs:Nat->Prop} {p dev:Nat} {us:List ah} {vs:Value} {d:Dv}
theorem DT (hD:aC x D) (hE:E3 x W) (hd:D W Fd dev d) (hpe:d.aq= []) (h:aO W Fs p dev us vs) (hap:∀k,Fd k->¬Fs k) (hNG:∀k,Fd k->19<=k) (hNW:19<=W.heap.size) (f no:Nat) (hf:f+64<=d.ae.length / 64) (hno:no < 2 ^ 63) (hmax:us.length<=1000):
 Calls Tryz.prog 174 #[.pointer (some ⟨p,0,none⟩),.int .i64 (f:Nat),.int .i64 (no:Nat)] W λe w'=>
  ((bx d f no).1=true/\e= .returned .nilIface/\∃F' G' vs',D w' F' dev (bx d f no).2/\aO w' G' p dev (us ++ [⟨no,f,f+1⟩]) vs'/\(∀k,F' k->¬G' k)/\(∀k,F' k->Fd k\/W.heap.size<=k)/\(∀k,G' k->Fs k\/W.heap.size<=k)/\Kept (λk=>Fd k\/Fs k) W w')\/
  ((bx d f no).1=false/\e= .returned (ai (x 2))/\∃F',D w' F' dev (bx d f no).2/\(∀k,F' k->Fd k\/W.heap.size<=k)/\Kept Fd W w'):=by
 have mk:∀W:World,(Instr.makeSlice 38 (.int .i64 4096) (.int .i64 4096)).run Tryz.prog W= .ok (.slice (some ⟨W.heap.size,0,none⟩) 4096 4096) (W.alloc (.cells (aj (aN 4096)).toArray 5)):=nO 4096 (by omega);obtain⟨i0,hinf,hz0,hz1,hz2⟩:=info_parts qX;have HIn:=ab hinf;have hr:=hD.right _ _ _ _ hd;have hll:=hr.2.2.1;have hf9:f<=1000:=by omega
 have HR:=ab hr.1;have HDv:=ab hd;have HE:=ab hE;have HS:=ab h;have HAp:=ab hap;have HG:=ab hNG;have HF:=ab hf;have HFl:=ab (hD.lt _ _ _ _ hd);obtain⟨W0,hW0⟩:=aa (W.alloc (.cells (aj (aN 4096)).toArray 5));have hb0:Below W.heap.size W W0:=by rw[<-hW0];exact(Below.refl W.heap.size W).alloc (Nat.le_refl _) _
 have CP:=ab (l7 hD (hE.below hb0) (hD.an _ _ _ (λ_=>False) _ _ hd (Kept.al hb0) (λ_ _ h=>h)) hpe (h.below hb0) hap hNG (Nat.le_trans hNW hb0.size) f 64 hf (by omega) W.heap.size 4096 4096 rfl (aN 4096)
  (by rw[<-hW0];exact Bytes.dm (lT (heap_alloc_new W _) (dr 4096) (Nat.le_refl _) (by omega))) (dr 4096) (λhF=>Nat.lt_irrefl _ (HFl.out _ hF)))
 have HW0:=ab hW0;have HB0:=ab hb0;have hl1:=ab (l6 (d:=d) (i:=f) (whole:=aN 4096) (m:=64) (dr 4096) hf hr.1);obtain⟨r1,hr1⟩:∃r,bR d f (aN 4096) 64=r:=⟨_,rfl⟩;have HP1:=ab (λh=>ov (d:=d) (i:=f) (m:=64) (whole:=aN 4096) h);rw[hr1]at CP hl1 HP1;have HT:=ab (show bx d f no=if r1.1=true then bR r1.2 f (dj no) 1 else(false,r1.2) by unfold bx;rw[hr1]);generalize bx d f no=T at *;clear hd hE h hap hNG hf hr hW0 hb0 hr1 hll hinf
 go_enter Tryz.func174,Tryz.ntmps174
 go_wp2_with fail
 rw[HW0.out];refine CP.out.mono ?_;rintro en w1 ⟨⟨hok,rfl⟩|⟨hok,rfl⟩,F1,hd1,hF1,hk1⟩
 · have CN:=ab (rE no hno w1);have HD1:=ab hd1;have HF1:=ab (show ∀k,F1 k->Fd k\/W.heap.size<=k from λk hk=>(hF1 k hk).imp id (λh=>Nat.le_trans HB0.out.size h));have HK1:=ab (show Kept Fd W w1 from(Kept.al HB0.out).trans hk1 (λk h=> .inl h));have HOk:=ab hok;clear hd1 hF1 hk1 hok CP
   go_wp2_with fail
   refine CN.out.mono ?_;rintro en w2 ⟨v2,rfl,ho2,hb2⟩;obtain⟨g,cap,rfl,hg1,hg2⟩:=ho2.form (Nat.succ_pos 63);have hz1':=HK1.out.size;have hz2':=hb2.size;have hE2:E3 x w2:=(HE.out.jG HK1.out HG.out).below hb2;have hS2:=(HS.out.an HK1.out (λk hF hd=>HAp.out k hd hF)).below hb2;have hap2:∀k,F1 k->¬Fs k:=λk hk hF=>by
    rcases HF1.out k hk with h1|h1
    · exact HAp.out k h1 hF
    · have:=HS.out.lt k hF;omega
   have hD2:=hD.an _ _ _ (λ_=>False) _ _ HD1.out (Kept.al hb2) (λ_ _ h=>h);have hlt1:=hD.lt _ _ _ _ HD1.out;have cp:=l7 hD hE2 hD2 (HP1.out HOk.out) hS2 hap2 (λk hk=>by rcases HF1.out k hk with h1|h1;exact HG.out k h1;omega) (by omega) f 1 (by rw[hl1.out];have:=HF.out;omega) (by omega) g cap 64 rfl (dj no) (Bytes.dm ho2) (gA no) (λhF=>by have:=hlt1 g hF;omega);have CP2:=ab cp;have HS2:=ab hS2;have HB2:=ab hb2;have HAp2:=ab hap2;clear hz1' hz2' hE2 hS2 hD2 hlt1 cp ho2 hb2 hap2 CN;have hT:=HT.out;rw[if_pos HOk.out]at hT;have HT2:=ab hT;rw[<-hT]at CP2;clear hT
   go_wp2_with fail
   refine CP2.out.mono ?_;rintro en w3 ⟨⟨hok,rfl⟩|⟨hok,rfl⟩,F3,hd3,hF3,hk3⟩
   · have hK3:Kept Fd W w3:=(HK1.out.trans (Kept.al (F:=F1) HB2.out) HF1.out).trans hk3 HF1.out;have hS3:=HS.out.an hK3 (λk hF hd=>HAp.out k hd hF);obtain⟨hp3,c03,c13,fz3⟩:=hS3.block.facts;have HD3:=ab hd3;have HK3:=ab hK3;have HF3:=ab (show ∀k,F3 k->Fd k\/W.heap.size<=k from λk hk=>(hF3 k hk).elim (HF1.out k) (λh=> .inr (Nat.le_trans (Nat.le_trans HK1.out.size HB2.out.size) h)));have HOk2:=ab hok;have HS3:=ab hS3;have HU3:=ab hS3.used;have HM:=ab hmax;clear hd3 hF3 hk3 hok CP2 hK3 hS3 hmax
     go_wp2_with (at_builtin;refine wpList_append_lies _ rfl (.tmp 28) (.tmp 34) _ rfl 0 224 i0 _ 3 24 Tryz.underlying216 HIn.out hz0 hz1 hz2 rfl (by omega) _ us.length (us.flatMap ah.cells) rfl ?d0 _ 1 _ [.int .i64 (no:Nat),.int .i64 (f:Nat),.int .i64 ((f:Int)+1)] rfl rfl ?d2 ?d3 (by omega) ?d4 ?d5 ?d6 _ rfl ?_)
     case d0=>exact bp HU3.out ((Below.refl _ _).alloc (Nat.le_refl _) _)
     case d2=>exact λj u hu=>World.news_of_block (heap_alloc_new w3 _) j u (by simpa using hu)
     case d3=>intro u hu;simp only[List.mem_cons,List.not_mem_nil,or_false]at hu;rcases hu with rfl|rfl|rfl<;>rfl
     case d4=>unfold maxLen;have:=HM.out;omega
     case d5=>have:=HM.out;omega
     case d6=>exact Nat.zero_le _
     intro g9 cap9 w9 h1 h2 h3 h4;obtain⟨wa,hwa⟩:=aa (w3.alloc (.cells #[.int .i64 (no:Nat),.int .i64 (f:Nat),.int .i64 ((f:Int)+1)] 224));have hba:Below w3.heap.size w3 wa:=by rw[<-hwa];exact(Below.refl _ _).alloc (Nat.le_refl _) _
     have hsz:wa.heap.size=w3.heap.size+1:=by rw[<-hwa];simp
     rw[hwa]at h2;have hSa:=HS3.out.below hba;have hsn:=hSa.snoc (g:=g9) (cap:=cap9) h2 ⟨no,f,f+1⟩ h1 (by rw[hsz];exact h3);have hKo:Kept (λk=>vs.ownBlock=some k) wa w9:=(Kept.refl _ _).grown h2 (λk e=> .inl e);obtain⟨hp9,c09,c19,fz9⟩:=(hSa.block.kept hKo (j7 hSa.block hSa.used (by decide))).facts;have HSn:=ab hsn;have HKa:=ab (And.intro hba (And.intro hsz (hD.an _ _ _ _ _ _ (hD.an _ _ _ (λ_=>False) _ _ HD3.out (Kept.al hba) (λ_ _ h=>h)) hKo (λk hk e=>by
      rcases HF3.out k hk with h5|h5
      · exact HAp.out k h5 (HS.out.fp.2 k e)
      · have:=HS.out.lt k (HS.out.fp.2 k e);omega))))
     clear h1 h2 h3 h4 hwa hba hsz hSa hsn hKo c03 c13 hp3 fz3
     go_wp2_with fail
     go_ret
     obtain⟨G',g1,g2,g3⟩:=HSn.out;obtain⟨hba,hsz,hd9⟩:=HKa.out;have hz3:=HK3.out.size;refine .inl ⟨HOk2.out,rfl,F3,G',_,hD.an _ _ _ (λk=>k=p) _ _ hd9 ((Kept.refl (λk=>k=p) w9).setCell (p:=⟨p,1,none⟩) (.inl rfl) _) (λk hk e=> ?_),g1,λk hk hg=> ?_,HF3.out,λk hk=> ?_,?_⟩
     · rcases HF3.out k hk with h5|h5
       · exact HAp.out k h5 (e ▸ HS.out.fp.1)
       · have:=HS.out.lt p HS.out.fp.1;omega
     · have hl3:=hD.lt _ _ _ _ HD3.out k hk;rcases g2 k hg with h6|h6
       · rcases HF3.out k hk with h5|h5
         · exact HAp.out k h5 h6
         · have:=HS.out.lt k h6;omega
       · omega
     · rcases g2 k hk with h6|h6
       · exact .inl h6
       · exact .inr (by omega)
     · exact((HK3.out.mono (λk _ h=> .inl h)).trans (Kept.al (F:=λ_=>False) hba) (λ_ h=>h.elim)).trans g3 (λk h=> .inl (.inr h))
   · have HD3:=ab hd3;have HK3:=ab (show Kept Fd W w3 from(HK1.out.trans (Kept.al (F:=F1) HB2.out) HF1.out).trans hk3 HF1.out);have HF3:=ab (show ∀k,F3 k->Fd k\/W.heap.size<=k from λk hk=>(hF3 k hk).elim (HF1.out k) (λh=> .inr (Nat.le_trans (Nat.le_trans HK1.out.size HB2.out.size) h)));have HOk2:=ab hok;clear hd3 hF3 hk3 hok CP2
     go_wp2_with fail
     go_ret
     exact .inr ⟨HOk2.out,rfl,F3,HD3.out,HF3.out,HK3.out⟩
 · have HD1:=ab hd1;have HF1:=ab (show ∀k,F1 k->Fd k\/W.heap.size<=k from λk hk=>(hF1 k hk).imp id (λh=>Nat.le_trans HB0.out.size h));have HK1:=ab (show Kept Fd W w1 from(Kept.al HB0.out).trans hk1 (λk h=> .inl h));have hT:=HT.out;rw[if_neg (by rw[hok];exact Bool.false_ne_true)]at hT;have HT2:=ab hT;clear hd1 hF1 hk1 hok CP hT
   go_wp2_with fail
   go_ret
   refine .inr ⟨by rw[HT2.out],rfl,F1,by rw[HT2.out];exact HD1.out,HF1.out,HK1.out⟩
end
end Go.Proofs.YtdilnodbfnlhdaaGreatDoor
namespace Go.Proofs.YtdilnodbfnlhdaaGreatDoor
open Go.RowKit Tide
section
variable {D:az} {a:Nat->Addr} {W:World} {Fd Fs:Nat->Prop} {p dev:Nat} {us:List ah} {vs:Value}
end
end Go.Proofs.YtdilnodbfnlhdaaGreatDoor
namespace Go.Proofs.YtdilnodbfnlhdaaGreatDoor
open Go.RowKit Tide
def gk (fi en n:Nat):Nat:=min (ax en n+1) (fi+64) - en - 1
def dh (m:Nat) (b:List UInt8):List UInt8:=b ++ aN (64 * m - b.length)
theorem mZ {m:Nat} {b:List UInt8} (h:b.length<=64 * m):(dh m b).length=64 * m:=by unfold dh;rw[List.length_append,dr];omega
theorem vF (m:Nat) (b:List UInt8):splice (aj (aN (64 * m))) 0 (aj b)=aj (dh m b):=by rw[oS];unfold splice dh aN;simp
def cS (d:Dv) (fi en:Nat) (b:List UInt8):Bool × Dv:=
 if(bR d (en+1) (dh (gk fi en b.length) b) (gk fi en b.length)).1=true
 then bR (bR d (en+1) (dh (gk fi en b.length) b) (gk fi en b.length)).2 en (dj b.length) 1
 else(false,(bR d (en+1) (dh (gk fi en b.length) b) (gk fi en b.length)).2)
section
variable {D:az} {x:Nat->Addr} {W:World} {Fd Fs:Nat->Prop} {p dev:Nat} {us:List ah} {vs:Value} {d:Dv}
theorem uh (hD:aC x D) (hE:E3 x W) (hd:D W Fd dev d) (hpe:d.aq= []) (h:aO W Fs p dev us vs) (hap:∀k,Fd k->¬Fs k) (hNG:∀k,Fd k->19<=k) (hNW:19<=W.heap.size) (no fi en:Nat) (vb:Value) (b:List UInt8) (B:Nat) (hb:Bytes W B vb b) (hB:B<=W.heap.size)
 (hb1:1<=b.length) (hfe:fi < en) (hfit:ax en b.length<=fi+64) (himg:fi+64<=d.ae.length / 64):
 Calls Tryz.prog 161 #[.pointer (some ⟨p,0,none⟩),.agg #[.int .i64 (no:Nat),.int .i64 (fi:Nat),.int .i64 (en:Nat)],vb] W λe w'=>(((cS d fi en b).1=true/\e= .returned .nilIface)\/((cS d fi en b).1=false/\e= .returned (ai (x 2))))/\∃F',D w' F' dev (cS d fi en b).2/\(∀k,F' k->Fd k\/W.heap.size<=k)/\Kept Fd W w':=by
 obtain⟨Ab,cb,rfl,hbc1,hbc2,hbB⟩:=hb.form;obtain⟨gb,ob,rfl,_,_⟩:=hbB 0 (by omega);have hr:=hD.right _ _ _ _ hd;have hll:=hr.2.2.1;obtain⟨n,hn⟩:=aa b.length;obtain⟨m,hm⟩:=aa (gk fi en b.length);have hmn:n<=64 * m:=by rw[<-hm,hn];unfold gk;rw[hn]at hfit;unfold ax at hfit ⊢;omega
 have hm1:en+1+m<=d.ae.length / 64/\en < d.ae.length / 64/\m<=64/\en<=1000/\fi<=1000/\n<=10000/\(en+1+m=min (ax en n+1) (fi+64))/\ax en n<=10000:=by rw[<-hm,hn];rw[hn]at hfit hb1;unfold gk;unfold ax at hfit ⊢;omega
 obtain⟨M,hMm⟩:=aa (64 * m);have mk:=nO M (by omega);have HR:=ab hr.1;have HDv:=ab hd;have HE:=ab hE;have HS:=ab h;have HAp:=ab hap;have HG:=ab hNG;have HFl:=ab (hD.lt _ _ _ _ hd);have HBy:=ab hb;have HN:=ab hn;have HM:=ab hm1;have HBL:=ab (mZ (m:=m) (b:=b) (by rw[hn];exact hmn));have HT:=ab (show cS d fi en b=if(bR d (en+1) (dh m b) m).1=true then bR (bR d (en+1) (dh m b) m).2 en (dj n) 1 else(false,(bR d (en+1) (dh m b) m).2) by unfold cS;rw[hm,hn]);have hl1:=ab (l6 (d:=d) (i:=en+1) (whole:=dh m b) (m:=m) (n:=d.ae.length / 64) HBL.out hm1.1 hr.1);have HP1:=ab (λh=>ov (d:=d) (i:=en+1) (m:=m) (whole:=dh m b) h);obtain⟨r1,hr1⟩:∃r,bR d (en+1) (dh m b) m=r:=⟨_,rfl⟩;rw[hr1]at HT hl1 HP1;have HR1:=ab hr1;clear hr1;generalize cS d fi en b=T at *;obtain⟨W0,hW0⟩:=aa (W.alloc (.cells #[.int .i64 (no:Nat),.int .i64 (fi:Nat),.int .i64 (en:Nat)] 224));have hb0:Below W.heap.size W W0:=by rw[<-hW0];exact(Below.refl W.heap.size W).alloc (Nat.le_refl _) _
 have hz0:W.heap.size < W0.heap.size:=by rw[<-hW0];simp
 have hrow:W0.heap[W.heap.size]? =some (.cells #[.int .i64 (no:Nat),.int .i64 (fi:Nat),.int .i64 (en:Nat)] 224):=by rw[<-hW0];exact heap_alloc_new W _
 have e1:W0.cell? ⟨W.heap.size,1,none⟩=some (.int .i64 (fi:Int)):=by rw[cell_of_row _ _ 1 _ _ _ hrow];rfl
 have e2:W0.cell? ⟨W.heap.size,2,none⟩=some (.int .i64 (en:Int)):=by rw[cell_of_row _ _ 2 _ _ _ hrow];rfl
 obtain⟨be,hbe⟩:=aa (ax en n);have CB:=ab (λ(W:World) (k:Nat)=>show Calls Tryz.prog 152 #[.int .i64 (en:Nat),.int .i64 (n:Nat)] (W.drewN k) (λe w'=>e= .returned (.int .i64 (be:Nat))/\w'=W.drewN k) from(jr en n (by omega) (by omega) (W.drewN k)).mono λ_ _ ⟨h1,h2⟩=>⟨by rw[h1,hbe],h2.symm⟩);have CN:=ab (CB.out W0);obtain⟨en2,hen2⟩:∃k,en+1+m=k:=⟨_,rfl⟩;have hmin:(if(fi:Int)+64 < (be:Int)+1 then(fi:Int)+64 else(be:Int)+1)=(en2:Int):=by rw[<-hbe,<-hen2];split<;>omega
 have HB0:=ab hb0;have HEn:=ab hen2;rw[hbe]at hm1;obtain⟨_,_,r2,r3,r4,r5,_,r7⟩:=hm1;have HW0:=ab hW0;rw[hn]at hb1 hbc1 ⊢;clear hrow hb0 hbe hm hr hd hE h hap hNG hb hbB hfit himg hfe hen2 hll CB hn hW0
 go_enter Tryz.func161,Tryz.ntmps161
 go_wp2_with fail
 rw[HW0.out]
 go_quiet ((go_at_call 152;(with_reducible refine Calls.quiet_of_same (CN.out _))))
 try rw[hmin]
 obtain⟨W1,hW1⟩:=aa (W0.drewN nq);have hb1':Below W.heap.size W W1:=by rw[<-hW1];exact HB0.out.trans ((dp W0 nq).mono HB0.out.size)
 have e1':W1.cell? ⟨W.heap.size,1,none⟩=some (.int .i64 (fi:Int)):=by rw[<-hW1];exact e1
 have e2':W1.cell? ⟨W.heap.size,2,none⟩=some (.int .i64 (en:Int)):=by rw[<-hW1];exact e2
 have hz1:W.heap.size < W1.heap.size:=by rw[<-hW1];exact hz0
 rw[hW1];have q1:((en2:Int) - (en:Int) - 1) * 64=(M:Int):=by have:=HEn.out;omega
 have q2:(en2:Int) - (en:Int) - 1=(m:Int):=by have:=HEn.out;omega
 have q3:(m:Int) * 64=(M:Int):=by omega
 have HB1:=ab hb1';have HZ1:=ab hz1;have HMm:=ab hMm;have HMn:=ab hmn;have hen2:en2<=10000:=by have:=HEn.out;omega
 have hM9:M<=10000:=by omega
 clear hW1 hb1' e1 e2 hz0 hz1 CN hMm hmn;have HSr:=ab (λ(W':World) (hb:Below W.heap.size W W')=>(HBy.out.below (hb.mono hB)))
 go_wp2_with (refine ue rfl (.tmp 27) (.tmp 28) _ _ rfl 5 Tryz.underlying38 kQ W1.heap.size 0 M _ rfl (some ⟨gb,ob,none⟩) n cb rfl W.heap.size M M 5 (aj (aN M)) ?d0 (aj b) ?d1 ?d2 (jg b) ?d3 ?_)
 case d0=>exact lT (heap_alloc_new W1 _) (dr M) (Nat.le_of_lt HZ1.out) (by omega)
 case d1=>have:=HMn.out;have:=HMm.out;rw[aR,HN.out];show n=min n M;omega
 case d2=>have:=HMn.out;have:=HMm.out;rw[aR,HN.out];omega
 case d3=>exact λ_=>ml (by have:=HSr.out (W1.alloc (.cells (aj (aN M)).toArray 5)) (HB1.out.alloc HB1.out.size _);rw[HN.out]at this;exact this) HN.out
 intro w4 o4 g4 z4;have h4:=o4.out;have hsp:splice (aj (aN M)) 0 (aj b)=aj (dh m b):=by rw[<-HMm.out];exact vF m b
 rw[hsp]at h4;have hb14:Below W1.heap.size W1 w4:=((Below.refl W1.heap.size W1).alloc (Nat.le_refl _) _).grown g4.out (by simp) (λk e=>by cases e;exact Nat.le_refl _);have hb4:Below W.heap.size W w4:=HB1.out.trans (hb14.mono HB1.out.size);have e2'':=(hb14.cell (p:=⟨W.heap.size,2,none⟩) HZ1.out).trans e2';have CP:=ab (l7 hD (HE.out.below hb4) (hD.an _ _ _ (λ_=>False) _ _ HDv.out (Kept.al hb4) (λ_ _ h=>h)) hpe (HS.out.below hb4) HAp.out HG.out (Nat.le_trans hNW hb4.size) (en+1) m (by have:=HM.out;omega) (by omega) W1.heap.size M M HMm.out.symm (dh m b) (Bytes.dm h4) (HBL.out.trans HMm.out) (λhF=>by have:=HFl.out _ hF;have:=HZ1.out;omega));have HB4:=ab hb4;have HZ4:=ab (show W.heap.size < w4.heap.size from Nat.lt_of_lt_of_le HZ1.out hb14.size);rw[HR1.out]at CP;clear o4 g4 z4 h4 hsp hb14 hb4 e1' e2' HSr mk hmin q1 q2 q3
 go_wp2_with fail
 refine CP.out.mono ?_;rintro en5 w5 ⟨⟨hok,rfl⟩|⟨hok,rfl⟩,F1,hd1,hF1,hk1⟩
 · have e2b:=(hk1.cell (p:=⟨W.heap.size,2,none⟩) HZ4.out (λhF=>by have:=HFl.out _ hF;exact Nat.lt_irrefl _ this)).trans e2'';have HD1:=ab hd1;have HF1:=ab (show ∀k,F1 k->Fd k\/W.heap.size<=k from λk hk=>(hF1 k hk).imp id (λh=>Nat.le_trans HB4.out.size h));have HK1:=ab (show Kept Fd W w5 from(Kept.al HB4.out).trans hk1 (λk h=> .inl h));have HOk:=ab hok;have hk15:=hk1.size;have CN:=ab (rE n (by omega) w5.drew);have hT:=HT.out;rw[if_pos HOk.out]at hT;have HT2:=ab hT;have hap1:∀k,F1 k->¬Fs k:=λk hk hF=>by
    rcases HF1.out k hk with h1|h1
    · exact HAp.out k h1 hF
    · have:=HS.out.lt k hF;omega
   have hlt1:=hD.lt _ _ _ _ HD1.out;have hzz:=HK1.out.size
   have C6:∀ (w6:World) (g6 cap6:Nat),w6.ownsRow w5.drew.heap.size 5 1 (.slice (some ⟨g6,0,none⟩) 64 cap6) 64 (aj (dj n))->Below w5.drew.heap.size w5.drew w6->
    Calls Tryz.prog 175 #[.pointer (some ⟨p,0,none⟩),.int .i64 (en:Nat),.slice (some ⟨g6,0,none⟩) 64 cap6] w6 λe w'=>∃v,e= .returned v/\Hid
     (((T.1=true/\v= .nilIface)\/(T.1=false/\v=ai (x 2)))/\∃F',D w' F' dev T.2/\(∀k,F' k->Fd k\/W.heap.size<=k)/\Kept Fd W w'):=λw6 g6 cap6 ho hb=>by
    have hb5:Below w5.heap.size w5 w6:=((Below.refl w5.heap.size w5).drew).trans hb;have hE6:E3 x w6:=(HE.out.jG HK1.out HG.out).below hb5;have hS6:=(HS.out.an HK1.out (λk hF hd=>HAp.out k hd hF)).below hb5;have hD6:=hD.an _ _ _ (λ_=>False) _ _ HD1.out (Kept.al hb5) (λ_ _ h=>h);have hg6:=(ho.lt g6 rfl).1;have hg7:w5.heap.size<=g6:=hg6;have hz6:=hb5.size;refine(l7 hD hE6 hD6 (HP1.out HOk.out) hS6 hap1 (λk hk=>by rcases HF1.out k hk with h1|h1;exact HG.out k h1;omega) (by omega) en 1 (by rw[hl1.out];have:=HM.out;omega) (by omega) g6 cap6 64 rfl (dj n) (Bytes.dm ho) (gA n) (λhF=>by have:=hlt1 g6 hF;omega)).mono ?_;rintro e w' ⟨he,F',h1,h2,h3⟩;rw[<-HT2.out]at he h1;have hrest:∃F',D w' F' dev T.2/\(∀k,F' k->Fd k\/W.heap.size<=k)/\Kept Fd W w':=⟨F',h1,λk hk=>(h2 k hk).elim (HF1.out k) (λh=> .inr (by omega)),(HK1.out.trans (Kept.al (F:=F1) hb5) HF1.out).trans h3 HF1.out⟩;rcases he with⟨he,rfl⟩|⟨he,rfl⟩
    · exact⟨_,rfl,ab ⟨.inl ⟨he,rfl⟩,hrest⟩⟩
    · exact⟨_,rfl,ab ⟨.inr ⟨he,rfl⟩,hrest⟩⟩
   have C6':=ab C6;clear hd1 hF1 hk1 hok CP hT e2'' hap1 hlt1 hzz C6
   go_wp2_with fail
   go_region_law (first
    | (go_simp;(with_reducible refine(CN.out).mono ?_);rintro en6 w6 ⟨v6,rfl,ho6,hb6⟩;obtain⟨g6,cap6,rfl,hg6,_⟩:=ho6.form (Nat.succ_pos 63);have HO6:=ab ho6;have HB6:=ab hb6;have e2c:=(hb6.cell (p:=⟨W.heap.size,2,none⟩) (Nat.lt_of_lt_of_le (Nat.lt_of_lt_of_le HZ4.out hk15) (Nat.le_refl _))).trans e2b;clear ho6 hb6)
    | (go_simp;(with_reducible refine(C6'.out w6 g6 cap6 HO6.out HB6.out).mono ?_);rintro en7 w7 ⟨v7,rfl,hrest⟩))
   all_goals
    go_wp2_with fail
    go_ret
    obtain⟨h1,h2⟩:=hrest.out;refine⟨?_,h2⟩;rcases h1 with⟨h1,rfl⟩|⟨h1,rfl⟩
    · exact .inl ⟨h1,rfl⟩
    · exact .inr ⟨h1,rfl⟩
 · have HD1:=ab hd1;have HF1:=ab (show ∀k,F1 k->Fd k\/W.heap.size<=k from λk hk=>(hF1 k hk).imp id (λh=>Nat.le_trans HB4.out.size h));have HK1:=ab (show Kept Fd W w5 from(Kept.al HB4.out).trans hk1 (λk h=> .inl h));have hT:=HT.out;rw[if_neg (by rw[hok];exact Bool.false_ne_true)]at hT;have HT2:=ab hT;clear hd1 hF1 hk1 hok CP hT
   go_wp2_with fail
   go_ret
   exact⟨.inr ⟨by rw[HT2.out],rfl⟩,F1,by rw[HT2.out];exact HD1.out,HF1.out,HK1.out⟩
end
end Go.Proofs.YtdilnodbfnlhdaaGreatDoor
