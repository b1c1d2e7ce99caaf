import Derived.Test.YtiafamacjpgjoaaGreatDoorGSsX
import Derived.Test.YtiafamacjpgjoaaGreatDoorGMem
import Derived.Test.YtiafamacjpgjoaaGreatDoorGUiT
import Derived.Test.YtiafamacjpgjoaaGreatDoorGUiR
import Derived.Deep.RegionLaw
set_option maxRecDepth 100000
set_option maxHeartbeats 4000000
namespace Go.Proofs.YtiafamacjpgjoaaGreatDoor
open Go Go.RowKit Tide
theorem Dl {w:World} {b:Nat} {ps:List bk} (hown:fa w b ps) (hsz:ps.length<=100000) (af aQ:Nat) (aK:List UInt8) (hp:(ps.any λq=>(q.af:Int) == (af:Int))=false) (hadr:af<=100000):
 ∃w',(Instr.mapUpdate 110 (.map (some b)) (.int .i64 (af:Int)) (.agg #[.string ⟨aK.toArray⟩,.int .i64 (aQ:Int)])).run Tryz.prog w= .ok () w'/\fa w' b (ps ++ [⟨af,aK,aQ⟩])/\Kept (λj=>j=b) w w':=by
 obtain⟨D,h2,h3⟩:=hown;obtain⟨w',hrun,r1,r2⟩:=h2.store ko Tryz.underlying110 (by rw[h3.size];exact Nat.lt_of_le_of_lt hsz (by decide)) (mq (af:Int) (by omega) (by omega)) (oQ ⟨aK.toArray⟩ (aQ:Int));exact⟨w',hrun,⟨_,oN r1,h3.put ⟨af,aK,aQ⟩ hp⟩,uT r2⟩
theorem sL {ps:List bk} (hn:(ps.map bk.af).Nodup) (ha:∀q ∈ ps,q.af<=4095):ps.length<=4096:=by
 have h1:(ps.map bk.af).Perm ((List.range 4096).filter λx=>decide (x ∈ ps.map bk.af)):=(List.perm_ext_iff_of_nodup hn (List.nodup_range.filter _)).2 (λx=>by
  rw[List.mem_filter];constructor
  · intro hx;obtain⟨q,hq,rfl⟩:=List.mem_map.1 hx;have:=ha q hq;exact⟨List.mem_range.2 (by omega),by simpa using hx⟩
  · rintro⟨_,hx⟩;simpa using hx)
 have h2:=h1.length_eq;have h3:=List.length_filter_le (λx=>decide (x ∈ ps.map bk.af)) (List.range 4096);rw[List.length_range]at h3;rw[List.length_map]at h2;omega
section
variable {W:World} {g p bm:Nat} {s:aV}
theorem xm (h:b9 W g p bm s) (hk:eZ s) (af aQ:Nat) (aK:List UInt8) (ep:Int) (hadr:af<=4095):
 Calls Tryz.prog 81 #[.pointer (some ⟨g,0,none⟩),.agg #[.int .i64 1,.int .i64 (af:Int),.int .i64 ep,.string ⟨aK.toArray⟩],.int .i64 (aQ:Int)] W λe w'=>e= .returned (.tuple #[])/\b9 w' g p bm (if dm s af then s else { s with aD:=s.aD ++ [⟨af,aK,aQ⟩] })/\Kept (λk=>k=bm) W w':=by
 have B0:=(Below.refl W.heap.size W).alloc (Nat.le_refl _) (.cells #[.int .i64 1,.int .i64 (af:Int),.int .i64 ep,.string ⟨aK.toArray⟩] 115);have hc:=heap_alloc_new W (.cells #[.int .i64 1,.int .i64 (af:Int),.int .i64 ep,.string ⟨aK.toArray⟩] 115);have HC:=ab hc;have HB0:=ab B0;have H0:=ab (h.below B0);have HH:=ab (pW (h.below B0) (af:Int) (by omega) (by omega));have hhe:dm s af=s.aD.any λq=>(q.af:Int) == (af:Int):=by
  unfold dm
  congr 1
  funext q;by_cases e:q.af=af
  · rw[e,beq_self_eq_true,beq_self_eq_true]
  · rw[beq_eq_false_iff_ne.2 e,beq_eq_false_iff_ne.2 (show ¬(q.af:Int)=(af:Int) by omega)]
 have HHe:=ab hhe;have HLen:=ab (sL hk.once hk.gF);obtain⟨R,hR⟩:=aa ((s.aD.any λq=>(q.af:Int) == (af:Int)));rw[hR]at HH hhe;have HR:=ab hR;rw[hhe];clear h hk B0 hc hhe hR;obtain⟨_,c0,c1,c2,c3⟩:=cW HC.out
 go_enter Tryz.func81,Tryz.ntmps81
 go_wp2_with fail
 refine HH.out.mono ?_;rintro e w1 ⟨rfl,hb⟩;have B1:=ab (HB0.out.trans (hb.mono HB0.out.size));have U1:=ab (H0.out.below hb);have HC1:=ab ((Kept.an (F:=λ_=>False) hb).heap HC.out (λh=>h));clear hb c0 c1 c2 c3;cases R with
 | true=>
   go_wp2_with fail
   go_end0
   exact⟨rfl,U1.out,Kept.an B1.out⟩
 | false=>
   obtain⟨_,c0,c1,c2,c3⟩:=cW HC1.out;obtain⟨_,d0,d1,d2,d3,_⟩:=U1.out.facts;obtain⟨w2,hrun,hp2,hk2⟩:=Dl (U1.out.map.below (Below.refl _ w1).drew) (by have:=HLen.out;omega) af aQ aK HR.out (by omega);have HK3:=ab ((Kept.an (F:=λk=>k=bm) B1.out).trans (w':=w1) (G:=λk=>k=bm) ⟨hk2.os,hk2.tape,hk2.output,hk2.size,hk2.block⟩ (λi hi=> .inl hi));have HU3:=ab (show b9 w2 g p bm { s with aD:=s.aD ++ [⟨af,aK,aQ⟩] } from⟨hk2.heap (show w1.drew.heap[g]? =_ from U1.out.cells) (λe=>U1.out.ne e),hp2⟩);clear hp2 hk2
   go_wp2_with fail
   go_region
   go_wp2_with fail
   go_end0
   exact⟨rfl,HU3.out,HK3.out⟩
end
end Go.Proofs.YtiafamacjpgjoaaGreatDoor
namespace Go.Proofs.YtiafamacjpgjoaaGreatDoor
open Go Go.RowKit Tide
section
variable {W:World} {g p bm:Nat} {s:aV}
theorem xo (h:b9 W g p bm s) (af ep aQ:Nat) (aK:ByteArray):
 Calls Tryz.prog 81 #[.pointer (some ⟨g,0,none⟩),.agg #[.int .i64 2,.int .i64 (af:Int),.int .i64 (ep:Int),.string aK],.int .i64 (aQ:Int)] W λe w'=>e= .returned (.tuple #[])/\b9 w' g p bm { s with trimmed:=af,ag:=ep }/\Kept (λk=>k=g) W w':=by
 have B0:=(Below.refl W.heap.size W).alloc (Nat.le_refl _) (.cells #[.int .i64 2,.int .i64 (af:Int),.int .i64 (ep:Int),.string aK] 115);have H0:=ab h;have hc:=heap_alloc_new W (.cells #[.int .i64 2,.int .i64 (af:Int),.int .i64 (ep:Int),.string aK] 115);obtain⟨_,c0,c1,c2,c3⟩:=cW hc;obtain⟨_,d0,d1,d2,d3,df⟩:=h.facts;have hgn:=h.lt;have hgne:¬g=W.heap.size:=by omega
 clear h B0 hc
 go_enter Tryz.func81,Tryz.ntmps81
 go_wp2_with fail
 go_region
 go_wp2_with fail
 go_end0
 have UX:b9 ((W.setCell ⟨g,2,none⟩ (.int .i64 (af:Int))).setCell ⟨g,3,none⟩ (.int .i64 (ep:Int))) g p bm { s with trimmed:=af,ag:=ep }:=⟨jP (jP H0.out.cells 2 (.int .i64 (af:Int))) 3 (.int .i64 (ep:Int)),
  H0.out.map.kept (F:=λk=>k=g) (((Kept.refl (λk=>k=g) _).setCell (p:=⟨g,2,none⟩) (.inl rfl) _).setCell (p:=⟨g,3,none⟩) (.inl rfl) _) (λe=>H0.out.ne e.symm)⟩
 have KX:=((Kept.refl (λk=>k=g) W).setCell (p:=⟨g,2,none⟩) (.inl rfl) (.int .i64 (af:Int))).setCell (p:=⟨g,3,none⟩) (.inl rfl) (.int .i64 (ep:Int));exact⟨rfl,UX.below (((Below.refl _ _).alloc (Nat.le_refl _) _).drew),(KX.alloc _).drew⟩
theorem xq (h:b9 W g p bm s) (af ep aQ:Nat) (aK:ByteArray):
 Calls Tryz.prog 81 #[.pointer (some ⟨g,0,none⟩),.agg #[.int .i64 3,.int .i64 (af:Int),.int .i64 (ep:Int),.string aK],.int .i64 (aQ:Int)] W λe w'=>e= .returned (.tuple #[])/\b9 w' g p bm { s with ag:=ep }/\Kept (λk=>k=g) W w':=by
 have B0:=(Below.refl W.heap.size W).alloc (Nat.le_refl _) (.cells #[.int .i64 3,.int .i64 (af:Int),.int .i64 (ep:Int),.string aK] 115);have H0:=ab h;have hc:=heap_alloc_new W (.cells #[.int .i64 3,.int .i64 (af:Int),.int .i64 (ep:Int),.string aK] 115);obtain⟨_,c0,c1,c2,c3⟩:=cW hc;obtain⟨_,d0,d1,d2,d3,df⟩:=h.facts;have hgn:=h.lt;have hgne:¬g=W.heap.size:=by omega
 clear h B0 hc
 go_enter Tryz.func81,Tryz.ntmps81
 go_wp2_with fail
 go_end0
 have UX:b9 (W.setCell ⟨g,3,none⟩ (.int .i64 (ep:Int))) g p bm { s with ag:=ep }:=⟨jP H0.out.cells 3 (.int .i64 (ep:Int)),
  H0.out.map.kept (F:=λk=>k=g) ((Kept.refl (λk=>k=g) _).setCell (p:=⟨g,3,none⟩) (.inl rfl) _) (λe=>H0.out.ne e.symm)⟩
 have KX:=(Kept.refl (λk=>k=g) W).setCell (p:=⟨g,3,none⟩) (.inl rfl) (.int .i64 (ep:Int));exact⟨rfl,UX.below ((Below.refl _ _).alloc (Nat.le_refl _) _),KX.alloc _⟩
theorem qW (h:b9 W g p bm s) (hk:eZ s) (r:bh) (hr:fQ r) (aQ:Nat):
 Calls Tryz.prog 81 #[.pointer (some ⟨g,0,none⟩),mP r,.int .i64 (aQ:Int)] W λe w'=>e= .returned (.tuple #[])/\b9 w' g p bm (cH s r aQ)/\Kept (λk=>k=g\/k=bm) W w':=by
 obtain⟨kind,af,ep,aK⟩:=r;rcases hr with⟨h1,h2,h3,h4⟩|⟨h1,h2,h3⟩|⟨h1,h2⟩
 · simp only at h1 h2 h3 h4;subst h1;refine(xm h hk af aQ aK ep h2).mono λe w' ⟨a1,a2,a3⟩=>⟨a1,?_,a3.mono (λ_ _ h=> .inr h)⟩
   unfold cH;rw[if_pos rfl];exact a2
 · simp only at h1 h2 h3;subst h1;refine(xo h af ep aQ ⟨aK.toArray⟩).mono λe w' ⟨a1,a2,a3⟩=>⟨a1,?_,a3.mono (λ_ _ h=> .inl h)⟩
   unfold cH;rw[if_neg (show ¬(2:Nat)=1 by decide),if_pos rfl];exact a2
 · simp only at h1 h2;subst h1;refine(xq h af ep aQ ⟨aK.toArray⟩).mono λe w' ⟨a1,a2,a3⟩=>⟨a1,?_,a3.mono (λ_ _ h=> .inl h)⟩
   unfold cH;rw[if_neg (show ¬(3:Nat)=1 by decide),if_neg (show ¬(3:Nat)=2 by decide)];exact a2
end
end Go.Proofs.YtiafamacjpgjoaaGreatDoor
namespace Go.Proofs.YtiafamacjpgjoaaGreatDoor
open Go Go.RowKit Tide
def US (D:aB) (w:World) (FX:Nat->Prop) (X:World->Prop) (g p bm dev:Nat) (us:List ai) (d:Dv) (s:aV) (W:World):Prop:=
 ∃Fd Fs vs,D W Fd dev d/\a7 W Fs p dev us vs/\b9 W g p bm s/\(∀k,Fd k->¬Fs k)/\(¬(Fd g\/Fs g)/\¬(Fd bm\/Fs bm))/\(∀k,Fd k\/Fs k\/k=g\/k=bm->¬FX k/\w.heap.size<=k/\k < W.heap.size)/\(∀k,FX k->k < W.heap.size)/\Below w.heap.size w W/\X W
def cG (FX:Nat->Prop) (X:World->Prop):Prop:=∀ (W W':World) (F:Nat->Prop),X W->(∀k,FX k->k < W.heap.size)->Kept F W W'->(∀k,FX k->¬F k)->X W'
section
variable {D:aB} {x:Nat->Addr} {w W W':World} {FX:Nat->Prop} {X:World->Prop} {g p bm dev:Nat} {us us':List ai} {d d':Dv} {s s':aV}
theorem US.unit (h:US D w FX X g p bm dev us d s W):b9 W g p bm s:=by obtain⟨_,_,_,_,_,h3,_⟩:=h;exact h3
theorem US.since (h:US D w FX X g p bm dev us d s W):Below w.heap.size w W:=by obtain⟨_,_,_,_,_,_,_,_,_,_,h8,_⟩:=h;exact h8
theorem US.gY (h:US D w FX X g p bm dev us d s W):X W:=by obtain⟨_,_,_,_,_,_,_,_,_,_,_,h9⟩:=h;exact h9
theorem US.below (hD:ay x D) (hX:cG FX X) (h:US D w FX X g p bm dev us d s W) (hb:Below W.heap.size W W'):US D w FX X g p bm dev us d s W':=by
 obtain⟨Fd,Fs,vs,h1,h2,h3,h4,h5,h6,h7,h8,h9⟩:=h;have hz:=hb.size
 exact⟨Fd,Fs,vs,hD.aj _ _ _ (λ_=>False) _ _ h1 (Kept.an hb) (λ_ _ h=>h),h2.below hb,h3.below hb,h4,h5,λk hk=>⟨(h6 k hk).1,(h6 k hk).2.1,Nat.lt_of_lt_of_le (h6 k hk).2.2 hz⟩,λk hk=>Nat.lt_of_lt_of_le (h7 k hk) hz,
  h8.trans (hb.mono h8.size),hX _ _ (λ_=>False) h9 h7 (Kept.an hb) (λ_ _ h=>h)⟩
theorem US.own (hD:ay x D) (hX:cG FX X) (h:US D w FX X g p bm dev us d s W) (hk:Kept (λk=>k=g\/k=bm) W W') (hu:b9 W' g p bm s'):US D w FX X g p bm dev us d s' W':=by
 obtain⟨Fd,Fs,vs,h1,h2,h3,h4,h5,h6,h7,h8,h9⟩:=h;have hz:=hk.size;refine⟨Fd,Fs,vs,hD.aj _ _ _ _ _ _ h1 hk (λk hf e=> ?_),h2.aj hk (λk hf e=> ?_),hu,h4,h5,λk hk=>⟨(h6 k hk).1,(h6 k hk).2.1,Nat.lt_of_lt_of_le (h6 k hk).2.2 hz⟩,λk hk=>Nat.lt_of_lt_of_le (h7 k hk) hz,h8.trans (hk.below h8.size (λi hi=> ?_)),hX _ _ _ h9 h7 hk (λk hf e=> ?_)⟩
 · rcases e with rfl|rfl
   · exact h5.1 (.inl hf)
   · exact h5.2 (.inl hf)
 · rcases e with rfl|rfl
   · exact h5.1 (.inr hf)
   · exact h5.2 (.inr hf)
 · rcases hi with rfl|rfl
   · exact(h6 _ (.inr (.inr (.inl rfl)))).2.1
   · exact(h6 _ (.inr (.inr (.inr rfl)))).2.1
 · rcases e with rfl|rfl
   · exact(h6 _ (.inr (.inr (.inl rfl)))).1 hf
   · exact(h6 _ (.inr (.inr (.inr rfl)))).1 hf
theorem US.rs (hX:cG FX X) (h:US D w FX X g p bm dev us d s W) {Fd Fs:Nat->Prop} (h4:∀k,Fd k\/Fs k->¬FX k/\w.heap.size<=k/\k < W.heap.size) (h5:¬(Fd g\/Fs g)/\¬(Fd bm\/Fs bm)) (hr:RS D W Fd Fs p dev us' d' W') (hD:ay x D):US D w FX X g p bm dev us' d' s W':=by
 obtain⟨_,_,_,_,_,h3,_,_,h6,h7,h8,h9⟩:=h;obtain⟨F',G',vs',g1,g2,g3,g4,g5,g6⟩:=hr;have hz:=g6.size;have hgl:=(h6 _ (.inr (.inr (.inl rfl)))).2.2;have hbl:=(h6 _ (.inr (.inr (.inr rfl)))).2.2;have hnew:∀k,F' k\/G' k->(Fd k\/Fs k)\/W.heap.size<=k:=λk hk=>by
  rcases hk with hk|hk
  · exact(g4 k hk).imp .inl id
  · exact(g5 k hk).imp .inr id
 have hlt:∀k,F' k\/G' k->k < W'.heap.size:=λk hk=>by
  rcases hk with hk|hk
  · exact hD.lt _ _ _ _ g1 k hk
  · exact g2.lt k hk
 refine⟨F',G',vs',g1,g2,h3.kept g6 h5.1 h5.2,g3,⟨λhk=> ?_,λhk=> ?_⟩,λk hk=> ?_,λk hk=>Nat.lt_of_lt_of_le (h7 k hk) hz,h8.trans (g6.below h8.size (λi hi=>(h4 i hi).2.1)),hX _ _ _ h9 h7 g6 (λk hf e=>(h4 k e).1 hf)⟩
 · rcases hnew g hk with h|h
   · exact h5.1 h
   · omega
 · rcases hnew bm hk with h|h
   · exact h5.2 h
   · omega
 · rcases hk with hk|hk|rfl|rfl
   · rcases hnew k (.inl hk) with h|h
     · exact⟨(h4 k h).1,(h4 k h).2.1,hlt k (.inl hk)⟩
     · exact⟨λhf=>by have:=h7 k hf;omega,by have:=h8.size;omega,hlt k (.inl hk)⟩
   · rcases hnew k (.inr hk) with h|h
     · exact⟨(h4 k h).1,(h4 k h).2.1,hlt k (.inr hk)⟩
     · exact⟨λhf=>by have:=h7 k hf;omega,by have:=h8.size;omega,hlt k (.inr hk)⟩
   · exact⟨(h6 _ (.inr (.inr (.inl rfl)))).1,(h6 _ (.inr (.inr (.inl rfl)))).2.1,by omega⟩
   · exact⟨(h6 _ (.inr (.inr (.inr rfl)))).1,(h6 _ (.inr (.inr (.inr rfl)))).2.1,by omega⟩
theorem US.append {a:Nat->Addr} (hD:ay (three a) D) (hX:cG FX X) (hE:av w a) (hNG:19<=w.heap.size) (h:US D w FX X g p bm dev us d s W) (hpe:d.ar= []) (hok:jU (d.img.length / 64) us) (hb:Below W.heap.size W W') (vb:Value) (b:List UInt8) (hv:W'.ownsRow W.heap.size 5 1 vb b.length (al b)):
 Calls Tryz.prog 90 #[.pointer (some ⟨p,0,none⟩),vb] W' λe w'=>e= .returned (.tuple #[.int .i64 ((bl us d b).2.1:Nat),eQ a (bl us d b).1])/\US D w FX X g p bm dev (bl us d b).2.2.1 (bl us d b).2.2.2 s w':=by
 have h':=h.below hD hX hb;have h0:=h;obtain⟨Fd,Fs,vs,h1,h2,h3,h4,h5,h6,h7,h8,h9⟩:=h;have hz:=hb.size;refine(vY hD (hE.below (h8.trans (hb.mono h8.size))) (hD.aj _ _ _ (λ_=>False) _ _ h1 (Kept.an hb) (λ_ _ h=>h)) hpe (h2.below hb) h4 (λk hk=>Nat.le_trans hNG (h6 k (hk.elim .inl (λh=> .inr (.inl h)))).2.1) (by have:=h8.size;omega) hok vb b W'.heap.size (Bytes.cm hv) (Nat.le_refl _) (λk e hk=> ?_)).mono ?_
 · have h10:=(World.ownsRow.lt hv k e).1;have h11:=(h6 k (hk.elim .inl (λh=> .inr (.inl h)))).2.2;omega
 · rintro e w' ⟨he,hr⟩;exact⟨he,US.rs hX h' (λk hk=>⟨(h6 k (hk.elim .inl (λh=> .inr (.inl h)))).1,(h6 k (hk.elim .inl (λh=> .inr (.inl h)))).2.1,Nat.lt_of_lt_of_le (h6 k (hk.elim .inl (λh=> .inr (.inl h)))).2.2 hz⟩) h5 hr hD⟩
theorem cG.box (hX:cG FX X) (b:Nat) (o:Obj):cG (λk=>FX k\/k=b) (λY=>X Y/\Y.heap[b]? =some o):=λY Y' F h hl hk hf=>⟨hX Y Y' F h.1 (λk hk=>hl k (.inl hk)) hk (λk hk=>hf k (.inl hk)),hk.heap h.2 (hf b (.inr rfl))⟩
theorem US.box (hD:ay x D) (hX:cG FX X) (h:US D w FX X g p bm dev us d s W) (o:Obj):US D w (λk=>FX k\/k=W.heap.size) (λY=>X Y/\Y.heap[W.heap.size]? =some o) g p bm dev us d s (W.alloc o):=by
 have hb:=(Below.refl W.heap.size W).alloc (Nat.le_refl _) o;obtain⟨Fd,Fs,vs,h1,h2,h3,h4,h5,h6,h7,h8,h9⟩:=h;exact⟨Fd,Fs,vs,hD.aj _ _ _ (λ_=>False) _ _ h1 (Kept.an hb) (λ_ _ h=>h),h2.below hb,h3.below hb,h4,h5,λk hk=>⟨λhf=>by
  rcases hf with hf|rfl
  · exact(h6 k hk).1 hf
  · have:=(h6 _ hk).2.2;omega,(h6 k hk).2.1,by have:=(h6 k hk).2.2;simp;omega⟩,λk hk=>by
  rcases hk with hk|rfl
  · have:=h7 k hk;simp;omega
  · simp,h8.trans (hb.mono h8.size),hX _ _ (λ_=>False) h9 h7 (Kept.an hb) (λ_ _ h=>h),heap_alloc_new W o⟩
theorem US.less {FX':Nat->Prop} {X':World->Prop} (h:US D w FX X g p bm dev us d s W) (hF:∀k,FX' k->FX k) (hX:∀Y,X Y->X' Y):US D w FX' X' g p bm dev us d s W:=by obtain⟨Fd,Fs,vs,h1,h2,h3,h4,h5,h6,h7,h8,h9⟩:=h;exact⟨Fd,Fs,vs,h1,h2,h3,h4,h5,λk hk=>⟨λhf=>(h6 k hk).1 (hF k hf),(h6 k hk).2⟩,λk hk=>h7 k (hF k hk),h8,hX _ h9⟩
end
section
variable {D:aB} {a:Nat->Addr} {w W:World} {FX:Nat->Prop} {X:World->Prop} {g p bm dev:Nat} {us:List ai} {d:Dv} {s:aV}
theorem pZ (hD:ay (three a) D) (hX:cG FX X) (hE:av w a) (hNG:19<=w.heap.size) (h:US D w FX X g p bm dev us d s W) (hpe:d.ar= []) (hok:jU (d.img.length / 64) us) (hs:eZ s) (r:bh) (hr:fQ r):
 Calls Tryz.prog 61 #[.pointer (some ⟨g,0,none⟩),mP r] W λe w'=>e= .returned (eQ a (bl us d (ax r)).1)/\US D w FX X g p bm dev (bl us d (ax r)).2.2.1 (bl us d (ax r)).2.2.2 (if(bl us d (ax r)).1=none then cH s r (bl us d (ax r)).2.1 else s) w':=by
 have U0:=h.box hD hX (.cells #[.int .i64 (r.kind:Int),.int .i64 (r.af:Int),.int .i64 (r.ep:Int),.string ⟨r.aK.toArray⟩] 115);have hX0:=hX.box W.heap.size (.cells #[.int .i64 (r.kind:Int),.int .i64 (r.af:Int),.int .i64 (r.ep:Int),.string ⟨r.aK.toArray⟩] 115);have CB:=ab (Ch a _ r (hE.below U0.since) hr);have CA:=ab (λW' vb (hb:Below _ _ W') hv=>US.append (W':=W') hD hX0 hE hNG U0 hpe hok hb vb (ax r) hv);have HX:=ab hX0;have HD:=ab hD;have HS:=ab hs;have HR:=ab hr;have HU0:=ab U0;obtain⟨t,ht⟩:=aa (bl us d (ax r));rw[ht]at CA ⊢;obtain⟨er,no,us',d'⟩:=t;simp only at CA ⊢;have HLess:=ab (λ(us:List ai) (d:Dv) (s:aV) (Y:World) (hu:US D w (λk=>FX k\/k=W.heap.size) (λY=>X Y/\Y.heap[W.heap.size]? =some (.cells #[.int .i64 (r.kind:Int),.int .i64 (r.af:Int),.int .i64 (r.ep:Int),.string ⟨r.aK.toArray⟩] 115)) g p bm dev us d s Y)=>(show US D w FX X g p bm dev us d s Y from hu.less (λ_ h=> .inl h) (λ_ h=>h.1)));obtain⟨_,c0,c1,c2,c3⟩:=cW U0.gY.2;clear h U0 hD hX hE hr hs hok hpe ht hX0
 go_enter Tryz.func61,Tryz.ntmps61
 go_wp2_with fail
 refine CB.out.mono ?_;rintro e w1 ⟨v,rfl,ho,hb⟩;obtain⟨Av,cv,rfl⟩:∃Av cv,v= .slice Av (ax r).length cv:=by
  rcases ho.2 with⟨h1,h2⟩|⟨gg,cap,_,h1,_⟩
  · exact⟨none,0,by rw[h1,h2]⟩
  · exact⟨_,cap,h1⟩
 have U1:=ab (HU0.out.below HD.out HX.out hb);have CA1:=ab (CA.out w1 _ hb ho);clear hb ho c0 c1 c2 c3 CB CA;obtain⟨_,d0,d1,d2,d3,_⟩:=U1.out.unit.facts
 go_wp2_with fail
 refine CA1.out.mono ?_;rintro e w2 ⟨rfl,hU⟩;have U2:=ab hU;clear hU d0 d1 d2 d3 CA1;cases er with
 | some m=>
   have hne:(eQ a (some m):Value)=ao (a m):=rfl;rw[hne]
   go_wp2_with fail
   go_ret
   exact⟨rfl,HLess.out _ _ _ _ U2.out⟩
 | none=>
   have hne:(eQ a none:Value)= .nilIface:=rfl;rw[hne];obtain⟨_,c0,c1,c2,c3⟩:=cW U2.out.gY.2;have CC:=ab (qW U2.out.unit HS.out r HR.out no)
   go_wp2_with fail
   refine CC.out.mono ?_;rintro e w3 ⟨rfl,hu,hk⟩;have U3:=ab (U2.out.own HD.out HX.out hk hu);clear hu hk c0 c1 c2 c3
   go_wp2_with fail
   go_ret
   exact⟨rfl,HLess.out _ _ _ _ U3.out⟩
end
end Go.Proofs.YtiafamacjpgjoaaGreatDoor
namespace Go.Proofs.YtiafamacjpgjoaaGreatDoor
open Go Go.RowKit Tide
theorem ni {w:World} {a:Nat->Addr} (h:av w a):19<=w.heap.size:=by
 have h1:∃i,i < 19/\cL.getD i 0+1=19:=by decide
 obtain⟨i,hi,h2⟩:=h1;have:=World.block_lt_of_cell? _ _ (h.var i hi);simp only at this;omega
section
variable {D:aB} {a:Nat->Addr} {w W:World} {FX:Nat->Prop} {X:World->Prop} {g p bm dev:Nat} {us:List ai} {d:Dv} {s:aV}
theorem ny (h:b9 W g p bm s) (hE:av W a) (ep at' last:Int):
 Calls Tryz.prog 105 #[.pointer (some ⟨g,0,none⟩),.int .i64 ep,.int .i64 at',.int .i64 last] W λe w'=>∃x,e= .returned x/\bE a x (bG s.ag ep at' last)/\W=w':=by
 obtain⟨_,c0,c1,c2,c3,_⟩:=h.facts;have h7:=hE.var 7 (by omega);have h0:=hE.var 0 (by omega);simp only[cL,List.getD_cons_zero,List.getD_cons_succ]at h7 h0;clear h hE;cases q0:decide (ep < (s.ag:Int)) with
 | true=>
   have HR:=ab (show bG s.ag ep at' last=7+1 from by unfold bG;rw[if_pos (.inl (by simpa using q0))])
   go_enter Tryz.func105,Tryz.ntmps105
   go_wp2_with fail
   go_ret
   exact⟨_,rfl,by rw[HR.out];exact bL a 7 (by omega),rfl⟩
 | false=>
 cases q1:decide (1073741824 < ep) with
 | true=>
   have HR:=ab (show bG s.ag ep at' last=7+1 from by unfold bG;rw[if_pos (.inr (by simpa using q1))])
   go_enter Tryz.func105,Tryz.ntmps105
   go_wp2_with fail
   go_ret
   exact⟨_,rfl,by rw[HR.out];exact bL a 7 (by omega),rfl⟩
 | false=>
 have hn:¬(ep < (s.ag:Int)\/1073741824 < ep):=by simp at q0 q1;omega
 cases q2:decide (at' < 0) with
 | true=>
   have HR:=ab (show bG s.ag ep at' last=0+1 from by unfold bG;rw[if_neg hn,if_pos (.inl (by simpa using q2))]);clear hn
   go_enter Tryz.func105,Tryz.ntmps105
   go_wp2_with fail
   go_ret
   exact⟨_,rfl,by rw[HR.out];exact bL a 0 (by omega),rfl⟩
 | false=>
 cases q3:decide (last < at') with
 | true=>
   have HR:=ab (show bG s.ag ep at' last=0+1 from by unfold bG;rw[if_neg hn,if_pos (.inr (by simpa using q3))]);clear hn
   go_enter Tryz.func105,Tryz.ntmps105
   go_wp2_with fail
   go_ret
   exact⟨_,rfl,by rw[HR.out];exact bL a 0 (by omega),rfl⟩
 | false=>
   have HR:=ab (show bG s.ag ep at' last=0 from by unfold bG;rw[if_neg hn,if_neg (by simp at q2 q3;omega)]);clear hn
   go_enter Tryz.func105,Tryz.ntmps105
   go_wp2_with fail
   go_ret
   exact⟨_,rfl,by rw[HR.out];exact fw a,rfl⟩
def ef (s:aV) (ep at':Int) (b:List UInt8):Nat:=
 if bG s.ag ep at' 4095≠0 then bG s.ag ep at' 4095
 else if b.length < 1\/2048 < b.length then 3
 else if at' < s.trimmed then 11
 else if dm s at'.toNat then 9 else 0
theorem jD {ag:Nat} {ep at' last:Int} (h:bG ag ep at' last=0):(ag:Int)<=ep/\ep<=1073741824/\0<=at'/\at'<=last:=by
 unfold bG at h;split at h
 · cases h
 · split at h
   · cases h
   · omega
theorem yM {s:aV} {n:Nat}:(s.aD.any λq=>(q.af:Int) == (n:Int))=dm s n:=by
 unfold dm
 congr 1
 funext q;by_cases e:q.af=n
 · rw[e,beq_self_eq_true,beq_self_eq_true]
 · rw[beq_eq_false_iff_ne.2 e,beq_eq_false_iff_ne.2 (show ¬(q.af:Int)=(n:Int) by omega)]
theorem fK {a:Nat->Addr} {x:Value} {k:Nat} (h:bE a x k) (hk:k≠0):∃ad,x=ao ad:=by
 rcases h with⟨h1,_⟩|⟨m,_,_,h2⟩
 · exact absurd h1 hk
 · exact⟨_,h2⟩
theorem gN {a:Nat->Addr} {x:Value} {k:Nat} (h:bE a x k) (hk:k=0):x= .nilIface:=by
 rcases h with⟨_,h2⟩|⟨m,_,h1,_⟩
 · exact h2
 · omega
def je (D:aB) (a:Nat->Addr) (w:World) (FX:Nat->Prop) (X:World->Prop) (g p bm dev:Nat) (us:List ai) (d:Dv) (s:aV) (r:bh) (e:Ending) (w':World):Prop:=
 e= .returned (eQ a (bl us d (ax r)).1)/\US D w FX X g p bm dev (bl us d (ax r)).2.2.1 (bl us d (ax r)).2.2.2 (if(bl us d (ax r)).1=none then cH s r (bl us d (ax r)).2.1 else s) w'
def vR (D:aB) (a:Nat->Addr) (w:World) (FX:Nat->Prop) (X:World->Prop) (g p bm dev:Nat) (us:List ai) (d:Dv) (s:aV) (ep at':Int) (b:List UInt8) (e:Ending) (w':World):Prop:=
 (ef s ep at' b≠0/\(∃x,e= .returned x/\bE a x (ef s ep at' b))/\US D w FX X g p bm dev us d s w')\/(ef s ep at' b=0/\je D a w FX X g p bm dev us d s ⟨1,at'.toNat,0,b⟩ e w')
theorem EE (hD:ay (three a) D) (hX:cG FX X) (hE:av w a) (h:US D w FX X g p bm dev us d s W) (hpe:d.ar= []) (hok:jU (d.img.length / 64) us) (hs:eZ s) (ep at':Int) (vb:Value) (b:List UInt8) (hv:Bytes W W.heap.size vb b):
 Calls Tryz.prog 83 #[.pointer (some ⟨g,0,none⟩),.int .i64 ep,.int .i64 at',vb] W (vR D a w FX X g p bm dev us d s ep at' b):=by
 have hEW:=hE.below h.since;obtain⟨A,c,rfl,_,_,_⟩:=hv.form;have CA:=ab (ny h.unit hEW ep at' 4095);obtain⟨k,hk⟩:=aa (bG s.ag ep at' 4095);have HK:=ab hk;rw[hk]at CA;have HW0:=ab h;obtain⟨_,c0,c1,c2,c3,_⟩:=h.unit.facts;have h2:=hEW.var 2 (by omega);have h10:=hEW.var 10 (by omega);simp only[cL,List.getD_cons_zero,List.getD_cons_succ]at h2 h10;have HHas:=ab (λ(n:Nat) (hn:n<=4095)=>pW h.unit (n:Int) (by omega) (by omega));have HV:=ab hv;have HD:=ab hD;have HX:=ab hX;have HE:=ab hE;have HS:=ab hs;have HOk:=ab hok;have HPe:=ab hpe;clear h hEW hv hD hX hE hs hok hpe hk
 go_enter Tryz.func83,Tryz.ntmps83
 go_wp2_with fail
 refine CA.out.mono ?_;rintro e w1 ⟨x,rfl,hx,rfl⟩;by_cases hk0:k=0;rotate_left
 · have HR:=ab (show ef s ep at' b=k from by unfold ef;rw[HK.out,if_pos hk0]);have HIx:=ab hx;obtain⟨ad,rfl⟩:=fK hx hk0;have HK0:=ab hk0;clear hx hk0
   go_wp2_with fail
   go_ret
   exact .inl ⟨by rw[HR.out];exact HK0.out,⟨_,rfl,by rw[HR.out];exact HIx.out⟩,HW0.out⟩
 obtain rfl:=gN hx hk0;subst hk0;have hc:=jD HK.out;clear hx;have HN0:=ab (show ¬bG s.ag ep at' 4095≠0 from by rw[HK.out];simp);obtain⟨n,rfl⟩:∃n:Nat,at'=n:=⟨at'.toNat,by omega⟩;have hn4:n<=4095:=by omega
 cases q1:decide ((b.length:Int) < 1) with
 | true=>
   have HR:=ab (show ef s ep n b=2+1 from by unfold ef;rw[if_neg HN0.out,if_pos (.inl (by have:=of_decide_eq_true q1;omega))])
   go_wp2_with fail
   go_ret
   exact .inl ⟨by rw[HR.out];omega,⟨_,rfl,by rw[HR.out];exact bL a 2 (by omega)⟩,HW0.out⟩
 | false=>
 cases q2:decide ((2048:Int) < (b.length:Int)) with
 | true=>
   have HR:=ab (show ef s ep n b=2+1 from by unfold ef;rw[if_neg HN0.out,if_pos (.inr (by have:=of_decide_eq_true q2;omega))])
   go_wp2_with fail
   go_ret
   exact .inl ⟨by rw[HR.out];omega,⟨_,rfl,by rw[HR.out];exact bL a 2 (by omega)⟩,HW0.out⟩
 | false=>
 have HN1:=ab (show ¬(b.length < 1\/2048 < b.length) from by have e1:=of_decide_eq_false q1;have e2:=of_decide_eq_false q2;omega);cases q3:decide ((n:Int) < (s.trimmed:Int)) with
 | true=>
   have HR:=ab (show ef s ep n b=10+1 from by unfold ef;rw[if_neg HN0.out,if_neg HN1.out,if_pos (of_decide_eq_true q3)]);have q3':=of_decide_eq_true q3;clear q3
   go_wp2_with fail
   go_ret
   exact .inl ⟨by rw[HR.out];omega,⟨_,rfl,by rw[HR.out];exact bL a 10 (by omega)⟩,HW0.out⟩
 | false=>
 have HN2:=ab (of_decide_eq_false q3);have q3':=of_decide_eq_false q3;clear q3;have CH:=ab (HHas.out n hn4);rw[yM]at CH;obtain⟨R,hR⟩:=aa (dm s n);have HRh:=ab hR;rw[hR]at CH;clear hR
 go_wp2_with fail
 refine CH.out.mono ?_;rintro e w2 ⟨rfl,hb⟩;have U2:=ab (HW0.out.below HD.out HX.out hb);have HV2:=ab (HV.out.below hb);have hE2:=HE.out.below U2.out.since;have h8:=hE2.var 8 (by omega);simp only[cL,List.getD_cons_zero,List.getD_cons_succ]at h8;clear hb CH hE2 h2 h10 c0 c1 c2 c3;cases R with
 | true=>
   have HR:=ab (show ef s ep n b=8+1 from by unfold ef;rw[if_neg HN0.out,if_neg HN1.out,if_neg (by have:=HN2.out;omega),Int.toNat_natCast,HRh.out];rfl)
   go_wp2_with fail
   go_ret
   exact .inl ⟨by rw[HR.out];omega,⟨_,rfl,by rw[HR.out];exact bL a 8 (by omega)⟩,U2.out⟩
 | false=>
   have HR:=ab (show ef s ep n b=0 from by unfold ef;rw[if_neg HN0.out,if_neg HN1.out,if_neg (by have:=HN2.out;omega),Int.toNat_natCast,HRh.out];rfl);have cv:=fT HV2.out;have HPut:=ab (pZ HD.out HX.out HE.out (ni HE.out) U2.out HPe.out HOk.out HS.out ⟨1,n,0,b⟩ (.inl ⟨rfl,hn4,by have:=HN1.out;show 1<=b.length;omega,by have:=HN1.out;show b.length<=2048;omega⟩));have HPut2:=ab (show Calls Tryz.prog 61 #[.pointer (some ⟨g,0,none⟩),.agg #[.int .i64 1,.int .i64 (n:Int),.int .i64 0,.string (text b)]] w2 (je D a w FX X g p bm dev us d s ⟨1,n,0,b⟩) from HPut.out);clear HPut
   go_wp2_with fail
   refine HPut2.out.mono ?_;rintro e w3 ⟨rfl,hU⟩;have U3:=ab hU;clear hU;obtain⟨er,her⟩:=aa ((bl us d (ax ⟨1,n,0,b⟩)).1);have HEr:=ab her;rw[her];clear her;cases er with
   | none=>
     go_wp2_with fail
     go_ret
     exact .inr ⟨HR.out,by rw[Int.toNat_natCast];exact⟨by rw[HEr.out]<;>rfl,U3.out⟩⟩
   | some m=>
     go_wp2_with fail
     go_ret
     exact .inr ⟨HR.out,by rw[Int.toNat_natCast];exact⟨by rw[HEr.out]<;>rfl,U3.out⟩⟩
end
end Go.Proofs.YtiafamacjpgjoaaGreatDoor
