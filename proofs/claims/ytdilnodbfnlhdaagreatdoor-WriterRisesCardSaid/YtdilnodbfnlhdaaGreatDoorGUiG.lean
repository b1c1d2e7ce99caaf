import Derived.Test.YtdilnodbfnlhdaaGreatDoorGStO
import Derived.Test.YtdilnodbfnlhdaaGreatDoorGUiR
import Derived.Test.YtdilnodbfnlhdaaGreatDoorGPackD
import Derived.Test.YtdilnodbfnlhdaaGreatDoorGMem
import Derived.Test.YtdilnodbfnlhdaaGreatDoorGSsX
import Derived.Test.YtdilnodbfnlhdaaGreatDoorGUrS
import Derived.Test.YtdilnodbfnlhdaaGreatDoorGUiE
import Derived.Test.YtdilnodbfnlhdaaGreatDoorGSsF
import Derived.Deep.RegionHeld3
import Derived.Lib.ConvBytes
set_option maxRecDepth 100000
set_option maxHeartbeats 4000000
namespace Go.Proofs.YtdilnodbfnlhdaaGreatDoor
open Go Go.RowKit Tide
theorem tK {B:Nat} {a w:World} (h:Below B a w) (n:Nat):Below B a (w.drewN n):=⟨h.os,h.tape,h.output,h.size,h.block⟩
theorem wv (w:World) (l:List UInt8) (hl:l.length<=100000):∃v w',(convert 9 38 (.string ⟨l.toArray⟩)).run Tryz.prog w= .ok v w'/\Bytes w' w'.heap.size v l/\Below w.heap.size w w':=by
 have hs:(⟨l.toArray⟩:ByteArray).size=l.length:=by show l.toArray.size=_;simp
 have hb:Below w.heap.size w (Lib.bytesWorld w 5 ⟨l.toArray⟩):=⟨rfl,rfl,rfl,by rw[Lib.bytesWorld_size];omega,λk hk=>Lib.bytesWorld_at_old w _ _ k hk⟩;refine⟨_,_,Lib.run_convert_string_bytes w 9 38 5 ⟨l.toArray⟩ Tryz.underlying9 Tryz.underlying38 Tryz.underlying5,?_,hb⟩;have hcap:(⟨l.toArray⟩:ByteArray).size<=grownCap w (⟨l.toArray⟩:ByteArray).size 0 5:=grownCap_ge w _ _ _;have hcap2:grownCap w (⟨l.toArray⟩:ByteArray).size 0 5<=9223372036854775807:=by have:=grownCap_le_maxLen w (⟨l.toArray⟩:ByteArray).size 0 5 (by rw[hs];unfold maxLen;omega);unfold maxLen at this;exact this
 refine⟨by rw[aR];omega,some ⟨w.heap.size,0,none⟩,_,by rw[aR,hs],by rw[aR,<-hs];exact hcap,hcap2,λ_=>⟨w.heap.size,0,rfl,by rw[Lib.bytesWorld_size];omega,λj u hu=> ?_⟩⟩;have hj:j < l.length:=by
  have:=(List.getElem?_eq_some_iff.1 hu).1
  rwa[aR]at this
 rw[Nat.zero_add,Lib.bytesWorld_cell w _ _ j (by rw[hs];exact hj),<-hu,ib l j hj];simp[hj]
theorem wy (w:World) (l:List UInt8) (hl:l.length<=100000):∃v w',(convert 9 38 (.string ⟨l.toArray⟩)).run Tryz.prog w= .ok v w'/\Bytes w' w'.heap.size v l/\Below w.heap.size w w'/\v.ownBlock=some w.heap.size/\w.heap.size < w'.heap.size:=by obtain⟨v,w',h1,h2,h3⟩:=wv w l hl;refine⟨v,w',h1,h2,h3,?_⟩;rw[Lib.run_convert_string_bytes w 9 38 5 ⟨l.toArray⟩ Tryz.underlying9 Tryz.underlying38 Tryz.underlying5]at h1;injection h1 with h1 h1';rw[<-h1,<-h1'];exact⟨rfl,by rw[Lib.bytesWorld_size];omega⟩
theorem AD (t:ByteArray) (g:Int) (w:World):(Instr.field 233 (.agg #[.string t,.int .i64 g]) 0).run Tryz.prog w= .ok (.string t) w:=by kernel_rfl
section
variable {D:az} {a:Nat->Addr} {w W:World} {FX:Nat->Prop} {X:World->Prop} {g p bm dev:Nat} {us:List ah} {d:Dv} {s:aT}
def fW (s:aT) (ep at':Int):List UInt8 × Nat:=
 if bV s.aF ep at' 4095≠0 then([],bV s.aF ep at' 4095)
 else if at' < s.trimmed then([],11)
 else match s.aU.find? λq=>(q.af:Int) == at' with
  | none=>([],10)
  | some q=>(q.bs,0)
def uC (a:Nat->Addr) (W:World) (s:aT) (ep at':Int) (e:Ending) (w':World):Prop:=
 ∃v x,e= .returned (.tuple #[v,x])/\Bytes w' w'.heap.size v (fW s ep at').1/\(∀k,v.ownBlock=some k->W.heap.size<=k/\k < w'.heap.size)/\bf a x (fW s ep at').2/\Below W.heap.size W w'
theorem Ev (h:bK W g p bm s) (hE:ar W a) (hp:∀q ∈ s.aU,q.bs.length<=2048) (ep at':Int):
 Calls Tryz.prog 86 #[.pointer (some ⟨g,0,none⟩),.int .i64 ep,.int .i64 at'] W (uC a W s ep at'):=by
 have CA:=ab (pA h hE ep at' 4095);obtain⟨k,hk⟩:=aa (bV s.aF ep at' 4095);have HK:=ab hk;rw[hk]at CA;have HU:=ab h;obtain⟨_,c0,c1,c2,c3,_⟩:=h.facts;have h10:=hE.var 10 (by omega);simp only[bA,List.getD_cons_zero,List.getD_cons_succ]at h10;have HHas:=ab (λ(n:Nat) (hn:n<=4095)=>oT h (n:Int) (by omega) (by omega));have HE:=ab hE;have HP:=ab hp;clear h hE hp hk
 go_enter Tryz.func86,Tryz.ntmps86
 go_wp2_with fail
 refine CA.out.mono ?_;rintro e w1 ⟨x,rfl,hx,rfl⟩;by_cases hk0:k=0;rotate_left
 · have HR:=ab (show fW s ep at'=([],k) from by unfold fW;rw[HK.out,if_pos hk0]);have HIx:=ab hx;obtain⟨ad,rfl⟩:=lF hx hk0;clear hx hk0
   go_wp2_with fail
   go_ret2
   exact⟨_,_,rfl,by rw[HR.out];exact fO _ _,λ_ h=>by(cases h),by rw[HR.out];exact HIx.out,Below.refl _ _⟩
 obtain rfl:=nH hx hk0;subst hk0;have hc:=lj HK.out;clear hx;have HN0:=ab (show ¬bV s.aF ep at' 4095≠0 from by rw[HK.out];simp);obtain⟨n,rfl⟩:∃n:Nat,at'=n:=⟨at'.toNat,by omega⟩;have hn4:n<=4095:=by omega
 by_cases q3:(n:Int) < (s.trimmed:Int)
 · have HR:=ab (show fW s ep n=([],10+1) from by unfold fW;rw[if_neg HN0.out,if_pos q3])
   go_wp2_with fail
   go_quiet (fail)
   go_wp2_with fail
   go_ret2
   exact⟨_,_,rfl,by rw[HR.out];exact fO _ _,λ_ h=>by(cases h),by rw[HR.out];exact bo a 10 (by omega),tK (Below.refl _ _) _⟩
 have HN2:=ab q3;have q3':(s.trimmed:Int)<=(n:Int):=by omega
 have CH:=ab (HHas.out n hn4);obtain⟨R,hR⟩:=aa ((s.aU.any λq=>(q.af:Int) == (n:Int)));have HRh:=ab hR;rw[hR]at CH;clear hR
 go_wp2_with fail
 refine CH.out.mono ?_;rintro e w2 ⟨rfl,hb⟩;have U2:=ab (HU.out.below hb);have B2:=ab hb;have hE2:=HE.out.below hb;have h9:=hE2.var 9 (by omega);simp only[bA,List.getD_cons_zero,List.getD_cons_succ]at h9;clear hb CH hE2 h10 c0 c1 c2 c3;obtain⟨_,c0,c1,c2,c3,_⟩:=U2.out.facts;cases R with
 | false=>
   have HR:=ab (show fW s ep n=([],9+1) from by unfold fW;rw[if_neg HN0.out,if_neg (by have:=HN2.out;omega),List.find?_eq_none.2 (λq hq he=>by have:=List.any_eq_false.1 HRh.out q hq;exact this he)])
   go_wp2_with fail
   go_quiet (fail)
   go_wp2_with fail
   go_ret2
   exact⟨_,_,rfl,by rw[HR.out];exact fO _ _,λ_ h=>by(cases h),by rw[HR.out];exact bo a 9 (by omega),tK B2.out _⟩
 | true=>
   obtain⟨q,hf⟩:∃q,(s.aU.find? λq=>(q.af:Int) == (n:Int))=some q:=by
    cases e:s.aU.find? λq=>(q.af:Int) == (n:Int) with
    | some q=>exact⟨q,rfl⟩
    | none=>obtain⟨q,hq,he⟩:=pB HRh.out;exact absurd (by simpa using he) (List.find?_eq_none.1 e q hq)
   have hq:=List.mem_of_find?_eq_some hf;have hqa:(q.af:Int)=n:=by have:=List.find?_some hf;simpa using this
   have HR:=ab (show fW s ep n=(q.bs,0) from by unfold fW;rw[if_neg HN0.out,if_neg (by have:=HN2.out;omega),hf]);obtain⟨v3,w3,hcv,hby,hb3,hown,hlt3⟩:=wy w2 q.bs (by have:=HP.out q hq;omega);have HBy:=ab hby;have HOw:=ab (show ∀k,v3.ownBlock=some k->W.heap.size<=k/\k < w3.heap.size from λk e=>by have:=B2.out.size;rw[hown]at e;injection e with e;omega);have B3:=ab (B2.out.trans (hb3.mono B2.out.size));have HQ:=ab hq;have HM:=ab U2.out.map;have HQa:=ab hqa;have hpf:=AD ⟨q.bs.toArray⟩ (q.cF:Int) w2;clear hby hb3 hf hq hqa hown hlt3
   go_wp2_with (at_lookup;refine EK _ HM.out rfl _ _ rfl rfl (n:Int) rfl (by omega) (by omega) ?_;intro s' g' hsg;obtain⟨rfl,rfl⟩:=hsg q HQ.out HQa.out;unfold gU)
   go_ret2
   exact⟨_,_,rfl,by rw[HR.out];exact HBy.out,HOw.out,by rw[HR.out];exact ec a,B3.out⟩
end
end Go.Proofs.YtdilnodbfnlhdaaGreatDoor
namespace Go.Proofs.YtdilnodbfnlhdaaGreatDoor
open Go Go.RowKit Tide
section
variable {D:az} {a:Nat->Addr} {w W:World} {FX:Nat->Prop} {X:World->Prop} {g p bm dev:Nat} {us:List ah} {d:Dv} {s:aT}
end
end Go.Proofs.YtdilnodbfnlhdaaGreatDoor
namespace Go.Proofs.YtdilnodbfnlhdaaGreatDoor
open Go Go.RowKit Go.Shelf Tide
section
variable {D:az} {x:Nat->Addr} {w W W':World} {FX:Nat->Prop} {X:World->Prop} {g p bm dev:Nat} {us us':List ah} {d d':Dv} {s s':aT}
theorem cY.row (hX:cY FX X) (lo:Nat) (ty:TypeId) (size:Nat) (v:Value) (n:Nat) (xs:List Value):cY (λk=>FX k\/v.ownBlock=some k) (λY=>X Y/\Y.ownsRow lo ty size v n xs):=λY Y' F h hl hk hf=>⟨hX Y Y' F h.1 (λk hk=>hl k (.inl hk)) hk (λk hk=>hf k (.inl hk)),hk.own h.2 (λk e=>hf k (.inr e))⟩
theorem US.row (hD:aC x D) (hX:cY FX X) (h:US D w FX X g p bm dev us d s W) (hb:Below W.heap.size W W') {ty:TypeId} {size:Nat} {v:Value} {n:Nat} {xs:List Value} (hv:W'.ownsRow W.heap.size ty size v n xs):
 US D w (λk=>FX k\/v.ownBlock=some k) (λY=>X Y/\Y.ownsRow W.heap.size ty size v n xs) g p bm dev us d s W':=by
 have hz:=hb.size;have hx2:=(h.below hD hX hb).iq;obtain⟨Fd,Fs,vs,h1,h2,h3,h4,h5,h6,h7,h8,h9⟩:=h;refine⟨Fd,Fs,vs,hD.an _ _ _ (λ_=>False) _ _ h1 (Kept.al hb) (λ_ _ h=>h),h2.below hb,h3.below hb,h4,h5,λk hk=>⟨λhf=> ?_,(h6 k hk).2.1,Nat.lt_of_lt_of_le (h6 k hk).2.2 hz⟩,λk hk=> ?_,h8.trans (hb.mono h8.size),hx2,hv⟩
 · rcases hf with hf|hf
   · exact(h6 k hk).1 hf
   · have:=(World.ownsRow.lt hv k hf).1;have:=(h6 k hk).2.2;omega
 · rcases hk with hk|hk
   · exact Nat.lt_of_lt_of_le (h7 k hk) hz
   · exact(World.ownsRow.lt hv k hk).2
end
section
variable {D:az} {a:Nat->Addr} {w W:World} {FX:Nat->Prop} {X:World->Prop} {g p bm dev n P:Nat} {d:Dv} {s:aT} {x y:aE} {r:List aE}
end
end Go.Proofs.YtdilnodbfnlhdaaGreatDoor
namespace Go.Proofs.YtdilnodbfnlhdaaGreatDoor
open Go Go.RowKit Go.Shelf Tide
section
variable {D:az} {a:Nat->Addr} {w W:World} {FX:Nat->Prop} {X:World->Prop} {g p bm dev n:Nat} {d:Dv} {s:aT} {m:aM}
end
end Go.Proofs.YtdilnodbfnlhdaaGreatDoor
namespace Go.Proofs.YtdilnodbfnlhdaaGreatDoor
open Go Go.RowKit Go.Shelf Tide
section
variable {D:az} {a:Nat->Addr} {w W:World} {FX:Nat->Prop} {X:World->Prop} {g p bm dev n N:Nat} {d:Dv} {s:aT} {m:aM}
theorem xA {s:aT} (h:fJ s):fJ (dc s):=⟨h.trimmed,h.aF,λq hq=>h.jq q (List.mem_filter.1 hq).1,λq hq=>h.ag q (List.mem_filter.1 hq).1,h.once.sublist (List.Sublist.map _ List.filter_sublist)⟩
theorem zJ (hL:aQ n d.ae m) (hn:n<=1000) (hN:dx N m) (hNl:N<=100000):kc (d.ae.length / 64) (aB m):=by
 have h1:=tZ hL.wf;have h2:=hL.places;have h3:=hL.len;refine⟨by rw[gJ];omega,λu hu=> ?_,?_⟩
 · obtain⟨g,hg,rfl⟩:=List.mem_map.1 hu;have h4:=hL.on hg;have h5:bj g<=64 * g.place+64:=by have:=(hL.wf.aL g hg).2.1;unfold bj;omega
   simp only;refine⟨by omega,by unfold bj;omega,by omega⟩
 · rw[nK];have:=hN.last;refine⟨?_,by omega⟩;unfold eS;cases m.ag.getLast? with
   | none=>simp
   | some g=>simp only;omega
end
end Go.Proofs.YtdilnodbfnlhdaaGreatDoor
namespace Go.Proofs.YtdilnodbfnlhdaaGreatDoor
open Go Go.RowKit Go.Shelf Tide
def UD (D:az) (w:World) (FX:Nat->Prop) (X:World->Prop) (dev:Nat) (d:Dv) (W:World):Prop:=
 ∃Fd,D W Fd dev d/\(∀k,Fd k->¬FX k/\w.heap.size<=k/\k < W.heap.size)/\(∀k,FX k->k < W.heap.size)/\Below w.heap.size w W/\X W
section
variable {D:az} {x:Nat->Addr} {w W W':World} {FX:Nat->Prop} {X:World->Prop} {g p bm dev:Nat} {us:List ah} {d:Dv} {s:aT}
theorem UD.below (hD:aC x D) (hX:cY FX X) (h:UD D w FX X dev d W) (hb:Below W.heap.size W W'):UD D w FX X dev d W':=by obtain⟨Fd,h1,h2,h3,h4,h5⟩:=h;have hz:=hb.size;exact⟨Fd,hD.an _ _ _ (λ_=>False) _ _ h1 (Kept.al hb) (λ_ _ h=>h),λk hk=>⟨(h2 k hk).1,(h2 k hk).2.1,Nat.lt_of_lt_of_le (h2 k hk).2.2 hz⟩,λk hk=>Nat.lt_of_lt_of_le (h3 k hk) hz,h4.trans (hb.mono h4.size),hX _ _ (λ_=>False) h5 h3 (Kept.al hb) (λ_ _ h=>h)⟩
theorem vT (hu:bK W g p bm s) (hk:Kept (λk=>k=g\/k=bm) W W') {B:Nat} (hB:B<=W.heap.size) {v:Value} {l:List UInt8} (h:Bytes W B v l):Bytes W' B v l:=by
 obtain⟨hn,A,c,rfl,h1,h2,hc⟩:=h;refine⟨hn,A,c,rfl,h1,h2,λhx=> ?_⟩;obtain⟨b,o,e,hb,hcell⟩:=hc hx;refine⟨b,o,e,hb,λj u hu2=> ?_⟩;have h0:=hcell j u hu2;obtain⟨y,hy⟩:∃y:UInt8,u= .int .u8 (y.toNat:Int):=by have h3:=List.mem_of_getElem? hu2;unfold aj at h3;obtain⟨y,_,rfl⟩:=List.mem_map.1 h3;exact⟨y,rfl⟩
 subst hy;rw[hk.cell (p:=⟨b,o+j,none⟩) (by show b < _;omega) (λe=> ?_)]
 · exact h0
 · rcases e with e|e
   · simp only at e;subst e;rw[cell_of_row _ _ _ _ _ _ hu.cells]at h0;have h9:=Array.mem_of_getElem? h0;simp at h9
   · simp only at e;subst e;obtain⟨D,⟨es,clock,k1,_⟩,_⟩:=hu.map;unfold World.cell? at h0;rw[show W.heap[(⟨b,o+j,none⟩:Addr).block]? =_ from k1]at h0;simp at h0
theorem AH (hu:bK W g p bm s) (hk:Kept (λk=>k=g\/k=bm) W W') {B:Nat} (hB:B<=W.heap.size) {v:Value} {l:List (List UInt8)} (h:fK W B v l):fK W' B v l:=by
 obtain⟨vs,⟨hn,A,c,rfl,h1,h2,hc⟩,hlen,h3⟩:=h;refine⟨vs,⟨hn,A,c,rfl,h1,h2,λhx=> ?_⟩,hlen,λi u q hu2 hq=>vT hu hk hB (h3 i u q hu2 hq)⟩;obtain⟨b,o,e,hb,hcell⟩:=hc hx;refine⟨b,o,e,hb,λj u hu2=> ?_⟩;have h0:=hcell j u hu2;have hj:j < l.length:=by rw[<-hlen];exact(List.getElem?_eq_some_iff.1 hu2).1
 obtain⟨A',c',rfl,_⟩:=(h3 j u l[j] hu2 (List.getElem?_eq_getElem hj)).form;rw[hk.cell (p:=⟨b,o+j,none⟩) (by show b < _;omega) (λe=> ?_)]
 · exact h0
 · rcases e with e|e
   · simp only at e;subst e;rw[cell_of_row _ _ _ _ _ _ hu.cells]at h0;have h9:=Array.mem_of_getElem? h0;simp at h9
   · simp only at e;subst e;obtain⟨D,⟨es,clock,k1,_⟩,_⟩:=hu.map;unfold World.cell? at h0;rw[show W.heap[(⟨b,o+j,none⟩:Addr).block]? =_ from k1]at h0;simp at h0
theorem Cl (a:Nat->Addr) (W:World) (v:Value) (B:Nat) (r:aX) (hg:fx r) (hn:gM r) (hE:ar W a) (hv:Bytes W B v (aV r)) (hB:B<=W.heap.size):
 Calls Tryz.prog 61 #[v] W λe w'=>e= .returned (.tuple #[l9 r,.nilIface])/\Below W.heap.size W w':=by
 have hlen:=p9 hg;obtain⟨kind,af,ep,aw⟩:=r;rcases hg with⟨h1,h2,h3,h4⟩|⟨h1,h2,h3⟩|⟨h1,h2⟩
 · simp only at h1 h2 h3 h4;subst h1;have he:ep=0:=hn.1 rfl;subst he;exact Es a W v B af ⟨aw.toArray⟩ h2 h3 h4 hE _ (by unfold aV bN;simp;rfl) (by omega) hv hB
 · simp only at h1 h2 h3;subst h1;have hp:aw= []:=hn.2.1 (show ¬(2:Nat)=1 by decide);subst hp;exact Et a W v B af ep h2 h3 hE _ (by unfold aV;simp) (by omega) hv hB
 · simp only at h1 h2;subst h1;have hp:aw= []:=hn.2.1 (show ¬(3:Nat)=1 by decide);have ha:af=0:=hn.2.2 rfl;subst hp ha;exact Eu a W v B ep h2 hE _ (by unfold aV;simp) (by omega) hv hB
end
def dU (b:List UInt8):aX:=(ox b).getD ⟨0,0,0, []⟩
def dL (gs:List aE):List (aX × Nat):=gs.flatMap λg=>g.aL.map λb=>(dU b,g.number)
def mS (m:aM):Prop:=∀g ∈ m.ag,∀b ∈ g.aL,fx (dU b)/\gM (dU b)/\aV (dU b)=b
theorem pV {r:aX} (hg:fx r) (hn:gM r):dU (aV r)=r:=by unfold dU;rw[Bz hg hn];rfl
theorem BJ (gs:List aE):dL gs=(cM gs).map λx=>(dU x.1,x.2):=by
 unfold dL cM;rw[List.map_flatMap]
 congr 1
 funext g;rw[List.map_map];rfl
theorem BF {gs:List aE} {l:List (aX × Nat)} (h:cM gs=l.map λx=>(aV x.1,x.2)) (hg:∀x ∈ l,fx x.1) (hn:∀x ∈ l,gM x.1):dL gs=l:=by
 rw[BJ,h,List.map_map]
 conv=>rhs;rw[<-List.map_id l]
 apply List.map_congr_left;intro x hx;show(dU (aV x.1),x.2)=x;rw[pV (hg x hx) (hn x hx)]
theorem Ca {m:aM} {l:List (aX × Nat)} (h:cM m.ag=l.map λx=>(aV x.1,x.2)) (hg:∀x ∈ l,fx x.1) (hn:∀x ∈ l,gM x.1):mS m:=λg hgm b hb=>by
 have h1:(b,g.number) ∈ cM m.ag:=by unfold cM;exact List.mem_flatMap.2 ⟨g,hgm,List.mem_map.2 ⟨b,hb,rfl⟩⟩
 rw[h]at h1;obtain⟨x,hx,he⟩:=List.mem_map.1 h1;injection he with e1 e2;rw[<-e1,pV (hg x hx) (hn x hx)];exact⟨hg x hx,hn x hx,rfl⟩
theorem BH (gs:List aE) (g:aE):dL (gs ++ [g])=dL gs ++ g.aL.map λb=>(dU b,g.number):=by unfold dL;rw[List.flatMap_append];simp
theorem wE {s:aT} (h:fJ s) {r:aX} (hr:fx r) {g:Nat} (hg:g<=100000):fJ (dR s r g):=by
 unfold dR;by_cases hk:r.kind=1
 · rw[if_pos hk];cases hh:de s r.af with
   | true=>exact h
   | false=>
     rw[if_neg (by decide)];have ha:r.af<=4095:=by
      rcases hr with⟨_,h2,_⟩|⟨h1,_⟩|⟨h1,_⟩
      · exact h2
      · omega
      · omega
     refine⟨h.trimmed,h.aF,λq hq=> ?_,λq hq=> ?_,?_⟩
     · rcases List.mem_append.1 hq with hq|hq
       · exact h.jq q hq
       · simp only[List.mem_singleton]at hq;subst hq;exact ha
     · rcases List.mem_append.1 hq with hq|hq
       · exact h.ag q hq
       · simp only[List.mem_singleton]at hq;subst hq;exact hg
     · simp only[List.map_append,List.map_cons,List.map_nil];rw[List.nodup_append];refine⟨h.once,by simp,λx hx y hy e=> ?_⟩;obtain⟨q,hq,rfl⟩:=List.mem_map.1 hx;simp only[List.mem_singleton]at hy;unfold de at hh;rw[List.any_eq_false]at hh;exact hh q hq (by simp[e,hy])
 · rw[if_neg hk];split
   · rename_i h2;have:r.af<=4096/\r.ep<=1073741824:=by
      rcases hr with⟨h1,_⟩|⟨_,h3,h4⟩|⟨h1,_⟩
      · omega
      · exact⟨h3,h4⟩
      · omega
     exact⟨this.1,this.2,h.jq,h.ag,h.once⟩
   · rename_i h2;have:r.ep<=1073741824:=by
      rcases hr with⟨h1,_⟩|⟨h1,_⟩|⟨_,h3⟩
      · omega
      · omega
      · exact h3
     exact⟨h.trimmed,this,h.jq,h.ag,h.once⟩
theorem oC:∀ (l:List (aX × Nat)),(∀x ∈ l,fx x.1/\x.2<=100000)->fJ (dM l):=by refine td _ (λ_=>⟨Nat.zero_le _,Nat.zero_le _,λq hq=>(by cases hq),λq hq=>(by cases hq),List.nodup_nil⟩) λl x ih h=> ?_;rw[me];exact wE (ih λy hy=>h y (by simp[hy])) (h x (by simp)).1 (h x (by simp)).2
end Go.Proofs.YtdilnodbfnlhdaaGreatDoor
namespace Go.Proofs.YtdilnodbfnlhdaaGreatDoor
open Go Go.RowKit Go.Shelf Tide
section
variable {D:az} {a:Nat->Addr} {w W:World} {FX:Nat->Prop} {X:World->Prop} {dev n N:Nat} {d:Dv} {m:aM}
theorem US.made {x:Nat->Addr} {us:List ah} {w1:World} {Fd Fs:Nat->Prop} {p:Nat} {vs:Value} (hD:aC x D) (hX:cY FX X) (hU:UD D w FX X dev d w1) (hd:D w1 Fd dev d) (h2:∀k,Fd k->¬FX k/\w.heap.size<=k/\k < W.heap.size) (h3:∀k,FX k->k < W.heap.size) (hs:aO w1 Fs p dev us vs) (hf:∀k,Fs k->W.heap.size<=k) (hb:Below W.heap.size W w1) (hW:w.heap.size<=W.heap.size):
 US D w FX X (w1.heap.size+1) p w1.heap.size dev us d ⟨[],0,0⟩ ((w1.alloc (.map #[] 0)).alloc (.cells #[.pointer (some ⟨p,0,none⟩),.map (some w1.heap.size),.int .i64 0,.int .i64 0] 140)):=by
 have hz:=hb.size;have hlt:=hD.lt _ _ _ _ hd;have hlt2:=hs.lt;obtain⟨W2,hW2⟩:=aa (w1.alloc (.map #[] 0));have hb1:Below w1.heap.size w1 W2:=by rw[<-hW2];exact(Below.refl _ _).alloc (Nat.le_refl _) _
 have hz2:W2.heap.size=w1.heap.size+1:=by rw[<-hW2,World.size_alloc]
 have hmap:eG W2 w1.heap.size []:=by rw[<-hW2];exact⟨.map [],nY (World.ownsMap_made w1 Tryz.prog 3 fV),fZ.nil⟩
 rw[hW2];clear hW2;have hb2:=(Below.refl W2.heap.size W2).alloc (Nat.le_refl _) (.cells #[.pointer (some ⟨p,0,none⟩),.map (some w1.heap.size),.int .i64 0,.int .i64 0] 140);have hnew:=heap_alloc_new W2 (.cells #[.pointer (some ⟨p,0,none⟩),.map (some w1.heap.size),.int .i64 0,.int .i64 0] 140);have hz3:(W2.alloc (.cells #[.pointer (some ⟨p,0,none⟩),.map (some w1.heap.size),.int .i64 0,.int .i64 0] 140)).heap.size=W2.heap.size+1:=World.size_alloc _ _;generalize W2.alloc (.cells #[.pointer (some ⟨p,0,none⟩),.map (some w1.heap.size),.int .i64 0,.int .i64 0] 140)=W3 at hb2 hnew hz3 ⊢;have hb3:Below w1.heap.size w1 W3:=hb1.trans (hb2.mono (by omega));have hx:=(hU.below hD hX hb3);obtain⟨_,_,_,_,hsin,hxw⟩:=hx;refine⟨Fd,Fs,vs,hD.an _ _ _ (λ_=>False) _ _ hd (Kept.al hb3) (λ_ _ h=>h),hs.below hb3,⟨by rw[<-hz2];exact hnew,hmap.kept (F:=λ_=>False) (Kept.al hb2) (λh=>h)⟩,λk h4 h5=> ?_,⟨λh=> ?_,λh=> ?_⟩,λk hk=> ?_,λk hk=> ?_,hsin,hxw⟩
 · have:=(h2 k h4).2.2;have:=hf k h5;omega
 · rcases h with h|h
   · have:=hlt _ h;omega
   · have:=hlt2 _ h;omega
 · rcases h with h|h
   · have:=hlt _ h;omega
   · have:=hlt2 _ h;omega
 · rcases hk with hk|hk|hk|hk
   · have:=h2 k hk;exact⟨this.1,this.2.1,by omega⟩
   · have h4:=hf k hk;exact⟨λh=>by have:=h3 k h;omega,by omega,by have:=hlt2 k hk;omega⟩
   · exact⟨λh=>by have:=h3 k h;omega,by omega,by omega⟩
   · exact⟨λh=>by have:=h3 k h;omega,by omega,by omega⟩
 · have:=h3 k hk;omega
theorem BI {gs:List aE} {i j:Nat} {g:aE} {b:List UInt8} (hj:g.aL[j]? =some b):
 dM (dL (gs.take i) ++ (g.aL.take (j+1)).map λb=>(dU b,g.number))=dR (dM (dL (gs.take i) ++ (g.aL.take j).map λb=>(dU b,g.number))) (dU b) g.number:=by
 rw[List.take_add_one,hj];simp only[Option.toList_some,List.map_append,List.map_cons,List.map_nil];rw[<-List.append_assoc,me]
theorem BG {gs:List aE} {i:Nat} {g:aE} (hi:gs[i]? =some g):dL (gs.take (i+1))=dL (gs.take i) ++ g.aL.map λb=>(dU b,g.number):=by rw[List.take_add_one,hi];simp only[Option.toList_some];rw[BH]
theorem BK {n:Nat} {im:List UInt8} {m:aM} (h:aQ n im m) {i:Nat} (hi:i < m.ag.length):iE im (aB m) ((m.ag[i]).number:Int)=(m.ag[i]).aL:=by
 rw[BN h];unfold oA;rcases qy h.wf ((m.ag[i]).number:Int) with⟨h1,_⟩|⟨k,hk,h0,_,_,h1,_⟩
 · exact absurd rfl (h1 _ (List.getElem_mem hi))
 · rw[h1];have h2:=List.pairwise_iff_getElem.1 h.wf.jU;have:k=i:=by
    rcases Nat.lt_trichotomy k i with h3|h3|h3
    · have:=h2 k i (by simpa using hk) (by simpa using hi) h3;rw[List.getElem_map,List.getElem_map]at this;omega
    · exact h3
    · have:=h2 i k (by simpa using hi) (by simpa using hk) h3;rw[List.getElem_map,List.getElem_map]at this;omega
   subst this;rfl
theorem AG {N:Nat} {m:aM} (hR:mS m) (hN:dx N m) (hNl:N<=100000) {i j:Nat} {g:aE} (hi:m.ag[i]? =some g):fJ (dM (dL (m.ag.take i) ++ (g.aL.take j).map λb=>(dU b,g.number))):=by
 have hg:g ∈ m.ag:=List.mem_of_getElem? hi;refine oC _ (λx hx=> ?_);rcases List.mem_append.1 hx with hx|hx
 · unfold dL at hx;obtain⟨y,hy,hx⟩:=List.mem_flatMap.1 hx;obtain⟨b,hb,rfl⟩:=List.mem_map.1 hx;have hym:=List.mem_of_mem_take hy;exact⟨(hR y hym b hb).1,by have:=hN y hym;simp only;omega⟩
 · obtain⟨b,hb,rfl⟩:=List.mem_map.1 hx;exact⟨(hR g hg b (List.mem_of_mem_take hb)).1,by have:=hN g hg;simp only;omega⟩
theorem Ek (hD:aC (three a) D) (hX:cY FX X) (hE:ar w a) (h:UD D w FX X dev d W) (hpe:d.aq= []) (hL:aQ n d.ae m) (hn:64<=n) (hn2:n<=1000) (hN:dx N m) (hNl:N<=100000) (hR:mS m):
 Calls Tryz.prog 27 #[.pointer (some ⟨dev,0,none⟩)] W λe w'=>∃g p bm,e= .returned (.tuple #[.pointer (some ⟨g,0,none⟩),.nilIface])/\US D w FX X g p bm dev (aB m) d (dc (dM (dL m.ag))) w':=by
 have HL:=ab hL;have HN:=ab hN;have HR:=ab hR;have HD:=ab hD;have HX:=ab hX;have HE:=ab hE;have HU:=ab h;have hul:(aB m).length<=1000:=by rw[gJ];have:=tZ hL.wf;have:=hL.places;omega
 have HUl:=ab hul;have HPe:=ab hpe;have HF:=ab (show ∀u ∈ aB m,u.first+64<=d.ae.length / 64 from λu hu=>by obtain⟨y,hy,rfl⟩:=List.mem_map.1 hu;have:=hL.on hy;have:=hL.len;simp only;omega);obtain⟨Fd,h1,h2,h3,h4,h5⟩:=h;have CO:=ab (zV hD h1 hpe hL hn hn2 (λg hg=>by have:=hN g hg;omega));have H2:=ab h2;have hlt:=ab (hD.lt _ _ _ _ h1);have H3:=ab h3;have H4:=ab h4.size;have hmm:= @run_makeMap Tryz.prog;clear h1 h2 h3 h4 h5 hL hN hR hD hX hE hpe hul
 go_enter Tryz.func27,Tryz.ntmps27
 go_wp2_with fail
 refine CO.out.mono ?_;rintro e w1 ⟨p,Fs,vs,rfl,hd1,hs1,hf1,hb1⟩;have U1:=ab (HU.out.below HD.out HX.out hb1);have HD1:=ab hd1;have HS1:=ab hs1;have HF1:=ab hf1;have HB1:=ab hb1;have U2:=ab (US.made HD.out HX.out U1.out hd1 H2.out H3.out hs1 hf1 hb1 H4.out);clear hd1 hs1 hf1 hb1 CO U1 HD1 HS1 HF1 HB1 H2 hlt HU H3 H4;have hz2:((w1.alloc (.map #[] 0)).alloc (.cells #[.pointer (some ⟨p,0,none⟩),.map (some w1.heap.size),.int .i64 0,.int .i64 0] 140)).heap.size=w1.heap.size+2:=by rw[World.size_alloc,World.size_alloc]
 have CS:=ab (by obtain⟨Fd,Fs,vs,h1,h2,_⟩:=U2.out;exact Cs h2 HUl.out)
 go_wp2_with fail
 refine CS.out.mono ?_;rintro e w3 ⟨v,rfl,hv,hb3⟩;have U3:=ab (U2.out.row HD.out HX.out hb3 hv);have HX3:=ab (λS rb cv=>HX.out.row ((w1.alloc (.map #[] 0)).alloc (.cells #[.pointer (some ⟨p,0,none⟩),.map (some w1.heap.size),.int .i64 0,.int .i64 0] 140)).heap.size 3 1 (.slice rb S cv) S ((aB m).map λu=> .int .i64 (u.no:Int)));clear hb3 hv U2 CS;rw[hz2]at U3 HX3;generalize w1.heap.size=G at *;clear hz2;obtain⟨S,hS⟩:=aa m.ag.length;have hS':(aB m).length=S:=by rw[gJ,hS]
 have HS:=ab hS;have HSl:=ab hS';obtain⟨Av,cv,rfl⟩:∃Av cv,v= .slice Av S cv:=by
  rcases U3.out.iq.2.2 with⟨h1,h2⟩|⟨gg,cap,_,h1,_⟩
  · exact⟨none,0,by rw[h1,<-hS',h2]⟩
  · exact⟨_,cap,by rw[h1,hS']⟩
 have U3:=ab (by have:=U3.out;rw[hS']at this;exact this);have HX3:=ab (HX3.out S Av cv);have HNo:=ab (show ∀ (j:Nat) (h:j < m.ag.length),((aB m).map λu=>Value.int .i64 (u.no:Int))[j]? =some (.int .i64 ((m.ag[j]).number:Int)) from λj h=>by rw[List.getElem?_map];unfold aB;rw[List.getElem?_map,List.getElem?_eq_getElem h];rfl);have HLess:=ab (λ(us:List ah) (d:Dv) (s:aT) (Y:World) (hu:US D w (λk=>FX k\/(Value.slice Av S cv).ownBlock=some k) (λY=>X Y/\Y.ownsRow (G+2) 3 1 (.slice Av S cv) S ((aB m).map λu=> .int .i64 (u.no:Int))) (G+1) p G dev us d s Y)=>(show US D w FX X (G+1) p G dev us d s Y from hu.less (λ_ h=> .inl h) (λ_ h=>h.1)));have HRow:=ab (λ(us:List ah) (d:Dv) (s:aT) (Y:World) (hu:US D w (λk=>FX k\/(Value.slice Av S cv).ownBlock=some k) (λY=>X Y/\Y.ownsRow (G+2) 3 1 (.slice Av S cv) S ((aB m).map λu=> .int .i64 (u.no:Int))) (G+1) p G dev us d s Y) (j:Nat) (hj:j < S)=>(show ∃rb,Av=some ⟨rb,0,none⟩/\Y.cell? ⟨rb,j,none⟩=((aB m).map λu=>Value.int .i64 (u.no:Int))[j]? from by
  have h0:=hu.iq.2;rcases h0.2 with⟨h1,h2⟩|⟨gg,cap,_,h1,_⟩
  · omega
  · injection h1 with h1;subst h1;exact⟨gg,rfl,h0.cellAt j (by omega)⟩))
 generalize hFX:(λk=>FX k\/(Value.slice Av S cv).ownBlock=some k)=FR at *;generalize hXR:(λY:World=>X Y/\Y.ownsRow (G+2) 3 1 (.slice Av S cv) S ((aB m).map λu=> .int .i64 (u.no:Int)))=XR at *;clear hFX hXR;have U3':=ab (show US D w FR XR (G+1) p G dev (aB m) d (dM (dL (m.ag.take 0))) w3 from U3.out);clear U3 hS hS'
 go_wp2_with fail
 go_loopw [28] (λi w4=>∃k:Nat,i= .int .i64 (k:Int)/\k<=S/\Hid (US D w FR XR (G+1) p G dev (aB m) d (dM (dL (m.ag.take k))) w4)) (λi _=>S - (intOf i).toNat)
 case atStart=>exact⟨0,rfl,Nat.zero_le _,U3'⟩
 case round=>
  clear U3';obtain⟨i,rfl,hi,U4⟩:=hrel;have hSm:S<=1000:=by have:=HUl.out;rw[HSl.out]at this;exact this
  by_cases his:i < S;rotate_left
  · have HEnd:=ab (show m.ag.take i=m.ag from List.take_of_length_le (by have:=HS.out;omega));rw[HEnd.out]at U4;have CF:=ab (xx U4.out.unit (oC _ (λx hx=>by unfold dL at hx;obtain⟨y,hy,hx⟩:=List.mem_flatMap.1 hx;obtain⟨b,hb,rfl⟩:=List.mem_map.1 hx;exact⟨(HR.out y hy b hb).1,by have:=HN.out y hy;simp only;omega⟩)))
    go_wp2_with fail
    refine CF.out.mono ?_;rintro e w5 ⟨rfl,hu,hk⟩;have U5:=ab (HLess.out _ _ _ _ (U4.out.own HD.out HX3.out (hk.mono (λk _ h=> .inr h)) hu));clear hu hk
    go_wp2_with fail
    go_ret2
    exact⟨G+1,p,G,rfl,U5.out⟩
  have hil:i < m.ag.length:=by rw[HS.out];exact his
  obtain⟨rb,rfl,er⟩:=HRow.out _ _ _ _ U4.out i his;rw[HNo.out i hil]at er;obtain⟨gs,hgs⟩:=aa (m.ag[i]);have HGi:=ab (show m.ag[i]? =some gs from by rw[List.getElem?_eq_getElem hil,hgs]);have HGm:=ab (show gs ∈ m.ag from by rw[<-hgs];exact List.getElem_mem hil);have CR:=ab (by obtain⟨Fd,Fs,vs,h1,h2,_⟩:=U4.out;have:=BE HD.out h1 h2 HUl.out HF.out (gs.number:Int);rw[show aI d.ae d.aq=d.ae from by rw[HPe.out];rfl,<-hgs,BK HL.out hil,hgs]at this;exact this);rw[hgs]at er;clear hgs hil
  go_wp2_with fail
  refine CR.out.mono ?_;rintro e w5 ⟨vr,rfl,hpar,hb5⟩;have U5:=ab (U4.out.below HD.out HX3.out hb5);obtain⟨B,hB⟩:=aa w5.heap.size;rw[hB]at hpar;have HP5:=ab hpar;have HB5:=ab (Nat.le_of_eq hB.symm);obtain⟨hRl,A,cr,rfl,_⟩:=hpar.form;obtain⟨R,hR⟩:=aa gs.aL.length;have HRl:=ab hR;rw[hR]at hRl HP5;rw[hR];have U5':=ab (show US D w FR XR (G+1) p G dev (aB m) d (dM (dL (m.ag.take i) ++ (gs.aL.take 0).map λb=>(dU b,gs.number))) w5 from by rw[List.take_zero,List.map_nil,List.append_nil];exact U5.out);clear hpar hb5 hB hR U5 U4 CR er
  go_wp2_with fail
  go_loopw [36] (λt w6=>∃k:Nat,t= .int .i64 (k:Int)/\k<=R/\Hid (US D w FR XR (G+1) p G dev (aB m) d (dM (dL (m.ag.take i) ++ (gs.aL.take k).map λb=>(dU b,gs.number))) w6)/\Hid (fK w6 B (.slice A R cr) gs.aL)/\Hid (B<=w6.heap.size)) (λt _=>R - (intOf t).toNat)
  case atStart=>exact⟨0,rfl,Nat.zero_le _,U5',HP5,HB5⟩
  case round=>
   clear U5' HP5 HB5;obtain⟨j,rfl,hj,U6,HP6,HB6⟩:=hrel;by_cases hjr:j < R;rotate_left
   · have hjR:j=R:=by omega
     subst hjR;have U7:=ab (show US D w FR XR (G+1) p G dev (aB m) d (dM (dL (m.ag.take (i+1)))) wr from by have:=U6.out;rw[show gs.aL.take j=gs.aL from List.take_of_length_le (by have:=HRl.out;omega)]at this;rw[BG HGi.out];exact this);clear U6 HP6 HB6
     go_wp2_with fail
     go_roundw
     case rel=>exact⟨i+1,by go_num,by omega,U7⟩
     case measure=>simp only[intOf];omega
   have hjl:j < gs.aL.length:=by rw[HRl.out];exact hjr
   obtain⟨_,A',c',he,hfm⟩:=HP6.out.form;injection he with e1 e2 e3;obtain⟨bb,oo,u,hA,hc6,hby⟩:=hfm j hjl;rw[<-e1]at hA;subst hA;clear e1 e2 e3 hfm;obtain⟨b,hbe⟩:=aa (gs.aL[j]);have HJ:=ab (show gs.aL[j]? =some b from by rw[List.getElem?_eq_getElem hjl,hbe]);have hbm:b ∈ gs.aL:=by rw[<-hbe];exact List.getElem_mem hjl
   rw[hbe]at hby;have hri:=HR.out gs HGm.out b hbm;have CB:=ab (by have:=hby;rw[<-hri.2.2]at this;exact Cl a wr u B (dU b) hri.1 hri.2.1 (HE.out.below U6.out.since) this HB6.out);have HGo:=ab hri.1;clear hby hri hbe hbm
   go_wp2_with fail
   refine CB.out.mono ?_;rintro e w7 ⟨rfl,hb7⟩;have U7:=ab (U6.out.below HD.out HX3.out hb7);have HP7:=ab (HP6.out.below (hb7.mono HB6.out));have HB7:=ab (Nat.le_trans HB6.out hb7.size);clear hb7 CB U6 HP6 HB6 hc6;obtain⟨r,hr⟩:=aa (dU b);have HRr:=ab hr;rw[hr]at HGo;rw[hr];have hba:=(Below.refl w7.heap.size w7).alloc (Nat.le_refl _) (.cells #[.int .i64 (r.kind:Int),.int .i64 (r.af:Int),.int .i64 (r.ep:Int),.string ⟨r.aw.toArray⟩] 145);obtain⟨_,c0,c1,c2,c3⟩:=cA (heap_alloc_new w7 (.cells #[.int .i64 (r.kind:Int),.int .i64 (r.af:Int),.int .i64 (r.ep:Int),.string ⟨r.aw.toArray⟩] 145));have U8:=ab (U7.out.below HD.out HX3.out hba);have HP8:=ab (HP7.out.below (hba.mono HB7.out));have HB8:=ab (Nat.le_trans HB7.out hba.size);clear hba hr;have CC:=ab (pR U8.out.unit (AG HR.out HN.out hNl HGi.out) r HGo.out gs.number);have HW:=ab (show(w7.alloc (.cells #[.int .i64 (r.kind:Int),.int .i64 (r.af:Int),.int .i64 (r.ep:Int),.string ⟨r.aw.toArray⟩] 145)).heap.size=w7.heap.size+1 from World.size_alloc _ _)
   go_wp2_with fail
   refine CC.out.mono ?_;rintro e w9 ⟨rfl,hu,hk⟩;have U9:=ab (show US D w FR XR (G+1) p G dev (aB m) d (dM (dL (m.ag.take i) ++ (gs.aL.take (j+1)).map λb=>(dU b,gs.number))) w9 from by have:=U8.out.own HD.out HX3.out hk hu;rw[BI HJ.out,HRr.out];exact this);have HP9:=ab (AH U8.out.unit hk HB8.out HP8.out);have HB9:=ab (Nat.le_trans HB8.out hk.size);clear hu hk U7 HP7 HB7 U8 HP8 HB8 HW c0 c1 c2 c3 CC;have hRm:R<=1000:=by have h1:=(HL.out.wf.aL gs HGm.out);have:=DM gs.aL;have:=HRl.out;have:=h1.2.1;omega
   go_wp2_with fail
   go_roundw
   case rel=>exact⟨j+1,by go_num,by omega,U9,HP9,HB9⟩
   case measure=>simp only[intOf];omega
end
end Go.Proofs.YtdilnodbfnlhdaaGreatDoor
namespace Go.Proofs.YtdilnodbfnlhdaaGreatDoor
open Go Go.RowKit Go.Shelf Tide
def gq (l:List (aX × Nat)):Prop:=∀x ∈ l,gM x.1
def kZ (u:av) (m:aM):Prop:=∃s l,Holds { u with store:=m } s l/\gq l
theorem qU {u:av} {s:aT} {l:List (aX × Nat)} (h:Holds u s l) (hn:gq l):kZ u u.store:=⟨s,l,h,hn⟩
theorem gq.snoc {l:List (aX × Nat)} (h:gq l) {r:aX} (hr:gM r) (g:Nat):gq (l ++ [(r,g)]):=λx hx=>by
 rcases List.mem_append.1 hx with hx|hx
 · exact h x hx
 · simp only[List.mem_singleton]at hx;subst hx;exact hr
theorem xW {u:av} {s:aT} {l:List (aX × Nat)} (h:Holds u s l) {t:aM} (ht:takeD u.store=some t):Holds { u with store:=t } s l where
 wf:=oQ h.wf ht
 aL:=by
  have hts:∃P N,t.ag=u.store.ag ++ [⟨P,N,0, []⟩]:=by
   unfold takeD at ht;split at ht
   · cases ht
   · injection ht with ht;exact⟨_,_,by rw[<-ht]⟩
  obtain⟨P,N,hts⟩:=hts;show cM t.ag=_;rw[hts,so];exact h.aL
 gQ:=h.gQ
 apart:=h.apart
 state:=h.state
 trimmed:=h.trimmed
 aF:=h.aF
 aU:=h.aU
 once:=h.once
 low:=h.low
 top:=h.top
theorem xV {u:av} {s:aT} {l:List (aX × Nat)} (h:Holds u s l) {N:Nat} (hN:dx N u.store) (hNl:N<=100000):fJ s:=by
 rw[<-h.state];refine xA (oC l (λx hx=>⟨h.gQ x hx,?_⟩));have h1:(aV x.1,x.2) ∈ cM u.store.ag:=by rw[h.aL];exact List.mem_map.2 ⟨x,hx,rfl⟩
 unfold cM at h1;obtain⟨g,hg,h2⟩:=List.mem_flatMap.1 h1;obtain⟨b,_,h3⟩:=List.mem_map.1 h2;injection h3 with _ h3;have:=hN g hg;omega
def kg (D:az) (a:Nat->Addr) (w:World) (FX:Nat->Prop) (X:World->Prop) (g p bm dev n N:Nat) (u ub:av) (r:Nat) (d:Dv) (x:Value) (w':World):Prop:=
 (bf a x r/\∃d' s' l',d'.aq= []/\(d.stop=none->d'.stop=none)/\aQ n d'.ae ub.store/\Holds ub s' l'/\gq l'/\dx (N+1) ub.store/\US D w FX X g p bm dev (aB ub.store) d' s' w')\/
 (d.stop≠none/\bf a x 12/\∃us' s' d',d'.ae.length=64 * n/\ka n d' (λim=>∃m',aQ n im m'/\dx (N+1) m'/\(kZ u m'\/kZ ub m'))/\US D w FX X g p bm dev us' d' s' w')
section
variable {u:av} {s:aT} {l:List (aX × Nat)}
theorem ED (h:Holds u s l) {ep a:Int} {b:List UInt8} (hw:dP s ep a b≠0):cw u ep a b=(u,dP s ep a b):=by
 unfold dP at hw ⊢;unfold cw;rw[h.aF,h.trimmed]at hw;rw[h.aF,h.trimmed];by_cases h1:bV u.aF ep a 4095≠0
 · rw[if_pos h1,if_pos h1]
 rw[if_neg h1]at hw ⊢;rw[if_neg h1];by_cases h2:b.length < 1\/2048 < b.length
 · rw[if_pos h2,if_pos h2]
 rw[if_neg h2]at hw ⊢;rw[if_neg h2];by_cases h3:a < (u.trimmed:Int)
 · rw[if_pos h3,if_pos h3]
 rw[if_neg h3]at hw ⊢;rw[if_neg h3];have hc:=lj (show bV u.aF ep a 4095=0 by omega);have hh:=h.qI a.toNat;rw[Int.toNat_of_nonneg hc.2.2.1]at hh;rw[hh]at hw ⊢;cases hd:fC u a with
 | true=>rw[if_pos rfl,if_pos rfl]
 | false=>rw[hd]at hw;exact absurd rfl hw
theorem EE (h:Holds u s l) {ep a:Int} {b:List UInt8} (hw:dP s ep a b=0):(0<=a/\a<=4095/\u.trimmed<=a.toNat/\de s a.toNat=false/\1<=b.length/\b.length<=2048)/\
 cw u ep a b=if(bY u ⟨1,a.toNat,0,b⟩).2.2≠0 then({ u with store:=(bY u ⟨1,a.toNat,0,b⟩).1 },(bY u ⟨1,a.toNat,0,b⟩).2.2.toNat)
  else({ u with store:=(bY u ⟨1,a.toNat,0,b⟩).1,rows:=u.rows ++ [⟨a.toNat,b,(bY u ⟨1,a.toNat,0,b⟩).2.1.toNat⟩],top:=max u.top (a.toNat+1) },0):=by
 unfold dP at hw;unfold cw;rw[h.aF,h.trimmed]at hw;by_cases h1:bV u.aF ep a 4095≠0
 · rw[if_pos h1]at hw;exact absurd hw h1
 rw[if_neg h1]at hw ⊢;by_cases h2:b.length < 1\/2048 < b.length
 · rw[if_pos h2]at hw;cases hw
 rw[if_neg h2]at hw ⊢;by_cases h3:a < (u.trimmed:Int)
 · rw[if_pos h3]at hw;cases hw
 rw[if_neg h3]at hw ⊢;have hc:=lj (show bV u.aF ep a 4095=0 by omega);have hh:=h.qI a.toNat;rw[Int.toNat_of_nonneg hc.2.2.1]at hh;cases hd:fC u a with
 | true=>rw[hh,hd]at hw;cases hw
 | false=>rw[hd]at hh;refine⟨⟨hc.2.2.1,hc.2.2.2,by omega,hh,by omega,by omega⟩,?_⟩;rw[if_neg (by decide)]
theorem sk (r:aX) (h:(bY u r).2.2≠0):({ u with store:=(bY u r).1 }:av)=u:=by have:=uS (m:=u.store) (b:=aV r) h;show({ u with store:=(cJ u.store (aV r)).1 }:av)=u;rw[this]
end
section
variable {D:az} {a:Nat->Addr} {w W:World} {FX:Nat->Prop} {X:World->Prop} {g p bm dev n N:Nat} {d:Dv} {s:aT} {u:av} {l:List (aX × Nat)}
theorem uR {m:aM} (h:aQ n d.ae m) (b:List UInt8) (h11:(bX (aB m) d b).1=some 11):(cJ m b).2.2=0:=by
 have hpl:d.ae.length / 64 / 64=m.places:=by have:=h.len;have:=h.places;omega
 unfold bX at h11;unfold cJ;by_cases hb:b.length < 1\/3968 < b.length
 · rw[if_pos hb]at h11;cases h11
 rw[if_neg hb]at h11 ⊢;rw[qB,hpl]at h11;cases hf:fB m.ag b.length with
 | true=>rfl
 | false=>
   rw[hf,if_neg (by decide)]at h11;rcases tE m with⟨h1,h2⟩|⟨k,r,h1,h2,_⟩
   · rw[h1]at h11;cases h11
   · rw[h2];rfl
theorem Bj (hL:aQ n d.ae u.store) (hN:dx N u.store) (hNl:N<=90000) (hpe:d.aq= []) (h:Holds u s l) (hnl:gq l) (r:aX) (hnr:gM r) (ub:av)
 (hub:(bY u r).2.2=0->∃no:Nat,(bY u r).2.1=(no:Int)/\ub.store=(bY u r).1/\Holds ub (dR s r no) (l ++ [(r,no)])) {e:Ending} {w':World} (hr:mP D a w FX X g p bm dev (aB u.store) d s r e w'):
 ∃x,e= .returned x/\(((bY u r).2.2≠0/\kg D a w FX X g p bm dev n N u u (bY u r).2.2.toNat d x w'/\∃ad,x=ai ad)\/((bY u r).2.2=0/\kg D a w FX X g p bm dev n N u ub 0 d x w')):=by
 obtain⟨he,hU⟩:=hr;refine⟨_,he,?_⟩;rcases uT hL (by have:=hN.last;omega) (aV r) with⟨er,e1,e2,e3⟩|⟨no,d',e1,e2,e3,e4,e5⟩|⟨us',d',e1,e2,e3,e4⟩
 · left;have e2':bY u r=(u.store,0,((er+1:Nat):Int)):=e2;rw[e1]at hU ⊢;rw[e2'];refine⟨by simp only;omega,.inl ⟨?_,d,s,l,hpe,id,hL,h,hnl,hN.mono (Nat.le_succ _),?_⟩,a er,rfl⟩
   · show bf a (ai (a er)) _;simp only[Int.toNat_natCast];exact bo a er (by omega)
   · simpa using hU
 · right;have e2':(bY u r).2=((no:Int),0):=e2;rw[e1]at hU ⊢;obtain⟨no',h1,h2,h3⟩:=hub (by rw[e2']);have hno:no'=no:=by rw[e2']at h1;simp only at h1;omega
   subst hno;have hst:(cJ u.store (aV r)).1=ub.store:=h2.symm;rw[hst]at hU e3;refine⟨by rw[e2'],.inl ⟨ec a,d',_,_,e4,e5,e3,h3,hnl.snoc hnr _,?_,by simpa using hU⟩⟩;rw[h2];exact pF hN
 · rw[e1]at hU ⊢;have hU':US D w FX X g p bm dev us' d' s w':=by simpa using hU
   by_cases h0:(bY u r).2.2=0
   · right;obtain⟨no',h1,h2,h3⟩:=hub h0;refine⟨h0,.inr ⟨e2,bo a 11 (by omega),us',s,d',e3,λxs hx hf=> ?_,hU'⟩⟩;rcases e4 xs hx hf with h4|h4|⟨h4,t,h5,h6⟩
     · exact⟨_,h4,hN.mono (Nat.le_succ _),.inl (qU h hnl)⟩
     · exact⟨_,h4,pF hN,.inr (by have h7:=qU h3 (hnl.snoc hnr _);rw[h2]at h7;exact h7)⟩
     · exact⟨_,h6,tw hN h5,.inl ⟨s,l,xW h h5,hnl⟩⟩
   · exact absurd (uR hL (aV r) (by rw[e1])) h0
end
end Go.Proofs.YtdilnodbfnlhdaaGreatDoor
namespace Go.Proofs.YtdilnodbfnlhdaaGreatDoor
open Go Go.RowKit Go.Shelf Tide
section
variable {D:az} {a:Nat->Addr} {w W:World} {FX:Nat->Prop} {X:World->Prop} {g p bm dev n N:Nat} {d:Dv} {s:aT} {u:av} {l:List (aX × Nat)}
theorem Cp (hL:aQ n d.ae u.store) (hN:dx N u.store) (hpe:d.aq= []) (h:Holds u s l) (hnl:gq l) {x:Value} {r:Nat} (hx:bf a x r) {w':World} (hU:US D w FX X g p bm dev (aB u.store) d s w'):kg D a w FX X g p bm dev n N u u r d x w':=
 .inl ⟨hx,d,s,l,hpe,id,hL,h,hnl,hN.mono (Nat.le_succ _),hU⟩
theorem EV (hD:aC (three a) D) (hX:cY FX X) (hE:ar w a) (hn:n<=1000) (hU:US D w FX X g p bm dev (aB u.store) d s W) (hpe:d.aq= []) (hL:aQ n d.ae u.store) (hN:dx N u.store) (hNl:N<=90000) (h:Holds u s l) (hnl:gq l) (ep a':Int) (vb:Value) (b:List UInt8) (hv:Bytes W W.heap.size vb b):
 Calls Tryz.prog 98 #[.pointer (some ⟨g,0,none⟩),.int .i64 ep,.int .i64 a',vb] W λe w'=>∃x,e= .returned x/\kg D a w FX X g p bm dev n N u (cw u ep a' b).1 (cw u ep a' b).2 d x w':=by
 refine(Ew hD hX hE hU hpe (zJ hL hn hN (by omega)) (xV h hN (by omega)) ep a' vb b hv).mono ?_;rintro e w' (⟨h0,⟨x,rfl,hx⟩,hU'⟩|⟨h0,hr⟩)
 · rw[ED h h0];exact⟨x,rfl,Cp hL hN hpe h hnl hx hU'⟩
 · obtain⟨⟨h1,h2,h3,h4,h5,h6⟩,hwr⟩:=EE h h0;rw[hwr];obtain⟨x,rfl,hc⟩:=Bj (N:=N) hL hN hNl hpe h hnl ⟨1,a'.toNat,0,b⟩ ⟨λ_=>rfl,λh=>absurd rfl h,λh=>absurd h (show ¬(1:Nat)=3 by decide)⟩ ({ u with store:=(bY u ⟨1,a'.toNat,0,b⟩).1,rows:=u.rows ++ [⟨a'.toNat,b,(bY u ⟨1,a'.toNat,0,b⟩).2.1.toNat⟩],top:=max u.top (a'.toNat+1) }) (λh7=>by obtain⟨no,k1,k2⟩:=h.write h4 h3 (by omega) ⟨h5,h6⟩ h7;refine⟨no,k1,rfl,?_⟩;rw[k1,Int.toNat_natCast];exact k2) hr;refine⟨x,rfl,?_⟩;rcases hc with⟨h7,h8,_⟩|⟨h7,h8⟩
   · rw[if_pos h7,sk _ h7];exact h8
   · rw[if_neg (by rw[h7];simp)];exact h8
end
end Go.Proofs.YtdilnodbfnlhdaaGreatDoor
namespace Go.Proofs.YtdilnodbfnlhdaaGreatDoor
open Go Go.RowKit Go.Shelf Tide
def UL (D:az) (w:World) (FX:Nat->Prop) (X:World->Prop) (g p bm dev n N:Nat) (u:av) (W:World):Prop:=
 ∃d s l,US D w FX X g p bm dev (aB u.store) d s W/\d.aq= []/\d.stop=none/\aQ n d.ae u.store/\Holds u s l/\gq l/\dx N u.store
def UO (D:az) (w:World) (FX:Nat->Prop) (X:World->Prop) (dev n N:Nat) (u:av) (W:World):Prop:=
 ∃d,UD D w FX X dev d W/\d.aq= []/\d.stop=none/\aQ n d.ae u.store/\kZ u u.store/\dx N u.store
section
variable {D:az} {a:Nat->Addr} {w W W':World} {FX:Nat->Prop} {X:World->Prop} {g p bm dev n N M:Nat} {u:av}
theorem UL.mono (h:UL D w FX X g p bm dev n N u W) (hNM:N<=M):UL D w FX X g p bm dev n M u W:=by obtain⟨d,s,l,h1,h2,h3,h4,h5,h6,h7⟩:=h;exact⟨d,s,l,h1,h2,h3,h4,h5,h6,h7.mono hNM⟩
theorem UL.since (h:UL D w FX X g p bm dev n N u W):Below w.heap.size w W:=by obtain⟨d,s,l,h1,_⟩:=h;exact h1.since
theorem UL.iq (h:UL D w FX X g p bm dev n N u W):X W:=by obtain⟨d,s,l,h1,_⟩:=h;exact h1.iq
theorem UL.below {x:Nat->Addr} (hD:aC x D) (hX:cY FX X) (h:UL D w FX X g p bm dev n N u W) (hb:Below W.heap.size W W'):UL D w FX X g p bm dev n N u W':=by obtain⟨d,s,l,h1,h2⟩:=h;exact⟨d,s,l,h1.below hD hX hb,h2⟩
theorem step_done {d:Dv} {ub:av} {r:Nat} {x:Value} (h:kg D a w FX X g p bm dev n N u ub r d x W') (hs:d.stop=none):bf a x r/\UL D w FX X g p bm dev n (N+1) ub W':=by
 rcases h with⟨h1,d',s',l',h2,h3,h4,h5,h6,h7,h8⟩|⟨h1,_⟩
 · exact⟨h1,d',s',l',h8,h2,h3 hs,h4,h5,h6,h7⟩
 · exact absurd hs h1
theorem UL.write (hD:aC (three a) D) (hX:cY FX X) (hE:ar w a) (hn:n<=1000) (hNl:N<=90000) (h:UL D w FX X g p bm dev n N u W) (ep a':Int) (vb:Value) (b:List UInt8) (hv:Bytes W W.heap.size vb b):
 Calls Tryz.prog 98 #[.pointer (some ⟨g,0,none⟩),.int .i64 ep,.int .i64 a',vb] W λe w'=>∃x,e= .returned x/\bf a x (cw u ep a' b).2/\UL D w FX X g p bm dev n (N+1) (cw u ep a' b).1 w':=by
 obtain⟨d,s,l,h1,h2,h3,h4,h5,h6,h7⟩:=h;refine(EV hD hX hE hn h1 h2 h4 h7 hNl h5 h6 ep a' vb b hv).mono ?_;rintro e w' ⟨x,rfl,hr⟩;exact⟨x,rfl,step_done hr h3⟩
theorem BC {s:aT} {l:List (aX × Nat)} (h:Holds u s l) (ep a':Int):fW s ep a'=fa u ep a':=by
 unfold fW fa;rw[h.aF,h.trimmed];by_cases h1:bV u.aF ep a' 4095≠0
 · rw[if_pos h1,if_pos h1]
 rw[if_neg h1,if_neg h1];by_cases h2:a' < (u.trimmed:Int)
 · rw[if_pos h2,if_pos h2]
 rw[if_neg h2,if_neg h2];have:(s.aU.find? λq=>(q.af:Int) == a')=u.rows.find? λq=>(q.af:Int) == a':=by
  rw[h.aU,List.find?_filter]
  congr 1
  funext q;by_cases e:(q.af:Int)=a'
  · have:u.trimmed<=q.af:=by omega
    simp[e,this]
  · simp[e]
 rw[this];cases u.rows.find? λq=>(q.af:Int) == a'<;>rfl
theorem AE {s:aT} {l:List (aX × Nat)} (h:Holds u s l):∀q ∈ s.aU,1<=q.bs.length/\q.bs.length<=2048:=λq hq=>by
 rw[<-h.state]at hq;unfold dc at hq;have hq2:=(List.mem_filter.1 hq).1;rw[sy l h.apart]at hq2;unfold eX at hq2;obtain⟨x,hx,he⟩:=List.mem_filterMap.1 hq2;by_cases hk:x.1.kind=1
 · rw[if_pos hk]at he;injection he with he;subst he;rcases h.gQ x hx with⟨_,_,h3,h4⟩|⟨h1,_⟩|⟨h1,_⟩
   · exact⟨h3,h4⟩
   · omega
   · omega
 · rw[if_neg hk]at he;cases he
theorem UL.Bv {x:Nat->Addr} (hD:aC x D) (hX:cY FX X) (hE:ar w a) (h:UL D w FX X g p bm dev n N u W) (ep a':Int):
 Calls Tryz.prog 86 #[.pointer (some ⟨g,0,none⟩),.int .i64 ep,.int .i64 a'] W λe w'=>∃v x,e= .returned (.tuple #[v,x])/\Bytes w' w'.heap.size v (fa u ep a').1/\(∀k,v.ownBlock=some k->W.heap.size<=k/\k < w'.heap.size)/\bf a x (fa u ep a').2/\Below W.heap.size W w'/\UL D w FX X g p bm dev n N u w':=by
 have h0:=h;obtain⟨d,s,l,h1,h2,h3,h4,h5,h6,h7⟩:=h;refine(Ev h1.unit (hE.below h1.since) (λq hq=>(AE h5 q hq).2) ep a').mono ?_;rintro e w' ⟨v,y,rfl,h8,ho,h9,h10⟩;rw[BC h5]at h8 h9;exact⟨v,y,rfl,h8,ho,h9,h10,h0.below hD hX h10⟩
theorem UO.open (hD:aC (three a) D) (hX:cY FX X) (hE:ar w a) (hn:64<=n) (hn2:n<=1000) (hNl:N<=90000) (h:UO D w FX X dev n N u W):
 Calls Tryz.prog 27 #[.pointer (some ⟨dev,0,none⟩)] W λe w'=>∃g p bm,e= .returned (.tuple #[.pointer (some ⟨g,0,none⟩),.nilIface])/\UL D w FX X g p bm dev n N u w':=by
 obtain⟨d,h1,h2,h3,h4,⟨s,l,h5,h6⟩,h7⟩:=h;refine(Ek hD hX hE h1 h2 h4 hn hn2 h7 (by omega) (Ca h5.aL h5.gQ h6)).mono ?_;rintro e w' ⟨g,p,bm,rfl,hU⟩;rw[BF h5.aL h5.gQ h6,h5.state]at hU;exact⟨g,p,bm,rfl,d,s,l,hU,h2,h3,h4,h5,h6,h7⟩
theorem UO.new {x:Nat->Addr} (hD:aC x D) (hX:cY FX X) (hXw:X W) (hFX:∀k,FX k->k < W.heap.size) (hb:Below w.heap.size w W) (k:Nat) (hk:1<=k) (hk2:k<=5):
 Calls Tryz.prog 26 #[.int .i64 ((64 * k:Nat):Int)] W λe w'=>∃dev,e= .returned (.tuple #[.pointer (some ⟨dev,0,none⟩),.nilIface])/\UO D w FX X dev (64 * k) 0 ⟨⟨k, []⟩, [],0,0,0⟩ w':=by
 refine(hD.new W (64 * k) (by omega) (by omega)).mono ?_;rintro e w' ⟨dev,F,rfl,g1,g2,g3⟩;have hlt:=hD.lt _ _ _ _ g1;have hz:=g3.size;have hz0:=hb.size;have hl:=vy (64 * k);rw[show 64 * k / 64=k by omega]at hl;refine⟨dev,rfl,_,⟨F,g1,λi hi=>⟨λhf=>by have:=hFX i hf;have:=g2 i hi;omega,by have:=g2 i hi;omega,hlt i hi⟩,λi hi=>by have:=hFX i hi;omega,hb.trans (g3.mono hz0),hX _ _ (λ_=>False) hXw hFX (Kept.al g3) (λ_ _ h=>h)⟩,rfl,rfl,hl,⟨_, [],Holds.new k,λx hx=>(by cases hx)⟩,λg hg=>(by cases hg)⟩
end
end Go.Proofs.YtdilnodbfnlhdaaGreatDoor
namespace Go.Proofs.YtdilnodbfnlhdaaGreatDoor
open Go Go.RowKit Go.Shelf Tide
def mc (W:World) (k:Nat):World:=(W.alloc (.cells #[.int .i64 (k:Int),.slice none 0 0] 152)).alloc (.cells #[.pointer (some ⟨W.heap.size,0,none⟩),.slice none 0 0,.slice none 0 0,.slice none 0 0,.int .i64 0,.int .i64 0,.int .i64 0] 154)
theorem Ej (k:Nat) (W:World):Calls Tryz.prog 28 #[.int .i64 (k:Int)] W λe w'=>e= .returned (.pointer (some ⟨W.heap.size+1,0,none⟩))/\w'=mc W k:=by
 go_enter Tryz.func28,Tryz.ntmps28
 go_wp2_with fail
 go_ret
 exact⟨rfl,rfl⟩
end Go.Proofs.YtdilnodbfnlhdaaGreatDoor
namespace Go.Proofs.YtdilnodbfnlhdaaGreatDoor
open Go Go.RowKit Tide
section
variable {W:World} {F S G:Nat->Prop} {q p:Nat} {va vp vi:Value} {rs:List Value} {u:av}
end
end Go.Proofs.YtdilnodbfnlhdaaGreatDoor
