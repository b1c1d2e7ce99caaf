import Derived.Test.YtiafamacjpgjoaaGreatDoorGUiE
import Derived.Test.YtiafamacjpgjoaaGreatDoorGSsF
import Derived.Lib.ConvBytes
set_option maxRecDepth 100000
set_option maxHeartbeats 4000000
namespace Go.Proofs.YtiafamacjpgjoaaGreatDoor
open Go Go.RowKit Tide
theorem kJ {B:Nat} {a w:World} (h:Below B a w) (n:Nat):Below B a (w.drewN n):=⟨h.os,h.tape,h.output,h.size,h.block⟩
theorem xj (w:World) (l:List UInt8) (hl:l.length<=100000):∃v w',(convert 9 47 (.string ⟨l.toArray⟩)).run Tryz.prog w= .ok v w'/\Bytes w' w'.heap.size v l/\Below w.heap.size w w':=by
 have hs:(⟨l.toArray⟩:ByteArray).size=l.length:=by show l.toArray.size=_;simp
 have hb:Below w.heap.size w (Lib.bytesWorld w 5 ⟨l.toArray⟩):=⟨rfl,rfl,rfl,by rw[Lib.bytesWorld_size];omega,λk hk=>Lib.bytesWorld_at_old w _ _ k hk⟩;refine⟨_,_,Lib.run_convert_string_bytes w 9 47 5 ⟨l.toArray⟩ Tryz.underlying9 Tryz.underlying47 Tryz.underlying5,?_,hb⟩;have hcap:(⟨l.toArray⟩:ByteArray).size<=grownCap w (⟨l.toArray⟩:ByteArray).size 0 5:=grownCap_ge w _ _ _;have hcap2:grownCap w (⟨l.toArray⟩:ByteArray).size 0 5<=9223372036854775807:=by have:=grownCap_le_maxLen w (⟨l.toArray⟩:ByteArray).size 0 5 (by rw[hs];unfold maxLen;omega);unfold maxLen at this;exact this
 refine⟨by rw[aW];omega,some ⟨w.heap.size,0,none⟩,_,by rw[aW,hs],by rw[aW,<-hs];exact hcap,hcap2,λ_=>⟨w.heap.size,0,rfl,by rw[Lib.bytesWorld_size];omega,λj u hu=> ?_⟩⟩;have hj:j < l.length:=by
  have:=(List.getElem?_eq_some_iff.1 hu).1
  rwa[aW]at this
 rw[Nat.zero_add,Lib.bytesWorld_cell w _ _ j (by rw[hs];exact hj),<-hu,iA l j hj];simp[hj]
theorem xk (w:World) (l:List UInt8) (hl:l.length<=100000):∃v w',(convert 9 47 (.string ⟨l.toArray⟩)).run Tryz.prog w= .ok v w'/\Bytes w' w'.heap.size v l/\Below w.heap.size w w'/\v.ownBlock=some w.heap.size/\w.heap.size < w'.heap.size:=by obtain⟨v,w',h1,h2,h3⟩:=xj w l hl;refine⟨v,w',h1,h2,h3,?_⟩;rw[Lib.run_convert_string_bytes w 9 47 5 ⟨l.toArray⟩ Tryz.underlying9 Tryz.underlying47 Tryz.underlying5]at h1;injection h1 with h1 h1';rw[<-h1,<-h1'];exact⟨rfl,by rw[Lib.bytesWorld_size];omega⟩
theorem Bn (t:ByteArray) (g:Int) (w:World):(Instr.field 171 (.agg #[.string t,.int .i64 g]) 0).run Tryz.prog w= .ok (.string t) w:=by kernel_rfl
section
variable {D:aB} {a:Nat->Addr} {w W:World} {FX:Nat->Prop} {X:World->Prop} {g p bm dev:Nat} {us:List ai} {d:Dv} {s:aV}
def gy (s:aV) (ep at':Int):List UInt8 × Nat:=
 if bG s.ag ep at' 4095≠0 then([],bG s.ag ep at' 4095)
 else if at' < s.trimmed then([],11)
 else match s.aD.find? λq=>(q.af:Int) == at' with
  | none=>([],10)
  | some q=>(q.bs,0)
def vI (a:Nat->Addr) (W:World) (s:aV) (ep at':Int) (e:Ending) (w':World):Prop:=
 ∃v x,e= .returned (.tuple #[v,x])/\Bytes w' w'.heap.size v (gy s ep at').1/\(∀k,v.ownBlock=some k->W.heap.size<=k/\k < w'.heap.size)/\bE a x (gy s ep at').2/\Below W.heap.size W w'
theorem EA (h:b9 W g p bm s) (hE:av W a) (hp:∀q ∈ s.aD,q.bs.length<=2048) (ep at':Int):
 Calls Tryz.prog 69 #[.pointer (some ⟨g,0,none⟩),.int .i64 ep,.int .i64 at'] W (vI a W s ep at'):=by
 have CA:=ab (ny h hE ep at' 4095);obtain⟨k,hk⟩:=aa (bG s.ag ep at' 4095);have HK:=ab hk;rw[hk]at CA;have HU:=ab h;obtain⟨_,c0,c1,c2,c3,_⟩:=h.facts;have h10:=hE.var 10 (by omega);simp only[cL,List.getD_cons_zero,List.getD_cons_succ]at h10;have HHas:=ab (λ(n:Nat) (hn:n<=4095)=>pW h (n:Int) (by omega) (by omega));have HE:=ab hE;have HP:=ab hp;clear h hE hp hk
 go_enter Tryz.func69,Tryz.ntmps69
 go_wp2_with fail
 refine CA.out.mono ?_;rintro e w1 ⟨x,rfl,hx,rfl⟩;by_cases hk0:k=0;rotate_left
 · have HR:=ab (show gy s ep at'=([],k) from by unfold gy;rw[HK.out,if_pos hk0]);have HIx:=ab hx;obtain⟨ad,rfl⟩:=fK hx hk0;clear hx hk0
   go_wp2_with fail
   go_ret2
   exact⟨_,_,rfl,by rw[HR.out];exact di _ _,λ_ h=>by(cases h),by rw[HR.out];exact HIx.out,Below.refl _ _⟩
 obtain rfl:=gN hx hk0;subst hk0;have hc:=jD HK.out;clear hx;have HN0:=ab (show ¬bG s.ag ep at' 4095≠0 from by rw[HK.out];simp);obtain⟨n,rfl⟩:∃n:Nat,at'=n:=⟨at'.toNat,by omega⟩;have hn4:n<=4095:=by omega
 by_cases q3:(n:Int) < (s.trimmed:Int)
 · have HR:=ab (show gy s ep n=([],10+1) from by unfold gy;rw[if_neg HN0.out,if_pos q3])
   go_wp2_with fail
   go_quiet (fail)
   go_wp2_with fail
   go_ret2
   exact⟨_,_,rfl,by rw[HR.out];exact di _ _,λ_ h=>by(cases h),by rw[HR.out];exact bL a 10 (by omega),kJ (Below.refl _ _) _⟩
 have HN2:=ab q3;have q3':(s.trimmed:Int)<=(n:Int):=by omega
 have CH:=ab (HHas.out n hn4);obtain⟨R,hR⟩:=aa ((s.aD.any λq=>(q.af:Int) == (n:Int)));have HRh:=ab hR;rw[hR]at CH;clear hR
 go_wp2_with fail
 refine CH.out.mono ?_;rintro e w2 ⟨rfl,hb⟩;have U2:=ab (HU.out.below hb);have B2:=ab hb;have hE2:=HE.out.below hb;have h9:=hE2.var 9 (by omega);simp only[cL,List.getD_cons_zero,List.getD_cons_succ]at h9;clear hb CH hE2 h10 c0 c1 c2 c3;obtain⟨_,c0,c1,c2,c3,_⟩:=U2.out.facts;cases R with
 | false=>
   have HR:=ab (show gy s ep n=([],9+1) from by unfold gy;rw[if_neg HN0.out,if_neg (by have:=HN2.out;omega),List.find?_eq_none.2 (λq hq he=>by have:=List.any_eq_false.1 HRh.out q hq;exact this he)])
   go_wp2_with fail
   go_quiet (fail)
   go_wp2_with fail
   go_ret2
   exact⟨_,_,rfl,by rw[HR.out];exact di _ _,λ_ h=>by(cases h),by rw[HR.out];exact bL a 9 (by omega),kJ B2.out _⟩
 | true=>
   obtain⟨q,hf⟩:∃q,(s.aD.find? λq=>(q.af:Int) == (n:Int))=some q:=by
    cases e:s.aD.find? λq=>(q.af:Int) == (n:Int) with
    | some q=>exact⟨q,rfl⟩
    | none=>obtain⟨q,hq,he⟩:=qF HRh.out;exact absurd (by simpa using he) (List.find?_eq_none.1 e q hq)
   have hq:=List.mem_of_find?_eq_some hf;have hqa:(q.af:Int)=n:=by have:=List.find?_some hf;simpa using this
   have HR:=ab (show gy s ep n=(q.bs,0) from by unfold gy;rw[if_neg HN0.out,if_neg (by have:=HN2.out;omega),hf]);obtain⟨v3,w3,hcv,hby,hb3,hown,hlt3⟩:=xk w2 q.bs (by have:=HP.out q hq;omega);have HBy:=ab hby;have HOw:=ab (show ∀k,v3.ownBlock=some k->W.heap.size<=k/\k < w3.heap.size from λk e=>by have:=B2.out.size;rw[hown]at e;injection e with e;omega);have B3:=ab (B2.out.trans (hb3.mono B2.out.size));have HQ:=ab hq;have HM:=ab U2.out.map;have HQa:=ab hqa;have hpf:=Bn ⟨q.bs.toArray⟩ (q.aQ:Int) w2;clear hby hb3 hf hq hqa hown hlt3
   go_wp2_with (at_lookup;refine EO _ HM.out rfl _ _ rfl rfl (n:Int) rfl (by omega) (by omega) ?_;intro s' g' hsg;obtain⟨rfl,rfl⟩:=hsg q HQ.out HQa.out;unfold iO)
   go_ret2
   exact⟨_,_,rfl,by rw[HR.out];exact HBy.out,HOw.out,by rw[HR.out];exact fw a,B3.out⟩
end
end Go.Proofs.YtiafamacjpgjoaaGreatDoor
namespace Go.Proofs.YtiafamacjpgjoaaGreatDoor
open Go Go.RowKit Tide
section
variable {D:aB} {a:Nat->Addr} {w W:World} {FX:Nat->Prop} {X:World->Prop} {g p bm dev:Nat} {us:List ai} {d:Dv} {s:aV}
def eE (s:aV) (ep:Int):Nat:=if ep < 0\/1073741824 < ep then 14 else if ep < s.ag then 8 else 0
def vL (D:aB) (a:Nat->Addr) (w:World) (FX:Nat->Prop) (X:World->Prop) (g p bm dev:Nat) (us:List ai) (d:Dv) (s:aV) (ep:Int) (e:Ending) (w':World):Prop:=
 (eE s ep≠0/\(∃x,e= .returned (.tuple #[.int .i64 0,x])/\bE a x (eE s ep))/\US D w FX X g p bm dev us d s w')\/
 (eE s ep=0/\ep=s.ag/\e= .returned (.tuple #[.int .i64 (gA s:Int),.nilIface])/\US D w FX X g p bm dev us d s w')\/
 (eE s ep=0/\s.ag < ep/\(∃m,(bl us d (ax ⟨3,0,ep.toNat, []⟩)).1=some m/\e= .returned (.tuple #[.int .i64 0,ao (a m)]))/\US D w FX X g p bm dev (bl us d (ax ⟨3,0,ep.toNat, []⟩)).2.2.1 (bl us d (ax ⟨3,0,ep.toNat, []⟩)).2.2.2 s w')\/
 (eE s ep=0/\s.ag < ep/\(bl us d (ax ⟨3,0,ep.toNat, []⟩)).1=none/\e= .returned (.tuple #[.int .i64 (gA { s with ag:=ep.toNat }:Int),.nilIface])/\
   US D w FX X g p bm dev (bl us d (ax ⟨3,0,ep.toNat, []⟩)).2.2.1 (bl us d (ax ⟨3,0,ep.toNat, []⟩)).2.2.2 { s with ag:=ep.toNat } w')
theorem EC (hD:ay (three a) D) (hX:cG FX X) (hE:av w a) (h:US D w FX X g p bm dev us d s W) (hpe:d.ar= []) (hok:jU (d.img.length / 64) us) (hs:eZ s) (ep:Int):
 Calls Tryz.prog 29 #[.pointer (some ⟨g,0,none⟩),.int .i64 ep] W (vL D a w FX X g p bm dev us d s ep):=by
 have hEW:=hE.below h.since;have HW0:=ab h;obtain⟨_,c0,c1,c2,c3,_⟩:=h.unit.facts;have h13:=hEW.var 13 (by omega);have h7:=hEW.var 7 (by omega);simp only[cL,List.getD_cons_zero,List.getD_cons_succ]at h13 h7;have HD:=ab hD;have HX:=ab hX;have HS:=ab hs;have CT:=ab (pN h.unit hs);have HPut:=ab (λhr=>pZ hD hX hE (ni hE) h hpe hok hs ⟨3,0,ep.toNat, []⟩ (.inr (.inr ⟨rfl,hr⟩)));clear h hEW hD hX hE hs hok hpe;cases q0:decide (ep < 0) with
 | true=>
   have HR:=ab (show eE s ep=13+1 from by unfold eE;rw[if_pos (.inl (of_decide_eq_true q0))])
   go_enter Tryz.func29,Tryz.ntmps29
   go_wp2_with fail
   go_quiet (fail)
   go_wp2_with fail
   go_ret2
   exact .inl ⟨by rw[HR.out];omega,⟨_,rfl,by rw[HR.out];exact bL a 13 (by omega)⟩,HW0.out.below HD.out HX.out (kJ (Below.refl _ _) _)⟩
 | false=>
 cases q1:decide (1073741824 < ep) with
 | true=>
   have HR:=ab (show eE s ep=13+1 from by unfold eE;rw[if_pos (.inr (of_decide_eq_true q1))])
   go_enter Tryz.func29,Tryz.ntmps29
   go_wp2_with fail
   go_quiet (fail)
   go_wp2_with fail
   go_ret2
   exact .inl ⟨by rw[HR.out];omega,⟨_,rfl,by rw[HR.out];exact bL a 13 (by omega)⟩,HW0.out.below HD.out HX.out (kJ (Below.refl _ _) _)⟩
 | false=>
 have e0:=of_decide_eq_false q0;have e1:=of_decide_eq_false q1;obtain⟨n,rfl⟩:∃n:Nat,ep=n:=⟨ep.toNat,by omega⟩;have hn:n<=1073741824:=by omega
 have HN:=ab (show ¬((n:Int) < 0\/1073741824 < (n:Int)) from by omega);clear e0 e1;by_cases q2:(n:Int) < (s.ag:Int)
 · have HR:=ab (show eE s n=7+1 from by unfold eE;rw[if_neg HN.out,if_pos q2])
   go_enter Tryz.func29,Tryz.ntmps29
   go_wp2_with fail
   go_quiet (fail)
   go_wp2_with fail
   go_ret2
   exact .inl ⟨by rw[HR.out];omega,⟨_,rfl,by rw[HR.out];exact bL a 7 (by omega)⟩,HW0.out.below HD.out HX.out (kJ (Below.refl _ _) _)⟩
 have HR:=ab (show eE s n=0 from by unfold eE;rw[if_neg HN.out,if_neg q2]);by_cases q3:(s.ag:Int) < (n:Int);rotate_left
 · have HEq:=ab (show(n:Int)=(s.ag:Int) from by omega)
   go_enter Tryz.func29,Tryz.ntmps29
   go_wp2_with fail
   refine CT.out.mono ?_;rintro e w1 ⟨rfl,hb⟩;have U1:=ab (HW0.out.below HD.out HX.out hb);clear hb
   go_wp2_with fail
   go_ret2
   exact .inr (.inl ⟨HR.out,HEq.out,rfl,U1.out⟩)
 have HLt:=ab q3;have HPut2:=ab (show Calls Tryz.prog 61 #[.pointer (some ⟨g,0,none⟩),.agg #[.int .i64 3,.int .i64 0,.int .i64 (n:Int),.string ⟨#[]⟩]] W (je D a w FX X g p bm dev us d s ⟨3,0,n, []⟩) from HPut.out (by show(n:Int).toNat<=_;omega));clear HPut
 go_enter Tryz.func29,Tryz.ntmps29
 go_wp2_with fail
 refine HPut2.out.mono ?_;rintro e w2 ⟨rfl,hU⟩;have U2:=ab hU;clear hU;obtain⟨er,her⟩:=aa ((bl us d (ax ⟨3,0,n, []⟩)).1);have HEr:=ab her;rw[her];rw[her]at U2;clear her;cases er with
 | some m=>
   have hne:(eQ a (some m):Value)=ao (a m):=rfl;rw[hne];rw[if_neg (by simp)]at U2
   go_wp2_with fail
   go_ret2
   exact .inr (.inr (.inl ⟨HR.out,HLt.out,⟨m,by rw[Int.toNat_natCast];exact HEr.out,rfl⟩,by rw[Int.toNat_natCast];exact U2.out⟩))
 | none=>
   have hne:(eQ a none:Value)= .nilIface:=rfl;rw[hne];rw[if_pos rfl]at U2;have hcu:cH s ⟨3,0,n, []⟩ (bl us d (ax ⟨3,0,n, []⟩)).2.1= { s with ag:=n }:=by unfold cH;rw[if_neg (show ¬(3:Nat)=1 by decide),if_neg (show ¬(3:Nat)=2 by decide)]
   rw[hcu]at U2;have CT2:=ab (pN U2.out.unit ⟨HS.out.trimmed,hn,HS.out.gF,HS.out.ae,HS.out.once⟩);clear hcu
   go_wp2_with fail
   refine CT2.out.mono ?_;rintro e w3 ⟨rfl,hb⟩;have U3:=ab (U2.out.below HD.out HX.out hb);clear hb
   go_wp2_with fail
   go_ret2
   exact .inr (.inr (.inr ⟨HR.out,HLt.out,by rw[Int.toNat_natCast];exact HEr.out,by rw[Int.toNat_natCast]<;>rfl,by rw[Int.toNat_natCast];exact U3.out⟩))
end
end Go.Proofs.YtiafamacjpgjoaaGreatDoor
