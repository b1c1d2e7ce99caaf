import Derived.Test.YtdilnodbfnlhdaaGreatDoorGKinO
import Derived.Test.YtdilnodbfnlhdaaGreatDoorGPackN
import Derived.Test.YtdilnodbfnlhdaaGreatDoorGKinP
import Derived.Test.YtdilnodbfnlhdaaGreatDoorGClone
set_option maxRecDepth 100000
set_option maxHeartbeats 4000000
namespace Go.Proofs.YtdilnodbfnlhdaaGreatDoor
open Go.RowKit Tide
theorem Ay {w:World} {base:Nat} {e:TypeId} {size:Nat} (hb:base<=w.heap.size):(w.alloc (.cells #[] e)).ownsRow base e size (.slice (some ⟨w.heap.size,0,none⟩) 0 0) 0 []:=
 ⟨by simp,.inr ⟨w.heap.size,0,#[],rfl,hb,heap_alloc_new w _,Nat.le_refl _,by simp[maxLen],by simp,by simp⟩⟩
theorem BM {w:World} {B:Nat} {A:Option Addr} {n c:Nat} {ops:List aZ} (h:bQ w B (.slice A n c) 5 (ops.map bc)):n=ops.length/\(A=none->ops= [])/\∀a,A=some a->∀j u,(ops.flatMap bc)[j]? =some u->w.cell? (a.add j)=some u:=by
 obtain⟨_,A',c',e,hc⟩:=h;injection e with e1 e2 e3;subst e1;rw[List.length_map]at e2;refine⟨e2,λha=> ?_,λa ha j u hj=> ?_⟩
 · rcases ops with _|⟨o,ops⟩
   · rfl
   · obtain⟨b,o',e,_⟩:=hc (by simp);rw[ha]at e;cases e
 · have hlen:=rR ops;have hjl:=(List.getElem?_eq_some_iff.1 hj).1;rw[hlen]at hjl;have hi:j / 5 < ops.length:=by omega
   obtain⟨b,o',e,_,hcell⟩:=hc (by intro e;rw[List.map_eq_nil_iff]at e;subst e;simp at hi);rw[ha]at e;injection e with e;subst e;rw[da];have hje:j=j / 5 * 5+j % 5:=by omega
   have h9:=hcell (j / 5) (j % 5) (bc ops[j / 5]) u (by rw[List.getElem?_map,List.getElem?_eq_getElem hi];rfl) (by rw[<-nT ops (j / 5) (j % 5) hi (by omega),<-hje];exact hj)
   rwa[<-hje]at h9
theorem zZ (ops:List aZ):∀u ∈ ops.flatMap bc,u.oneCell'=true:=by intro u hu;obtain⟨o,_,ho⟩:=List.mem_flatMap.1 hu;exact kD o u ho
theorem wi (ops:List aZ) (vo:Value) (B:Nat) (w:World) (hr:bQ w B vo 5 (ops.map bc)) (hB:B<=w.heap.size) (hlen:ops.length<=1000):
 Calls Tryz.prog 103 #[vo] w λe w'=>∃u,e= .returned u/\w'.ownsRow w.heap.size 91 5 u ops.length (ops.flatMap bc)/\Below w.heap.size w w':=by
 obtain⟨i0,hi,hz0,hz1,hz2⟩:=info_parts qW;have HI:=ab hi;obtain⟨A,c,rfl,_,_⟩:=eV hr;have HB0:=ab (show Below w.heap.size w (w.alloc (.cells #[] 91)) from(Below.refl _ _).alloc (Nat.le_refl _) _);have HR:=ab (BM (hr.below (HB0.out.mono hB)));clear hi hr;rcases A with _|a
 · obtain rfl:=HR.out.2.1 rfl;have hq:=λW:World=>Lib.run_eql_slice_nil (P:=Tryz.prog) W 37 91 none 0 c 0 0 Tryz.underlying37
   go_enter Tryz.func103,Tryz.ntmps103
   go_wp2
   go_ret
   exact⟨_,rfl,World.ownsRow_nil _ _ _ 5,Below.refl _ _⟩
 · have hq:=λW:World=>Lib.run_eql_slice_nil (P:=Tryz.prog) W 37 91 (some a) ops.length c 0 0 Tryz.underlying37
   go_enter Tryz.func103,Tryz.ntmps103
   go_wp2_with (at_builtin;refine wpList_append_own_at _ rfl (.tmp 5) (.tmp 6) _ rfl w.heap.size 91 i0 _ 5 _ Tryz.underlying37 HI.out hz0 hz1 hz2 rfl (by decide) _ 0 [] rfl (Ay (Nat.le_refl _)) a ops.length c (ops.flatMap bc) rfl (rR ops) (HR.out.2.2 a rfl) (zZ ops) ?d1 ?d2 ?d3 ?_)
   case d1=>unfold maxLen;omega
   case d2=>omega
   intro v4 w4 hown4 hg4 _ _;have hb5:=((Below.refl w.heap.size w).alloc (Nat.le_refl _) _).grown hg4 (by simp) (λg hg=>by simp[Value.ownBlock]at hg;omega)
   go_wp2_with fail
   go_ret
   exact⟨_,rfl,hown4,hb5⟩
def mM (w:World) (lo:Nat) (e:aD) (vo vd:Value):Prop:=dY w w.heap.size e vo vd/\∀k,vo.ownBlock=some k\/vd.ownBlock=some k->lo<=k/\k < w.heap.size
theorem kH {w:World} {base n size:Nat} {T:TypeId} {u:Value} {xs:List Value} (h:w.ownsRow base T size u n xs):∃A c,u= .slice A n c:=by
 rcases h.2 with⟨rfl,rfl⟩|⟨g,cap,cur,rfl,_⟩
 · exact⟨none,0,rfl⟩
 · exact⟨_,_,rfl⟩
theorem rk (b:Nat):∀ (vs:List Value) (o:Nat) (w:World),Kept (λk=>k=b) w (w.setCells b o vs)
 | [],_,w=>Kept.refl _ w
 | v :: r,o,w=>(Kept.setCell (F:=λk=>k=b) (Kept.refl _ w) (p:=⟨b,o,none⟩) (.inl rfl) v).trans (rk b r (o+1) _) (λ_ h=> .inl h)
def cU (W:World) (b:Nat) (e:aD) (vo vd:Value):Prop:=W.heap[b]? =some (.cells (cj e vo vd) 40 (0,0))
def o7:Array Value:= #[.int .i64 0,.int .i64 0,.int .i64 0,.int .i64 0,.int .i64 0,.int .i64 0,.slice none 0 0,.string ⟨#[]⟩,.int .i64 0,.int .i64 0,.int .i64 0,.slice none 0 0]
def fL (W:World) (b:Nat):Prop:=W.heap[b]? =some (.cells o7 40 (0,0))
section
variable {W W':World} {b:Nat} {e:aD} {vo vd:Value}
theorem cU.cell (h:cU W b e vo vd) {j:Nat} {v:Value} (hv:(cj e vo vd)[j]? =some v):W.cell? ⟨b,j,none⟩=some v:=by rw[cell_of_row _ _ j _ _ _ h,hv]
theorem cU.Dd (h:cU W b e vo vd):W.cell? ⟨b,6,none⟩=some vo:=h.cell rfl
theorem cU.p8 (h:cU W b e vo vd):W.cell? ⟨b,11,none⟩=some vd:=h.cell rfl
theorem cU.D8 (h:cU W b e vo vd):W.cell? ⟨b,0,none⟩=some (.int .i64 e.kind)/\W.cell? ⟨b,1,none⟩=some (.int .i64 e.au)/\W.cell? ⟨b,2,none⟩=some (.int .i64 e.other)/\W.cell? ⟨b,3,none⟩=some (.int .i64 e.server)/\W.cell? ⟨b,4,none⟩=some (.int .i64 e.bF)/\W.cell? ⟨b,5,none⟩=some (.int .i64 e.seq)/\
 W.cell? ⟨b,6,none⟩=some vo/\W.cell? ⟨b,7,none⟩=some (.string e.key)/\W.cell? ⟨b,8,none⟩=some (.int .i64 e.upto)/\W.cell? ⟨b,9,none⟩=some (.int .i64 e.part)/\W.cell? ⟨b,10,none⟩=some (.int .i64 e.parts)/\W.cell? ⟨b,11,none⟩=some vd:=
 ⟨h.cell rfl,h.cell rfl,h.cell rfl,h.cell rfl,h.cell rfl,h.cell rfl,h.cell rfl,h.cell rfl,h.cell rfl,h.cell rfl,h.cell rfl,h.cell rfl⟩
theorem fL.free (h:fL W b) (i:Nat):W.frozen? ⟨b,i,none⟩=false:=frozen_of_row _ _ i _ _ h
theorem cU.free (h:cU W b e vo vd) (i:Nat):W.frozen? ⟨b,i,none⟩=false:=frozen_of_row _ _ i _ _ h
theorem cU.CK (h:cU W b e vo vd) (u:Value):cU (W.setCell ⟨b,6,none⟩ u) b e u vd:=heap_setCell_same _ _ _ _ _ _ h
theorem cU.sW (h:cU W b e vo vd) (u:Value):cU (W.setCell ⟨b,11,none⟩ u) b e vo u:=heap_setCell_same _ _ _ _ _ _ h
theorem cU.below (h:cU W b e vo vd) (hb:Below W.heap.size W W'):cU W' b e vo vd:=by
 refine(hb.block b ?_).trans h;rcases Nat.lt_or_ge b W.heap.size with hlt|hge
 · exact hlt
 · unfold cU at h;rw[Array.getElem?_eq_none hge]at h;cases h
theorem fL.set (h:fL W b) {b2:Nat} (hn:b2≠b) (i:Nat) (v:Value):fL (W.setCell ⟨b2,i,none⟩ v) b:=(((Kept.refl (λk=>k=b2) W).setCell (p:=⟨b2,i,none⟩) (.inl rfl) v).heap h (λe=>hn e.symm))
theorem fL.below (h:fL W b) (hb:Below W.heap.size W W'):fL W' b:=by
 refine(hb.block b ?_).trans h;rcases Nat.lt_or_ge b W.heap.size with hlt|hge
 · exact hlt
 · unfold fL at h;rw[Array.getElem?_eq_none hge]at h;cases h
end
theorem At (e:aD) (vo vd:Value) (B:Nat) (w:World) (hi:dY w B e vo vd) (hB:B<=w.heap.size) (hz:eh e):
 Calls Tryz.prog 51 #[.agg (cj e vo vd)] w λen w'=>∃vo' vd',en= .returned (.agg (cj e vo' vd'))/\mM w' w.heap.size e vo' vd'/\Below w.heap.size w w':=by
 obtain⟨A,c,rfl,_,_⟩:=eV hi.1;obtain⟨Ad,cd,rfl,_,_,_⟩:=hi.2.form;have HB0:=ab (show Below w.heap.size w ((bG w e (.slice A e.ops.length c) (.slice Ad e.data.length cd)).alloc (.cells #[.int .i64 0,.int .i64 0,.int .i64 0,.int .i64 0,.int .i64 0,.int .i64 0,.slice none 0 0,.string ⟨#[]⟩,.int .i64 0,.int .i64 0,.int .i64 0,.slice none 0 0] 40)) from((Below.refl _ _).alloc (Nat.le_refl _) _).alloc (by simp) _);have HO:=ab (λW (h:Below w.heap.size w W)=>wi e.ops _ B W (hi.1.below (h.mono hB)) (Nat.le_trans hB h.size) (by have:=hz.2.2.2;omega));have HD:=ab (λW (h:Below w.heap.size w W)=>gP _ e.data B W (hi.2.below (h.mono hB)) (Nat.le_trans hB h.size) (by have:=hz.2.2.1;omega));clear hi hB;unfold bG cj at *
 go_enter Tryz.func51,Tryz.ntmps51
 go_wp2_with fail
 refine(HO.out _ HB0.out).mono ?_;rintro en w1 ⟨u,rfl,hu,hb⟩;obtain⟨Au,cu,rfl⟩:=kH hu;have HU:=ab hu;have HB1:=ab (HB0.out.trans (hb.mono HB0.out.size));have X1:cU w1 w.heap.size e (.slice A e.ops.length c) (.slice Ad e.data.length cd):=(hb.block w.heap.size (by simp;omega)).trans (Below.heap_alloc _ _ _ (by simp) |>.trans (heap_alloc_new w _));have Z1:fL w1 (w.heap.size+1):=(hb.block (w.heap.size+1) (by simp)).trans (by have:=heap_alloc_new (w.alloc (.cells (cj e (.slice A e.ops.length c) (.slice Ad e.data.length cd)) 40)) (.cells o7 40);rwa[World.size_alloc]at this);obtain⟨w2,hw2⟩:=aa (w1.setCell ⟨w.heap.size,6,none⟩ (.slice Au e.ops.length cu));have X2:=ab (show cU w2 w.heap.size e (.slice Au e.ops.length cu) (.slice Ad e.data.length cd) from hw2 ▸ X1.CK _);have Z2:=ab (show fL w2 (w.heap.size+1) from hw2 ▸ Z1.set (by omega) _ _);have HB2:=ab (show Below w.heap.size w w2 from hw2 ▸ HB1.out.setCell (p:=⟨w.heap.size,6,none⟩) (Nat.le_refl _) _);have c6:=X1.Dd;have f6:=X1.free 6;have c11:(w1.setCell ⟨w.heap.size,6,none⟩ (.slice Au e.ops.length cu)).cell? ⟨w.heap.size,11,none⟩=some (.slice Ad e.data.length cd):=hw2 ▸ X2.out.p8;have HK12:=ab (show Kept (λk=>k=w.heap.size) w1 w2 from hw2 ▸ (Kept.refl (λk=>k=w.heap.size) w1).setCell (p:=⟨w.heap.size,6,none⟩) (.inl rfl) _);have HZ1:=ab (show w.heap.size+2<=w1.heap.size from by have:=hb.size;simp at this;omega);have HW2:=ab hw2;clear hu hb X1 Z1 HO hw2
 go_wp2_with fail
 rw[HW2.out];clear c6 f6 c11 HW2;refine(HD.out _ HB2.out).mono ?_;rintro en w3 ⟨ud,rfl,hu,hb⟩;obtain⟨Bu,du,rfl⟩:=kH hu;have HUD:=ab hu;have HB3:=ab (HB2.out.trans (hb.mono HB2.out.size));have X3:=X2.out.below hb;have Z3:=Z2.out.below hb;have f11:=X3.free 11;have c11:=X3.p8;obtain⟨w4,hw4⟩:=aa (w3.setCell ⟨w.heap.size,11,none⟩ (.slice Bu e.data.length du));have X4:=ab (show cU w4 w.heap.size e (.slice Au e.ops.length cu) (.slice Bu e.data.length du) from hw4 ▸ X3.sW _);have Z4:=ab (show fL w4 (w.heap.size+1) from hw4 ▸ Z3.set (by omega) _ _);have HB4:=ab (show Below w.heap.size w w4 from hw4 ▸ HB3.out.setCell (p:=⟨w.heap.size,11,none⟩) (Nat.le_refl _) _);have HB23:=ab hb;have HK34:=ab (show Kept (λk=>k=w.heap.size) w3 w4 from hw4 ▸ (Kept.refl (λk=>k=w.heap.size) w3).setCell (p:=⟨w.heap.size,11,none⟩) (.inl rfl) _);obtain⟨cs,hcs⟩:∃cs:List Value,cs=(cj e (.slice Au e.ops.length cu) (.slice Bu e.data.length du)).toList:=⟨_,rfl⟩;have HCs:=ab hcs;have hlen:cs.length=12:=by rw[hcs];rfl
 have hone:∀v ∈ cs,v.oneCell'=true:=by intro v hv;rw[hcs]at hv;simp only[cj,List.mem_cons,List.not_mem_nil,or_false]at hv;rcases hv with rfl|rfl|rfl|rfl|rfl|rfl|rfl|rfl|rfl|rfl|rfl|rfl<;>rfl
 have HOne:=ab (all_oneCell_toArray hone);have hsz:(Tryz.prog.info? 40).map (·.size)=some 12:=by kernel_rfl
 have HSz:=ab (show(Tryz.prog.info? 40).map (·.size)=some cs.length from by rw[hlen];exact hsz);have HSz2:=ab (show(Tryz.prog.info? 40).map (·.size)=some cs.toArray.size from by rw[List.size_toArray,hlen];exact hsz);have HRa:=ab (show(w3.setCell ⟨w.heap.size,11,none⟩ (.slice Bu e.data.length du)).rangeAt w.heap.size 0 cs from λj v hj=>by rw[Nat.zero_add];exact(X3.sW (.slice Bu e.data.length du)).cell (by rw[hcs]at hj;simpa using hj));have HTh:=ab (show(w3.setCell ⟨w.heap.size,11,none⟩ (.slice Bu e.data.length du)).there (w.heap.size+1) 0 cs.toArray.size from λj hj=>by rw[Nat.zero_add];rw[List.size_toArray,hlen]at hj;have hz:=Z3.set (b2:=w.heap.size) (by omega) 11 (.slice Bu e.data.length du);refine⟨?_,hz.free j⟩;rw[cell_of_row _ _ j _ _ _ hz,Array.getElem?_eq_getElem (show j < o7.size from hj)];rfl);have HW4:=ab hw4;clear hu hb X3 Z3 HD hw4 hcs hlen hone hsz
 go_wp2_with (first
  | (refine wpList_load_mid rfl 40 (.tmp 1) rfl w.heap.size 0 rfl cs _ HRa.out Tryz.underlying40 rfl HSz.out ?_)
  | (refine wpList_store_mid rfl 40 (.tmp 2) (.tmp 11) rfl (w.heap.size+1) 0 cs.toArray rfl rfl HTh.out HSz2.out HOne.out ?_))
 have hw4:=HW4.out;clear HW4;subst hw4;have hr:=World.rangeAt_setCells_same _ (w.heap.size+1) 0 cs HTh.out;have HF:=ab (rk (w.heap.size+1) cs 0 (w3.setCell ⟨w.heap.size,11,none⟩ (.slice Bu e.data.length du)));obtain⟨WF,hWF⟩:=aa ((w3.setCell ⟨w.heap.size,11,none⟩ (.slice Bu e.data.length du)).setCells (w.heap.size+1) 0 cs);rw[hWF]at hr HF ⊢;have e0:WF.cell? ⟨w.heap.size+1,0,none⟩=some (.int .i64 e.kind):=by have:=hr 0 _ (by rw[HCs.out];rfl);rwa[Nat.zero_add]at this
 have e1:WF.cell? ⟨w.heap.size+1,1,none⟩=some (.int .i64 e.au):=by have:=hr 1 _ (by rw[HCs.out];rfl);rwa[Nat.zero_add]at this
 have e2:WF.cell? ⟨w.heap.size+1,2,none⟩=some (.int .i64 e.other):=by have:=hr 2 _ (by rw[HCs.out];rfl);rwa[Nat.zero_add]at this
 have e3:WF.cell? ⟨w.heap.size+1,3,none⟩=some (.int .i64 e.server):=by have:=hr 3 _ (by rw[HCs.out];rfl);rwa[Nat.zero_add]at this
 have e4:WF.cell? ⟨w.heap.size+1,4,none⟩=some (.int .i64 e.bF):=by have:=hr 4 _ (by rw[HCs.out];rfl);rwa[Nat.zero_add]at this
 have e5:WF.cell? ⟨w.heap.size+1,5,none⟩=some (.int .i64 e.seq):=by have:=hr 5 _ (by rw[HCs.out];rfl);rwa[Nat.zero_add]at this
 have e6:WF.cell? ⟨w.heap.size+1,6,none⟩=some (.slice Au e.ops.length cu):=by have:=hr 6 _ (by rw[HCs.out];rfl);rwa[Nat.zero_add]at this
 have e7:WF.cell? ⟨w.heap.size+1,7,none⟩=some (.string e.key):=by have:=hr 7 _ (by rw[HCs.out];rfl);rwa[Nat.zero_add]at this
 have e8:WF.cell? ⟨w.heap.size+1,8,none⟩=some (.int .i64 e.upto):=by have:=hr 8 _ (by rw[HCs.out];rfl);rwa[Nat.zero_add]at this
 have e9:WF.cell? ⟨w.heap.size+1,9,none⟩=some (.int .i64 e.part):=by have:=hr 9 _ (by rw[HCs.out];rfl);rwa[Nat.zero_add]at this
 have e10:WF.cell? ⟨w.heap.size+1,10,none⟩=some (.int .i64 e.parts):=by have:=hr 10 _ (by rw[HCs.out];rfl);rwa[Nat.zero_add]at this
 have e11:WF.cell? ⟨w.heap.size+1,11,none⟩=some (.slice Bu e.data.length du):=by have:=hr 11 _ (by rw[HCs.out];rfl);rwa[Nat.zero_add]at this
 clear hr HCs;refine bodyPost_ret (v:= .agg #[.int .i64 e.kind,.int .i64 e.au,.int .i64 e.other,.int .i64 e.server,.int .i64 e.bF,.int .i64 e.seq,.slice Au e.ops.length cu,.string e.key,.int .i64 e.upto,.int .i64 e.part,.int .i64 e.parts,.slice Bu e.data.length du]) (by simp[results,Tryz.results51,go_sem,e0,e1,e2,e3,e4,e5,e6,e7,e8,e9,e10,e11]) rfl ?_;clear e0 e1 e2 e3 e4 e5 e6 e7 e8 e9 e10 e11;have k01:Kept (λk=>k=w.heap.size\/k=w.heap.size+1) w3 WF:=(HK34.out.mono (λ_ _ h=> .inl h)).trans (HF.out.mono (λ_ _ h=> .inr h)) (λ_ h=> .inl h);have hbF:Below w.heap.size w WF:=Tide.Below.kept HB4.out HF.out HB4.out.size (λi h=>by omega);have z23:=HB23.out.size;have z12:=HK12.out.size;have z1:=HZ1.out;have hUl:∀k,(Value.slice Au e.ops.length cu).ownBlock=some k->w.heap.size+2<=k/\k < w1.heap.size:=λk e=>by have:=HU.out.lt k e;simp at this;omega
 have hDl:∀k,(Value.slice Bu e.data.length du).ownBlock=some k->w.heap.size+2<=k:=λk e=>by have:=HUD.out.lt k e;omega
 have kall:Kept (λk=>k=w.heap.size\/k=w.heap.size+1) w1 WF:=((HK12.out.mono (λ_ _ h=> .inl h)).trans ((Kept.al HB23.out (F:=λk=>k=w.heap.size\/k=w.heap.size+1))) (λ_ h=> .inl h)).trans k01 (λ_ h=> .inl h);have o1:=kall.own HU.out (λk e h=>by have:=hUl k e;omega);have o2:=k01.own HUD.out (λk e h=>by have:=hDl k e;omega);refine⟨.slice Au e.ops.length cu,.slice Bu e.data.length du,rfl,⟨⟨su o1 (Nat.le_refl _) (by have:=hz.2.2.2;omega),Bytes.dm o2⟩,λk e=> ?_⟩,hbF⟩;rcases e with e|e
 · have:=hUl k e;have:=(o1.lt k e).2;omega
 · have:=hDl k e;have:=(o2.lt k e).2;omega
end Go.Proofs.YtdilnodbfnlhdaaGreatDoor
namespace Go.Proofs.YtdilnodbfnlhdaaGreatDoor
open Go.RowKit Tide
theorem xw (st:Option (List UInt8)) (l:List Int) (k:Nat) (h:k < l.length):(l.take (k+1)).foldl aA st=aA ((l.take k).foldl aA st) l[k]:=by rw[List.take_succ_eq_append_getElem h,List.foldl_append];rfl
theorem kK (a:Nat->Addr) (W:World) (F:Nat->Prop) (p n b c:Nat) (st:Option (List UInt8)) (zs:List Int) (h:bg a W F p st n) (hE:ar W a) (hb:b < W.heap.size) (hnb:¬F b) (hz:zs.length<=1000)
 (hc:∀j (h:j < zs.length),W.cell? ⟨b,j,none⟩=some (.int .i64 zs[j])):
 Calls Tryz.prog 230 #[.pointer (some ⟨p,0,none⟩),.slice (some ⟨b,0,none⟩) zs.length c] W (dZ a W F p (zs.foldl aA st)):=by
 have HE:=ab hE;have HA:=ab h.2.2.1;have S0:=ab (PW.start h);have HC:=ab hc;clear hE h hc
 go_enter Tryz.func230,Tryz.ntmps230
 go_wp2_with fail
 go_loopw [8] (λi wr=>∃k:Nat,i= .int .i64 k/\k<=zs.length/\Hid (PW a W F p ((zs.take k).foldl aA st) wr)) (λi _=>zs.length - (intOf i).toNat)
 case atStart=>exact⟨0,rfl,Nat.zero_le _,S0⟩
 case round=>
  obtain⟨k,rfl,hk,hS⟩:=hrel;by_cases hlt:k < zs.length
  · have hc1:wr.cell? ⟨b,0+k,none⟩=some (.int .i64 zs[k]):=by rw[Nat.zero_add];exact(hS.out.cell hb hnb).trans (HC.out k hlt)
    have hc2:wr.cell? ⟨b,k,none⟩=some (.int .i64 zs[k]):=(hS.out.cell hb hnb).trans (HC.out k hlt);have C2:=hS.out.num HE.out HA.out zs[k];rw[<-xw st zs k hlt]at C2;have HC2:=ab C2;clear C2;generalize zs[k]=z at *
    go_wp2_with fail
    refine HC2.out.mono ?_;rintro e w3 ⟨rfl,h3⟩;have S3:=ab h3;clear h3 hc1 hc2
    go_wp2_with fail
    go_roundw
    case rel=>exact⟨k+1,by go_num,by omega,S3⟩
    case measure=>simp[intOf];omega
  · have hall:=ab (show PW a W F p (zs.foldl aA st) wr from by
     have h:=hS.out
     rwa[List.take_of_length_le (by omega)]at h)
    go_wp2_with fail
    go_end0
    exact⟨rfl,hall.out⟩
def stOp (st:Option (List UInt8)) (o:aZ):Option (List UInt8):=
 if o.kind=1 then bM (bM (aA st o.kind) o.key) o.value else if o.kind=3 then bM (bM (bM (aA st o.kind) o.key) o.old) o.value else
  if o.kind=4 then aA (bM (aA st o.kind) o.key) o.version else bM (aA st o.kind) o.key
end Go.Proofs.YtdilnodbfnlhdaaGreatDoor
namespace Go.Proofs.YtdilnodbfnlhdaaGreatDoor
open Go.RowKit Tide
theorem Bf (a:Nat->Addr) (W:World) (F:Nat->Prop) (p n:Nat) (st:Option (List UInt8)) (o:aZ) (h:bg a W F p st n) (hE:ar W a) (hs:o.key.size<=300/\o.value.size<=300/\o.old.size<=300):
 Calls Tryz.prog 231 #[.pointer (some ⟨p,0,none⟩),.agg #[.int .i64 o.kind,.string o.key,.string o.value,.string o.old,.int .i64 o.version]] W (dZ a W F p (stOp st o)):=by
 obtain⟨kind,key,value,old,version⟩:=o;simp only at hs ⊢;obtain⟨W1,hW1⟩:∃W1,W1=W.alloc (.cells #[.int .i64 kind,.string key,.string value,.string old,.int .i64 version] 91):=⟨_,rfl⟩;have HE1:=ab (show ar W1 a from by rw[hW1];exact hE.below ((Below.refl W.heap.size W).alloc (Nat.le_refl _) _));have HA:=ab h.2.2.1;have S1:=ab (show PW a W1 F p st W1 from by rw[hW1];exact PW.start (lQ (n:=0) (jM h) ((Kept.refl (λ_=>False) W).alloc _) (λ_ _ h=>h)));have UP:=ab (show ∀st' w',PW a W1 F p st' w'->PW a W F p st' w' from λst' w' hp=>PW.trans (λ_ hk=> .inl hk) (by rw[hW1];exact(Kept.refl F W).alloc _) hp);have hlt:W.heap.size < W1.heap.size:=by rw[hW1];simp
 have HNF:=ab (show ¬F W.heap.size from λhf=>Nat.lt_irrefl _ (h.2.1 _ hf));have HC:=ab (show ∀st' w',PW a W1 F p st' w'->w'.cell? ⟨W.heap.size,0,none⟩=some (.int .i64 kind)/\w'.cell? ⟨W.heap.size,1,none⟩=some (.string key)/\w'.cell? ⟨W.heap.size,2,none⟩=some (.string value)/\w'.cell? ⟨W.heap.size,3,none⟩=some (.string old)/\w'.cell? ⟨W.heap.size,4,none⟩=some (.int .i64 version) from λst' w' hp=>by have hc:=rO W kind version key value old W1 (by rw[hW1];exact Below.refl _ _);rw[hp.cell hlt HNF.out,hp.cell hlt HNF.out,hp.cell hlt HNF.out,hp.cell hlt HNF.out,hp.cell hlt HNF.out];exact hc);have HZ:=ab hs;have CN:=ab (λst' w' (hp:PW a W1 F p st' w') z=>hp.num HE1.out HA.out z);have CT:=ab (λst' w' (hp:PW a W1 F p st' w') s (h:s.size<=300)=>hp.text HE1.out HA.out s (by omega));have C1:=ab (CN.out _ _ S1.out kind);clear hE h hs hlt;by_cases k1:kind=1
 · subst k1;have FA:=ab (show ∀w,Calls Tryz.prog 162 #[.int .i64 1] w λe w'=>e= .returned (.tuple #[.bool false,.bool true,.bool false])/\w=w' from λw=>iu 1 w);have HO:=ab (show stOp st ⟨1,key,value,old,version⟩=bM (bM (aA st 1) key) value from rfl)
   skip
   go_enter Tryz.func231,Tryz.ntmps231
   go_wp2_with fail
   rw[<-hW1];refine C1.out.mono ?_;rintro en w2 ⟨rfl,hp⟩;have Sw2:=ab hp;obtain⟨c0,c1,c2,c3,c4⟩:=HC.out _ _ hp;clear hp
   go_wp2_with fail
   refine(CT.out _ _ Sw2.out key HZ.out.1).mono ?_;rintro en w3 ⟨rfl,hp⟩;have Sw3:=ab hp;obtain⟨c0,c1,c2,c3,c4⟩:=HC.out _ _ hp;clear hp
   go_wp2_with fail
   refine(FA.out _).mono ?_;rintro en wz ⟨rfl,rfl⟩
   go_wp2_with fail
   refine(CT.out _ _ Sw3.out value HZ.out.2.1).mono ?_;rintro en w4 ⟨rfl,hp⟩;have Sw4:=ab hp;obtain⟨c0,c1,c2,c3,c4⟩:=HC.out _ _ hp;clear hp
   go_wp2_with fail
   go_end0
   exact⟨rfl,UP.out _ _ (HO.out ▸ Sw4.out)⟩
 by_cases k3:kind=3
 · subst k3;have FA:=ab (show ∀w,Calls Tryz.prog 162 #[.int .i64 3] w λe w'=>e= .returned (.tuple #[.bool true,.bool true,.bool false])/\w=w' from λw=>iu 3 w);have HO:=ab (show stOp st ⟨3,key,value,old,version⟩=bM (bM (bM (aA st 3) key) old) value from rfl);clear k1
   go_enter Tryz.func231,Tryz.ntmps231
   go_wp2_with fail
   rw[<-hW1];refine C1.out.mono ?_;rintro en w2 ⟨rfl,hp⟩;have Sw2:=ab hp;obtain⟨c0,c1,c2,c3,c4⟩:=HC.out _ _ hp;clear hp
   go_wp2_with fail
   refine(CT.out _ _ Sw2.out key HZ.out.1).mono ?_;rintro en w3 ⟨rfl,hp⟩;have Sw3:=ab hp;obtain⟨c0,c1,c2,c3,c4⟩:=HC.out _ _ hp;clear hp
   go_wp2_with fail
   refine(FA.out _).mono ?_;rintro en wz ⟨rfl,rfl⟩
   go_wp2_with fail
   refine(CT.out _ _ Sw3.out old HZ.out.2.2).mono ?_;rintro en w4 ⟨rfl,hp⟩;have Sw4:=ab hp;obtain⟨c0,c1,c2,c3,c4⟩:=HC.out _ _ hp;clear hp
   go_wp2_with fail
   refine(CT.out _ _ Sw4.out value HZ.out.2.1).mono ?_;rintro en w5 ⟨rfl,hp⟩;have Sw5:=ab hp;obtain⟨c0,c1,c2,c3,c4⟩:=HC.out _ _ hp;clear hp
   go_wp2_with fail
   go_end0
   exact⟨rfl,UP.out _ _ (HO.out ▸ Sw5.out)⟩
 by_cases k4:kind=4
 · subst k4;have FA:=ab (show ∀w,Calls Tryz.prog 162 #[.int .i64 4] w λe w'=>e= .returned (.tuple #[.bool false,.bool false,.bool true])/\w=w' from λw=>iu 4 w);have HO:=ab (show stOp st ⟨4,key,value,old,version⟩=aA (bM (aA st 4) key) version from rfl);clear k1 k3
   go_enter Tryz.func231,Tryz.ntmps231
   go_wp2_with fail
   rw[<-hW1];refine C1.out.mono ?_;rintro en w2 ⟨rfl,hp⟩;have Sw2:=ab hp;obtain⟨c0,c1,c2,c3,c4⟩:=HC.out _ _ hp;clear hp
   go_wp2_with fail
   refine(CT.out _ _ Sw2.out key HZ.out.1).mono ?_;rintro en w3 ⟨rfl,hp⟩;have Sw3:=ab hp;obtain⟨c0,c1,c2,c3,c4⟩:=HC.out _ _ hp;clear hp
   go_wp2_with fail
   refine(FA.out _).mono ?_;rintro en wz ⟨rfl,rfl⟩
   go_wp2_with fail
   refine(CN.out _ _ Sw3.out version).mono ?_;rintro en w4 ⟨rfl,hp⟩;have Sw4:=ab hp;obtain⟨c0,c1,c2,c3,c4⟩:=HC.out _ _ hp;clear hp
   go_wp2_with fail
   go_end0
   exact⟨rfl,UP.out _ _ (HO.out ▸ Sw4.out)⟩
 · have FA:=ab (show ∀w,Calls Tryz.prog 162 #[.int .i64 kind] w λe w'=>e= .returned (.tuple #[.bool false,.bool false,.bool false])/\w=w' from λw=>by have h:=iu kind w;rw[decide_eq_false k3,decide_eq_false k4,decide_eq_false (by omega)]at h;exact h);have HO:=ab (show stOp st ⟨kind,key,value,old,version⟩=bM (aA st kind) key from by unfold stOp;simp[k1,k3,k4]);clear k1 k3 k4
   go_enter Tryz.func231,Tryz.ntmps231
   go_wp2_with fail
   rw[<-hW1];refine C1.out.mono ?_;rintro en w2 ⟨rfl,hp⟩;have Sw2:=ab hp;obtain⟨c0,c1,c2,c3,c4⟩:=HC.out _ _ hp;clear hp
   go_wp2_with fail
   refine(CT.out _ _ Sw2.out key HZ.out.1).mono ?_;rintro en w3 ⟨rfl,hp⟩;have Sw3:=ab hp;obtain⟨c0,c1,c2,c3,c4⟩:=HC.out _ _ hp;clear hp
   go_wp2_with fail
   refine(FA.out _).mono ?_;rintro en wz ⟨rfl,rfl⟩
   go_wp2_with fail
   go_end0
   exact⟨rfl,UP.out _ _ (HO.out ▸ Sw3.out)⟩
end Go.Proofs.YtdilnodbfnlhdaaGreatDoor
namespace Go.Proofs.YtdilnodbfnlhdaaGreatDoor
open Go.RowKit Tide
theorem kS {a:Nat->Addr} {W:World} {F:Nat->Prop} {p n:Nat} {st:Option (List UInt8)} (h:bg a W F p st n) (o1 o2:Obj):bg a ((W.alloc o1).alloc o2) F p st 0:=
 lQ (n:=0) (jM h) (((Kept.refl (λ_=>False) W).alloc o1).alloc o2) (λ_ _ h=>h)
theorem kO (w:World) (t:TypeId) (zs:List Int) (b:Nat) (hb:b=w.heap.size):∀j (h:j < zs.length),(w.alloc (.cells (ay zs).toArray t)).cell? ⟨b,j,none⟩=some (.int .i64 zs[j]):=by subst hb;intro j h;rw[cell_of_row _ _ j _ _ _ (heap_alloc_new w _)];simp[ay,h]
theorem zg (a:Nat->Addr) (W:World) (F:Nat->Prop) (p n:Nat) (st:Option (List UInt8)) (sh sv:Int) (h:bg a W F p st n) (hE:ar W a):
 Calls Tryz.prog 243 #[.agg #[.int .i64 sh,.int .i64 sv],.pointer (some ⟨p,0,none⟩)] W (dZ a W F p ([sh,sv].foldl aA st)):=by
 obtain⟨W2,hW2⟩:∃W2,W2=(W.alloc (.cells #[.int .i64 sh,.int .i64 sv] 262)).alloc (.cells #[.int .i64 sh,.int .i64 sv] 3):=⟨_,rfl⟩;have hK2:Kept F W W2:=by rw[hW2];exact((Kept.refl F W).alloc _).alloc _
 have hE2:ar W2 a:=by rw[hW2];exact hE.below (((Below.refl W.heap.size W).alloc (Nat.le_refl _) _).alloc (by simp) _)
 have hO2:bg a W2 F p st 0:=by rw[hW2];exact kS h _ _
 have HNF:=ab (show ¬F (W.heap.size+1) from λhf=>by have:=h.2.1 _ hf;omega);have hs2:W2.heap.size=W.heap.size+1+1:=by rw[hW2];simp
 have CP:=ab (show Calls Tryz.prog 230 #[.pointer (some ⟨p,0,none⟩),.slice (some ⟨W.heap.size+1,0,none⟩) 2 2] W2 (dZ a W2 F p ([sh,sv].foldl aA st)) from
  kK a W2 F p 0 (W.heap.size+1) 2 st [sh,sv] hO2 hE2 (by omega) HNF.out (by show 2<=1000;omega) (by rw[hW2];exact kO _ _ [sh,sv] _ (by simp)))
 have UP:=ab (show ∀st' w',PW a W2 F p st' w'->PW a W F p st' w' from λst' w' hp=>PW.trans (λ_ hk=> .inl hk) hK2 hp);obtain⟨stf,hstf⟩:∃stf,stf= [sh,sv].foldl aA st:=⟨_,rfl⟩;rw[<-hstf]at CP ⊢;clear hstf;clear h hE hK2 hE2 hO2 hs2
 go_enter Tryz.func243,Tryz.ntmps243
 go_wp2_with fail
 rw[<-hW2];refine CP.out.mono ?_;rintro en w3 ⟨rfl,hp⟩;have S3:=ab hp;clear hp
 go_wp2_with fail
 go_end0
 exact⟨rfl,UP.out _ _ S3.out⟩
theorem zb (a:Nat->Addr) (W:World) (F:Nat->Prop) (p n:Nat) (st:Option (List UInt8)) (sh ot:Int) (h:bg a W F p st n) (hE:ar W a):
 Calls Tryz.prog 255 #[.agg #[.int .i64 sh,.int .i64 ot],.pointer (some ⟨p,0,none⟩)] W (dZ a W F p ([sh,ot].foldl aA st)):=by
 obtain⟨W2,hW2⟩:∃W2,W2=(W.alloc (.cells #[.int .i64 sh,.int .i64 ot] 266)).alloc (.cells #[.int .i64 sh,.int .i64 ot] 3):=⟨_,rfl⟩;have hK2:Kept F W W2:=by rw[hW2];exact((Kept.refl F W).alloc _).alloc _
 have hE2:ar W2 a:=by rw[hW2];exact hE.below (((Below.refl W.heap.size W).alloc (Nat.le_refl _) _).alloc (by simp) _)
 have hO2:bg a W2 F p st 0:=by rw[hW2];exact kS h _ _
 have HNF:=ab (show ¬F (W.heap.size+1) from λhf=>by have:=h.2.1 _ hf;omega);have hs2:W2.heap.size=W.heap.size+1+1:=by rw[hW2];simp
 have CP:=ab (show Calls Tryz.prog 230 #[.pointer (some ⟨p,0,none⟩),.slice (some ⟨W.heap.size+1,0,none⟩) 2 2] W2 (dZ a W2 F p ([sh,ot].foldl aA st)) from
  kK a W2 F p 0 (W.heap.size+1) 2 st [sh,ot] hO2 hE2 (by omega) HNF.out (by show 2<=1000;omega) (by rw[hW2];exact kO _ _ [sh,ot] _ (by simp)))
 have UP:=ab (show ∀st' w',PW a W2 F p st' w'->PW a W F p st' w' from λst' w' hp=>PW.trans (λ_ hk=> .inl hk) hK2 hp);obtain⟨stf,hstf⟩:∃stf,stf= [sh,ot].foldl aA st:=⟨_,rfl⟩;rw[<-hstf]at CP ⊢;clear hstf;clear h hE hK2 hE2 hO2 hs2
 go_enter Tryz.func255,Tryz.ntmps255
 go_wp2_with fail
 rw[<-hW2];refine CP.out.mono ?_;rintro en w3 ⟨rfl,hp⟩;have S3:=ab hp;clear hp
 go_wp2_with fail
 go_end0
 exact⟨rfl,UP.out _ _ S3.out⟩
theorem Dn (a:Nat->Addr) (W:World) (F:Nat->Prop) (p n:Nat) (st:Option (List UInt8)) (sh ot sv:Int) (key:ByteArray) (h:bg a W F p st n) (hE:ar W a) (hs:key.size<=300):
 Calls Tryz.prog 248 #[.agg #[.int .i64 sh,.int .i64 ot,.int .i64 sv,.string key],.pointer (some ⟨p,0,none⟩)] W (dZ a W F p (bM ([sh,ot,sv].foldl aA st) key)):=by
 obtain⟨W2,hW2⟩:∃W2,W2=(W.alloc (.cells #[.int .i64 sh,.int .i64 ot,.int .i64 sv,.string key] 264)).alloc (.cells #[.int .i64 sh,.int .i64 ot,.int .i64 sv] 3):=⟨_,rfl⟩;have hK2:Kept F W W2:=by rw[hW2];exact((Kept.refl F W).alloc _).alloc _
 have hE2:ar W2 a:=by rw[hW2];exact hE.below (((Below.refl W.heap.size W).alloc (Nat.le_refl _) _).alloc (by simp) _)
 have hO2:bg a W2 F p st 0:=by rw[hW2];exact kS h _ _
 have HNF:=ab (show ¬F (W.heap.size+1) from λhf=>by have:=h.2.1 _ hf;omega);have hs2:W2.heap.size=W.heap.size+1+1:=by rw[hW2];simp
 have CP:=ab (show Calls Tryz.prog 230 #[.pointer (some ⟨p,0,none⟩),.slice (some ⟨W.heap.size+1,0,none⟩) 3 3] W2 (dZ a W2 F p ([sh,ot,sv].foldl aA st)) from
  kK a W2 F p 0 (W.heap.size+1) 3 st [sh,ot,sv] hO2 hE2 (by omega) HNF.out (by show 3<=1000;omega) (by rw[hW2];exact kO _ _ [sh,ot,sv] _ (by simp)))
 have UP:=ab (show ∀st' w',PW a W2 F p st' w'->PW a W F p st' w' from λst' w' hp=>PW.trans (λ_ hk=> .inl hk) hK2 hp);have HNF0:=ab (show ¬F W.heap.size from λhf=>Nat.lt_irrefl _ (h.2.1 _ hf));have HC:=ab (show ∀st' w',PW a W2 F p st' w'->w'.cell? ⟨W.heap.size,3,none⟩=some (.string key) from λst' w' hp=>by rw[hp.cell (by omega) HNF0.out,hW2,World.cell?_alloc_lt _ _ _ (by simp),cell_of_row _ _ 3 _ _ _ (heap_alloc_new W _)];rfl);have CT:=ab (λst' w' (hp:PW a W2 F p st' w')=>hp.text hE2 h.2.2.1 key (by omega));obtain⟨stf,hstf⟩:∃stf,stf= [sh,ot,sv].foldl aA st:=⟨_,rfl⟩;rw[<-hstf]at CP ⊢;clear hstf;clear h hE hK2 hE2 hO2 hs2
 go_enter Tryz.func248,Tryz.ntmps248
 go_wp2_with fail
 rw[<-hW2];refine CP.out.mono ?_;rintro en w3 ⟨rfl,hp⟩;have S3:=ab hp;have c0:=HC.out _ _ hp;clear hp
 go_wp2_with fail
 refine(CT.out _ _ S3.out).mono ?_;rintro en w4 ⟨rfl,hp⟩;have S4:=ab hp;clear hp
 go_wp2_with fail
 go_end0
 exact⟨rfl,UP.out _ _ S4.out⟩
theorem vU (a:Nat->Addr) (W:World) (F:Nat->Prop) (p n:Nat) (st:Option (List UInt8)) (sh up ps pt:Int) (data:ByteArray) (h:bg a W F p st n) (hE:ar W a) (hs:data.size<=600):
 Calls Tryz.prog 260 #[.agg #[.int .i64 sh,.int .i64 up,.int .i64 ps,.int .i64 pt,.string data],.pointer (some ⟨p,0,none⟩)] W (dZ a W F p (bM ([sh,up,ps,pt].foldl aA st) data)):=by
 obtain⟨W2,hW2⟩:∃W2,W2=(W.alloc (.cells #[.int .i64 sh,.int .i64 up,.int .i64 ps,.int .i64 pt,.string data] 268)).alloc (.cells #[.int .i64 sh,.int .i64 up,.int .i64 ps,.int .i64 pt] 3):=⟨_,rfl⟩;have hK2:Kept F W W2:=by rw[hW2];exact((Kept.refl F W).alloc _).alloc _
 have hE2:ar W2 a:=by rw[hW2];exact hE.below (((Below.refl W.heap.size W).alloc (Nat.le_refl _) _).alloc (by simp) _)
 have hO2:bg a W2 F p st 0:=by rw[hW2];exact kS h _ _
 have HNF:=ab (show ¬F (W.heap.size+1) from λhf=>by have:=h.2.1 _ hf;omega);have hs2:W2.heap.size=W.heap.size+1+1:=by rw[hW2];simp
 have CP:=ab (show Calls Tryz.prog 230 #[.pointer (some ⟨p,0,none⟩),.slice (some ⟨W.heap.size+1,0,none⟩) 4 4] W2 (dZ a W2 F p ([sh,up,ps,pt].foldl aA st)) from
  kK a W2 F p 0 (W.heap.size+1) 4 st [sh,up,ps,pt] hO2 hE2 (by omega) HNF.out (by show 4<=1000;omega) (by rw[hW2];exact kO _ _ [sh,up,ps,pt] _ (by simp)))
 have UP:=ab (show ∀st' w',PW a W2 F p st' w'->PW a W F p st' w' from λst' w' hp=>PW.trans (λ_ hk=> .inl hk) hK2 hp);have HNF0:=ab (show ¬F W.heap.size from λhf=>Nat.lt_irrefl _ (h.2.1 _ hf));have HC:=ab (show ∀st' w',PW a W2 F p st' w'->w'.cell? ⟨W.heap.size,4,none⟩=some (.string data) from λst' w' hp=>by rw[hp.cell (by omega) HNF0.out,hW2,World.cell?_alloc_lt _ _ _ (by simp),cell_of_row _ _ 4 _ _ _ (heap_alloc_new W _)];rfl);have CT:=ab (λst' w' (hp:PW a W2 F p st' w')=>hp.text hE2 h.2.2.1 data (by omega));obtain⟨stf,hstf⟩:∃stf,stf= [sh,up,ps,pt].foldl aA st:=⟨_,rfl⟩;rw[<-hstf]at CP ⊢;clear hstf;clear h hE hK2 hE2 hO2 hs2
 go_enter Tryz.func260,Tryz.ntmps260
 go_wp2_with fail
 rw[<-hW2];refine CP.out.mono ?_;rintro en w3 ⟨rfl,hp⟩;have S3:=ab hp;have c0:=HC.out _ _ hp;clear hp
 go_wp2_with fail
 refine(CT.out _ _ S3.out).mono ?_;rintro en w4 ⟨rfl,hp⟩;have S4:=ab hp;clear hp
 go_wp2_with fail
 go_end0
 exact⟨rfl,UP.out _ _ S4.out⟩
theorem Dx (st:Option (List UInt8)) (l:List aZ) (k:Nat) (h:k < l.length):(l.take (k+1)).foldl stOp st=stOp ((l.take k).foldl stOp st) l[k]:=by rw[List.take_succ_eq_append_getElem h,List.foldl_append];rfl
theorem ES (a:Nat->Addr) (W:World) (F:Nat->Prop) (p n:Nat) (st:Option (List UInt8)) (sh cl sq:Int) (ops:List aZ) (vo:Value) (B:Nat) (h:bg a W F p st n) (hE:ar W a) (hr:bQ W B vo 5 (ops.map bc)) (hB:B<=W.heap.size) (hF:∀k,F k->B<=k) (hs:∀o ∈ ops,o.key.size<=300/\o.value.size<=300/\o.old.size<=300):
 Calls Tryz.prog 226 #[.agg #[.int .i64 sh,.int .i64 cl,.int .i64 sq,vo],.pointer (some ⟨p,0,none⟩)] W (dZ a W F p (ops.foldl stOp ([sh,cl,sq,(ops.length:Int)].foldl aA st))):=by
 obtain⟨A,c,rfl,_,hcell⟩:=eV hr;obtain⟨W2,hW2⟩:∃W2,W2=(W.alloc (.cells #[.int .i64 sh,.int .i64 cl,.int .i64 sq,.slice A ops.length c] 260)).alloc (.cells #[.int .i64 sh,.int .i64 cl,.int .i64 sq,.int .i64 ops.length] 3):=⟨_,rfl⟩;have hK2:Kept F W W2:=by rw[hW2];exact((Kept.refl F W).alloc _).alloc _
 have hE2:ar W2 a:=by rw[hW2];exact hE.below (((Below.refl W.heap.size W).alloc (Nat.le_refl _) _).alloc (by simp) _)
 have hO2:bg a W2 F p st 0:=by rw[hW2];exact kS h _ _
 have HNF:=ab (show ¬F (W.heap.size+1) from λhf=>by have:=h.2.1 _ hf;omega);have hs2:W2.heap.size=W.heap.size+1+1:=by rw[hW2];simp
 have CP:=ab (show Calls Tryz.prog 230 #[.pointer (some ⟨p,0,none⟩),.slice (some ⟨W.heap.size+1,0,none⟩) 4 4] W2 (dZ a W2 F p ([sh,cl,sq,(ops.length:Int)].foldl aA st)) from
  kK a W2 F p 0 (W.heap.size+1) 4 st [sh,cl,sq,(ops.length:Int)] hO2 hE2 (by omega) HNF.out (by show 4<=1000;omega) (by rw[hW2];exact kO _ _ [sh,cl,sq,(ops.length:Int)] _ (by simp)))
 have UP:=ab (show ∀st' w',PW a W2 F p st' w'->PW a W F p st' w' from λst' w' hp=>PW.trans (λ_ hk=> .inl hk) hK2 hp);have HNF0:=ab (show ¬F W.heap.size from λhf=>Nat.lt_irrefl _ (h.2.1 _ hf));have HC:=ab (show ∀st' w',PW a W2 F p st' w'->w'.cell? ⟨W.heap.size,3,none⟩=some (.slice A ops.length c) from λst' w' hp=>by rw[hp.cell (by omega) HNF0.out,hW2,World.cell?_alloc_lt _ _ _ (by simp),cell_of_row _ _ 3 _ _ _ (heap_alloc_new W _)];rfl);have HOC:=ab (show ∀st' w' b o j,PW a W2 F p st' w'->b < B->w'.cell? ⟨b,o+j,none⟩=W.cell? ⟨b,o+j,none⟩from λst' w' b o j hp hb=>by
  have hnb:¬F b:=λhf=>by have:=hF _ hf;omega
  exact(hp.cell (by omega) hnb).trans (hK2.cell (p:=⟨b,o+j,none⟩) (by show b < _;omega) hnb))
 have HCELL:=ab hcell
 have CO:=ab (show ∀st' w' o,o ∈ ops->PW a W2 F p st' w'->Calls Tryz.prog 231 #[.pointer (some ⟨p,0,none⟩),.agg #[.int .i64 o.kind,.string o.key,.string o.value,.string o.old,.int .i64 o.version]] w' (dZ a W2 F p (stOp st' o)) from
  λst' w' o ho hp=>hp.call λF1 hO _ _=>Bf a w' F1 p 0 st' o hO (hp.bq hE2 h.2.2.1) (hs o ho))
 obtain⟨stf,hstf⟩:∃stf,stf= [sh,cl,sq,(ops.length:Int)].foldl aA st:=⟨_,rfl⟩;rw[<-hstf]at CP ⊢;clear hstf hr hcell h hE hK2 hE2 hO2 hs2 hF hs
 go_enter Tryz.func226,Tryz.ntmps226
 go_wp2_with fail
 rw[<-hW2];refine CP.out.mono ?_;rintro en w3 ⟨rfl,hp⟩;have S3:=ab hp;have c3:=HC.out _ _ hp;clear hp
 go_wp2_with fail
 go_loopw [21] (λi wr=>∃k:Nat,i= .int .i64 k/\k<=ops.length/\Hid (PW a W2 F p ((ops.take k).foldl stOp stf) wr)) (λi _=>ops.length - (intOf i).toNat)
 case atStart=>exact⟨0,rfl,Nat.zero_le _,S3⟩
 case round=>
  obtain⟨k,rfl,hk,hS⟩:=hrel;by_cases hlt:k < ops.length
  · obtain⟨b,o,rfl,hbl,d0,d1,d2,d3,d4⟩:=HCELL.out k hlt;have f0:=(HOC.out _ _ b o (k * 5) hS.out hbl).trans d0;have f1:=(HOC.out _ _ b o (k * 5+1) hS.out hbl).trans d1;have f2:=(HOC.out _ _ b o (k * 5+2) hS.out hbl).trans d2;have f3:=(HOC.out _ _ b o (k * 5+3) hS.out hbl).trans d3;have f4:=(HOC.out _ _ b o (k * 5+4) hS.out hbl).trans d4;simp only[<-Nat.add_assoc]at f1 f2 f3 f4;have HSN:=ab (Dx stf ops k hlt);have HM:=ab (List.getElem_mem hlt);have S5:=ab (hS.out.alloc (.cells #[.int .i64 ops[k].kind,.string ops[k].key,.string ops[k].value,.string ops[k].old,.int .i64 ops[k].version] 91));have C5:=ab (CO.out _ _ _ HM.out S5.out);rw[<-HSN.out]at C5;clear d0 d1 d2 d3 d4 HSN HM;generalize ops[k]=op at *
    go_wp2_with fail
    refine C5.out.mono ?_;rintro e w6 ⟨rfl,h6⟩;have S6:=ab h6;clear h6
    go_wp2_with fail
    go_roundw
    case rel=>exact⟨k+1,by go_num,by omega,S6⟩
    case measure=>simp[intOf];omega
  · have hall:=ab (show PW a W2 F p (ops.foldl stOp stf) wr from by
     have h:=hS.out
     rwa[List.take_of_length_le (by omega)]at h)
    go_wp2_with fail
    go_end0
    exact⟨rfl,UP.out _ _ hall.out⟩
end Go.Proofs.YtdilnodbfnlhdaaGreatDoor
namespace Go.Proofs.YtdilnodbfnlhdaaGreatDoor
open Go.RowKit Tide
theorem gY (q:List UInt8) (s:ByteArray):bM (some q) s=some (q ++ bN s):=rfl
theorem cQ {z:Int} (h0:0<=z) (h1:z<=4611686018427387903) (q:List UInt8):aA (some q) z=some (q ++ ao z.toNat):=oP (by unfold Tide.aP;simp;omega) q
theorem Dw {K:ByteArray->Nat} {o:aZ} (h:eM K o=true) (q:List UInt8):stOp (some q) o=some (q ++ fT o):=by
 obtain⟨h1,h2,h4,h5,h6⟩:=rP h;unfold stOp fT;by_cases k1:o.kind=1
 · rw[if_pos k1,cQ (by omega) (by omega),gY,gY,if_neg (by omega),if_pos (Or.inl k1),if_neg (by omega)];simp
 by_cases k3:o.kind=3
 · rw[if_neg k1,if_pos k3,cQ (by omega) (by omega),gY,gY,gY,if_pos k3,if_pos (Or.inr k3),if_neg (by omega)];simp
 by_cases k4:o.kind=4
 · have h6':=h6 k4;rw[if_neg k1,if_neg k3,if_pos k4,cQ (by omega) (by omega),gY,cQ (by omega) (by omega),if_neg (by omega),if_neg (by omega),if_pos k4];simp
 · rw[if_neg k1,if_neg k3,if_neg k4,cQ (by omega) (by omega),gY,if_neg (by omega),if_neg (by omega),if_neg (by omega)];simp
theorem tj {K:ByteArray->Nat}:∀ {l:List aZ},(∀o ∈ l,eM K o=true)->∀q,l.foldl stOp (some q)=some (q ++ l.flatMap fT)
 | [],_,q=>by simp
 | o :: l,h,q=>by rw[List.foldl_cons,Dw (h o (by simp)),tj (λx hx=>h x (by simp[hx])),List.flatMap_cons];simp
theorem mC {s:ByteArray} {m:Nat} (h:s.size<=m) (hm:m < 2 ^ 62):(bN s).length<=m+9:=by
 unfold bN;have:=bH (show s.size < 2 ^ 62 by omega);have e:s.data.toList.length=s.size:=by rw[Array.length_toList];rfl
 rw[List.length_append,e];omega
theorem zO {K:ByteArray->Nat} {o:aZ} (h:eM K o=true) (hs:o.key.size<=300/\o.value.size<=300/\o.old.size<=300):(fT o).length<=945:=by
 obtain⟨h1,h2,h4,h5,h6⟩:=rP h;have a1:=bH (show o.kind.toNat < 2 ^ 62 by omega);have a2:=mC hs.1 (by omega);have a3:=mC hs.2.1 (by omega);have a4:=mC hs.2.2 (by omega);have a5:(if o.kind=3 then bN o.old else[]).length<=309:=by split<;>(try simp only[List.length_nil])<;>omega
 have a6:(if o.kind=1\/o.kind=3 then bN o.value else[]).length<=309:=by split<;>(try simp only[List.length_nil])<;>omega
 have a7:(if o.kind=4 then ao o.version.toNat else[]).length<=9:=by
  split
  · rename_i k;have:=h6 k;exact bH (by omega)
  · simp
 unfold fT;rw[List.length_append,List.length_append,List.length_append,List.length_append];omega
theorem rQ {K:ByteArray->Nat}:∀ {l:List aZ},(∀o ∈ l,eM K o=true/\(o.key.size<=300/\o.value.size<=300/\o.old.size<=300))->(l.flatMap fT).length<=945 * l.length
 | [],_=>by simp
 | o :: l,h=>by have h1:=zO (h o (by simp)).1 (h o (by simp)).2;have h2:=rQ (l:=l) (λx hx=>h x (by simp[hx]));rw[List.flatMap_cons,List.length_append,List.length_cons];omega
section
variable {K:ByteArray->Nat} {e:aD}
theorem Dy (k:e.kind=1) (h:aS K e=true):(e.ops.map plainO).foldl stOp ([e.au,e.bF,e.seq,((e.ops.map plainO).length:Int)].foldl aA (aA (some []) e.kind))=some (aG e):=by rw[mf k,Bool.and_eq_true]at h;obtain⟨h1,h2⟩:=h;simp[jC,cm]at h1;rw[qb k,k];simp only[List.foldl_cons,List.foldl_nil,List.length_map];rw[cQ (by omega) (by omega),cQ (by omega) (by omega),cQ (by omega) (by omega),cQ (by omega) (by omega),cQ (by omega) (by omega),tj (K:=K) (λo ho=>List.all_eq_true.1 (by rw[AS];exact h2) o ho),AR];simp
theorem yO (k:e.kind=1) (h:aS K e=true) (hz:eh e):(aG e).length<=10000:=by rw[mf k,Bool.and_eq_true]at h;obtain⟨h1,h2⟩:=h;simp[jC,cm]at h1;rw[qb k];have a0:=bH (show 1 < 2 ^ 62 by omega);have a1:=bH (show e.au.toNat < 2 ^ 62 by omega);have a2:=bH (show e.bF.toNat < 2 ^ 62 by omega);have a3:=bH (show e.seq.toNat < 2 ^ 62 by omega);have a4:=bH (show e.ops.length < 2 ^ 62 by omega);have b1:=rQ (K:=K) (l:=e.ops) (λo ho=>⟨List.all_eq_true.1 h2 o ho,hz.1 o ho⟩);simp only[List.length_append];omega
theorem Dz (k:e.kind=2) (h:aS K e=true): [e.au,e.server].foldl aA (aA (some []) e.kind)=some (aG e):=by rw[mg k]at h;simp[cm]at h;rw[qf k,k];simp only[List.foldl_cons,List.foldl_nil];rw[cQ (by omega) (by omega),cQ (by omega) (by omega),cQ (by omega) (by omega)];simp
theorem yP (k:e.kind=2) (h:aS K e=true):(aG e).length<=10000:=by rw[mg k]at h;simp[cm]at h;rw[qf k];have a0:=bH (show 2 < 2 ^ 62 by omega);have a1:=bH (show e.au.toNat < 2 ^ 62 by omega);have a2:=bH (show e.server.toNat < 2 ^ 62 by omega);simp only[List.length_append];omega
theorem DA (k:e.kind=3) (h:aS K e=true):bM ([e.au,e.other,e.server].foldl aA (aA (some []) e.kind)) e.key=some (aG e):=by rw[mh k,Bool.and_eq_true,Bool.and_eq_true]at h;obtain⟨h1,h2,_⟩:=h;simp[gI,cm]at h1 h2;rw[qg k,k];simp only[List.foldl_cons,List.foldl_nil];rw[cQ (by omega) (by omega),cQ (by omega) (by omega),cQ (by omega) (by omega),cQ (by omega) (by omega),gY];simp
theorem yQ (k:e.kind=3) (h:aS K e=true) (hz:eh e):(aG e).length<=10000:=by rw[mh k,Bool.and_eq_true,Bool.and_eq_true]at h;obtain⟨h1,h2,_⟩:=h;simp[gI,cm]at h1 h2;rw[qg k];have a0:=bH (show 3 < 2 ^ 62 by omega);have a1:=bH (show e.au.toNat < 2 ^ 62 by omega);have a2:=bH (show e.other.toNat < 2 ^ 62 by omega);have a3:=bH (show e.server.toNat < 2 ^ 62 by omega);have b1:=mC hz.2.1 (by omega);simp only[List.length_append];omega
theorem DB (k:e.kind=4) (h:aS K e=true): [e.au,e.other].foldl aA (aA (some []) e.kind)=some (aG e):=by rw[kM k]at h;simp[gI,cm]at h;rw[ng k,k];simp only[List.foldl_cons,List.foldl_nil];rw[cQ (by omega) (by omega),cQ (by omega) (by omega),cQ (by omega) (by omega)];simp
theorem yR (k:e.kind=4) (h:aS K e=true):(aG e).length<=10000:=by rw[kM k]at h;simp[gI,cm]at h;rw[ng k];have a0:=bH (show 4 < 2 ^ 62 by omega);have a1:=bH (show e.au.toNat < 2 ^ 62 by omega);have a2:=bH (show e.other.toNat < 2 ^ 62 by omega);simp only[List.length_append];omega
theorem DC (k:e.kind=5) (h:aS K e=true):bM ([e.au,e.upto,e.parts,e.part].foldl aA (aA (some []) e.kind)) (text e.data)=some (aG e):=by rw[mj k]at h;simp[jQ,cm]at h;rw[qh k,k];simp only[List.foldl_cons,List.foldl_nil];rw[cQ (by omega) (by omega),cQ (by omega) (by omega),cQ (by omega) (by omega),cQ (by omega) (by omega),cQ (by omega) (by omega),gY];simp only[bN,j5];simp[text]
theorem yS (k:e.kind=5) (h:aS K e=true) (hz:eh e):(aG e).length<=10000:=by rw[mj k]at h;simp[jQ,cm]at h;rw[qh k];have a0:=bH (show 5 < 2 ^ 62 by omega);have a1:=bH (show e.au.toNat < 2 ^ 62 by omega);have a2:=bH (show e.upto.toNat < 2 ^ 62 by omega);have a3:=bH (show e.parts.toNat < 2 ^ 62 by omega);have a4:=bH (show e.part.toNat < 2 ^ 62 by omega);have b1:=bH (show e.data.length < 2 ^ 62 by have:=hz.2.2.1;omega);have b2:=hz.2.2.1;simp only[List.length_append];omega
theorem wV (h:aS K e=true) (hz:eh e):(aG e).length<=10000:=by
 rcases rl h with k|k|k|k|k
 · exact yO k h hz
 · exact yP k h
 · exact yQ k h hz
 · exact yR k h
 · exact yS k h hz
end
end Go.Proofs.YtdilnodbfnlhdaaGreatDoor
namespace Go.Proofs.YtdilnodbfnlhdaaGreatDoor
open Go.RowKit Tide
theorem iO {B:Nat} {a w:World} (h:Below B a w) (n:Nat):Below B a (w.drewN n):=⟨h.os,h.tape,h.output,h.size,h.block⟩
def uq (a:Nat->Addr) (w:World) (r:List UInt8 × Nat) (en:Ending) (w':World):Prop:=∃u x,en= .returned (.tuple #[u,x])/\Bytes w' w'.heap.size u r.1/\bf a x r.2/\Below w.heap.size w w'
theorem pO (a:Nat->Addr) (T:World->Prop) (K:ByteArray->Nat) (e:aD) (vo vd:Value) (B:Nat) (w:World) (hi:dY w B e vo vd) (hB:B<=w.heap.size) (hz:eh e) (hL:dI a T K w):
 Calls Tryz.prog 52 #[.agg (cj e vo vd)] w (uq a w (bO K e)):=by
 obtain⟨A,c,rfl,_,_⟩:=eV hi.1;obtain⟨Ad,cd,rfl,_,_,_⟩:=hi.2.form;have HB0:=ab (show Below w.heap.size w (bG w e (.slice A e.ops.length c) (.slice Ad e.data.length cd)) from(Below.refl _ _).alloc (Nat.le_refl _) _);have CO:=ab (sB a T K e _ _ B (bG w e (.slice A e.ops.length c) (.slice Ad e.data.length cd)) (hi.below (HB0.out.mono hB)) (Nat.le_trans hB HB0.out.size) hz (hL.below HB0.out));have HE:=ab hL.bq;have HZ:=ab hz;have KX:=ab (show ∀W,Below (w.heap.size+1) (bG w e (.slice A e.ops.length c) (.slice Ad e.data.length cd)) W->W.cell? ⟨w.heap.size,0,none⟩=some (.int .i64 e.kind) from λW h=>(ql (w:=w) (e:=e) h).1);obtain⟨rr,hrr⟩:∃rr,rr=bO K e:=⟨_,rfl⟩;rw[<-hrr];have HRR:=ab hrr;have hs0:(bG w e (.slice A e.ops.length c) (.slice Ad e.data.length cd)).heap.size=w.heap.size+1:=by simp
 have D0:=ab (Below.refl (w.heap.size+1) (bG w e (.slice A e.ops.length c) (.slice Ad e.data.length cd)));clear hi hz hL hrr;unfold bG cj at *
 go_enter Tryz.func52,Tryz.ntmps52
 go_wp2_with fail
 refine CO.out.mono ?_;rintro en w1 ⟨h,rfl,hk,hb⟩;have HB1:=ab (HB0.out.trans (hb.mono HB0.out.size));have D1:=ab (D0.out.trans (hb.mono (by simp)));have HE1:=ab (HE.out.below HB1.out);clear hb CO hs0;rcases hk with⟨hR,hk⟩|⟨hR,rfl⟩
 · have HLE:=ab (wV hR HZ.out);have HFIN:=ab (show bO K e=if 1848 < (aG e).length then([],3) else(aG e,0) from if_pos hR);obtain⟨w2,hw2⟩:∃w2,w2=w1.alloc (.cells #[.slice none 0 0,.nilIface] 204):=⟨_,rfl⟩;have HO2:=ab (show bg a w2 (λk=>k=w1.heap.size) w1.heap.size (some []) 0 from by rw[hw2];exact kE a w1 HE1.out);have hb12:Below w1.heap.size w1 w2:=by rw[hw2];exact(Below.refl _ _).alloc (Nat.le_refl _) _
   have HE2:=ab (HE1.out.below hb12);have HB12:=ab hb12;have hc0:w1.cell? ⟨w.heap.size,0,none⟩=some (.int .i64 e.kind):=KX.out w1 D1.out;have hlt0:w.heap.size < w1.heap.size:=by have h9:=D1.out.size;simp at h9;omega
   have HS2:=ab (show w2.heap.size=w1.heap.size+1 from by rw[hw2];simp);have S2:=ab (PW.start HO2.out);have CN:=ab (S2.out.num HE2.out HO2.out.2.2.1 e.kind);have FINB:=ab (show ∀st w5,PW a w2 (λk=>k=w1.heap.size) w1.heap.size st w5->Below w.heap.size w w5/\ar w5 a/\Calls Tryz.prog 106 #[.pointer (some ⟨w1.heap.size,0,none⟩)] w5 (λen w'=>∃v x,en= .returned (.tuple #[v,x])/\Bytes w' w'.heap.size v (dA st).1/\bf a x (dA st).2/\Below w.heap.size w w'/\ar w' a) from λst w5 hp=>by
    have hE5:=hp.bq HE2.out HO2.out.2.2.1;obtain⟨F1,hO,hF1,hK⟩:=hp;have hlow:∀k,F1 k->w1.heap.size<=k:=λk hk=>by
     rcases hF1 k hk with h|h
     · have h9:k=w1.heap.size:=h;omega
     · have:=HS2.out;omega
    have hb5:Below w.heap.size w w5:=HB1.out.trans ((HB12.out.trans (hK.below (by have:=HS2.out;omega) (λk hk=>by have h9:k=w1.heap.size:=hk;omega))).mono HB1.out.size);refine⟨hb5,hE5,(zF a w5 F1 w1.heap.size st 0 hO).mono λen w' ⟨v,x,he,hbv,hx,hk⟩=>⟨v,x,he,hbv,hx,?_,?_⟩⟩
    · exact hb5.trans (hk.below (Nat.le_trans hb5.size (Nat.le_refl _)) (λk hk=>by have:=hlow k hk;have:=HB1.out.size;omega))
    · exact hE5.kept hk hO.2.2.1)
   have HRT:=ab hR;clear hb12 hR;have ENDS:=ab (show ∀st,st=some (aG e)->(dA st).1=aG e/\(dA st).2=0 from λst hst=>by subst hst;show(if(aG e).length<=65536 then(aG e,0) else([],3)).1=_/\(if(aG e).length<=65536 then(aG e,0) else([],3)).2=_;rw[if_pos (by have:=HLE.out;omega)];exact⟨rfl,rfl⟩);rcases hk with⟨k1,u,rfl,hu⟩|⟨k1,rfl⟩|⟨k1,rfl⟩|⟨k1,rfl⟩|⟨k1,rfl⟩
   · obtain⟨_,A3,c3,hu3,_⟩:=id hu;rw[List.length_map,List.length_map]at hu3;subst hu3;have HU:=ab hu;clear hu;have HST:=ab (Dy k1 HRT.out);have HW2:=ab hw2;clear k1 hw2
     go_wp2_with fail
     rw[<-HW2.out];refine CN.out.mono ?_;rintro en w3 ⟨rfl,hp⟩;have S3:=ab hp;have CPUT:=ab (hp.call λF1 hO hF1 hK=>ES a w3 F1 w1.heap.size 0 _ e.au e.bF e.seq (e.ops.map plainO) _ w1.heap.size hO (S3.out.bq HE2.out HO2.out.2.2.1) ((HU.out.below HB12.out).an (λb o hb=>S3.out.cell (by have:=HS2.out;omega) (by show ¬b=_;omega))) (by have:=S3.out.size;have:=HS2.out;omega) (λk hk=>by rcases hF1 k hk with h|h;(have h9:k=w1.heap.size:=h;omega);(have:=HS2.out;omega)) (λo ho=>by obtain⟨o',ho',rfl⟩:=List.mem_map.1 ho;exact AQ (HZ.out.1 o' ho')));clear hp
     go_wp2_with fail
     refine CPUT.out.mono ?_;rintro en w4 ⟨rfl,hp⟩;obtain⟨hb4,hE4,hD⟩:=FINB.out _ _ hp;obtain⟨hd1,hd2⟩:=ENDS.out _ HST.out;rw[hd1,hd2]at hD;have HD:=ab hD;clear hp hb4 hE4 hd1 hd2 hD
     go_wp2_with fail
     refine HD.out.mono ?_;rintro en w5 ⟨v,x,rfl,hv,hx,hb5,hE5⟩;have hx0:x= .nilIface:=by
      rcases hx with⟨_,h⟩|⟨m,_,h0,_⟩
      · exact h
      · omega
     subst hx0;obtain⟨A5,c5,rfl,_,_,_⟩:=hv.form;have HV:=ab hv;have HB5:=ab hb5;have hg:=hE5.var 2 (by omega);simp only[bA,List.getD_cons_zero,List.getD_cons_succ]at hg;clear hv hx hb5 hE5 hc0;by_cases hlong:1848 < (aG e).length
     · have HR2:=ab (show rr=([],3) from by rw[HRR.out,HFIN.out,if_pos hlong]);have hq:decide ((1848:Int) < ((aG e).length:Int))=true:=decide_eq_true (by omega);clear HFIN
       go_wp2_with fail
       go_quiet (fail)
       go_wp2_with fail
       go_ret2
       exact⟨_,_,rfl,by rw[HR2.out];exact fO _ _,by rw[HR2.out];exact bo a 2 (by omega),iO HB5.out _⟩
     · have HR2:=ab (show rr=(aG e,0) from by rw[HRR.out,HFIN.out,if_neg hlong]);have hq:decide ((1848:Int) < ((aG e).length:Int))=false:=decide_eq_false (by omega);clear HFIN
       go_wp2_with fail
       go_ret2
       exact⟨_,_,rfl,by rw[HR2.out];exact HV.out,by rw[HR2.out];exact ec a,HB5.out⟩
   · have HST:=ab (Dz k1 HRT.out);have HW2:=ab hw2;clear k1 hw2
     go_wp2_with fail
     rw[<-HW2.out];refine CN.out.mono ?_;rintro en w3 ⟨rfl,hp⟩;have S3:=ab hp;have CPUT:=ab (hp.call λF1 hO hF1 hK=>zg a w3 F1 w1.heap.size 0 _ e.au e.server hO (S3.out.bq HE2.out HO2.out.2.2.1));clear hp
     go_wp2_with fail
     refine CPUT.out.mono ?_;rintro en w4 ⟨rfl,hp⟩;obtain⟨hb4,hE4,hD⟩:=FINB.out _ _ hp;obtain⟨hd1,hd2⟩:=ENDS.out _ HST.out;rw[hd1,hd2]at hD;have HD:=ab hD;clear hp hb4 hE4 hd1 hd2 hD
     go_wp2_with fail
     refine HD.out.mono ?_;rintro en w5 ⟨v,x,rfl,hv,hx,hb5,hE5⟩;have hx0:x= .nilIface:=by
      rcases hx with⟨_,h⟩|⟨m,_,h0,_⟩
      · exact h
      · omega
     subst hx0;obtain⟨A5,c5,rfl,_,_,_⟩:=hv.form;have HV:=ab hv;have HB5:=ab hb5;have hg:=hE5.var 2 (by omega);simp only[bA,List.getD_cons_zero,List.getD_cons_succ]at hg;clear hv hx hb5 hE5 hc0;by_cases hlong:1848 < (aG e).length
     · have HR2:=ab (show rr=([],3) from by rw[HRR.out,HFIN.out,if_pos hlong]);have hq:decide ((1848:Int) < ((aG e).length:Int))=true:=decide_eq_true (by omega);clear HFIN
       go_wp2_with fail
       go_quiet (fail)
       go_wp2_with fail
       go_ret2
       exact⟨_,_,rfl,by rw[HR2.out];exact fO _ _,by rw[HR2.out];exact bo a 2 (by omega),iO HB5.out _⟩
     · have HR2:=ab (show rr=(aG e,0) from by rw[HRR.out,HFIN.out,if_neg hlong]);have hq:decide ((1848:Int) < ((aG e).length:Int))=false:=decide_eq_false (by omega);clear HFIN
       go_wp2_with fail
       go_ret2
       exact⟨_,_,rfl,by rw[HR2.out];exact HV.out,by rw[HR2.out];exact ec a,HB5.out⟩
   · have HST:=ab (DA k1 HRT.out);have HW2:=ab hw2;clear k1 hw2
     go_wp2_with fail
     rw[<-HW2.out];refine CN.out.mono ?_;rintro en w3 ⟨rfl,hp⟩;have S3:=ab hp;have CPUT:=ab (hp.call λF1 hO hF1 hK=>Dn a w3 F1 w1.heap.size 0 _ e.au e.other e.server e.key hO (S3.out.bq HE2.out HO2.out.2.2.1) HZ.out.2.1);clear hp
     go_wp2_with fail
     refine CPUT.out.mono ?_;rintro en w4 ⟨rfl,hp⟩;obtain⟨hb4,hE4,hD⟩:=FINB.out _ _ hp;obtain⟨hd1,hd2⟩:=ENDS.out _ HST.out;rw[hd1,hd2]at hD;have HD:=ab hD;clear hp hb4 hE4 hd1 hd2 hD
     go_wp2_with fail
     refine HD.out.mono ?_;rintro en w5 ⟨v,x,rfl,hv,hx,hb5,hE5⟩;have hx0:x= .nilIface:=by
      rcases hx with⟨_,h⟩|⟨m,_,h0,_⟩
      · exact h
      · omega
     subst hx0;obtain⟨A5,c5,rfl,_,_,_⟩:=hv.form;have HV:=ab hv;have HB5:=ab hb5;have hg:=hE5.var 2 (by omega);simp only[bA,List.getD_cons_zero,List.getD_cons_succ]at hg;clear hv hx hb5 hE5 hc0;by_cases hlong:1848 < (aG e).length
     · have HR2:=ab (show rr=([],3) from by rw[HRR.out,HFIN.out,if_pos hlong]);have hq:decide ((1848:Int) < ((aG e).length:Int))=true:=decide_eq_true (by omega);clear HFIN
       go_wp2_with fail
       go_quiet (fail)
       go_wp2_with fail
       go_ret2
       exact⟨_,_,rfl,by rw[HR2.out];exact fO _ _,by rw[HR2.out];exact bo a 2 (by omega),iO HB5.out _⟩
     · have HR2:=ab (show rr=(aG e,0) from by rw[HRR.out,HFIN.out,if_neg hlong]);have hq:decide ((1848:Int) < ((aG e).length:Int))=false:=decide_eq_false (by omega);clear HFIN
       go_wp2_with fail
       go_ret2
       exact⟨_,_,rfl,by rw[HR2.out];exact HV.out,by rw[HR2.out];exact ec a,HB5.out⟩
   · have HST:=ab (DB k1 HRT.out);have HW2:=ab hw2;clear k1 hw2
     go_wp2_with fail
     rw[<-HW2.out];refine CN.out.mono ?_;rintro en w3 ⟨rfl,hp⟩;have S3:=ab hp;have CPUT:=ab (hp.call λF1 hO hF1 hK=>zb a w3 F1 w1.heap.size 0 _ e.au e.other hO (S3.out.bq HE2.out HO2.out.2.2.1));clear hp
     go_wp2_with fail
     refine CPUT.out.mono ?_;rintro en w4 ⟨rfl,hp⟩;obtain⟨hb4,hE4,hD⟩:=FINB.out _ _ hp;obtain⟨hd1,hd2⟩:=ENDS.out _ HST.out;rw[hd1,hd2]at hD;have HD:=ab hD;clear hp hb4 hE4 hd1 hd2 hD
     go_wp2_with fail
     refine HD.out.mono ?_;rintro en w5 ⟨v,x,rfl,hv,hx,hb5,hE5⟩;have hx0:x= .nilIface:=by
      rcases hx with⟨_,h⟩|⟨m,_,h0,_⟩
      · exact h
      · omega
     subst hx0;obtain⟨A5,c5,rfl,_,_,_⟩:=hv.form;have HV:=ab hv;have HB5:=ab hb5;have hg:=hE5.var 2 (by omega);simp only[bA,List.getD_cons_zero,List.getD_cons_succ]at hg;clear hv hx hb5 hE5 hc0;by_cases hlong:1848 < (aG e).length
     · have HR2:=ab (show rr=([],3) from by rw[HRR.out,HFIN.out,if_pos hlong]);have hq:decide ((1848:Int) < ((aG e).length:Int))=true:=decide_eq_true (by omega);clear HFIN
       go_wp2_with fail
       go_quiet (fail)
       go_wp2_with fail
       go_ret2
       exact⟨_,_,rfl,by rw[HR2.out];exact fO _ _,by rw[HR2.out];exact bo a 2 (by omega),iO HB5.out _⟩
     · have HR2:=ab (show rr=(aG e,0) from by rw[HRR.out,HFIN.out,if_neg hlong]);have hq:decide ((1848:Int) < ((aG e).length:Int))=false:=decide_eq_false (by omega);clear HFIN
       go_wp2_with fail
       go_ret2
       exact⟨_,_,rfl,by rw[HR2.out];exact HV.out,by rw[HR2.out];exact ec a,HB5.out⟩
   · have HST:=ab (DC k1 HRT.out);have HW2:=ab hw2;clear k1 hw2
     go_wp2_with fail
     rw[<-HW2.out];refine CN.out.mono ?_;rintro en w3 ⟨rfl,hp⟩;have S3:=ab hp;have CPUT:=ab (hp.call λF1 hO hF1 hK=>vU a w3 F1 w1.heap.size 0 _ e.au e.upto e.parts e.part (text e.data) hO (S3.out.bq HE2.out HO2.out.2.2.1) (by rw[j5];exact HZ.out.2.2.1));clear hp
     go_wp2_with fail
     refine CPUT.out.mono ?_;rintro en w4 ⟨rfl,hp⟩;obtain⟨hb4,hE4,hD⟩:=FINB.out _ _ hp;obtain⟨hd1,hd2⟩:=ENDS.out _ HST.out;rw[hd1,hd2]at hD;have HD:=ab hD;clear hp hb4 hE4 hd1 hd2 hD
     go_wp2_with fail
     refine HD.out.mono ?_;rintro en w5 ⟨v,x,rfl,hv,hx,hb5,hE5⟩;have hx0:x= .nilIface:=by
      rcases hx with⟨_,h⟩|⟨m,_,h0,_⟩
      · exact h
      · omega
     subst hx0;obtain⟨A5,c5,rfl,_,_,_⟩:=hv.form;have HV:=ab hv;have HB5:=ab hb5;have hg:=hE5.var 2 (by omega);simp only[bA,List.getD_cons_zero,List.getD_cons_succ]at hg;clear hv hx hb5 hE5 hc0;by_cases hlong:1848 < (aG e).length
     · have HR2:=ab (show rr=([],3) from by rw[HRR.out,HFIN.out,if_pos hlong]);have hq:decide ((1848:Int) < ((aG e).length:Int))=true:=decide_eq_true (by omega);clear HFIN
       go_wp2_with fail
       go_quiet (fail)
       go_wp2_with fail
       go_ret2
       exact⟨_,_,rfl,by rw[HR2.out];exact fO _ _,by rw[HR2.out];exact bo a 2 (by omega),iO HB5.out _⟩
     · have HR2:=ab (show rr=(aG e,0) from by rw[HRR.out,HFIN.out,if_neg hlong]);have hq:decide ((1848:Int) < ((aG e).length:Int))=false:=decide_eq_false (by omega);clear HFIN
       go_wp2_with fail
       go_ret2
       exact⟨_,_,rfl,by rw[HR2.out];exact HV.out,by rw[HR2.out];exact ec a,HB5.out⟩
 · have HR2:=ab (show rr=([],4) from by rw[HRR.out];unfold bO;rw[hR];rfl);have hg:=HE1.out.var 3 (by omega);simp only[bA,List.getD_cons_zero,List.getD_cons_succ]at hg;clear hR
   go_wp2_with fail
   go_quiet (fail)
   go_wp2_with fail
   go_ret2
   exact⟨_,_,rfl,by rw[HR2.out];exact fO _ _,by rw[HR2.out];exact bo a 3 (by omega),iO HB1.out _⟩
end Go.Proofs.YtdilnodbfnlhdaaGreatDoor
namespace Go.Proofs.YtdilnodbfnlhdaaGreatDoor
open Go.RowKit Tide
def mW (e:aD) (vo vd:Value) (st:Int) (x:Value) (asks ep q:Int) (vp:Value) (cp:Int):Array Value:=
 #[.int .i64 e.kind,.int .i64 e.au,.int .i64 e.other,.int .i64 e.server,.int .i64 e.bF,.int .i64 e.seq,vo,.string e.key,.int .i64 e.upto,.int .i64 e.part,.int .i64 e.parts,vd,.int .i64 st,x,.int .i64 asks,.int .i64 ep,.int .i64 q,vp,.int .i64 cp]
def bh (W:World) (b:Nat) (e:aD) (vo vd:Value) (st:Int) (x:Value) (asks ep q:Int) (vp:Value) (cp:Int):Prop:=W.heap[b]? =some (.cells (mW e vo vd st x asks ep q vp cp) 103 (0,0))
section
variable {W W':World} {b:Nat} {e:aD} {vo vd x vp:Value} {st asks ep q cp:Int} {F:Nat->Prop}
theorem bh.cell (h:bh W b e vo vd st x asks ep q vp cp) {j:Nat} {v:Value} (hv:(mW e vo vd st x asks ep q vp cp)[j]? =some v):W.cell? ⟨b,j,none⟩=some v:=by rw[cell_of_row _ _ j _ _ _ h,hv]
theorem bh.qj (h:bh W b e vo vd st x asks ep q vp cp):W.cell? ⟨b,0,none⟩=some (.int .i64 e.kind)/\W.cell? ⟨b,1,none⟩=some (.int .i64 e.au)/\W.cell? ⟨b,2,none⟩=some (.int .i64 e.other)/\W.cell? ⟨b,3,none⟩=some (.int .i64 e.server)/\W.cell? ⟨b,4,none⟩=some (.int .i64 e.bF)/\W.cell? ⟨b,5,none⟩=some (.int .i64 e.seq)/\
 W.cell? ⟨b,6,none⟩=some vo/\W.cell? ⟨b,7,none⟩=some (.string e.key)/\W.cell? ⟨b,8,none⟩=some (.int .i64 e.upto)/\W.cell? ⟨b,9,none⟩=some (.int .i64 e.part)/\W.cell? ⟨b,10,none⟩=some (.int .i64 e.parts)/\W.cell? ⟨b,11,none⟩=some vd:=
 ⟨h.cell rfl,h.cell rfl,h.cell rfl,h.cell rfl,h.cell rfl,h.cell rfl,h.cell rfl,h.cell rfl,h.cell rfl,h.cell rfl,h.cell rfl,h.cell rfl⟩
theorem bh.rest (h:bh W b e vo vd st x asks ep q vp cp):W.cell? ⟨b,12,none⟩=some (.int .i64 st)/\W.cell? ⟨b,13,none⟩=some x/\W.cell? ⟨b,14,none⟩=some (.int .i64 asks)/\W.cell? ⟨b,15,none⟩=some (.int .i64 ep)/\W.cell? ⟨b,16,none⟩=some (.int .i64 q)/\W.cell? ⟨b,17,none⟩=some vp/\W.cell? ⟨b,18,none⟩=some (.int .i64 cp):=
 ⟨h.cell rfl,h.cell rfl,h.cell rfl,h.cell rfl,h.cell rfl,h.cell rfl,h.cell rfl⟩
theorem bh.free (h:bh W b e vo vd st x asks ep q vp cp) (i:Nat):W.frozen? ⟨b,i,none⟩=false:=frozen_of_row _ _ i _ _ h
theorem bh.lt (h:bh W b e vo vd st x asks ep q vp cp):b < W.heap.size:=by
 rcases Nat.lt_or_ge b W.heap.size with hlt|hge
 · exact hlt
 · unfold bh at h;rw[Array.getElem?_eq_none hge]at h;cases h
theorem bh.kept (h:bh W b e vo vd st x asks ep q vp cp) (hk:Kept F W W') (hF:¬F b):bh W' b e vo vd st x asks ep q vp cp:=hk.heap h hF
theorem bh.oK (h:bh W b e vo vd st x asks ep q vp cp) (s:Int):bh (W.setCell ⟨b,12,none⟩ (.int .i64 s)) b e vo vd s x asks ep q vp cp:=heap_setCell_same _ _ _ _ _ _ h
theorem bh.CE (h:bh W b e vo vd st x asks ep q vp cp) (y:Value):bh (W.setCell ⟨b,13,none⟩ y) b e vo vd st y asks ep q vp cp:=heap_setCell_same _ _ _ _ _ _ h
theorem bh.Cx (h:bh W b e vo vd st x asks ep q vp cp) (s:Int):bh (W.setCell ⟨b,14,none⟩ (.int .i64 s)) b e vo vd st x s ep q vp cp:=heap_setCell_same _ _ _ _ _ _ h
theorem bh.Cz (h:bh W b e vo vd st x asks ep q vp cp) (s:Int):bh (W.setCell ⟨b,15,none⟩ (.int .i64 s)) b e vo vd st x asks s q vp cp:=heap_setCell_same _ _ _ _ _ _ h
theorem bh.setAt (h:bh W b e vo vd st x asks ep q vp cp) (s:Int):bh (W.setCell ⟨b,16,none⟩ (.int .i64 s)) b e vo vd st x asks ep s vp cp:=heap_setCell_same _ _ _ _ _ _ h
theorem bh.CV (h:bh W b e vo vd st x asks ep q vp cp) (y:Value):bh (W.setCell ⟨b,17,none⟩ y) b e vo vd st x asks ep q y cp:=heap_setCell_same _ _ _ _ _ _ h
theorem bh.Cy (h:bh W b e vo vd st x asks ep q vp cp) (s:Int):bh (W.setCell ⟨b,18,none⟩ (.int .i64 s)) b e vo vd st x asks ep q vp s:=heap_setCell_same _ _ _ _ _ _ h
end
def uz (a:Nat->Addr) (K:ByteArray->Nat) (e:aD) (w:World) (en:Ending) (w':World):Prop:=
 Below w.heap.size w w'/\(((bO K e).2=0/\∃X vo vd,en= .returned (.tuple #[.pointer (some ⟨X,0,none⟩),.nilIface])/\w.heap.size<=X/\bh w' X e vo vd 1 .nilIface 0 0 (-1) (.slice none 0 0) 0/\mM w' w.heap.size e vo vd/\(∀k,vo.ownBlock=some k\/vd.ownBlock=some k->k≠X))\/
  ((bO K e).2≠0/\∃x,bf a x (bO K e).2/\en= .returned (.tuple #[.pointer none,x])))
theorem ua (a:Nat->Addr) (T:World->Prop) (K:ByteArray->Nat) (e:aD) (vo vd:Value) (B:Nat) (w:World) (hi:dY w B e vo vd) (hB:B<=w.heap.size) (hz:eh e) (hL:dI a T K w):
 Calls Tryz.prog 22 #[.agg (cj e vo vd)] w (uz a K e w):=by
 obtain⟨A,c,rfl,_,_⟩:=eV hi.1;obtain⟨Ad,cd,rfl,_,_,_⟩:=hi.2.form;have HB0:=ab (show Below w.heap.size w (bG w e (.slice A e.ops.length c) (.slice Ad e.data.length cd)) from(Below.refl _ _).alloc (Nat.le_refl _) _);have CB:=ab (pO a T K e _ _ B (bG w e (.slice A e.ops.length c) (.slice Ad e.data.length cd)) (hi.below (HB0.out.mono hB)) (Nat.le_trans hB HB0.out.size) hz (hL.below HB0.out));have CO:=ab (λW (h:Below w.heap.size w W)=>At e _ _ B W (hi.below (h.mono hB)) (Nat.le_trans hB h.size) hz);have X0:=ab (show cU (bG w e (.slice A e.ops.length c) (.slice Ad e.data.length cd)) w.heap.size e (.slice A e.ops.length c) (.slice Ad e.data.length cd) from heap_alloc_new w _);obtain⟨rr,hrr⟩:=aa (bO K e);rw[hrr]at CB;have HRR:=ab hrr;clear hi hB hL hz hrr;unfold bG cj at *
 go_enter Tryz.func22,Tryz.ntmps22
 go_wp2_with fail
 refine CB.out.mono ?_;rintro en w1 ⟨u1,x1,rfl,hu1,hx1,hb⟩;obtain⟨L1,k1⟩:=rr;simp only at hu1 hx1;have HB1:=ab (HB0.out.trans (hb.mono HB0.out.size));have X1:=X0.out.below hb;obtain⟨A1,c1,rfl,_,_,_⟩:=hu1.form;have HX1:=ab hx1;rcases id hx1 with⟨hk0,rfl⟩|⟨m,hm,hk1,rfl⟩
 rotate_left
 · subst hk1;clear hx1 hu1 hb X1 X0 CB CO
   go_wp2_with fail
   go_ret2
   refine⟨HB1.out,.inr ?_⟩;rw[HRR.out];exact⟨Nat.succ_ne_zero m,_,HX1.out,rfl⟩
 · subst hk0;obtain⟨k0,k1,k2,k3,k4,k5,k6,k7,k8,k9,k10,k11⟩:=X1.D8;have CO1:=ab (CO.out w1 HB1.out);clear hx1 hu1 hb X1 X0 CB CO
   go_wp2_with fail
   refine CO1.out.mono ?_;rintro en w2 ⟨vo2,vd2,rfl,hl,hb⟩;clear k0 k1 k2 k3 k4 k5 k6 k7 k8 k9 k10 k11;have HB2:=ab (HB1.out.trans (hb.mono HB1.out.size));have HL2:=ab hl;clear hb hl CO1
   go_wp2_with fail
   go_ret2
   have hz2:=HB2.out.size;refine⟨HB2.out.alloc (Nat.le_trans hz2 (Nat.le_refl _)) _,.inl ?_⟩;rw[HRR.out];have hbA:=(Below.refl w2.heap.size w2).alloc (Nat.le_refl _) (.cells (mW e vo2 vd2 1 .nilIface 0 0 (-1) (.slice none 0 0) 0) 103);refine⟨rfl,w2.heap.size,vo2,vd2,rfl,hz2,heap_alloc_new w2 _,⟨⟨(HL2.out.1.1.below hbA).more hbA.size,(HL2.out.1.2.below hbA).more hbA.size⟩,λk ek=> ?_⟩,λk ek=> ?_⟩
   · have:=HL2.out.2 k ek;have:=HB1.out.size;rw[World.size_alloc];omega
   · have:=HL2.out.2 k ek;omega
end Go.Proofs.YtdilnodbfnlhdaaGreatDoor
namespace Go.Proofs.YtdilnodbfnlhdaaGreatDoor
open Go.RowKit Tide
def pc (a:Nat->Addr) (W:World) (F:Nat->Prop) (st:Option (List UInt8)) (e:Ending) (w':World):Prop:=
 ∃v x,e= .returned (.tuple #[v,x])/\w'.ownsRow W.heap.size 5 1 v (dA st).1.length (aj (dA st).1)/\bf a x (dA st).2/\Kept F W w'
theorem n6 (w:World) (n:Nat):w.ownsRow n 5 1 (.slice none 0 0) (([]:List UInt8).length) (aj []):=⟨by simp[aj],.inl ⟨rfl,rfl⟩⟩
theorem zG (a:Nat->Addr) (W:World) (F:Nat->Prop) (p:Nat) (st:Option (List UInt8)) (n:Nat) (h:bg a W F p st n):
 Calls Tryz.prog 106 #[.pointer (some ⟨p,0,none⟩)] W (pc a W F st):=by
 have herr:∀ (v:Value) (m:Nat),m < 19->aH W p 204 v (ai (a m))->dA st=([],m+1)->Calls Tryz.prog 106 #[.pointer (some ⟨p,0,none⟩)] W (pc a W F st):=λv m hm h3 hd=>by
  have HD:=ab hd;obtain⟨_,g0,g1,gf⟩:=h3.facts;clear hd h3 h
  go_enter Tryz.func106,Tryz.ntmps106
  go_wp2_with fail
  go_quiet (fail)
  go_wp2_with fail
  go_ret2
  exact⟨_,_,rfl,by rw[HD.out];exact n6 _ _,by rw[HD.out];exact bo a m hm,⟨rfl,rfl,rfl,Nat.le_refl _,λ_ _ _=>rfl⟩⟩
 obtain⟨h1,h2,hA,v,x,h3,h4,h5⟩:=h;cases st with
 | none=>obtain⟨rfl,rfl⟩:=h5;exact herr _ 0 (by omega) h3 rfl
 | some q=>
   by_cases hq:q.length<=65536
   · rw[iX a W v x hq]at h5;obtain⟨rfl,hown⟩:=h5;have HD:=ab (show dA (some q)=(q,0) from if_pos hq);have cC:=ab (gP v q W.heap.size W (Bytes.dm hown) (Nat.le_refl _) (by omega));obtain⟨A,c,rfl⟩:=iD hown;obtain⟨_,g0,g1,gf⟩:=h3.facts;clear herr hown h3 hq
     go_enter Tryz.func106,Tryz.ntmps106
     go_wp2_with fail
     refine cC.out.mono ?_;rintro e w1 ⟨v1,rfl,ho,hb⟩;have HO:=ab ho;have HB:=ab hb;clear ho hb
     go_wp2_with fail
     go_ret2
     exact⟨_,_,rfl,by rw[HD.out];exact HO.out,by rw[HD.out];exact ec a,Kept.al HB.out⟩
   · rw[jO a W v x hq]at h5;obtain⟨rfl,rfl⟩:=h5;exact herr _ 2 (by omega) h3 (if_neg hq)
end Go.Proofs.YtdilnodbfnlhdaaGreatDoor
