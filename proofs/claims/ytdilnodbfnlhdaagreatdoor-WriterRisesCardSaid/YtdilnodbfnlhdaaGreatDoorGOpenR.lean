import Derived.Test.YtdilnodbfnlhdaaGreatDoorGWrB
import Derived.Test.YtdilnodbfnlhdaaGreatDoorGUiR
import Derived.Test.YtdilnodbfnlhdaaGreatDoorGEntS
import Derived.Test.YtdilnodbfnlhdaaGreatDoorGOpenAg
import Derived.Lib.SmallJoins
import Derived.ChangeArms
namespace Go.Proofs.YtdilnodbfnlhdaaGreatDoor
open Go Go.Joins Go.ChangeShapes Go.WideShapes Go.ChangeAt Go.RowKit Go.Deep Tide
section
variable {H:Type} {enc:TypeId × Value->H} {P:Program} {W:World}
theorem sa {α β:Type} {f:α->β}:∀es:List β,(∀x ∈ es,∃d,x=f d)->∃ds:List α,es=ds.map f
 | [],_=>⟨[],rfl⟩
 | x :: es,h=>by obtain⟨d,hd⟩:=h x (by simp);obtain⟨ds,hl⟩:=sa es (λy hy=>h y (by simp[hy]));exact⟨d :: ds,by rw[hd,hl];rfl⟩
theorem xt {x:List Value} {a b c d e:Value} (hl:x.length=5) (h0:x[0]? =some a) (h1:x[1]? =some b) (h2:x[2]? =some c) (h3:x[3]? =some d) (h4:x[4]? =some e):x= [a,b,c,d,e]:=by
 match x,hl with
 | [p,q,r,s,t],_=>simp at h0 h1 h2 h3 h4;subst h0 h1 h2 h3 h4;rfl
theorem zR {t e:TypeId} {v:Value} {d:DataW H} {p:List MemPlace} (ht:P.underlying t=some (.slice e)) (he:P.underlying e=some (.int .u8)) (hc:P.cellsOf e=1)
 (hsl:∃a l c,v= .slice a l c) (h:DataW.Trod enc P W 0 (λ_=>true) true t v d p):∃l,Bytes W W.heap.size v l:=by
 obtain⟨a0,len0,cap0,rfl⟩:=hsl;obtain⟨fuel,hf⟩:=h;rcases open_ints ht he hc hf with⟨hcs,_⟩|⟨a,len,cap,zs,hcs,_,hl,hm,hz,_,hcell,hwz⟩
 · have:Value.slice a0 len0 cap0= .slice none 0 0:=by simpa[Value.cells]using hcs
   rw[this];exact⟨[],vQ W _⟩
 · have:Value.slice a0 len0 cap0= .slice (some a) len cap:=by simpa[Value.cells]using hcs
   rw[this];simp only[if_true]at hz;exact⟨_,Ck hl hm (by omega) hwz (λi hi=>hcell i (by omega))⟩
end
end Go.Proofs.YtdilnodbfnlhdaaGreatDoor
namespace Go.Proofs.YtdilnodbfnlhdaaGreatDoor
open Go Go.ChangeShapes Go.WideShapes Go.ChangeAt Go.RowKit Go.Deep Tide
theorem rZ {α β:Type} {R:α->β->Prop}:∀es:List β,(∀x ∈ es,∃d,R d x)->∃ds:List α,es.length=ds.length/\∀i (h:i < ds.length),∃e,es[i]? =some e/\R ds[i] e
 | [],_=>⟨[],rfl,λi h=>by simp at h⟩
 | x :: es,h=>by
   obtain⟨d,hd⟩:=h x (by simp);obtain⟨ds,hl,hr⟩:=rZ es (λy hy=>h y (by simp[hy]));refine⟨d :: ds,by simp[hl],λi hi=> ?_⟩;rcases i with _|i
   · exact⟨x,rfl,hd⟩
   · exact hr i (by simpa using hi)
section
variable {H:Type} {enc:TypeId × Value->H} {P:Program} {W:World}
end
end Go.Proofs.YtdilnodbfnlhdaaGreatDoor
namespace Go.Proofs.YtdilnodbfnlhdaaGreatDoor
open Go Go.ChangeShapes Go.WideShapes Go.ChangeAt Go.RowKit Go.Deep Tide
section
variable {H:Type} {enc:TypeId × Value->H} {P:Program} {W:World}
theorem zX {t e:TypeId} {K:Nat} {v:Value} {d:DataW H} {p:List MemPlace} (ht:P.underlying t=some (.slice e)) (hC:P.cellsOf e=K) (hpos:0 < K)
 {base:Nat} (hok:Value.okWide P W .any base t v) (h:DataW.Trod enc P W 0 (λ_=>true) true t v d p):
 ∃es,bQ W W.heap.size v K es/\∀x ∈ es,x.length=K/\∃ (n:Nat) (y:DataW H × List MemPlace),DataW.trod enc P W 0 (λ_=>true) true n e x=some y:=by
 obtain⟨a0,len0,cap0,rfl⟩:=okWide_slice ht hok;obtain⟨fuel,hf⟩:=h;rcases open_slice ht hf with⟨hcs,_⟩|⟨a,len,cap,m,n,D,Pl,hcs,_,hl,hm,hmm,_,hx⟩
 · have:Value.slice a0 len0 cap0= .slice none 0 0:=by simpa[Value.cells]using hcs
   rw[this];exact⟨[],⟨by simp,none,0,rfl,λh=>absurd rfl h⟩,λx hx=>by cases hx⟩
 · have:Value.slice a0 len0 cap0= .slice (some a) len cap:=by simpa[Value.cells]using hcs
   rw[this];simp only[if_true]at hmm;rw[hmm]at hx;clear hmm;unfold maxLen at hm;obtain⟨C,hCh⟩:=choose_lt (α:=List Value) (p:=λi cs=>W.cells? 0 (a.add (i * P.cellsOf e)) (P.cellsOf e)=some cs/\DataW.trod enc P W 0 (λ_=>true) true n e cs=some (D i,Pl i)) hx;have hmem:∀i,i < len->(C i).length=K/\(∀j,j < K->W.cell? (a.add (i * K+j))=(C i)[j]?)/\∃ (n:Nat) (y:DataW H × List MemPlace),DataW.trod enc P W 0 (λ_=>true) true n e (C i)=some y:=by intro i hi;obtain⟨h1,h2⟩:=hCh i (by omega);rw[hC]at h1;obtain⟨_,hlen,hat⟩:=World.cells?_some h1;refine⟨hlen,λj hj=> ?_,n,_,h2⟩;rw[<-Go.Deep.add_add];exact hat j hj
   refine⟨(List.range len).map C,⟨by simp;omega,some a,cap,by simp,λhne=> ?_⟩,λx hx=> ?_⟩
   · have hlp:0 < len:=by
      rcases Nat.eq_zero_or_pos len with h0|h0
      · subst h0;exact absurd rfl hne
      · exact h0
     obtain⟨b,off,spot⟩:=a;obtain⟨hl0,hc0,_⟩:=hmem 0 hlp;have hc00:=hc0 0 hpos;rw[List.getElem?_eq_getElem (by omega)]at hc00;have hspot:spot=none:=by simpa[Addr.add]using World.cell?_spot hc00
     subst hspot;rw[da]at hc00;refine⟨b,off,rfl,World.block_lt_of_cell? _ _ hc00,λi j e u he hu=> ?_⟩;have hi:i < len:=by have:=(List.getElem?_eq_some_iff.1 he).1;simpa using this
     simp[hi]at he;subst he;obtain⟨h1,h2,_⟩:=hmem i hi;have hj:j < K:=by rw[<-h1];exact(List.getElem?_eq_some_iff.1 hu).1
     have:=h2 j hj;rw[da]at this;rw[this,hu]
   · simp only[List.mem_map,List.mem_range]at hx;obtain⟨i,hi,rfl⟩:=hx;exact⟨(hmem i hi).1,(hmem i hi).2.2⟩
theorem eL {e:TypeId} {fs:Array Field} {x:List Value} {n:Nat} {y:DataW H × List MemPlace} (he:P.underlying e=some (.struct fs)) (h:DataW.trod enc P W 0 (λ_=>true) true n e x=some y) (j:Nat) (f:Field) (hj:fs[j]? =some f):
 ∃ (n':Nat) (z:DataW H × List MemPlace),DataW.trod enc P W 0 (λ_=>true) true n' f.type ((x.drop f.offset).take (P.cellsOf f.type))=some z:=by
 obtain⟨xs,n',_,_,_,hxl,hfs⟩:=DataW.trod_struct he h;have hjl:j < fs.size:=(Array.getElem?_eq_some_iff.1 hj).1;have h3:=hfs j f hj;exact⟨n',_,by rw[h3,List.getElem?_eq_getElem (by omega)]⟩
theorem zP {t e te tp eo tb eb:TypeId} {f0 f1 f2 f3 g0 g1 g2 g3 g4 g5 g6 g7 g8 g9 g10 g11 h0 h1 h2 h3 h4:Field} {v:Value} {d:DataW H} {p:List MemPlace}
 (ht:P.underlying t=some (.slice e)) (he:P.underlying e=some (.struct #[f0,f1,f2,f3])) (hC:P.cellsOf e=15)
 (l0:f0.offset=0/\P.cellsOf f0.type=1) (l1:f1.offset=1/\P.cellsOf f1.type=1) (l2:f2.offset=2/\P.cellsOf f2.type=1) (l3:f3.offset=3/\P.cellsOf f3.type=12)
 (a0:P.underlying f0.type=some (.int .i64)) (a1:P.underlying f1.type=some (.int .i64)) (a2:P.underlying f2.type=some (.int .i64)) (a3:f3.type=te)
 (hs:P.underlying te=some (.struct #[g0,g1,g2,g3,g4,g5,g6,g7,g8,g9,g10,g11])) (hone:oneCellFields P #[g0,g1,g2,g3,g4,g5,g6,g7,g8,g9,g10,g11]=true)
 (i0:P.underlying g0.type=some (.int .i64)) (i1:P.underlying g1.type=some (.int .i64)) (i2:P.underlying g2.type=some (.int .i64)) (i3:P.underlying g3.type=some (.int .i64)) (i4:P.underlying g4.type=some (.int .i64)) (i5:P.underlying g5.type=some (.int .i64)) (i8:P.underlying g8.type=some (.int .i64)) (i9:P.underlying g9.type=some (.int .i64)) (i10:P.underlying g10.type=some (.int .i64)) (k7:P.underlying g7.type=some .string)
 (k6:g6.type=tp) (kt:P.underlying tp=some (.slice eo)) (ke:P.underlying eo=some (.struct #[h0,h1,h2,h3,h4])) (hone2:oneCellFields P #[h0,h1,h2,h3,h4]=true) (hC2:P.cellsOf eo=5)
 (j0:P.underlying h0.type=some (.int .i64)) (j1:P.underlying h1.type=some .string) (j2:P.underlying h2.type=some .string) (j3:P.underlying h3.type=some .string) (j4:P.underlying h4.type=some (.int .i64))
 (k11:g11.type=tb) (kb:P.underlying tb=some (.slice eb)) (ku:P.underlying eb=some (.int .u8)) (hc8:P.cellsOf eb=1)
 {base:Nat} (hok:Value.okWide P W .any base t v) (h:DataW.Trod enc P W 0 (λ_=>true) true t v d p):∃ks,o8 W W.heap.size v ks:=by
 obtain⟨es,hr,hx⟩:=zX ht hC (by omega) hok h;obtain⟨ks,hl,hks⟩:=rZ (R:=λ(k:kV) (x:List Value)=>∃vo vd,x=(pz k vo vd).toList/\dY W W.heap.size k.e vo vd) es (λx hxm=>by
  obtain⟨hlen,n,y,hty⟩:=hx x hxm
  match x,hlen with
  | [c0,c1,c2,c3,c4,c5,c6,c7,c8,c9,c10,c11,c12,c13,c14],_=>
    obtain⟨n0,y0,t0⟩:=eL he hty 0 f0 rfl;obtain⟨n1,y1,t1⟩:=eL he hty 1 f1 rfl;obtain⟨n2,y2,t2⟩:=eL he hty 2 f2 rfl;obtain⟨n3,y3,t3⟩:=eL he hty 3 f3 rfl;rw[l0.1,l0.2]at t0;rw[l1.1,l1.2]at t1;rw[l2.1,l2.2]at t2;rw[l3.1,l3.2,a3]at t3;obtain⟨m0,z0,s0⟩:=eL hs t3 0 g0 rfl;rw[(hone_of hone 0 g0 rfl).1,(hone_of hone 0 g0 rfl).2]at s0;obtain⟨m1,z1,s1⟩:=eL hs t3 1 g1 rfl;rw[(hone_of hone 1 g1 rfl).1,(hone_of hone 1 g1 rfl).2]at s1;obtain⟨m2,z2,s2⟩:=eL hs t3 2 g2 rfl;rw[(hone_of hone 2 g2 rfl).1,(hone_of hone 2 g2 rfl).2]at s2;obtain⟨m3,z3,s3⟩:=eL hs t3 3 g3 rfl;rw[(hone_of hone 3 g3 rfl).1,(hone_of hone 3 g3 rfl).2]at s3;obtain⟨m4,z4,s4⟩:=eL hs t3 4 g4 rfl;rw[(hone_of hone 4 g4 rfl).1,(hone_of hone 4 g4 rfl).2]at s4;obtain⟨m5,z5,s5⟩:=eL hs t3 5 g5 rfl;rw[(hone_of hone 5 g5 rfl).1,(hone_of hone 5 g5 rfl).2]at s5;obtain⟨m6,z6,s6⟩:=eL hs t3 6 g6 rfl;rw[(hone_of hone 6 g6 rfl).1,(hone_of hone 6 g6 rfl).2]at s6;obtain⟨m7,z7,s7⟩:=eL hs t3 7 g7 rfl;rw[(hone_of hone 7 g7 rfl).1,(hone_of hone 7 g7 rfl).2]at s7;obtain⟨m8,z8,s8⟩:=eL hs t3 8 g8 rfl;rw[(hone_of hone 8 g8 rfl).1,(hone_of hone 8 g8 rfl).2]at s8;obtain⟨m9,z9,s9⟩:=eL hs t3 9 g9 rfl;rw[(hone_of hone 9 g9 rfl).1,(hone_of hone 9 g9 rfl).2]at s9;obtain⟨m10,z10,s10⟩:=eL hs t3 10 g10 rfl;rw[(hone_of hone 10 g10 rfl).1,(hone_of hone 10 g10 rfl).2]at s10;obtain⟨m11,z11,s11⟩:=eL hs t3 11 g11 rfl;rw[(hone_of hone 11 g11 rfl).1,(hone_of hone 11 g11 rfl).2]at s11;obtain⟨b0,rfl,_,_⟩:=eU a0 (show DataW.trod enc P W 0 (λ_=>true) true n0 f0.type [c0]=some y0 from t0);obtain⟨b1,rfl,_,_⟩:=eU a1 (show DataW.trod enc P W 0 (λ_=>true) true n1 f1.type [c1]=some y1 from t1);obtain⟨b2,rfl,_,_⟩:=eU a2 (show DataW.trod enc P W 0 (λ_=>true) true n2 f2.type [c2]=some y2 from t2);obtain⟨q0,rfl,_,_⟩:=eU i0 (show DataW.trod enc P W 0 (λ_=>true) true m0 g0.type [c3]=some z0 from s0);obtain⟨q1,rfl,_,_⟩:=eU i1 (show DataW.trod enc P W 0 (λ_=>true) true m1 g1.type [c4]=some z1 from s1);obtain⟨q2,rfl,_,_⟩:=eU i2 (show DataW.trod enc P W 0 (λ_=>true) true m2 g2.type [c5]=some z2 from s2);obtain⟨q3,rfl,_,_⟩:=eU i3 (show DataW.trod enc P W 0 (λ_=>true) true m3 g3.type [c6]=some z3 from s3);obtain⟨q4,rfl,_,_⟩:=eU i4 (show DataW.trod enc P W 0 (λ_=>true) true m4 g4.type [c7]=some z4 from s4);obtain⟨q5,rfl,_,_⟩:=eU i5 (show DataW.trod enc P W 0 (λ_=>true) true m5 g5.type [c8]=some z5 from s5);obtain⟨q8,rfl,_,_⟩:=eU i8 (show DataW.trod enc P W 0 (λ_=>true) true m8 g8.type [c11]=some z8 from s8)
    obtain⟨q9,rfl,_,_⟩:=eU i9 (show DataW.trod enc P W 0 (λ_=>true) true m9 g9.type [c12]=some z9 from s9);obtain⟨q10,rfl,_,_⟩:=eU i10 (show DataW.trod enc P W 0 (λ_=>true) true m10 g10.type [c13]=some z10 from s10);obtain⟨s,rfl⟩:=lN k7 (show DataW.trod enc P W 0 (λ_=>true) true m7 g7.type [c10]=some z7 from s7);have s6':DataW.trod enc P W 0 (λ_=>true) true m6 g6.type [c9]=some z6:=s6;have s11':DataW.trod enc P W 0 (λ_=>true) true m11 g11.type [c14]=some z11:=s11;rw[k6]at s6';rw[k11]at s11';obtain⟨A6,n6',c6',rfl⟩:=tc kt s6';obtain⟨A11,n11',c11',rfl⟩:=tc kb s11';obtain⟨os,hro,hxo⟩:=zW kt ke hone2 hC2 (by simp) ⟨_,_,_,rfl⟩ ⟨m6,by simpa[Value.cells]using s6'⟩;obtain⟨l,hb⟩:=zR kb ku hc8 ⟨_,_,_,rfl⟩ ⟨m11,by simpa[Value.cells]using s11'⟩;obtain⟨ops,hops⟩:=sa (f:=bc) os (λx hxm=>by obtain⟨hlen,hf⟩:=hxo x hxm;obtain⟨u0,w0,p0,e0,r0⟩:=hf 0 h0 rfl;obtain⟨u1,w1,p1,e1,r1⟩:=hf 1 h1 rfl;obtain⟨u2,w2,p2,e2,r2⟩:=hf 2 h2 rfl;obtain⟨u3,w3,p3,e3,r3⟩:=hf 3 h3 rfl;obtain⟨u4,w4,p4,e4,r4⟩:=hf 4 h4 rfl;obtain⟨z0,rfl,_⟩:=eU j0 r0;obtain⟨s1,rfl⟩:=lN j1 r1;obtain⟨s2,rfl⟩:=lN j2 r2;obtain⟨s3,rfl⟩:=lN j3 r3;obtain⟨z4,rfl,_⟩:=eU j4 r4;exact⟨⟨z0,s1,s2,s3,z4⟩,xt hlen e0 e1 e2 e3 e4⟩);subst hops;exact⟨⟨b0,b1,b2,⟨q0,q1,q2,q3,q4,q5,ops,s,q8,q9,q10,l⟩⟩,_,_,rfl,hro,hb⟩)
 obtain⟨hn,A,c,rfl,hc⟩:=hr;refine⟨ks,by omega,A,c,by rw[hl],λk hk=> ?_⟩;obtain⟨x,hxk,vo,vd,rfl,hli⟩:=hks k hk;obtain⟨b,o,rfl,hb,hcell⟩:=hc (by intro e;rw[e]at hl;simp at hl;omega);refine⟨b,o,vo,vd,rfl,hb,λj u hu=> ?_,hli⟩;rw[Nat.add_assoc];exact hcell k j _ u hxk (by simpa using hu)
end
end Go.Proofs.YtdilnodbfnlhdaaGreatDoor
