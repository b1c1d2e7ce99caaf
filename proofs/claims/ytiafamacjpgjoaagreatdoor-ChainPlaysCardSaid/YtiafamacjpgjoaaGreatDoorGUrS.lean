import Derived.Test.YtiafamacjpgjoaaGreatDoorGUrG
import Derived.Test.YtiafamacjpgjoaaGreatDoorGSgA
import Derived.Test.YtiafamacjpgjoaaGreatDoorGConv
import Derived.Test.YtiafamacjpgjoaaGreatDoorGMem
import Derived.Test.YtiafamacjpgjoaaGreatDoorGKeep
import Derived.Test.YtiafamacjpgjoaaGreatDoorGApp
import Derived.WalkKit
import Derived.WalkSpells
import Derived.IntWalk
set_option maxHeartbeats 2000000
set_option maxRecDepth 100000
namespace Go.Proofs.YtiafamacjpgjoaaGreatDoor
open Go.RowKit Tide
def iE (l:List UInt8) (w:World) (e:Ending) (w':World):Prop:=∃v,e= .returned v/\w'.ownsRow w.heap.size 5 1 v l.length (al l)/\Below w.heap.size w w'
theorem tg (w:World) (base g:Nat) (n:Int) (c:UInt8) (hg:g=w.heap.size) (hb:base<=w.heap.size) (h:n=(c.toNat:Int)):
 (w.alloc (.cells #[.int .u8 n] 5)).ownsRow base 5 1 (.slice (some ⟨g,0,none⟩) 1 1) 1 (al [c]):=
 jr _ _ _ _ _ _ _ _ hg hb (Nat.le_refl _) (by simp[maxLen]) rfl (by rw[h];rfl)
theorem zS (n:Nat) (h:n < 128):((n:Int) % 256)=((UInt8.ofNat n).toNat:Int):=by rw[UInt8.toNat_ofNat_of_lt' (show n < 256 by omega)];omega
theorem yV (n:Nat):(n:Int) % 128+128=((UInt8.ofNat (n % 128+128)).toNat:Int):=by rw[UInt8.toNat_ofNat_of_lt' (show n % 128+128 < 256 by omega)];omega
theorem iQ:∀ (n:Nat) (w:World),n < 2 ^ 62->Calls Tryz.prog 64 #[.int .i64 (n:Nat)] w (iE (aq n) w)
 | n,w,hn=>by
   obtain⟨i0,hi,hz0,hz1,hz2⟩:=info_parts fW;have HI:=ab hi;clear hi;by_cases h0:n < 128
   · have HN:=ab (gQ h0);have HO:=ab (tg w w.heap.size w.heap.size _ _ rfl (Nat.le_refl _) (zS n h0));have hq:decide ((n:Int) < 128)=true:=by simp;omega
     clear h0
     go_enter Tryz.func64,Tryz.ntmps64
     go_wp2_with fail
     go_ret
     exact⟨_,rfl,by rw[HN.out];exact HO.out,(Below.refl _ _).alloc (Nat.le_refl _) _⟩
   · have HN:=ab (jH h0);have HO:=ab (tg w w.heap.size w.heap.size _ _ rfl (Nat.le_refl _) (yV n));have ih:=ab (λW=>iQ (n / 128) W (by omega));have HL:=ab (fY (show n / 128 < 2 ^ 62 by omega));have HN2:=ab (show aq n= [UInt8.ofNat (n % 128+128)] ++ aq (n / 128) from HN.out);have hq:decide ((n:Int) < 128)=false:=by simp;omega
     clear h0
     go_enter Tryz.func64,Tryz.ntmps64
     go_wp2_with fail
     refine(ih.out _).mono ?_;rintro e w1 ⟨v,rfl,hown,hb⟩;have HO1:=ab (bf HO.out hb);have HR:=ab (Row.cm hown (Nat.le_refl _));have HB:=ab (((Below.refl w.heap.size w).alloc (Nat.le_refl _) _).trans (hb.mono (by simp)));clear hown hb;clear HN;generalize aq n=r at *;generalize aq (n / 128)=l at *;generalize UInt8.ofNat (n % 128+128)=c at *
     go_wp2_with (at_builtin;refine vh _ rfl (.tmp 12) (.tmp 15) _ rfl w.heap.size 5 i0 Tryz.underlying47 HI.out hz0 hz1 hz2 _ [c] rfl HO1.out w1.heap.size _ l rfl HR.out r HN2.out ?d2 ?d3 ?_)
     case d2=>have:=HL.out;simp;omega
     case d3=>exact HB.out.size
     intro v4 w4 hown4 hg4 _;have hb5:=HB.out.grown hg4 HB.out.size (λg hg=>by simp[Value.ownBlock]at hg;omega);have HO4:=ab hown4;clear hown4 hg4
     go_wp2_with fail
     go_ret
     exact⟨_,rfl,HO4.out,hb5⟩
termination_by n=>n
decreasing_by omega
theorem Ee {s:ByteArray} (hs:s.size<=65536):(aq s.size).length<=9:=fY (by omega)
theorem Dg (s:ByteArray) (w:World) (hs:s.size<=65536):Calls Tryz.prog 125 #[.string s] w (iE (eB s) w):=by
 obtain⟨i0,hi,hz0,hz1,hz2⟩:=info_parts fW;have HI:=ab hi;have HL:=ab (Ee hs);have cN:=iQ s.size w (by omega);have HX:=ab (show eB s=aq s.size ++ s.data.toList from rfl);clear hi;generalize aq s.size=l at *;generalize eB s=r at *
 go_enter Tryz.func125,Tryz.ntmps125
 go_wp2_with fail
 refine cN.mono ?_;rintro e w1 ⟨v,rfl,hown,hb⟩;have HO1:=ab hown;have HB:=ab hb;clear hown hb cN
 go_wp2_with (at_builtin;refine vj _ rfl (.tmp 5) (.tmp 6) _ _ rfl w.heap.size 5 i0 Tryz.underlying47 Tryz.underlying9 HI.out hz0 hz1 hz2 v l rfl HO1.out s rfl r HX.out ?d1 ?d2 ?_)
 case d1=>have:=HL.out;omega
 case d2=>exact HB.out.size
 intro v4 w4 hown4 hg4 _;have hb5:=HB.out.grown hg4 HB.out.size (λg hg=>(HO1.out.lt g hg).1);have HO4:=ab hown4;clear hown4 hg4
 go_wp2_with fail
 go_ret
 exact⟨_,rfl,HO4.out,hb5⟩
end Go.Proofs.YtiafamacjpgjoaaGreatDoor
namespace Go.Proofs.YtiafamacjpgjoaaGreatDoor
open Go Go.RowKit Tide
theorem dX.sS {w:World} {B:Nat} {v v2 v3:Value} {l l2 l3:List UInt8} (e:TypeId) (g:Nat) (hg:g=w.heap.size) (hB:B<=w.heap.size) (h:Bytes w B v l) (h2:Bytes w B v2 l2) (h3:Bytes w B v3 l3):
 dX (w.alloc (.cells #[v,v2,v3] e)) (w.heap.size+1) (.slice (some ⟨g,0,none⟩) 3 3) [l,l2,l3]:=
 ⟨[v,v2,v3],Row.new w e #[v,v2,v3] (0,0) g 3 hg rfl (by omega),rfl,λi u p hu hp=>by
   have hj:=(List.getElem?_eq_some_iff.1 hu).1;have:i=0\/i=1\/i=2:=by simp at hj;omega
   rcases this with rfl|rfl|rfl
   · simp at hu hp;subst hu hp;exact(h.alloc hB).more (by omega)
   · simp at hu hp;subst hu hp;exact(h2.alloc hB).more (by omega)
   · simp at hu hp;subst hu hp;exact(h3.alloc hB).more (by omega)⟩
theorem po {w:World} {B:Nat} {v:Value} {ps:List (List UInt8)} (hB:B<=w.heap.size) (hp:dX w B v ps) (hl:ps.length<=10) (hs:∀p ∈ ps,p.length<=100000):Calls Tryz.prog 63 #[v] w (iE ps.flatten w):=by
 obtain⟨i0,hi,hz0,hz1,hz2⟩:=info_parts fW;have HI:=ab hi;obtain⟨hlen,A,c,rfl,hcell⟩:=hp.form;clear hi;have HP:=ab hp;have HC:=ab hcell;obtain⟨L,hL⟩:=aa ps.length;have HL:=ab hL;have HS:=ab hs;have hl':L<=10:=by omega
 rw[hL];have hst:(w.alloc (.cells #[] 5)).ownsRow w.heap.size 5 1 (.slice (some ⟨w.heap.size,0,none⟩) 0 0) ([]:List UInt8).length (al []):=jr _ _ _ _ _ _ _ _ rfl (Nat.le_refl _) (Nat.le_refl _) (by simp[maxLen]) rfl rfl;have HSt:=ab hst;clear hp hcell hL hl hs hlen hst
 go_enter Tryz.func63,Tryz.ntmps63
 go_wp2_with fail
 go_loopw [9,3] (λi s3 wr=>∃ (j:Nat) (l1:List UInt8),i= .int .i64 j/\j<=L/\Hid ((ps.take j).flatten=l1)/\Hid (wr.ownsRow w.heap.size 5 1 s3 l1.length (al l1))/\Hid (Below w.heap.size w wr)) (λi _ _=>L - (intOf i).toNat)
 case atStart=>exact⟨0, [],rfl,Nat.zero_le _,ab rfl,HSt,ab ((Below.refl _ _).alloc (Nat.le_refl _) _)⟩
 case round=>
  obtain⟨j,l1,rfl,hj,hl1,ho,hb⟩:=hrel;by_cases hlj:j < L
  · have hjp:j < ps.length:=by rw[HL.out];exact hlj
    obtain⟨b,o,y,rfl,d0,hy⟩:=HC.out j hjp;obtain⟨vs,hrow,_,_⟩:=HP.out;have hbw:b < w.heap.size:=by obtain⟨_,A',c',e1,_,_,h3⟩:=hrow;injection e1 with e2 e3 _;obtain⟨b',o',e4,h5,_⟩:=h3 (by intro e;rw[e]at e3;have:=HL.out;have e5:ps.length=0:=e3;omega);rw[e4]at e2;injection e2 with e2;injection e2 with e2;omega
    have d0':=(hb.out.cell (p:=⟨b,o+j,none⟩) hbw).trans d0;have HY:=ab ((hy.more hB).below hb.out);have hlen2:(ps.take j).flatten.length<=1000000:=by
     have h1:(ps.take j).length<=10:=by rw[List.length_take];omega
     have h2:∀q ∈ ps.take j,q.length<=100000:=λq hq=>HS.out q (List.mem_of_mem_take hq);rw[List.length_flatten];have:∀ (l:List (List UInt8)),(∀q ∈ l,q.length<=100000)->(l.map List.length).sum<=100000 * l.length:=by
      intro l
      induction l with
      | nil=>intro _;simp
      | cons x t ih=>intro h;have:=ih (λq hq=>h q (List.mem_cons_of_mem _ hq));have:=h x List.mem_cons_self;simp only[List.map_cons,List.sum_cons,List.length_cons];omega
     have:=this _ h2;omega
    have hl3:=HS.out _ (List.getElem_mem hjp);have HT:=ab (show(ps.take (j+1)).flatten=(ps.take j).flatten ++ ps[j] by rw[List.take_succ_eq_append_getElem hjp,List.flatten_append];simp);obtain⟨l2,hl2⟩:=aa (ps[j]);rw[hl1.out]at hlen2 HT;rw[hl2]at HY hl3 HT;have HLn:=ab (And.intro hlen2 hl3);obtain⟨l3,hl4⟩:=aa (l1 ++ l2);rw[hl4]at HT;have HE:=ab hl4.symm;clear hl2 hlen2 hl3 hrow hy d0 hl4
    go_wp2_with (at_builtin;refine vh _ rfl (.tmp 13) (.tmp 14) _ rfl w.heap.size 5 i0 Tryz.underlying47 HI.out hz0 hz1 hz2 _ l1 rfl ho.out w.heap.size y l2 rfl HY.out l3 HE.out ?d1 ?d2 ?_)
    case d1=>have:=HLn.out;omega
    case d2=>exact hb.out.size
    intro v' w' k1 k2 _;have HO2:=ab k1;have HB2:=ab (hb.out.grown k2 hb.out.size (λk e=>(ho.out.lt k e).1));clear k1 k2
    go_wp2_with fail
    go_roundw
    case rel=>exact⟨j+1,_,by go_num,by omega,HT,HO2,HB2⟩
    case measure=>simp[intOf];omega
  · have hje:j=L:=by omega
    subst hje;have HT:=ab (show ps.flatten=l1 by rw[<-hl1.out,<-HL.out,List.take_length])
    go_wp2_with fail
    go_ret
    refine⟨_,rfl,?_,hb.out⟩;rw[HT.out];exact ho.out
end Go.Proofs.YtiafamacjpgjoaaGreatDoor
namespace Go.Proofs.YtiafamacjpgjoaaGreatDoor
open Go Go.RowKit Tide
def jB (W:World) (G S:Nat->Prop) (q:Nat) (r:ah × Nat) (e:Ending) (w':World):Prop:=
 e= .returned (.int .i64 (r.2:Int))/\∃G' S',RU w' G' S' q r.1/\(∀k,G' k->G k\/W.heap.size<=k)/\(∀k,S' k->S k\/W.heap.size<=k)/\Kept G W w'
section
variable {W:World} {F S G:Nat->Prop} {q p:Nat} {va vp vi:Value} {rs:List Value} {u:ah}
theorem nD (W:World):Below W.heap.size W W:=Below.refl _ _
theorem bT.ru (h:bT W F S q p va vp vi rs u):RU W (λk=>F k\/dW q va vp vi k) S q u:=⟨F,p,va,vp,vi,rs,h,λ_=>Iff.rfl⟩
theorem dy.more {S2:Nat->Prop} {s:aC} (h:dy W F S p s) (hS:∀k,S k->S2 k) (hl:∀k,S2 k->k < W.heap.size):dy W F S2 p s:=by obtain⟨gs,vs,h1,h2⟩:=h;exact⟨gs,vs,h1,{ h2 with rows:=λg hg=>⟨(h2.rows g hg).1,(h2.rows g hg).2.1,(h2.rows g hg).2.2.mono hS⟩,lt:=λk hk=>hk.elim (λh=>h2.lt k (.inl h)) (hl k) }⟩
theorem bT.restore {w1:World} {F' S':Nat->Prop} {s:aC} (h:bT W F S q p va vp vi rs u) (g1:dy w1 F' S' p s) (g2:∀k,F' k->F k\/W.heap.size<=k) (g3:∀k,S' k->S k\/W.heap.size<=k) (g4:Kept F W w1):
 ∃F2 S2,bT w1 F2 S2 q p va vp vi rs { u with store:=s }/\(∀k,F2 k->F k\/W.heap.size<=k)/\(∀k,S2 k->S k\/W.heap.size<=k):=by
 obtain⟨F2,S3,k1,k2,k3,k4⟩:=g1.tight;have hF2:∀k,F2 k->F k\/W.heap.size<=k:=λk hk=>g2 k (k2 k hk);have hlt:=k1.lt;have hsz:=g4.size;refine⟨F2,λk=>S3 k\/S k,{ cells:=g4.heap h.cells (λhf=>(h.bF q (.inl rfl)).1 hf),store:=k1.more (λk hk=> .inl hk) (λk hk=>hk.elim (λh=>hlt k (.inr h)) (λhs=>Nat.lt_of_lt_of_le (h.lt k (.inr hs)) hsz)),fH:=g4.own h.fH (λk e hf=>(h.bF k (.inr (.inl e))).1 hf),aD:=g4.own h.aD (λk e hf=>(h.bF k (.inr (.inr (.inl e)))).1 hf),ins:=g4.own h.ins (λk e hf=>(h.bF k (.inr (.inr (.inr e)))).1 hf),bytes:=(h.bytes.aj g4 (λk hs hf=>h.apart k hf hs)).mono (λk hk=> .inr hk),two:=h.two,bF:=λk hk=>⟨λhf=> ?_,λhs=> ?_,Nat.lt_of_lt_of_le (h.bF k hk).2.2 hsz⟩,apart:=λk hf hs=> ?_,lt:=λk hk=> ?_ },hF2,λk hk=>hk.elim (λh=>g3 k (k3 k h)) .inl⟩
 · rcases hF2 k hf with h1|h1
   · exact(h.bF k hk).1 h1
   · have:=(h.bF k hk).2.2;omega
 · rcases hs with hs|hs
   · rcases g3 k (k3 k hs) with h1|h1
     · exact(h.bF k hk).2.1 h1
     · have:=(h.bF k hk).2.2;omega
   · exact(h.bF k hk).2.1 hs
 · rcases hs with hs|hs
   · exact k4 k hf hs
   · rcases hF2 k hf with h1|h1
     · exact h.apart k h1 hs
     · have:=h.lt k (.inr hs);omega
 · rcases hk with hk|hk|hk
   · exact hlt k (.inl hk)
   · exact hlt k (.inr hk)
   · exact Nat.lt_of_lt_of_le (h.lt k (.inr hk)) hsz
theorem gT {r:Nat} (h:bT W F S q p va vp vi rs u) {w':World} (hb:Below W.heap.size W w'):jB W (λk=>F k\/dW q va vp vi k) S q (u,r) (.returned (.int .i64 (r:Int))) w':=
 ⟨rfl,_,S,(h.below hb).ru,λ_ h=> .inl h,λ_ h=> .inl h,Kept.an hb⟩
end
end Go.Proofs.YtiafamacjpgjoaaGreatDoor
namespace Go.Proofs.YtiafamacjpgjoaaGreatDoor
open Go Go.RowKit Tide
theorem su:(Tryz.prog.info? 3).map (λi=>(i.zero,i.size,i.bytes))=some (some (.int .i64 0),1,8):=by kernel_rfl
structure bB (w5:World) (R:Nat->Prop) (xa xp xi:Value) (la lp li:List Value) (nb:List (Value × List UInt8)) (sm:List (Nat × Value)) (em:List Nat) (W:World):Prop where
 kept:Kept R w5 W
 low:∀k,R k->k < w5.heap.size
 a:W.ownsRow 0 3 1 xa la.length la
 p:W.ownsRow 0 47 1 xp lp.length lp
 i:W.ownsRow 0 3 1 xi li.length li
 own:∀k,xa.ownBlock=some k\/xp.ownBlock=some k\/xi.ownBlock=some k->R k\/w5.heap.size<=k
 two:∀k,xa.ownBlock=some k->xi.ownBlock≠some k
 nb:∀x ∈ nb,W.ownsRow w5.heap.size 5 1 x.1 x.2.length (al x.2)
 sm:∀x ∈ sm,W.cell? ⟨x.1,0,none⟩=some x.2/\w5.heap.size<=x.1/\x.1 < W.heap.size
 em:∀g ∈ em,W.heap[g]? =some (.cells #[] 5 (0,0))/\w5.heap.size<=g
section
variable {w5 W W':World} {R Z:Nat->Prop} {xa xp xi:Value} {la lp li:List Value} {nb:List (Value × List UInt8)} {sm:List (Nat × Value)} {em:List Nat}
theorem sO {W:World} {g:Nat} {o:Obj} (h:W.heap[g]? =some o):g < W.heap.size:=(Array.getElem?_eq_some_iff.1 h).1
theorem bB.below (h:bB w5 R xa xp xi la lp li nb sm em W) (hb:Below W.heap.size W W'):bB w5 R xa xp xi la lp li nb sm em W' where
 kept:=h.kept.trans (Kept.an (F:=R) hb) (λ_ h=> .inl h)
 low:=h.low
 a:=bf h.a hb
 p:=bf h.p hb
 i:=bf h.i hb
 own:=h.own
 two:=h.two
 nb:=λx hx=>bf (h.nb x hx) hb
 sm:=λx hx=>⟨(hb.cell (p:=⟨x.1,0,none⟩) (h.sm x hx).2.2).trans (h.sm x hx).1,(h.sm x hx).2.1,Nat.lt_of_lt_of_le (h.sm x hx).2.2 hb.size⟩
 em:=λg hg=>⟨(hb.block g (sO (h.em g hg).1)).trans (h.em g hg).1,(h.em g hg).2⟩
theorem bB.drew (h:bB w5 R xa xp xi la lp li nb sm em W):bB w5 R xa xp xi la lp li nb sm em W.drew:=h.below (Below.refl _ _).drew
theorem bB.small (h:bB w5 R xa xp xi la lp li nb sm em W) (x:Value) (t:TypeId):bB w5 R xa xp xi la lp li nb ((W.heap.size,x) :: sm) em (W.alloc (.cells #[x] t)):=by
 have h':=h.below ((Below.refl W.heap.size W).alloc (Nat.le_refl _) (.cells #[x] t));refine { h' with sm:=λy hy=> ?_ };rcases List.mem_cons.1 hy with rfl|hy
 · refine⟨?_,h.kept.size,by rw[World.size_alloc];exact Nat.lt_succ_self _⟩;rw[cell_of_row _ _ 0 _ _ _ (heap_alloc_new W _)];rfl
 · exact h'.sm y hy
theorem bB.empty (h:bB w5 R xa xp xi la lp li nb sm em W):bB w5 R xa xp xi la lp li nb sm (W.heap.size :: em) (W.alloc (.cells #[] 5)):=by
 have h':=h.below ((Below.refl W.heap.size W).alloc (Nat.le_refl _) (.cells #[] 5));refine { h' with em:=λy hy=> ?_ };rcases List.mem_cons.1 hy with rfl|hy
 · exact⟨heap_alloc_new W _,h.kept.size⟩
 · exact h'.em y hy
theorem bB.pT (h:bB w5 R xa xp xi la lp li nb sm em W) {v:Value} (hk:Kept (λk=>v.ownBlock=some k) W W') (hR:∀k,v.ownBlock=some k->R k) {ya yp yi:Value} {ma mp mi:List Value}
 (ha:W'.ownsRow 0 3 1 ya ma.length ma) (hp:W'.ownsRow 0 47 1 yp mp.length mp) (hi:W'.ownsRow 0 3 1 yi mi.length mi)
 (ho:∀k,ya.ownBlock=some k\/yp.ownBlock=some k\/yi.ownBlock=some k->R k\/w5.heap.size<=k) (ht:∀k,ya.ownBlock=some k->yi.ownBlock≠some k):bB w5 R ya yp yi ma mp mi nb sm em W' where
 kept:=h.kept.trans hk (λk e=> .inl (hR k e))
 low:=h.low
 a:=ha
 p:=hp
 i:=hi
 own:=ho
 two:=ht
 nb:=λx hx=>hk.own (h.nb x hx) (λk e e'=>by have:=((h.nb x hx).lt k e).1;have:=h.low k (hR k e');omega)
 sm:=λx hx=>⟨(hk.cell (p:=⟨x.1,0,none⟩) (h.sm x hx).2.2 (λe=>by have:=(h.sm x hx).2.1;have:=h.low x.1 (hR x.1 e);omega)).trans (h.sm x hx).1,(h.sm x hx).2.1,Nat.lt_of_lt_of_le (h.sm x hx).2.2 hk.size⟩
 em:=λg hg=>⟨hk.heap (h.em g hg).1 (λe=>by have:=(h.em g hg).2;have:=h.low g (hR g e);omega),(h.em g hg).2⟩
theorem nI {g:Nat} {x:Value} (h:W.cell? ⟨g,0,none⟩=some x):∀j u,([x]:List Value)[j]? =some u->W.cell? ((⟨g,0,none⟩:Addr).add j)=some u:=λj u hu=>by
 have hj:j=0:=by have:=(List.getElem?_eq_some_iff.1 hu).1;simpa using this
 subst hj;simp at hu;subst hu;exact h
section
variable {ops:Array Oper} {o:Oper} {a:Act} {K:Act->World->Prop} {Q:Exit->Act->World->Prop} {E:Prop}
theorem bB.DQ (h:bB w5 R xa xp xi la lp li nb sm em W) (hR:∀k,xa.ownBlock=some k->R k) (hl:la.length<=100000) (hgd:o.guard=none) (s x:Operand) (ho:o.op= .call { callee:= .builtin .append,args:= #[s,x],argTypes:= #[41,41] })
 (g:Nat) (n:Int) (hg:(g,.int .i64 n) ∈ sm) (hs:a.eval s=xa) (hx:a.eval x= .slice (some ⟨g,0,none⟩) 1 1)
 (hK:∀gv cap w',bB w5 R (.slice (some ⟨gv,0,none⟩) (la.length+1) cap) xp xi (la ++ [.int .i64 n]) lp li nb sm em w'->K (a.put o.dst (.slice (some ⟨gv,0,none⟩) (la.length+1) cap)) w'):if Region.wanted o (yielded ops a.tmps)=true then Oper.wp Tryz.prog o a W K Q else E:=by
 obtain⟨i0,hi,hz0,hz1,hz2⟩:=info_parts su;refine step_append_lies W hgd s x 41 ho 0 3 i0 (.int .i64 0) 1 8 Tryz.underlying41 hi hz0 hz1 hz2 rfl (by omega) xa la.length la hs h.a ⟨g,0,none⟩ 1 1 [.int .i64 n] hx rfl (nI (h.sm _ hg).1) (by simp[Value.oneCell']) (by omega) (by unfold maxLen;omega) (by omega) (Nat.zero_le _) W.heap.size rfl ?_;intro gv cap w' h1 h2 h3 h4;have hk:Kept (λk=>xa.ownBlock=some k) W w':=(Kept.refl _ W).grown h2 (λk e=> .inl e);have hz:=h.kept.size;refine hK gv cap w' (h.pT hk hR (by rw[List.length_append];exact h1) (hk.own h.p (λk e e'=>dF h.p h.a (by decide) k e e')) (hk.own h.i (λk e e'=>h.two k e' e)) (λk e=> ?_) (λk e=> ?_))
 · rcases e with e|e
   · obtain rfl:gv=k:=by injection e
     rcases h3 with h3|h3
     · exact .inl (hR _ h3)
     · exact .inr (by omega)
   · exact h.own k (.inr e)
 · obtain rfl:gv=k:=by injection e
   rcases h3 with h3|h3
   · exact h.two _ h3
   · intro e;have:=(h.i.lt _ e).2;omega
theorem bB.DT (h:bB w5 R xa xp xi la lp li nb sm em W) (hR:∀k,xi.ownBlock=some k->R k) (hl:li.length<=100000) (hgd:o.guard=none) (s x:Operand) (ho:o.op= .call { callee:= .builtin .append,args:= #[s,x],argTypes:= #[41,41] })
 (g:Nat) (n:Int) (hg:(g,.int .i64 n) ∈ sm) (hs:a.eval s=xi) (hx:a.eval x= .slice (some ⟨g,0,none⟩) 1 1)
 (hK:∀gv cap w',bB w5 R xa xp (.slice (some ⟨gv,0,none⟩) (li.length+1) cap) la lp (li ++ [.int .i64 n]) nb sm em w'->K (a.put o.dst (.slice (some ⟨gv,0,none⟩) (li.length+1) cap)) w'):if Region.wanted o (yielded ops a.tmps)=true then Oper.wp Tryz.prog o a W K Q else E:=by
 obtain⟨i0,hi,hz0,hz1,hz2⟩:=info_parts su;refine step_append_lies W hgd s x 41 ho 0 3 i0 (.int .i64 0) 1 8 Tryz.underlying41 hi hz0 hz1 hz2 rfl (by omega) xi li.length li hs h.i ⟨g,0,none⟩ 1 1 [.int .i64 n] hx rfl (nI (h.sm _ hg).1) (by simp[Value.oneCell']) (by omega) (by unfold maxLen;omega) (by omega) (Nat.zero_le _) W.heap.size rfl ?_;intro gv cap w' h1 h2 h3 h4;have hk:Kept (λk=>xi.ownBlock=some k) W w':=(Kept.refl _ W).grown h2 (λk e=> .inl e);have hz:=h.kept.size;refine hK gv cap w' (h.pT hk hR (hk.own h.a (λk e e'=>h.two k e e')) (hk.own h.p (λk e e'=>dF h.p h.i (by decide) k e e')) (by rw[List.length_append];exact h1) (λk e=> ?_) (λk e e'=> ?_))
 · rcases e with e|e|e
   · exact h.own k (.inl e)
   · exact h.own k (.inr (.inl e))
   · obtain rfl:gv=k:=by injection e
     rcases h3 with h3|h3
     · exact .inl (hR _ h3)
     · exact .inr (by omega)
 · obtain rfl:gv=k:=by injection e'
   rcases h3 with h3|h3
   · exact h.two _ e h3
   · have:=(h.a.lt _ e).2;omega
theorem bB.DV (h:bB w5 R xa xp xi la lp li nb sm em W) (hR:∀k,xp.ownBlock=some k->R k) (hl:lp.length<=100000) (hgd:o.guard=none) (s x:Operand) (ho:o.op= .call { callee:= .builtin .append,args:= #[s,x],argTypes:= #[117,117] })
 (g:Nat) (y:Value) (hy:y.oneCell'=true) (hg:(g,y) ∈ sm) (hs:a.eval s=xp) (hx:a.eval x= .slice (some ⟨g,0,none⟩) 1 1)
 (hK:∀gv cap w',bB w5 R xa (.slice (some ⟨gv,0,none⟩) (lp.length+1) cap) xi la (lp ++ [y]) li nb sm em w'->K (a.put o.dst (.slice (some ⟨gv,0,none⟩) (lp.length+1) cap)) w'):if Region.wanted o (yielded ops a.tmps)=true then Oper.wp Tryz.prog o a W K Q else E:=by
 obtain⟨i0,hi,hz0,hz1,hz2⟩:=info_parts oe;refine step_append_lies W hgd s x 117 ho 0 47 i0 (.slice none 0 0) 1 24 Tryz.underlying117 hi hz0 hz1 hz2 rfl (by omega) xp lp.length lp hs h.p ⟨g,0,none⟩ 1 1 [y] hx rfl (nI (h.sm _ hg).1) (by simpa using hy) (by omega) (by unfold maxLen;omega) (by omega) (Nat.zero_le _) W.heap.size rfl ?_;intro gv cap w' h1 h2 h3 h4;have hk:Kept (λk=>xp.ownBlock=some k) W w':=(Kept.refl _ W).grown h2 (λk e=> .inl e);have hz:=h.kept.size;refine hK gv cap w' (h.pT hk hR (hk.own h.a (λk e e'=>dF h.a h.p (by decide) k e e')) (by rw[List.length_append];exact h1) (hk.own h.i (λk e e'=>dF h.i h.p (by decide) k e e')) (λk e=> ?_) h.two);rcases e with e|e|e
 · exact h.own k (.inl e)
 · obtain rfl:gv=k:=by injection e
   rcases h3 with h3|h3
   · exact .inl (hR _ h3)
   · exact .inr (by omega)
 · exact h.own k (.inr (.inr e))
theorem bB.DU {g:Nat} (h:bB w5 R xa xp xi la lp li [] sm [g] W) {B:Nat} {y:Value} {b:List UInt8} (hy:Bytes W B y b) (hl:b.length<=100000) (hgd:o.guard=none) (s x:Operand) (ho:o.op= .call { callee:= .builtin .append,args:= #[s,x],argTypes:= #[47,47] })
 (hs:a.eval s= .slice (some ⟨g,0,none⟩) 0 0) (hx:a.eval x=y)
 (hK:∀A cap w',bB w5 R xa xp xi la lp li [(.slice A b.length cap,b)] sm [] w'->K (a.put o.dst (.slice A b.length cap)) w'):if Region.wanted o (yielded ops a.tmps)=true then Oper.wp Tryz.prog o a W K Q else E:=by
 obtain⟨i0,hi,hz0,hz1,hz2⟩:=info_parts fW;have he:=h.em g (by simp);have hown:W.ownsRow w5.heap.size 5 1 (.slice (some ⟨g,0,none⟩) 0 0) 0 []:=mG he.2 he.1;have hw:Region.wanted o (yielded ops a.tmps)=true:=by simp[Region.wanted,hgd]
 rw[if_pos hw];obtain⟨v',w',hr,h1,h2,h3⟩:=pz (P:=Tryz.prog) W w5.heap.size 47 o.type 5 i0 (.int .u8 0) 1 Tryz.underlying47 hi hz0 hz1 hz2 rfl _ 0 [] hown B y (al b) hy (gB b) (by rw[aW];unfold maxLen;omega) (by rw[aW];omega) h.kept.size;unfold Oper.wp execOp;simp only[ho,resolve,invoke,builtin,Sem.run_bind,Sem.run_pure,Result.andThen_ok,List.map_toArray,List.map_cons,List.map_nil,hs,hx,hr];rw[aW,Nat.zero_add,List.nil_append]at h1;have hk:Kept (λk=>k=g) W w':=(Kept.refl _ W).grown h2 (λk e=> .inl (by have e':some g=some k:=e;injection e' with e';exact e'.symm));obtain⟨A,cap,rfl,_,_⟩:=fA h1;have hgo:∀ {e:TypeId} {v:Value} {n:Nat} {xs:List Value},W.ownsRow 0 e 1 v n xs->e≠5->∀k,v.ownBlock=some k->¬k=g:=λhv hne k e e'=>by subst e';exact dF hv hown hne k e rfl
 refine hK A cap w' { kept:=h.kept.mono (λ_ _ h=>h) |>.trans hk (λk e=> .inr (by rw[e];exact he.2)),low:=h.low,a:=hk.own h.a (hgo h.a (by decide+kernel)),p:=hk.own h.p (hgo h.p (by decide+kernel)),i:=hk.own h.i (hgo h.i (by decide+kernel)),own:=h.own,two:=h.two,nb:=λx hx=> ?_,sm:=λx hx=> ?_,em:=λ_ h=>(by cases h) }
 · obtain rfl:x=_:=by simpa using hx
   exact h1
 · have hsx:=h.sm x hx;refine⟨(hk.cell (p:=⟨x.1,0,none⟩) hsx.2.2 (λe=> ?_)).trans hsx.1,hsx.2.1,Nat.lt_of_lt_of_le hsx.2.2 hk.size⟩;have h9:=hsx.1;rw[show x.1=g from e,cell_of_row _ _ 0 _ _ _ he.1]at h9;cases h9
theorem bB.uD (h:bB w5 R xa xp xi la lp li nb sm em W) (hgd:o.guard=none) (x:Operand) (ho:o.op= .buildSlice 41 1 #[(0,x)]) (n:Int) (hx:a.eval x= .int .i64 n)
 (hK:∀g w',bB w5 R xa xp xi la lp li nb ((g,.int .i64 n) :: sm) em w'->K (a.put o.dst (.slice (some ⟨g,0,none⟩) 1 1)) w'):if Region.wanted o (yielded ops a.tmps)=true then Oper.wp Tryz.prog o a W K Q else E:=by
 have hw:Region.wanted o (yielded ops a.tmps)=true:=by simp[Region.wanted,hgd]
 rw[if_pos hw];obtain⟨dst,op,ty,pos,after,guard⟩:=o;simp only at ho hgd;subst ho hgd;have h1:=hK W.heap.size _ (h.small (.int .i64 n) 3);clear hK;unfold Oper.wp;generalize a.eval=ρ at *
 go_simp
 exact h1
theorem bB.DS (h:bB w5 R xa xp xi la lp li nb sm em W) (hgd:o.guard=none) (x:Operand) (ho:o.op= .buildSlice 117 1 #[(0,x)]) (A:Option Addr) (n c:Nat) (hx:a.eval x= .slice A n c)
 (hK:∀g w',bB w5 R xa xp xi la lp li nb ((g,.slice A n c) :: sm) em w'->K (a.put o.dst (.slice (some ⟨g,0,none⟩) 1 1)) w'):if Region.wanted o (yielded ops a.tmps)=true then Oper.wp Tryz.prog o a W K Q else E:=by
 have hw:Region.wanted o (yielded ops a.tmps)=true:=by simp[Region.wanted,hgd]
 rw[if_pos hw];obtain⟨dst,op,ty,pos,after,guard⟩:=o;simp only at ho hgd;subst ho hgd;have h1:=hK W.heap.size _ (h.small (.slice A n c) 47);clear hK;unfold Oper.wp;generalize a.eval=ρ at *
 go_simp
 exact h1
theorem bB.DR (h:bB w5 R xa xp xi la lp li nb sm [] W) (hgd:o.guard=none) (ho:o.op= .buildSlice 47 0 #[])
 (hK:∀g w',bB w5 R xa xp xi la lp li nb sm [g] w'->K (a.put o.dst (.slice (some ⟨g,0,none⟩) 0 0)) w'):if Region.wanted o (yielded ops a.tmps)=true then Oper.wp Tryz.prog o a W K Q else E:=by
 have hw:Region.wanted o (yielded ops a.tmps)=true:=by simp[Region.wanted,hgd]
 rw[if_pos hw];obtain⟨dst,op,ty,pos,after,guard⟩:=o;simp only at ho hgd;subst ho hgd;have h1:=hK W.heap.size _ h.empty;clear hK;unfold Oper.wp;generalize a.eval=ρ at *
 go_simp
 exact h1
end
end
def iG (va vp vi:Value) (k:Nat):Prop:=va.ownBlock=some k\/vp.ownBlock=some k\/vi.ownBlock=some k
section
variable {W W':World} {F S:Nat->Prop} {q p:Nat} {va vp vi xa xp xi:Value} {rs:List Value} {u:ah}
theorem Bk {W:World} {base:Nat} {e:TypeId} {size n:Nat} {v:Value} {xs:List Value} (h:W.ownsRow base e size v n xs):W.ownsRow 0 e size v n xs:=by obtain⟨h1,h2⟩:=h;refine⟨h1,h2.imp id ?_⟩;rintro⟨g,cap,cur,e,_,h3⟩;exact⟨g,cap,cur,e,Nat.zero_le _,h3⟩
theorem bT.mY (h:bT W F S q p va vp vi rs u):¬iG va vp vi q:=by
 have hq:=h.cells;have hne:∀ {e:TypeId} {v:Value} {n:Nat} {xs:List Value},W.ownsRow 0 e 1 v n xs->e≠119->v.ownBlock≠some q:=λhv hne e=>by obtain⟨cur,hc⟩:=eU hv e;rw[hq]at hc;injection hc with hc;injection hc with _ hc;exact hne hc.symm
 rintro(e|e|e)
 · exact hne h.fH (by decide) e
 · exact hne h.aD (by decide) e
 · exact hne h.ins (by decide) e
theorem km (l:List Int):(az l).length=l.length:=by simp[az]
theorem bT.BK (h:bT W F S q p va vp vi rs u):bB W (iG va vp vi) va vp vi (az (gG u)) rs (az (gM u)) [] [] [] W where
 kept:=Kept.refl _ _
 low:=λk hk=>(h.bF k (.inr hk)).2.2
 a:=by rw[km];unfold gG;rw[List.length_map];exact h.fH
 p:=by have:=h.aD;have h1:=h.aD.1;rw[Nat.mul_one]at h1;rw[h1];exact this
 i:=by rw[km];unfold gM;rw[List.length_map];exact h.ins
 own:=λk hk=> .inl hk
 two:=h.two
 nb:=λx hx=>by cases hx
 sm:=λx hx=>by cases hx
 em:=λx hx=>by cases hx
def ns (w5:World) (F2 S2:Nat->Prop) (q p:Nat) (va vp vi:Value) (u:ah) (W:World):Prop:=
 ∃xa xp xi ss S3,bT W F2 S3 q p xa xp xi ss u/\(∀k,S3 k->S2 k\/w5.heap.size<=k)/\(∀k,dW q xa xp xi k->dW q va vp vi k\/w5.heap.size<=k)/\Kept (dW q va vp vi) w5 W
theorem BL {w5:World} {s:aC} (h:bT w5 F S q p va vp vi rs { u with store:=s }) {n no:Nat} {b:List UInt8} {x:Value} {sm:List (Nat × Value)} {em:List Nat}
 (hp:bB w5 (iG va vp vi) xa xp xi (az (gG u) ++ [.int .i64 (n:Int)]) (rs ++ [x]) (az (gM u) ++ [.int .i64 (no:Int)]) [(x,b)] sm em W)
 (hk:Kept (λk=>k=q) W W') (hc:W'.heap[q]? =some (.cells (lX p xa xp xi u) 119 (0,0))):
 ns w5 F S q p va vp vi { u with store:=s,rows:=u.rows ++ [⟨n,b,no⟩] } W':=by
 have hx:=hp.nb (x,b) (by simp);have hxl:=λk e=>hx.lt k e;have hlt5:=λk e=>h.bF k e;have hz:=hp.kept.size;have hqr:=h.mY;have hrq:∀k,(xa.ownBlock=some k\/xp.ownBlock=some k\/xi.ownBlock=some k)->k≠q:=λk e e'=>by
  rcases hp.own k e with h1|h1
  · rw[e']at h1;exact hqr h1
  · have:=(h.bF q (.inl rfl)).2.2;omega
 have hK:Kept (dW q va vp vi) w5 W':=(hp.kept.mono (λk _ e=> .inr e)).trans hk (λk e=> .inl (.inl e));have hM:∀k,dW q xa xp xi k->dW q va vp vi k\/w5.heap.size<=k:=λk e=>by
  rcases e with e|e
  · exact .inl (.inl e)
  · exact(hp.own k e).imp .inr id
 have hMl:∀k,dW q xa xp xi k->k < W'.heap.size:=λk e=>by
  have hz2:=hk.size;rcases e with e|e|e|e
  · have:=(h.bF q (.inl rfl)).2.2;omega
  · have:=(hp.a.lt k e).2;omega
  · have:=(hp.p.lt k e).2;omega
  · have:=(hp.i.lt k e).2;omega
 have hap:∀k,x.ownBlock=some k->¬dW q xa xp xi k:=λk e e'=>by
  rcases e' with e'|e'|e'|e'
  · have:=(hxl k e).1;have:=(h.bF q (.inl rfl)).2.2;omega
  · exact dF hx hp.a (by decide) k e e'
  · exact dF hx hp.p (by decide) k e e'
  · exact dF hx hp.i (by decide) k e e'
 refine⟨xa,xp,xi,rs ++ [x],λk=>S k\/x.ownBlock=some k,{ cells:=hc,store:= ?_,fH:= ?_,aD:= ?_,ins:= ?_,bytes:= ?_,two:=hp.two,bF:=λk e=>⟨?_,?_,hMl k e⟩,apart:= ?_,lt:= ?_ },λk e=>e.imp id (λe=>(hxl k e).1),hM,hK⟩
 · refine(h.store.aj hK (λk e e'=> ?_)).more (λk e=> .inl e) (λk e=> ?_)
   · rcases e with e|e
     · exact(h.bF k e').1 e
     · exact(h.bF k e').2.1 e
   · have hz2:=hK.size;have hz3:=hk.size;rcases e with e|e
     · have:=h.lt k (.inr e);omega
     · have:=(hxl k e).2;omega
 · have:=hk.own hp.a (λk e=>hrq k (.inl e));rw[List.length_append,km]at this;unfold gG at this ⊢;rw[List.length_map]at this;simp only[List.length_append,List.map_append,List.map_cons,List.map_nil]at this ⊢;simpa[az]using this
 · have:=hk.own hp.p (λk e=>hrq k (.inr (.inl e)));have h1:=h.aD.1;rw[List.length_append,h1]at this;simpa using this
 · have:=hk.own hp.i (λk e=>hrq k (.inr (.inr e)));rw[List.length_append,km]at this;unfold gM at this ⊢;rw[List.length_map]at this;simp only[List.length_append,List.map_append,List.map_cons,List.map_nil]at this ⊢;simpa[az]using this
 · have hb:=h.bytes.aj hK (λk e e'=>(h.bF k e').2.1 e);have hx':=hk.own hx (λk e e'=>hap k e (.inl e'));refine⟨by have:=hb.1;simp only[List.length_append,List.map_append]at this ⊢;rw[this];simp,λi v c hv hc=> ?_⟩;simp only[List.map_append,List.map_cons,List.map_nil]at hc;rcases Nat.lt_or_ge i rs.length with hi|hi
   · rw[List.getElem?_append_left hi]at hv;rw[List.getElem?_append_left (by rw[<-hb.1];exact hi)]at hc;obtain⟨g1,g2⟩:=hb.2 i v c hv hc;exact⟨g1,λk e=> .inl (g2 k e)⟩
   · rw[List.getElem?_append_right hi]at hv;have hi2:(u.rows.map bk.bs).length<=i:=by have:=hb.1;dsimp only at this;omega
     rw[List.getElem?_append_right hi2]at hc;have j0:i - rs.length=0:=by have:=(List.getElem?_eq_some_iff.1 hv).1;simpa using this
     have j1:i - (u.rows.map bk.bs).length=0:=by have:=(List.getElem?_eq_some_iff.1 hc).1;simpa using this
     rw[j0]at hv;rw[j1]at hc;simp at hv hc;subst hv hc;exact⟨Bk hx',λk e=> .inr e⟩
 · intro hf;rcases hM k e with h1|h1
   · exact(h.bF k h1).1 hf
   · have:=h.lt k (.inl hf);omega
 · rintro(hs|hs)
   · rcases hM k e with h1|h1
     · exact(h.bF k h1).2.1 hs
     · have:=h.lt k (.inr hs);omega
   · exact hap k hs e
 · intro k hf hs;rcases hs with hs|hs
   · exact h.apart k hf hs
   · have:=(hxl k hs).1;have:=h.lt k (.inl hf);omega
 · intro k hk';have hz2:=hK.size;have hz3:=hk.size;rcases hk' with e|e|e
   · have:=h.lt k (.inl e);omega
   · have:=h.lt k (.inr e);omega
   · have:=(hxl k e).2;omega
def fO (q:Nat) (x0 x1 x2 x3 x4 x5 x6:Value) (W:World):Prop:=W.heap[q]? =some (.cells #[x0,x1,x2,x3,x4,x5,x6] 119 (0,0))
theorem fO.facts {x0 x1 x2 x3 x4 x5 x6:Value} (h:fO q x0 x1 x2 x3 x4 x5 x6 W):q < W.heap.size/\(∀i,W.frozen? ⟨q,i,none⟩=false)/\W.cell? ⟨q,1,none⟩=some x1/\W.cell? ⟨q,2,none⟩=some x2/\W.cell? ⟨q,3,none⟩=some x3:=by
 have hc:W.heap[q]? =_:=h;refine⟨sO hc,λi=> ?_,?_,?_,?_⟩
 · unfold World.frozen?;rw[show W.heap[(⟨q,i,none⟩:Addr).block]? =_ from hc];simp
 · rw[cell_of_row _ _ 1 _ _ _ hc];rfl
 · rw[cell_of_row _ _ 2 _ _ _ hc];rfl
 · rw[cell_of_row _ _ 3 _ _ _ hc];rfl
theorem fO.pE {x0 x1 x2 x3 x4 x5 x6:Value} (h:fO q x0 x1 x2 x3 x4 x5 x6 W) (v:Value):fO q x0 v x2 x3 x4 x5 x6 (W.setCell ⟨q,1,none⟩ v):=mV h v
theorem fO.pF {x0 x1 x2 x3 x4 x5 x6:Value} (h:fO q x0 x1 x2 x3 x4 x5 x6 W) (v:Value):fO q x0 x1 v x3 x4 x5 x6 (W.setCell ⟨q,2,none⟩ v):=mV h v
theorem fO.pG {x0 x1 x2 x3 x4 x5 x6:Value} (h:fO q x0 x1 x2 x3 x4 x5 x6 W) (v:Value):fO q x0 x1 x2 v x4 x5 x6 (W.setCell ⟨q,3,none⟩ v):=mV h v
theorem bT.pI (h:bT W F S q p va vp vi rs u) (i:Nat) (v:Value) {u':ah} (h1:u'.store=u.store) (h2:u'.rows=u.rows) (h3:(lX p va vp vi u).setIfInBounds i v=lX p va vp vi u'):bT (W.setCell ⟨q,i,none⟩ v) F S q p va vp vi rs u':=by
 have hk:Kept (λk=>k=q) W (W.setCell ⟨q,i,none⟩ v):=(Kept.refl (λk=>k=q) W).setCell (p:=⟨q,i,none⟩) (.inl rfl) _;have hqr:=h.mY;have hr:∀k,iG va vp vi k->k≠q:=λk e e'=>hqr (e' ▸ e);have hq:=h.bF q (.inl rfl);refine { cells:= ?_,store:= ?_,fH:= ?_,aD:= ?_,ins:= ?_,bytes:= ?_,two:=h.two,bF:=λk e=>⟨(h.bF k e).1,(h.bF k e).2.1,Nat.lt_of_lt_of_le (h.bF k e).2.2 hk.size⟩,apart:=h.apart,lt:=λk e=>Nat.lt_of_lt_of_le (h.lt k e) hk.size }
 · rw[mV h.cells,h3]
 · rw[h1];exact h.store.aj hk (λk e e'=>by
    subst e';rcases e with e|e
    · exact hq.1 e
    · exact hq.2.1 e)
 · unfold gG;rw[h2];exact hk.own h.fH (λk e=>hr k (.inl e))
 · rw[h2];exact hk.own h.aD (λk e=>hr k (.inr (.inl e)))
 · unfold gM;rw[h2];exact hk.own h.ins (λk e=>hr k (.inr (.inr e)))
 · rw[h2];exact h.bytes.aj hk (λk e e'=>hq.2.1 (e' ▸ e))
end
end Go.Proofs.YtiafamacjpgjoaaGreatDoor
