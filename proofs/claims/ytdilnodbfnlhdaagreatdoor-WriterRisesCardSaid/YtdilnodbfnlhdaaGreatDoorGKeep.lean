import Derived.Test.YtdilnodbfnlhdaaGreatDoorGMem
import Derived.Test.YtdilnodbfnlhdaaGreatDoorRows
import Derived.OwnWalk
import Derived.ProofKit
import Derived.LaidMore
import Derived.OpenShut
import Derived.Stop.Joined
import Derived.Stop.LaidErr
import Derived.Lib.LaidTab
import Derived.Deep.Slices
import Derived.Deep.Fields
import Derived.ChangeSlices
namespace Tide
open Go Go.RowKit
structure Kept (F:Nat->Prop) (w w':World):Prop where
 os:w'.os=w.os
 tape:w'.tape=w.tape
 output:w'.output=w.output
 size:w.heap.size<=w'.heap.size
 block:∀k,k < w.heap.size->¬F k->w'.heap[k]? =w.heap[k]?
variable {F G:Nat->Prop} {a w w' w'':World} {B:Nat}
theorem Kept.refl (F:Nat->Prop) (w:World):Kept F w w:=⟨rfl,rfl,rfl,Nat.le_refl _,λ_ _ _=>rfl⟩
theorem Kept.trans (h:Kept F w w') (k:Kept G w' w'') (hG:∀i,G i->F i\/w.heap.size<=i):Kept F w w'':=
 ⟨k.os.trans h.os,k.tape.trans h.tape,k.output.trans h.output,Nat.le_trans h.size k.size,λi hi hf=>(k.block i (Nat.lt_of_lt_of_le hi h.size) (λhg=>(hG i hg).elim hf (λh'=>absurd hi (Nat.not_lt.2 h')))).trans (h.block i hi hf)⟩
theorem Kept.mono (h:Kept F w w') (hG:∀i,i < w.heap.size->F i->G i):Kept G w w':=⟨h.os,h.tape,h.output,h.size,λi hi hg=>h.block i hi (λhf=>hg (hG i hi hf))⟩
theorem Kept.al (h:Below w.heap.size w w'):Kept F w w':=⟨h.os,h.tape,h.output,h.size,λi hi _=>h.block i hi⟩
theorem Kept.below (h:Kept F w w') (hB:B<=w.heap.size) (hF:∀i,F i->B<=i):Below B w w':=
 ⟨h.os,h.tape,h.output,h.size,λi hi=>h.block i (Nat.lt_of_lt_of_le hi hB) (λhf=>absurd (hF i hf) (Nat.not_le.2 hi))⟩
theorem Below.kept (h:Below B a w) (k:Kept F w w') (hB:B<=w.heap.size) (hF:∀i,F i->B<=i):Below B a w':=h.trans (k.below hB hF)
theorem Kept.alloc (h:Kept F w w') (o:Obj):Kept F w (w'.alloc o):=h.trans (G:=λ_=>False) ⟨rfl,rfl,rfl,by simp,λk hk _=>Below.heap_alloc _ _ _ hk⟩ (λ_ h=>h.elim)
theorem Kept.drew (h:Kept F w w'):Kept F w w'.drew:=⟨h.os,h.tape,h.output,h.size,h.block⟩
theorem Kept.setCell (h:Kept F w w') {p:Addr} (hp:F p.block\/w.heap.size<=p.block) (v:Value):Kept F w (w'.setCell p v):=
 h.trans (G:=λk=>k=p.block) ⟨rfl,rfl,rfl,by simp[World.setCell],λk _ hk=>Below.heap_setCell _ _ _ _ hk⟩ (λi hi=>by subst hi;exact hp)
theorem Kept.grown {row:Option Nat} (h:Kept F w w') (hg:w'.grownBy w'' row) (hr:∀k,row=some k->F k\/w.heap.size<=k):Kept F w w'':=
 h.trans (G:=λk=>row=some k) ⟨hg.os,hg.tape,hg.output,hg.size,λk hk hne=>hg.block k hk (λe=>hne e.symm)⟩ hr
theorem Kept.heap (h:Kept F w w') {b:Nat} {o:Obj} (hb:w.heap[b]? =some o) (hf:¬F b):w'.heap[b]? =some o:=
 (h.block b (by
   rcases Nat.lt_or_ge b w.heap.size with hlt|hge
   · exact hlt
   · rw[Array.getElem?_eq_none hge]at hb;cases hb) hf).trans hb
theorem Kept.cell (h:Kept F w w') {p:Addr} (hp:p.block < w.heap.size) (hf:¬F p.block):w'.cell? p=w.cell? p:=World.cell?_of_block (w:=w) (h.block p.block hp hf)
theorem Kept.own {base:Nat} {e:TypeId} {size:Nat} {v:Value} {n:Nat} {xs:List Value} (h:Kept F w w') (ho:w.ownsRow base e size v n xs) (hf:∀k,v.ownBlock=some k->¬F k):w'.ownsRow base e size v n xs:=by
 refine⟨ho.1,?_⟩;rcases ho.2 with h0|⟨g,cap,cur,rfl,hb,hg,h1,h2,h3,h4⟩
 · exact .inl h0
 · exact .inr ⟨g,cap,cur,rfl,hb,h.heap hg (hf g rfl),h1,h2,h3,h4⟩
theorem bp {base:Nat} {e:TypeId} {size:Nat} {v:Value} {n:Nat} {xs:List Value} (ho:w.ownsRow base e size v n xs) (h:Below w.heap.size w w'):w'.ownsRow base e size v n xs:=
 (Kept.al (F:=λ_=>False) h).own ho (λ_ _ h=>h)
theorem eW {base base':Nat} {e:TypeId} {size:Nat} {v:Value} {n:Nat} {xs:List Value} (ho:w.ownsRow base' e size v n xs) (hb:base<=base'):w.ownsRow base e size v n xs:=
 ⟨ho.1,ho.2.elim .inl λ⟨g,cap,cur,h0,h1,h2⟩=> .inr ⟨g,cap,cur,h0,Nat.le_trans hb h1,h2⟩⟩
end Tide
namespace Go.Proofs.YtdilnodbfnlhdaaGreatDoor
open Go.ChangeShapes Go.WideShapes Go.ChangeAt Go.RowKit
theorem jE:(Tryz.prog.info? 5).map (λi=>(i.zero,i.size,i.bytes))=some (some (.int .u8 0),1,1):=by kernel_rfl
theorem own:ownKnob Tryz.prog.godebug=none:=by kernel_rfl
theorem laidOut:laidOutB Tryz.prog=true:=by kernel_rfl
def mo (P:Program) (ts:List TypeId):Bool:=ts.all λt=>P.readableRec t && decide (t < P.types.size)
theorem tH {H:Type} {enc:TypeId × Value->H} {P:Program} (hl:laidOutB P=true) {W W':World} (hb:Below W.heap.size W W'):
 ∀ {ts:List TypeId} {vs:List Value} {ds:List (DataW H)} {ps:List MemPlace},mo P ts=true->(∀x ∈ ps,x.block < W.heap.size)->DataW.TrodAll enc P W 0 (λ_=>true) true ts vs ds ps->
   DataW.TrodAll enc P W' 0 (λb=>decide (b < W.heap.size)) true ts vs ds ps
 | [], [], [],_,_,_,h=>h
 | _ :: _, [],_,_,_,_,h=>h.elim
 | _ :: _,_ :: _, [],_,_,_,h=>h.elim
 | [],_ :: _,_,_,_,_,h=>h.elim
 | [], [],_ :: _,_,_,_,h=>h.elim
 | t :: ts,v :: vs,d :: ds,ps,hr,hlt,h=>by
   obtain⟨p,q,h1,h2,rfl⟩:=h;simp only[mo,List.all_cons,Bool.and_eq_true,decide_eq_true_eq]at hr
   exact⟨p,q,Below.trod hl hr.1.1 hr.1.2 h1 hb (λx hx=>hlt x (List.mem_append_left _ hx)),
    tH hl hb (by simpa only[mo]using hr.2) (λx hx=>hlt x (List.mem_append_right _ hx)) h2,rfl⟩
theorem AV {H:Type} {enc:TypeId × Value->H} {f:Func} {s:ChangeSpec} {W W':World} {args:Array Value} {ds gs:List (DataW H)} {before:List MemPlace}
 (hW:DataW.Whole enc Tryz.prog f.params.toList s.vars false W args.toList ds gs before) (hv:s.vars= []) (hr:mo Tryz.prog f.params.toList=true) (hres:f.resultTypes= #[4])
 (hs:∀ds':List (DataW H),ds'.length=f.params.size->s.fn H ds'= { results:= [.lit (.bool true)],args:=ds' }) (hb:Below W.heap.size W W'):
 s.post enc Tryz.prog f false true false false W args (.bool true) W':=by
 have hlt:∀p ∈ before,p.block < W.heap.size:=λp hp=>hW.lt p hp;have hW':=hW;obtain⟨p,q,hA,hV,rfl,_,_⟩:=hW;have hg:gs= []/\q= []:=by
  rw[hv]at hV;cases gs with
  | nil=>exact⟨rfl,hV⟩
  | cons _ _=>exact hV.elim
 obtain⟨rfl,rfl⟩:=hg;have hlen:∀ {ts:List TypeId} {vs:List Value} {es:List (DataW H)} {ps:List MemPlace},DataW.TrodAll enc Tryz.prog W 0 (λ_=>true) true ts vs es ps->es.length=ts.length:=by
  intro ts
  induction ts with
  | nil=>intro vs es ps h;cases vs<;>cases es<;>first|rfl|exact h.elim
  | cons t ts ih=>
    intro vs es ps h;cases vs with
    | nil=>exact h.elim
    | cons v vs=>
      cases es with
      | nil=>exact h.elim
      | cons e es=>obtain⟨_,_,_,h2,_⟩:=h;simp[ih h2]
 have e1:=hs (ds ++ []) (by rw[List.append_nil,hlen hA];simp);refine⟨ds, [],p ++ [], [],p, [],hW',?_,?_,?_,World.keptBut_mono (λx hx=>⟨hx,?_⟩) (hb.frame (· ∈ p ++ [])),λh=>by cases h⟩
 · rw[e1,hres];exact trodAll_mk1 (shut_bool Tryz.underlying4 true)
 · rw[e1];simpa using tH laidOut hb hr (λx hx=>hlt x (List.mem_append_left _ hx)) hA
 · rw[hv,e1];exact rfl
 · rw[List.append_nil]at hx;exact .inr (.inl hx)
end Go.Proofs.YtdilnodbfnlhdaaGreatDoor
namespace Go.Proofs.YtdilnodbfnlhdaaGreatDoor
open Go Go.ChangeShapes Go.WideShapes Go.ChangeAt Go.RowKit Go.Deep Tide
def bQ (w:World) (B:Nat) (v:Value) (k:Nat) (es:List (List Value)):Prop:=
 es.length<=9223372036854775807/\∃A c,v= .slice A es.length c/\
   (es≠ []->∃b o,A=some ⟨b,o,none⟩/\b < B/\∀ (i j:Nat) (e:List Value) (u:Value),es[i]? =some e->e[j]? =some u->w.cell? ⟨b,o+(i * k+j),none⟩=some u)
theorem bQ.an {w w':World} {B k:Nat} {v:Value} {es:List (List Value)} (h:bQ w B v k es) (hk:∀b o,b < B->w'.cell? ⟨b,o,none⟩=w.cell? ⟨b,o,none⟩):bQ w' B v k es:=by obtain⟨hn,A,c,rfl,hc⟩:=h;refine⟨hn,A,c,rfl,λhx=> ?_⟩;obtain⟨b,o,e,hb,hcell⟩:=hc hx;exact⟨b,o,e,hb,λi j e u he hu=>(hk _ _ hb).trans (hcell i j e u he hu)⟩
theorem bQ.below {w w':World} {B k:Nat} {v:Value} {es:List (List Value)} (h:bQ w B v k es) (hb:Below B w w'):bQ w' B v k es:=h.an (ew hb)
theorem da (b o j:Nat):(⟨b,o,none⟩:Addr).add j=⟨b,o+j,none⟩:=by unfold Addr.add;split<;>simp_all
section
variable {H:Type} {enc:TypeId × Value->H} {P:Program} {W:World}
def ay (zs:List Int):List Value:=zs.map (Value.int .i64)
theorem dk (zs:List Int):(ay zs).length=zs.length:=by simp[ay]
theorem eU {t:TypeId} {u:Value} {n:Nat} {y:DataW H × List MemPlace} (ht:P.underlying t=some (.int .i64)) (h:DataW.trod enc P W 0 (λ_=>true) true n t [u]=some y):∃z,u= .int .i64 z/\ -9223372036854775808<=z/\z<=9223372036854775807:=by obtain⟨z,hz,_,hw⟩:=DataW.trod_int ht h;exact⟨z,by simpa using hz,bounds_i64 hw⟩
theorem lN {t:TypeId} {u:Value} {n:Nat} {y:DataW H × List MemPlace} (ht:P.underlying t=some .string) (h:DataW.trod enc P W 0 (λ_=>true) true n t [u]=some y):∃s,u= .string s:=by obtain⟨s,hs,_,_⟩:=DataW.trod_string ht h;exact⟨s,by simpa using hs⟩
end
end Go.Proofs.YtdilnodbfnlhdaaGreatDoor
namespace Go.Proofs.YtdilnodbfnlhdaaGreatDoor
open Go.RowKit Tide
def dW (l:List Int):Bool:=decide ((∀u ∈ l,0<=u/\u<=11)/\l.Nodup)
def takeB (l:List Int) (u:Int):Bool:=decide (0<=u) && (decide (u < 12) && !decide (u ∈ l))
def fu (c:List Int):Bool:=decide (1<=c.length) && decide (c.length<=3)
def aP (ep:Int) (cs:List (List Int)):Bool:=decide (0<=ep) && (decide (ep<=1073741824) && (decide (1<=cs.length) && (decide (cs.length<=3) && (cs.all fu && dW cs.flatten))))
theorem xH:dW []=true:=by decide
theorem qH (l:List Int) (u:Int):dW (l ++ [u])=(dW l && takeB l u):=by
 unfold dW takeB;rw[Bool.eq_iff_iff];simp only[Bool.and_eq_true,decide_eq_true_eq,Bool.not_eq_true',decide_eq_false_iff_not,List.nodup_append,List.mem_append,List.mem_singleton];constructor
 · rintro⟨h1,h2,_,h3⟩;have:=h1 u (.inr rfl);exact⟨⟨λx hx=>h1 x (.inl hx),h2⟩,this.1,by omega,λhu=>h3 u hu u rfl rfl⟩
 · rintro⟨⟨h1,h2⟩,h3,h4,h5⟩;refine⟨λx hx=> ?_,h2,by simp,λa ha b hb=> ?_⟩
   · rcases hx with hx|rfl
     · exact h1 x hx
     · omega
   · subst hb;rintro rfl;exact h5 ha
theorem xI {l m:List Int} (h:dW (l ++ m)=true):dW l=true:=by unfold dW at h ⊢;simp only[decide_eq_true_eq,List.nodup_append]at h ⊢;exact⟨λu hu=>h.1 u (List.mem_append_left _ hu),h.2.1⟩
theorem xG {l m:List Int} (h:dW l=false):dW (l ++ m)=false:=by
 cases e:dW (l ++ m) with
 | false=>rfl
 | true=>rw[xI e]at h;cases h
theorem tC (cs:List (List Int)) (k:Nat) (h:k < cs.length):(cs.take (k+1)).flatten=(cs.take k).flatten ++ cs[k]:=by rw[List.take_succ_eq_append_getElem h,List.flatten_append];simp
theorem xu (cs:List (List Int)) (k:Nat):cs.flatten=(cs.take k).flatten ++ (cs.drop k).flatten:=by rw[<-List.flatten_append,List.take_append_drop]
theorem take_one (c:List Int) (j:Nat) (h:j < c.length):c.take (j+1)=c.take j ++ [c[j]]:=List.take_succ_eq_append_getElem h
theorem Cb {ep:Int} {cs:List (List Int)} {k:Nat} (hk:k < cs.length) (h:fu cs[k]=false):aP ep cs=false:=by
 have:cs.all fu=false:=by rw[Bool.eq_false_iff];intro e;have:=List.all_eq_true.1 e _ (List.getElem_mem hk);rw[h]at this;cases this
 unfold aP;rw[this];simp
theorem Cd {ep:Int} {cs:List (List Int)} {k j:Nat} (hk:k < cs.length) (hj:j < cs[k].length) (h:takeB ((cs.take k).flatten ++ cs[k].take j) cs[k][j]=false):aP ep cs=false:=by
 have:dW cs.flatten=false:=by
  have e:cs.flatten=((cs.take k).flatten ++ cs[k].take j ++ [cs[k][j]]) ++ (cs[k].drop (j+1) ++ (cs.drop (k+1)).flatten):=by have e2:cs[k].take j ++ [cs[k][j]]=cs[k].take (j+1):=(take_one _ _ hj).symm;rw[List.append_assoc (cs.take k).flatten,e2,List.append_assoc,<-List.append_assoc (cs[k].take (j+1)),List.take_append_drop,<-List.append_assoc,<-tC cs k hk,<-xu]
  rw[e];apply xG;rw[qH,h,Bool.and_false]
 unfold aP;rw[this];simp
theorem B7 {ep:Int} {cs:List (List Int)} (h0:decide (ep < 0)=false) (h1:decide (1073741824 < ep)=false) (h2:decide ((cs.length:Int) < 1)=false) (h3:decide ((3:Int) < (cs.length:Int))=false) (h4:cs.all fu=true) (h5:dW cs.flatten=true):aP ep cs=true:=by unfold aP;rw[h4,h5];simp at h0 h1 h2 h3 ⊢;omega
theorem oD {ep:Int} {cs:List (List Int)} (h:aP ep cs=true):0<=ep/\ep<=1073741824/\1<=cs.length/\cs.length<=3/\(∀c ∈ cs,1<=c.length/\c.length<=3)/\(∀u ∈ cs.flatten,0<=u/\u<=11)/\cs.flatten.Nodup:=by unfold aP dW at h;simp only[Bool.and_eq_true,decide_eq_true_eq,List.all_eq_true,fu]at h;obtain⟨a,b,c,d,e,f,g⟩:=h;exact⟨a,b,c,d,e,f,g⟩
def cO (w:World) (B:Nat) (v:Value) (cs:List (List Int)):Prop:=
 ∃vs:List Value,Row w B v vs/\vs.length=cs.length/\∀ (i:Nat) (u:Value) (c:List Int),vs[i]? =some u->cs[i]? =some c->Row w B u (ay c)
section
variable {w w':World} {B B':Nat} {v:Value} {cs:List (List Int)}
theorem cO.an (h:cO w B v cs) (hk:∀b o,b < B->w'.cell? ⟨b,o,none⟩=w.cell? ⟨b,o,none⟩):cO w' B v cs:=by obtain⟨vs,h1,h2,h3⟩:=h;exact⟨vs,h1.an hk,h2,λi u c hu hc=>(h3 i u c hu hc).an hk⟩
theorem cO.more (h:cO w B v cs) (hB:B<=B'):cO w B' v cs:=by obtain⟨vs,h1,h2,h3⟩:=h;exact⟨vs,h1.more hB,h2,λi u c hu hc=>(h3 i u c hu hc).more hB⟩
theorem cO.below (h:cO w B v cs) (hb:Below B w w'):cO w' B v cs:=h.an (ew hb)
theorem cO.form (h:cO w B v cs):cs.length<=9223372036854775807/\∃A c,v= .slice A cs.length c/\
 ∀i (hi:i < cs.length),∃b o u,A=some ⟨b,o,none⟩/\b < B/\w.cell? ⟨b,o+i,none⟩=some u/\Row w B u (ay cs[i]):=by
 obtain⟨vs,⟨hn,A,c,rfl,h1,h2,hc⟩,hl,h3⟩:=h;refine⟨by omega,A,c,by rw[hl],λi hi=> ?_⟩;have hi':i < vs.length:=by omega
 obtain⟨b,o,e,hb,hcell⟩:=hc (by intro e;subst e;simp at hi');exact⟨b,o,vs[i],e,hb,hcell i _ (List.getElem?_eq_getElem hi'),h3 i _ _ (List.getElem?_eq_getElem hi') (List.getElem?_eq_getElem hi)⟩
theorem dn {l:List Int} (h:Row w B v (ay l)):l.length<=9223372036854775807/\∃A c,v= .slice A l.length c/\∀j (hj:j < l.length),∃b o,A=some ⟨b,o,none⟩/\b < B/\w.cell? ⟨b,o+j,none⟩=some (.int .i64 l[j]):=by obtain⟨hn,A,c,rfl,_,_,hc⟩:=h;rw[dk]at hn;refine⟨hn,A,c,by rw[dk],λj hj=> ?_⟩;obtain⟨b,o,e,hb,hcell⟩:=hc (by intro e;have:=dk l;rw[e]at this;simp at this;omega);exact⟨b,o,e,hb,hcell j _ (by simp[ay,hj])⟩
end
def marks (l:List Int):Array Value:=((List.range 12).map λ(i:Nat)=>Value.bool (decide ((i:Int) ∈ l))).toArray
theorem y9:marks []= #[.bool false,.bool false,.bool false,.bool false,.bool false,.bool false,.bool false,.bool false,.bool false,.bool false,.bool false,.bool false]:=by unfold marks;simp[List.range,List.range.loop]
theorem nP (l:List Int) (n:Nat) (h:n < 12):(marks l)[n]? =some (.bool (decide ((n:Int) ∈ l))):=by unfold marks;simp[h]
theorem za (l:List Int) (n:Nat) (h:n < 12):(marks l).setIfInBounds n (.bool true)=marks (l ++ [(n:Int)]):=by
 apply Array.ext_getElem?;intro i;rw[Array.getElem?_setIfInBounds];by_cases hi:i < 12
 · rw[nP _ _ hi,nP _ _ hi];by_cases e:n=i
   · subst e;have hs:n < (marks l).size:=by unfold marks;simpa using h
     simp[hs]
   · rw[if_neg e];have:¬(i:Int)=(n:Int):=by omega
     simp[this]
 · have h1:(marks l).size=12:=by unfold marks;simp
   have h2:(marks (l ++ [(n:Int)])).size=12:=by unfold marks;simp
   rw[if_neg (by omega),Array.getElem?_eq_none (by omega),Array.getElem?_eq_none (by omega)]
end Go.Proofs.YtdilnodbfnlhdaaGreatDoor
namespace Go.Proofs.YtdilnodbfnlhdaaGreatDoor
open Go.RowKit Tide
end Go.Proofs.YtdilnodbfnlhdaaGreatDoor
namespace Go.Proofs.YtdilnodbfnlhdaaGreatDoor
open Go.RowKit Tide
def eY (ep:Int) (cs:List (List Int)) (a:Int):Nat:=if aP ep cs=false then 4 else if a < 0\/4095 < a then 1 else 0
def bU (cs:List (List Int)) (a:Int):List Int:=cs.getD (a.toNat % cs.length) []
end Go.Proofs.YtdilnodbfnlhdaaGreatDoor
