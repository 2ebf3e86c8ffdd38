/- Part of the proof: contracts over the turned program. -/
import Derived.Test.YtgcgacjhkhjhmaaGreatDoorX35
import Derived.Test.YtgcgacjhkhjhmaaGreatDoorX32
import Derived.Test.YtgcgacjhkhjhmaaGreatDoorX30
set_option linter.unusedVariables false
set_option maxHeartbeats 4000000
open Go.Proofs.Tryz
namespace Go.Proofs.YtgcgacjhkhjhmaaGreatDoor
open Go Go.RowKit
def sp0:Sp:=⟨0,nd0,0,0⟩
theorem KT(Z:Nat)(hZ:256<=Z){C:Cg}{W P T K:Nat}(hB:Bd C W P T K):∀(l:List Sp) (a:Sp),(∀i s,(a::l)[i]?=some s->okZ s.page/\(i<l.length->GoodSp s)/\(i=l.length->NdB s.nd Z))->Bd (C.down a l).C (W+2*l.length) (P+l.length) (T+l.length) (K+2*l.length)/\NdB (C.down a l).ab (Z+1000*l.length)
 | [],a,h=>⟨hB,((h 0 a rfl).2.2 rfl)⟩
 | b::l,a,h=>by
  obtain⟨i1,i2⟩:=KT Z hZ hB l b (fun i s hs=>by
   have:=h (i+1) s hs
   exact⟨this.1,fun hi=>this.2.1 (by simp only[List.length_cons];omega),fun hi=>this.2.2 (by simp only[List.length_cons];omega)⟩)
  have ha:=(h 0 a rfl).2.1 (by simp)
  have hb:=(h 1 b rfl).1
  simp only[List.length_cons]
  unfold Cg.down
  split
  ·split
   ·obtain⟨j1,j2⟩:=MN ha { b with nd:=(C.down b l).ab } hb (Z+1000*l.length) i2 (by omega) i1
    exact⟨j1.mono (by omega) (by omega) (by omega) (by omega),⟨j2.ps,j2.ks,j2.kd,Nat.le_trans j2.sz (by omega)⟩⟩
   ·exact⟨i1.mono (by omega) (by omega) (by omega) (by omega),ha.ndB (by omega)⟩
  ·exact⟨i1.mono (by omega) (by omega) (by omega) (by omega),ha.ndB (by omega)⟩
def dn(C:Cg)(ns:List Sp)(i:Nat):Gr:=C.down (ns.getD i sp0) (ns.drop (i+1))
theorem drop_at(ns:List Sp)(i:Nat)(h:i<ns.length):ns.drop i=ns.getD i sp0::ns.drop (i+1):=by
 rw[List.drop_eq_getElem_cons h,List.getD_eq_getElem?_getD,List.getElem?_eq_getElem h];rfl
theorem GO(C:Cg)(ns:List Sp)(i:Nat)(h:i+1<ns.length):dn C ns i=if (dn C ns (i+1)).e=0 then (if (dn C ns (i+1)).go then (dn C ns (i+1)).C.below { ns.getD (i+1) sp0 with nd:=(dn C ns (i+1)).ab } (ns.getD i sp0).kid (ns.getD i sp0).nd else ⟨(dn C ns (i+1)).C,(ns.getD i sp0).nd,false,0⟩) else ⟨(dn C ns (i+1)).C,(ns.getD i sp0).nd,false,(dn C ns (i+1)).e⟩:=by
 unfold dn;rw[drop_at ns (i+1) h];conv=>lhs;unfold Cg.down
theorem KQ(C:Cg)(ns:List Sp)(i:Nat)(h:i+1=ns.length):dn C ns i=⟨C,(ns.getD i sp0).nd,true,0⟩:=by
 unfold dn;rw[List.drop_eq_nil_of_le (by omega)];rfl
theorem Nf(C:Cg)(ns:List Sp):∀i,i<ns.length->(dn C ns i).e≠0->(dn C ns 0).e=(dn C ns i).e/\(dn C ns 0).C=(dn C ns i).C
 | 0,_,_=>⟨rfl,rfl⟩
 | i+1,h,he=>by
  have e:=GO C ns i h
  rw[if_neg he]at e
  have:=Nf C ns i (by omega) (by rw[e];exact he)
  rw[e]at this
  exact this
theorem KR(C:Cg)(ns:List Sp):∀i,i<ns.length->(dn C ns i).e=0->(dn C ns i).go=false->(dn C ns 0).e=0/\(dn C ns 0).go=false/\(dn C ns 0).C=(dn C ns i).C
 | 0,_,h1,h2=>⟨h1,h2,rfl⟩
 | i+1,h,h1,h2=>by
  have e:=GO C ns i h
  rw[if_pos h1,if_neg (by rw[h2];simp)]at e
  have:=KR C ns i (by omega) (by rw[e]) (by rw[e])
  rw[e]at this
  exact this
theorem Db(C:Cg)(ns:List Sp)(h:0<ns.length):C.settle ns=if (dn C ns 0).e=0 then (if (dn C ns 0).go then ((dn C ns 0).C.root (ns.getD 0 sp0).page (dn C ns 0).ab,(dn C ns 0).C.rootZ (ns.getD 0 sp0).page (dn C ns 0).ab) else ((dn C ns 0).C,(ns.getD 0 sp0).page,0)) else ((dn C ns 0).C,0,(dn C ns 0).e):=by
 cases ns with
 | nil=>simp at h
 | cons a l=>rfl
theorem Kk{C:Cg}{ns:List Sp}{i:Nat}(h:i<ns.length)(he:(dn C ns i).e≠0):C.settle ns=((dn C ns i).C,0,(dn C ns i).e):=by
 obtain⟨h1,h2⟩:=Nf C ns i h he;rw[Db C ns (by omega),if_neg (by rw[h1];exact he),h1,h2]
theorem Jb{C:Cg}{ns:List Sp}{i:Nat}(h:i<ns.length)(he:(dn C ns i).e=0)(hg:(dn C ns i).go=false):C.settle ns=((dn C ns i).C,(ns.getD 0 sp0).page,0):=by
 obtain⟨h1,h2,h3⟩:=KR C ns i h he hg;rw[Db C ns (by omega),if_pos h1,if_neg (by rw[h2];simp),h3]
theorem Pp{C:Cg}{W P T K:Nat}(hB:Bd C W P T K)(pg:Int)(hp:okZ pg)(n:Nd)(Z:Nat)(hn:NdB n Z):Bd (C.root pg n) (W+3) (P+1) (T+2) K:=by
 have h1:=hn.ps;have h2:=hn.ks;have hpl:=Ej n;unfold Cg.root;split
 ·exact(hB.spare pg hp).mono (by omega) (by omega) (by omega) (by omega)
 ·split
  ·exact(hB.spare pg hp).mono (by omega) (by omega) (by omega) (by omega)
  ·split
   ·have hsp:Bd (C.take.split pg n) (W+2) P (T+2) K:=by
     unfold Cg.split;split
     ·exact((hB.take.take.write pg n.fst (by omega) (by omega)).write _ n.snd (by omega) (by omega)).mono (by omega) (by omega) (by omega) (by omega)
     ·exact hB.take.take.mono (by omega) (by omega) (by omega) (by omega)
    unfold Cg.raise;split
    ·split
     ·refine(hsp.write _ _ ?_ ?_).mono (by omega) (by omega) (by omega) (by omega)
      ·unfold Cg.splitAb;split<;>simp
      ·unfold Cg.splitAb;split<;>simp[insAt]
     ·exact hsp.mono (by omega) (by omega) (by omega) (by omega)
    ·exact hB.take.mono (by omega) (by omega) (by omega) (by omega)
   ·exact(hB.write pg n (by omega) (by omega)).mono (by omega) (by omega) (by omega) (by omega)
structure NsB (ns:List Sp) (Z:Nat):Prop where
 pos:0<ns.length
 len:ns.length<=41
 pg:∀i,i<ns.length->okZ (ns.getD i sp0).page
 good:∀i,i+1<ns.length->GoodSp (ns.getD i sp0)
 last:NdB (ns.getD (ns.length - 1) sp0).nd Z
theorem PD{ns:List Sp}{Z:Nat}(h:NsB ns Z)(hZ:256<=Z){C:Cg}{W P T K:Nat}(hB:Bd C W P T K)(i:Nat)(hi:i<ns.length):Bd (dn C ns i).C (W+82) (P+41) (T+41) (K+82)/\NdB (dn C ns i).ab (Z+41000):=by
 have hl:(ns.drop (i+1)).length=ns.length - (i+1):=List.length_drop;have h41:=h.len;have hg:∀j s,(ns.getD i sp0::ns.drop (i+1))[j]?=some s->i+j<ns.length/\s=ns.getD (i+j) sp0:=fun j s hs=>by
  rw[<-drop_at ns i hi,List.getElem?_drop]at hs;have:=(List.getElem?_eq_some_iff.1 hs).1;exact⟨this,by rw[List.getD_eq_getElem?_getD,hs];rfl⟩
 obtain⟨b1,b2⟩:=KT Z hZ hB (ns.drop (i+1)) (ns.getD i sp0) (fun j s hs=>by
  obtain⟨h1,rfl⟩:=hg j s hs;refine⟨h.pg _ h1,fun hj=>h.good _ (by omega),fun hj=>?_⟩;rw[show i+j=ns.length - 1 by omega];exact h.last)
 unfold dn;exact⟨b1.mono (by omega) (by omega) (by omega) (by omega),⟨b2.ps,b2.ks,b2.kd,Nat.le_trans b2.sz (by omega)⟩⟩
theorem Mt{ns:List Sp}{Z:Nat}(h:NsB ns Z)(hZ:256<=Z){C:Cg}{W P T K:Nat}(hB:Bd C W P T K):Bd (C.settle ns).1 (W+90) (P+50) (T+50) (K+90):=by
 obtain⟨b1,b2⟩:=PD h hZ hB 0 h.pos;rw[Db C ns h.pos];split
 ·split
  ·exact(Pp b1 _ (h.pg 0 h.pos) _ _ b2).mono (by omega) (by omega) (by omega) (by omega)
  ·exact b1.mono (by omega) (by omega) (by omega) (by omega)
 ·exact b1.mono (by omega) (by omega) (by omega) (by omega)
structure WayS (w W:World) (o oW:Nat->Nat) (g m cap rb base:Nat) (xa:List SpV) (ns:List Sp) (i:Nat) (nd:Nd):Prop where
 row:W.ownsRow rb 85 7 (.slice (some ⟨g,0,none⟩) m cap) xa.length (stcs xa)
 len:xa.length=ns.length
 og:6<=oW g
 up:∀j x,j<i->xa[j]?=some x->SpIs W base x (ns.getD j sp0)
 cur:∀x,xa[i]?=some x->Nv W.heap.size W x.node nd/\x.pg=(ns.getD i sp0).page/\x.kid=((ns.getD i sp0).kid:Int)/\x.was=((ns.getD i sp0).was:Int)
 own:∀j x,j<=i->xa[j]?=some x->∀k,x.own k->k<W.heap.size/\6<=oW k/\(k<w.heap.size->o k=6)
 dis:∀j j' x x',j<=i->j'<=i->j≠j'->xa[j]?=some x->xa[j']?=some x'->∀k,x.own k->¬x'.own k
 rowd:∀j x,j<=i->xa[j]?=some x->¬x.own g
 ol:∀k,k<w.heap.size->oW k=o k\/(6<=oW k/\6<=o k)
 o6:g<w.heap.size->o g=6
def SeSt(b r c mm g m cap rb base:Nat)(o:Nat->Nat)(ns:List Sp)(w W:World)(i:Nat)(R:Gr):Prop:=∃(oW:Nat->Nat) (V':Nat->Prop) (wv tv sv:Value) (xs xa:List SpV),Cm W b r oW R.C wv tv sv xs/\Wk W r V' c mm R.C.S/\(∀k,V' k->oW k=5/\k<W.heap.size)/\Kp (fun k=>1<=o k/\o k<=6) w W/\WayS w W o oW g m cap rb base xa ns i R.ab/\(∀k,V' k->k<w.heap.size->o k=5)
def KI(b r c mm:Nat)(o:Nat->Nat)(C':Cg)(w w':World):Prop:=∃(o':Nat->Nat) (V':Nat->Prop) (wv' tv' sv':Value) (xs':List SpV),Cm w' b r o' C' wv' tv' sv' xs'/\Wk w' r V' c mm C'.S/\(∀k,V' k->o' k=5/\k<w'.heap.size)/\Kp (fun k=>1<=o k/\o k<=6) w w'/\(∀k,V' k->k<w.heap.size->o k=5)
theorem WayS.above{w W:World}{o oW:Nat->Nat}{g m cap rb base i:Nat}{xa:List SpV}{ns:List Sp}{nd:Nd}(h:WayS w W o oW g m cap rb base xa ns (i+1) nd)(x:SpV)(hx:xa[i]?=some x)(hkd:(ns.getD i sp0).nd.kd≠[]) :
  ∃oR:Nat->Nat,(∀k,oW k<=5->oR k=oW k)/\(∀k,6<=oW k->6<=oR k)/\(∀j y,j<i->xa[j]?=some y->∀k,y.own k->oR k=7)/\(∀k,oR k=6->k=g\/x.own k)/\AbM W oR g m cap i rb base xa x (ns.getD i sp0).nd:=by
 classical
 have hi:i<xa.length:=(List.getElem?_eq_some_iff.1 hx).1;have hxi:xa[i]=x:=(List.getElem?_eq_some_iff.1 hx).2;have hsp:=h.up i x (by omega) hx;refine⟨fun k=>if oW k<=5 then oW k else if k=g\/x.own k then 6 else 7,fun k e=>if_pos e,fun k e=>?_,fun j y hj hy k hk=>?_,fun k e=>?_,?_⟩
 ·show 6<=(if oW k<=5 then oW k else if k=g\/x.own k then 6 else 7);rw[if_neg (by omega)];split<;>omega
 ·show (if oW k<=5 then oW k else if k=g\/x.own k then 6 else 7)=7;have h1:=(h.own j y (by omega) hy k hk).2.1;rw[if_neg (by omega),if_neg];rintro (e|e)
  ·rw[e]at hk;exact h.rowd j y (by omega) hy hk
  ·exact h.dis j i y x (by omega) (by omega) (by omega) hy hx k hk e
 ·have e':(if oW k<=5 then oW k else if k=g\/x.own k then 6 else 7)=6:=e;split at e'
  ·omega
  ·split at e'
   ·assumption
   ·omega
 ·refine⟨h.row,hi,hxi,hsp.nd,h.rowd i x (by omega) hx,fun k j hk _=>?_,?_,fun k hk=>?_⟩
  ·rw[hsp.nd.np hkd]at hk;cases hk
  ·show (if oW g<=5 then oW g else if g=g\/x.own g then 6 else 7)=6;have:=h.og;rw[if_neg (by omega),if_pos (.inl rfl)]
  ·show (if oW k<=5 then oW k else if k=g\/x.own k then 6 else 7)=6;have:=(h.own i x (by omega) hx k hk).2.1;rw[if_neg (by omega),if_pos (.inr hk)]
theorem WayS.next{w W W':World}{o oW oR o':Nat->Nat}{g m cap rb base i:Nat}{xa:List SpV}{ns:List Sp}{nd nd':Nd}(h:WayS w W o oW g m cap rb base xa ns (i+1) nd)(x x':SpV)(hx:xa[i]?=some x)(h5:∀k,oW k<=5->oR k=oW k)(h6:∀k,6<=oW k->6<=oR k)(h7:∀j y,j<i->xa[j]?=some y->∀k,y.own k->oR k=7)(h8:∀k,oR k=6->k=g\/x.own k)(hk:Kp (fun k=>1<=oR k/\oR k<=6) W W')(ho:∀k,k<W.heap.size->o' k=oR k)(hws:w.heap.size<=W.heap.size)
  (hrow:W'.ownsRow rb 85 7 (.slice (some ⟨g,0,none⟩) m cap) (xa.set i x').length (stcs (xa.set i x'))) (hN:OwM W' base x'.l x'.p x'.k x'.d nd') (hf:x'.pg=x.pg/\x'.kid=x.kid/\x'.was=x.was) (hown:∀k,x'.own k->(oR k=6\/W.heap.size<=k)/\6<=o' k) (hng:¬x'.own g):WayS w W' o o' g m cap rb base (xa.set i x') ns i nd':=by
 have hi:i<xa.length:=(List.getElem?_eq_some_iff.1 hx).1;have hgl:g<W.heap.size:=(World.ownsRow.lt h.row g rfl).2;have hsp:=h.up i x (by omega) hx;have hlow:∀j y,j<i->(xa.set i x')[j]?=some y->xa[j]?=some y:=fun j y hj hy=>by rw[List.getElem?_set_ne (by omega)]at hy;exact hy
 have hat:∀y,(xa.set i x')[i]?=some y->y=x':=fun y hy=>by rw[List.getElem?_set_self hi]at hy;exact(Option.some.inj hy).symm
 have hnb:∀k,x'.own k->k<W'.heap.size:=fun k e=>by
  rcases e with e|e|e
  ·exact(hN.p.lt k e).2
  ·exact(hN.k.lt k e).2
  ·exact(hN.d.lt k e).2
 refine⟨hrow,by rw[List.length_set];exact h.len,by rw[ho g hgl];exact h6 g h.og,fun j y hj hy=>?_,fun y hy=>?_,fun j y hj hy k e=>?_,fun j j' y y' hj hj' hne hy hy' k e e'=>?_,fun j y hj hy=>?_,fun k hkw=>?_,h.o6⟩
 ·have hy':=hlow j y hj hy;exact(h.up j y (by omega) hy').kept hk (fun k e e2=>by have:=h7 j y hj hy' k e;omega)
 ·rw[hat y hy];exact⟨hN.nv,by rw[hf.1];exact hsp.pg,by rw[hf.2.1];exact hsp.kid,by rw[hf.2.2];exact hsp.was⟩
 ·rcases Nat.lt_or_eq_of_le hj with hj|hj
  ·have hy':=hlow j y hj hy;have h1:=h.own j y (by omega) hy' k e;exact⟨Qd h1.1 hk.size,by rw[ho k h1.1];exact h6 k h1.2.1,h1.2.2⟩
  ·subst hj;have ey:=hat y hy;subst ey;refine⟨hnb k e,(hown k e).2,fun hkw=>?_⟩;rcases (hown k e).1 with e1|e1
   ·rcases h8 k e1 with e2|e2
    ·rw[e2]at e;exact absurd e hng
    ·exact(h.own j x (by omega) hx k e2).2.2 hkw
   ·omega
 ·rcases Nat.lt_or_eq_of_le hj with hj|hj<;>rcases Nat.lt_or_eq_of_le hj' with hj'|hj'
  ·exact h.dis j j' y y' (by omega) (by omega) hne (hlow j y hj hy) (hlow j' y' hj' hy') k e e'
  ·subst hj';have ey:=hat y' hy';subst ey;have h1:=h.own j y (by omega) (hlow j y hj hy) k e;have h2:=h7 j y hj (hlow j y hj hy) k e;rcases (hown k e').1 with e1|e1<;>omega
  ·subst hj;have ey:=hat y hy;subst ey;have h1:=h.own j' y' (by omega) (hlow j' y' hj' hy') k e';have h2:=h7 j' y' hj' (hlow j' y' hj' hy') k e';rcases (hown k e).1 with e1|e1<;>omega
  ·omega
 ·rcases Nat.lt_or_eq_of_le hj with hj|hj
  ·exact h.rowd j y (by omega) (hlow j y hj hy)
  ·subst hj;rw[hat y hy];exact hng
 ·rw[ho k (by omega)];rcases h.ol k hkw with e|e
  ·by_cases h1:oW k<=5
   ·left;rw[h5 k h1];exact e
   ·right;exact⟨h6 k (by omega),by omega⟩
  ·right;exact⟨h6 k e.1,e.2⟩
theorem WayS.kp{w W W':World}{o oW oR:Nat->Nat}{g m cap rb base i:Nat}{xa:List SpV}{ns:List Sp}{nd:Nd}(h:WayS w W o oW g m cap rb base xa ns (i+1) nd)(x:SpV)(hx:xa[i]?=some x)(h5:∀k,oW k<=5->oR k=oW k)(h6:∀k,6<=oW k->6<=oR k)(h8:∀k,oR k=6->k=g\/x.own k)(hk0:Kp (fun k=>1<=o k/\o k<=6) w W)(hk:Kp (fun k=>1<=oR k/\oR k<=6) W W'):Kp (fun k=>1<=o k/\o k<=6) w W':=by
 refine hk0.trans hk (fun _ _ h=>h) (fun k hkw e=>?_);by_cases h1:oW k<=5
 ·have h2:=h5 k h1;rcases h.ol k hkw with e1|e1
  ·omega
  ·omega
 ·have h2:=h6 k (by omega);have h3:oR k=6:=by omega
  rcases h8 k h3 with e1|e1
  ·have:=h.o6 (by rw[<-e1];exact hkw);rw[e1];omega
  ·have:=(h.own i x (by omega) hx k e1).2.2 hkw;omega
set_option maxRecDepth 100000 in
theorem Js(b r c mm g m cap rb base:Nat)(o:Nat->Nat)(C:Cg)(ns:List Sp)(Z:Nat)(w:World)(hSt:SeSt b r c mm g m cap rb base o ns w w (ns.length - 1) (dn C ns (ns.length - 1)))(hm:m=ns.length)(hb:base<=w.heap.size)(hmm:mm<=1000)(hns:NsB ns Z)(hZ:256<=Z)(hZ':Z<=10000)(hB:Bd C 10 10 10 50000) :
  Calls prog 65 #[.pointer (some ⟨b,0,none⟩),.slice (some ⟨g,0,none⟩) m cap] w fun e w'=>e=.returned (.tuple #[.int .i64 (C.settle ns).2.1,.int .i64 (C.settle ns).2.2])/\KI b r c (mm+100) o (C.settle ns).1 w w':=by
 have HNS:=hide hns;have HBD:Hid (∀i,i<ns.length->Bd (dn C ns i).C 92 51 51 50082/\NdB (dn C ns i).ab (Z+41000)):=fun i hi=>PD hns hZ hB i hi;obtain⟨L,HL⟩:∃q,Hid (ns.length=q):=⟨_,hide rfl⟩;have hL0:0<L:=by have:=HL.out;have:=hns.pos;omega
 have hL41:L<=41:=by have:=HL.out;have:=hns.len;omega
 have HST:=hide hSt;have HB:=hide hb;have HM:=hide hmm;have HZ:=hide hZ';subst hm;rw[HL.out];rw[HL.out]at HST HBD;have HLW:Hid ((dn C ns (L - 1)).go=true/\(dn C ns (L - 1)).e=0):=by
  have:=KQ C ns (L - 1) (by have:=HL.out;omega);rw[this];exact⟨rfl,rfl⟩
 clear hSt hb hmm hns hZ hZ' hB;go_enter func65,ntmps65;go_upto_region 2 with fail;go_loopw [6,7,8] (fun t6 _ _ wr=>∃i:Nat,i<L/\t6=.int .i64 i/\Hid ((dn C ns i).go=true/\(dn C ns i).e=0)/\Hid (SeSt b r c (mm+2*(L - 1 - i)) g L cap rb base o ns w wr i (dn C ns i))) (fun t6 _ _ _=>(intOf t6).toNat)
 case atStart=>exact⟨L - 1,by omega,by rw[show (L:Int) - 1=((L - 1:Nat):Int) by omega],HLW,hide (by rw[Nat.sub_self,Nat.mul_zero,Nat.add_zero];exact HST.out)⟩
 case round =>
  obtain⟨i,hi,rfl,HR,HS⟩:=hrel;have hlns:i<ns.length:=by rw[HL.out];exact hi
  obtain⟨oW,V',wv,tv,sv,xs,xa,hC,hW,hV,hk,hS,hvo⟩:=HS.out;have hlen:xa.length=L:=by rw[hS.len,HL.out]
  obtain⟨y,hy⟩:∃y,xa[i]?=some y:=⟨xa[i],List.getElem?_eq_getElem (by omega)⟩;have hiy:i<xa.length:=by omega
  have hyi:xa[i]=y:=(List.getElem?_eq_some_iff.1 hy).2;have HCELL:Hid (∀j u,y.cells[j]?=some u->wr.cell? ⟨g,i*7+j,none⟩=some u):=fun j u hu=>(row_step hS.row i hiy j u (by rw[hyi];exact hu)).1;obtain⟨hNy,hypg,hykid,hywas⟩:=hS.cur y hy;have hyown:=hS.own i y (Nat.le_refl _) hy;obtain⟨hbd,hnb⟩:=HBD.out i hi;rcases Nat.eq_zero_or_pos i with h0|h0
  ·subst h0;have hex:∃oR:Nat->Nat,(∀k,oW k<=5->oR k=oW k)/\(∀k,6<=oW k->oR k=7):=⟨fun k=>if oW k<=5 then oW k else 7,fun k h=>if_pos h,fun k h=>if_neg (by omega)⟩;obtain⟨oR,h5,h7⟩:=hex;have hz:=Eo hbd.take;have hpgz:okZ y.pg:=by rw[hypg];exact HNS.out.pg 0 hlns
   have HSR:=hide (FK b r c (mm+2*(L - 1 - 0)) oR V' (dn C ns 0).C wv tv sv xs y (dn C ns 0).ab wr (hC.relabel (fun k h=>h5 k (by omega))) hW (fun k e=>⟨by rw[h5 k (by have:=(hV k e).1;omega)];exact(hV k e).1,(hV k e).2⟩) (by have:=HM.out;omega) (by have:=hbd.tk;omega) (by have:=hbd.sp;omega) (by have:=hbd.ws;omega) hNy (fun k e=>⟨(hyown k e).1,.inr (by rw[h7 k (hyown k e).2.1];omega)⟩) hz hpgz (by have:=hnb.ps;omega) (by have:=hnb.ks;omega) (by have:=hnb.kd;omega) (by have:=hnb.sz;have:=HZ.out;omega))
   have HE:Hid (C.settle ns=((dn C ns 0).C.root y.pg (dn C ns 0).ab,(dn C ns 0).C.rootZ y.pg (dn C ns 0).ab)):=by
    show _=_;rw[Db C ns hlns,if_pos HR.out.2,if_pos HR.out.1,hypg]
   have HKE:Hid (∀W,Kp (fun k=>1<=oR k/\oR k<=6) wr W->Kp (fun k=>1<=o k/\o k<=6) w W):=by
    intro W hkW;refine hk.trans hkW (fun _ _ h=>h) (fun k hkw e=>?_);by_cases h1:oW k<=5
    ·have h2:=h5 k h1;rcases hS.ol k hkw with e1|e1<;>omega
    ·have h2:=h7 k (by omega);omega
   have HKS:Hid (w.heap.size<=wr.heap.size):=hk.size;have HVE:Hid (∀k,k<w.heap.size->oR k=5->o k=5):=fun k hkw e=>by
    by_cases h1:oW k<=5
    ·have h2:=h5 k h1;rcases hS.ol k hkw with e1|e1<;>omega
    ·have h2:=h7 k (by omega);omega
   have y0:=HCELL.out 0 _ rfl;have y1:=HCELL.out 1 _ rfl;have y2:=HCELL.out 2 _ rfl;have y3:=HCELL.out 3 _ rfl;have y4:=HCELL.out 4 _ rfl;have y5:=HCELL.out 5 _ rfl;have y6:=HCELL.out 6 _ rfl;simp only[Nat.zero_mul,Nat.zero_add]at y0 y1 y2 y3 y4 y5 y6;obtain⟨z1,Hz1⟩:∃q,Hid (((dn C ns 0).C.rootZ y.pg (dn C ns 0).ab).1=q):=⟨_,hide rfl⟩;obtain⟨z2,Hz2⟩:∃q,Hid (((dn C ns 0).C.rootZ y.pg (dn C ns 0).ab).2=q):=⟨_,hide rfl⟩;rw[Hz1.out,Hz2.out]at HSR
   clear hlns hC hW hV hk hS hlen hy hiy hyi hNy hypg hykid hywas hyown hbd hnb h5 h7 hz hpgz;go_wp2_with (first
    | (go_at_call 95;refine HSR.out.mono ?_;rintro e w5 ⟨rfl,o5,V5,wv5,tv5,sv5,xs5,hC5,hW5,hV5,hk5,hvo5⟩)
    | fail)
   go_ret2;rw[HE.out,Hz1.out,Hz2.out];exact⟨rfl,o5,V5,wv5,tv5,sv5,xs5,hC5,hW5.mono (fun _ _ h=>h) (by omega),hV5,HKE.out _ hk5,fun k e h=>HVE.out k h (hvo5 k e (Qd h HKS.out))⟩
  ·obtain⟨j,Hj⟩:∃j,Hid (i=j+1):=⟨i - 1,hide (by omega)⟩;have e:=Hj.out;subst e;have hgood:=HNS.out.good j hlns;have hkd:(ns.getD j sp0).nd.kd≠[]:=fun e=>by have:=hgood.kdl;rw[e]at this;simp at this
   obtain⟨x,hx⟩:∃x,xa[j]?=some x:=⟨xa[j],List.getElem?_eq_getElem (by omega)⟩;obtain⟨oR,h5,h6,h7,h8,hAb⟩:=hS.above x hx hkd;have hspx:=hS.up j x (by omega) hx;have hz:=Eo hbd
   have HKN:Hid (∀W,Kp none' wr W->Calls prog 94 #[.pointer (some ⟨b,0,none⟩),.agg #[.int .i64 y.pg,.bool y.l,.slice y.a1 y.n1 y.c1,.slice y.a2 y.n2 y.c2,.slice y.a3 y.n3 y.c3,.int .i64 y.kid,.int .i64 y.was],.pointer (some ⟨g,j*7,none⟩)] W fun e w'=>e=.returned (.tuple #[.bool (dn C ns j).go,.int .i64 (dn C ns j).e])/\BV b r c (mm+2*(L - 1 - (j+1))+2) g L cap j rb base oR (dn C ns j) xa x W w'):=by
    intro W hkW;have hR:dn C ns j=(dn C ns (j+1)).C.below ⟨y.pg,(dn C ns (j+1)).ab,(ns.getD (j+1) sp0).kid,(ns.getD (j+1) sp0).was⟩ (ns.getD j sp0).kid (ns.getD j sp0).nd:=by
     rw[GO C ns j hlns,if_pos HR.out.2,if_pos HR.out.1,hypg]
    rw[hR]
    exact EH b r c (mm+2*(L - 1 - (j+1))) g L cap j rb base oR V' (dn C ns (j+1)).C wv tv sv xs xa y x (dn C ns (j+1)).ab (ns.getD j sp0).nd (ns.getD j sp0).kid (ns.getD (j+1) sp0).kid (ns.getD (j+1) sp0).was W ((hC.relabel (fun k h=>h5 k (by omega))).kept hkW (fun _ _ _ h=>h) (fun _ _=>rfl)) (hW.keptN hkW) (fun k e=>⟨by rw[h5 k (by have:=(hV k e).1;omega)];exact(hV k e).1,Qd (hV k e).2 hkW.size⟩) (by have:=HM.out;omega) (by have:=hbd.k;omega) (by have:=hbd.ws;omega) (by have:=hbd.sp;omega) (by have:=hbd.tk;omega) hz (hNy.keptO hkW (fun _ _ h=>h)) (fun k e=>⟨Qd (hyown k e).1 hkW.size,.inr (h6 k (hyown k e).2.1)⟩) hywas (hAb.kept hkW (fun _ _ _ h=>h) (fun _ _=>rfl)) (Nat.le_trans HB.out (Nat.le_trans hk.size hkW.size)) hspx.kid hgood.kid hgood.kdl (by have:=hgood.kdl;have:=hgood.ks;omega) hgood.lf (by have:=hgood.sz;omega) (by have:=hnb.ps;omega) (by have:=hnb.ks;omega) (by have:=hnb.kd;omega) (by have:=hnb.sz;have:=HZ.out;omega)
   have HVR:Hid (∀k,k<w.heap.size->oR k=5->o k=5):=fun k hkw e=>by
    by_cases h1:oW k<=5
    ·have h2:=h5 k h1;rcases hS.ol k hkw with e1|e1<;>omega
    ·have h2:=h6 k (by omega);omega
   have HNEXT:Hid (∀(W W':World),Kp none' wr W->(dn C ns j).e=0->(dn C ns j).go=true->BV b r c (mm+2*(L - 1 - (j+1))+2) g L cap j rb base oR (dn C ns j) xa x W W'->SeSt b r c (mm+2*(L - 1 - j)) g L cap rb base o ns w W' j (dn C ns j)):=by
    intro W W' hkW he hg hP;obtain⟨o',V5,wv5,tv5,sv5,xs5,hC5,hW5,hV5,hk5,hgo,_,hvo5⟩:=hP;obtain⟨hoo,x',hr',hN',hf',hown',hng'⟩:=hgo hg he;have hk5':Kp (fun k=>1<=oR k/\oR k<=6) wr W':=hkW.nThen hk5
    refine⟨o',V5,wv5,tv5,sv5,xs5,xa.set j x',hC5,hW5.mono (fun _ _ h=>h) (by omega),hV5,hS.kp x hx h5 h6 h8 hk hk5',hS.next x x' hx h5 h6 h7 h8 hk5' (fun k h=>hoo k (Qd h hkW.size)) hk.size hr' hN' hf' (fun k e=>⟨?_,(hown' k e).2⟩) hng',fun k e h=>HVR.out k h (hvo5 k e (Qd h (Nat.le_trans hk.size hkW.size)))⟩;rcases (hown' k e).1 with e1|e1
    ·exact .inl e1
    ·exact .inr (Nat.le_trans hkW.size e1)
   have HEND:Hid (∀(W W':World),Kp none' wr W->BV b r c (mm+2*(L - 1 - (j+1))+2) g L cap j rb base oR (dn C ns j) xa x W W'->KI b r c (mm+100) o (dn C ns j).C w W'):=by
    intro W W' hkW hP;obtain⟨o',V5,wv5,tv5,sv5,xs5,hC5,hW5,hV5,hk5,_,_,hvo5⟩:=hP;exact⟨o',V5,wv5,tv5,sv5,xs5,hC5,hW5.mono (fun _ _ h=>h) (by omega),hV5,hS.kp x hx h5 h6 h8 hk (hkW.nThen hk5),fun k e h=>HVR.out k h (hvo5 k e (Qd h (Nat.le_trans hk.size hkW.size)))⟩
   have HP0:Hid (∀(W W':World),(dn C ns j).go=false->BV b r c (mm+2*(L - 1 - (j+1))+2) g L cap j rb base oR (dn C ns j) xa x W W'->W'.cell? ⟨g,0,none⟩=some (.int .i64 (ns.getD 0 sp0).page)):=by
    intro W W' hg hP;obtain⟨o',V5,wv5,tv5,sv5,xs5,_,_,_,_,_,hrow,_⟩:=hP;obtain⟨x0,hx0⟩:∃x,xa[0]?=some x:=⟨xa[0],List.getElem?_eq_getElem (by omega)⟩;have h1:=hS.up 0 x0 (by omega) hx0;have h2:0<xa.length:=by omega
    have h3:xa[0]=x0:=(List.getElem?_eq_some_iff.1 hx0).2;have:=(row_step (hrow hg) 0 h2 0 (.int .i64 x0.pg) (by rw[h3];rfl)).1;rw[h1.pg,Nat.zero_mul,Nat.zero_add]at this;exact this
   obtain⟨G,HG⟩:∃q,Hid ((dn C ns j).go=q):=⟨_,hide rfl⟩;obtain⟨E,HE⟩:∃q,Hid ((dn C ns j).e=q):=⟨_,hide rfl⟩;rw[HG.out,HE.out]at HKN;have hjl:j<ns.length:=by omega
   have HJL:=hide hjl;have y0:=HCELL.out 0 _ rfl;have y1:=HCELL.out 1 _ rfl;have y2:=HCELL.out 2 _ rfl;have y3:=HCELL.out 3 _ rfl;have y4:=HCELL.out 4 _ rfl;have y5:=HCELL.out 5 _ rfl;have y6:=HCELL.out 6 _ rfl;rw[Nat.add_zero]at y0;have hj1:j+1<L:=hi;clear hlns hC hW hV hk hS hlen hy hiy hyi hNy hypg hykid hywas hyown hbd hnb h5 h6 h7 h8 hz hgood hkd hx hAb hspx h0 hjl HCELL HS HR Hj hi;obtain⟨i,Hi⟩:∃q,Hid (j+1=q):=⟨_,hide rfl⟩;rw[Hi.out]at y0 y1 y2 y3 y4 y5 y6 |-
   have dr:Kp none' wr wr.drew:=Kp.drew _ _;have d0:=dr.cell y0 (fun h=>h);have d1:=dr.cell y1 (fun h=>h);have d2:=dr.cell y2 (fun h=>h);have d3:=dr.cell y3 (fun h=>h);have d4:=dr.cell y4 (fun h=>h);have d5:=dr.cell y5 (fun h=>h);have d6:=dr.cell y6 (fun h=>h);have hw1:IntKind.i64.wrap ((i:Int) - 1)=(j:Int):=by rw[IntKind.wrap_i64];have:=Hi.out;omega
   have HW2:Hid (wrap64 ((i:Int) - 1)=(j:Int)):=by show _=_;unfold wrap64;have:=Hi.out;omega
   have hi0:(0:Int)<(i:Int):=by have:=Hi.out;omega
   have hiL:(i:Int)<(L:Int):=by have:=Hi.out;omega
   have hjL:(j:Int)<(L:Int):=by omega
   by_cases hE:E=0
   ·have hEb:(E != 0)=false:=by rw[hE];rfl
    have HE0:Hid ((dn C ns j).e=0):=by show _=_;rw[HE.out];exact hE
    clear hE;cases G with
    | true =>
     go_upto_region 4 with fail;go_region_law (first
      | (go_simp;go_at_call 94;refine(HKN.out _ (by first|assumption|exact dr)).mono ?_;rintro e w5 ⟨rfl,hP5⟩)
      | fail)
     all_goals (
      have HN5:=hide (HNEXT.out _ _ dr HE0.out HG.out hP5);clear hP5;go_wp2;go_roundw
      case rel=>exact⟨j,by omega,by first|rfl|rw[HW2.out]|(rw[show (i:Int) - 1=(j:Int) by have:=Hi.out;omega]),hide ⟨HG.out,HE0.out⟩,HN5⟩
      case measure=>first|(rw[HW2.out];simp only[intOf];have:=Hi.out;omega)|(simp only[intOf];have:=Hi.out;omega))
    | false =>
     go_upto_region 4 with fail;go_region_law (first
      | (go_simp;go_at_call 94;refine(HKN.out _ (by first|assumption|exact dr)).mono ?_;rintro e w5 ⟨rfl,hP5⟩)
      | fail)
     all_goals (
      have c0:=HP0.out _ _ HG.out hP5;have HF5:=hide (HEND.out _ _ dr hP5);clear hP5;go_wp2;go_ret2;rw[Jb HJL.out HE0.out HG.out];exact⟨rfl,HF5.out⟩)
   ·have hEb:(E != 0)=true:=by rw[bne_iff_ne];exact hE
    have HE1:Hid ((dn C ns j).e≠0):=by show _≠_;rw[HE.out];exact hE
    clear hE;go_upto_region 4 with fail;go_region_law (first
     | (go_simp;go_at_call 94;refine(HKN.out _ (by first|assumption|exact dr)).mono ?_;rintro e w5 ⟨rfl,hP5⟩)
     | fail)
    all_goals (
     have HF5:=hide (HEND.out _ _ dr hP5);clear hP5;go_wp2;go_ret2;rw[Kk HJL.out HE1.out,HE.out];exact⟨rfl,HF5.out⟩)
end Go.Proofs.YtgcgacjhkhjhmaaGreatDoor
namespace Go.Proofs.YtgcgacjhkhjhmaaGreatDoor
def CI:List Sp->Prop
 | []=>False
 | [a]=>okZ a.page/\a.nd.leaf=true/\a.nd.ps.length<=256/\a.nd.size<=256/\a.nd.ks=[]/\a.nd.kd=[]
 | a::b::l=>okZ a.page/\GoodSp a/\CI (b::l)
theorem OD{S:Sw}{k:Nat}{z lv:Int}(h:trE S k z lv=0):∃n,readN (S.read z).1=some n/\ndOf S z=n/\n.writeE=0:=by
 obtain⟨_,_,h1,_,_⟩:=Dx h;unfold ndE at h1;split at h1
 ·rename_i hr;split at h1
  ·rename_i hs;obtain⟨n,hn⟩:=Option.isSome_iff_exists.1 hs;refine⟨n,hn,?_,(Bk hn).1⟩;unfold ndOf;rw[if_pos hr,hn];rfl
  ·cases h1
 ·rename_i hr;exact absurd h1 hr
theorem Pb{z:Int}(h:1<=z/\z<=65535):okZ z:=⟨by omega,by omega⟩
theorem GF(S:Sw)(key:ByteArray):∀(f:Nat) (acc:List Sp) (z:Int) (k:Nat),okZ z->(wayG S key f acc z k).2.1=0->∃p,(wayG S key f acc z k).1=acc++p/\CI p/\p.length<=f:=by
 intro f;induction f with
 | zero=>intro acc z k _ h;simp[wayG]at h
 | succ f ih =>
  intro acc z k hz h;unfold wayG at h |-;by_cases hE:trE S k z (acc.length+1)=0
  ·rw[if_pos hE]at h |-;obtain⟨n,hn,hnd,hwe⟩:=OD hE;have hsm:=Jd hwe;have hr:=(Ay hwe).1;by_cases hl:(ndOf S z).leaf=true
   ·rw[if_pos hl]at h |-;rw[hnd]at hl;obtain⟨_,h2,h3,_⟩:=AI hr hl;refine⟨[_],rfl,⟨hz,?_⟩,by simp⟩;show (ndOf S z).leaf=true/\(ndOf S z).ps.length<=256/\(ndOf S z).size<=256/\(ndOf S z).ks=[]/\(ndOf S z).kd=[];rw[hnd];exact⟨hl,hsm.1,hsm.2.2.2,h2,h3⟩
   ·rw[if_neg hl]at h |-;have hl':n.leaf=false:=by rw[hnd]at hl;simpa using hl
    obtain⟨h1,h2,h3,h4⟩:=At hr hl';have hG:GoodSp ⟨z,ndOf S z,An (ndOf S z).ks key,(ndOf S z).size⟩:=by
     rw[hnd];exact⟨List.length_filter_le _ _,h3,hsm.2.1,hsm.1,hl',hsm.2.2.2,fun d hd=>Pb (h1 d hd)⟩
    obtain⟨p,e,hp,hlen⟩:=ih _ _ _ (Cd hG.oz _) h;refine⟨_::p,by rw[e,List.append_assoc];rfl,?_,by simp;omega⟩;cases p with
    | nil=>exact hp.elim
    | cons b p=>exact⟨hz,hG,hp⟩
  ·rw[if_neg hE]at h;exact absurd h hE
theorem CS(g:Nd->Nd):∀l:List Sp,(setLast g l).length=l.length
 | []=>rfl
 | [a]=>rfl
 | a::b::l=>by show (setLast g (b::l)).length+1=_;rw[CS g (b::l)];rfl
theorem Bo(g:Nd->Nd):∀(l:List Sp) (i:Nat),i<l.length->(setLast g l).getD i sp0=if i+1=l.length then { l.getD i sp0 with nd:=g (l.getD i sp0).nd } else l.getD i sp0
 | [],i,h=>by simp at h
 | [a],i,h=>by
  have:i=0:=by simp at h;omega
  subst this
  rfl
 | a::b::l,i,h=>by
  cases i with
  | zero=>rw[if_neg (by simp)];rfl
  | succ i =>
   have:=Bo g (b::l) i (by simp at h |-;omega)
   show (setLast g (b::l)).getD i sp0=if i+1+1=(b::l).length+1 then { (b::l).getD i sp0 with nd:=g ((b::l).getD i sp0).nd } else (b::l).getD i sp0
   rw[this]
   by_cases e:i+1=(b::l).length
   ·rw[if_pos e,if_pos (by omega)]
   ·rw[if_neg e,if_neg (by omega)]
theorem DX : ∀ (p : List Sp), CI p → 0 < p.length ∧ (∀ i, i < p.length → okZ (p.getD i sp0).page) ∧ (∀ i, i + 1 < p.length → GoodSp (p.getD i sp0)) ∧ ((p.getD (p.length - 1) sp0).nd.leaf = true ∧ (p.getD (p.length - 1) sp0).nd.ps.length ≤ 256 ∧ (p.getD (p.length - 1) sp0).nd.size ≤ 256 ∧ (p.getD (p.length - 1) sp0).nd.ks = [] ∧ (p.getD (p.length - 1) sp0).nd.kd = [])
  | [], h => h.elim
  | [a], h => ⟨by simp, fun i hi => by have : i = 0 := by simp at hi; omega
                                       subst this; exact h.1, fun i hi => by simp at hi, h.2⟩
  | a :: b :: l, h => by
    obtain ⟨h1, h2, h3, h4⟩ := DX (b :: l) h.2.2
    refine ⟨by simp, fun i hi => ?_, fun i hi => ?_, ?_⟩
    · cases i with
      | zero => exact h.1
      | succ i => exact h2 i (by simp at hi ⊢; omega)
    · cases i with
      | zero => exact h.2.1
      | succ i => exact h3 i (by simp at hi ⊢; omega)
    · exact h4
theorem I2{p:List Sp}(h:CI p)(hl:p.length<=41)(g:Nd->Nd)(hg:∀n:Nd,n.leaf=true->n.ps.length<=256->n.size<=256->NdB (g n) 1000):NsB (setLast g p) 1000:=by
 obtain⟨h1,h2,h3,h4⟩:=DX p h;have hlen:=CS g p;refine⟨by omega,by omega,fun i hi=>?_,fun i hi=>?_,?_⟩
 ·rw[Bo g p i (by omega)];split
  ·exact h2 i (by omega)
  ·exact h2 i (by omega)
 ·rw[Bo g p i (by omega),if_neg (by omega)];exact h3 i (by omega)
 ·rw[hlen,Bo g p _ (by omega),if_pos (by omega)];exact hg _ h4.1 h4.2.1 h4.2.2.1
theorem Pm(key val:ByteArray)(hk:key.size<=32)(hv:val.size<=40)(n:Nd)(hl:n.leaf=true)(h1:n.ps.length<=256)(h2:n.size<=256):NdB (n.put key val) 1000:=by
 have h4:findN n.ps key<=behind n.ps key:=by unfold behind;split<;>omega
 have e0:n.size=2+(n.ps.map Pr.size).sum:=by unfold Nd.size;rw[hl,if_pos rfl]
 have e1:n.ps.length=(n.ps.take (findN n.ps key)).length+(n.ps.drop (findN n.ps key)).length:=by rw[<-List.length_append,List.take_append_drop]
 have e2:(n.ps.map Pr.size).sum=((n.ps.take (findN n.ps key)).map Pr.size).sum+((n.ps.drop (findN n.ps key)).map Pr.size).sum:=by rw[<-List.sum_append,<-List.map_append,List.take_append_drop]
 have e3:=Au Pr.size (n.ps.drop (findN n.ps key)) (behind n.ps key - findN n.ps key);rw[List.drop_drop,show findN n.ps key+(behind n.ps key - findN n.ps key)=behind n.ps key by omega]at e3;have e5:(n.ps.drop (behind n.ps key)).length<=n.ps.length:=by rw[List.length_drop];omega
 have e6:(n.ps.take (findN n.ps key)).length<=n.ps.length:=by rw[List.length_take];omega
 refine⟨?_,by show ([]:List ByteArray).length<=_;simp,by show ([]:List Int).length<=_;simp,?_⟩
 ·show (n.ps.take (findN n.ps key)++[(⟨key,val⟩:Pr)]++n.ps.drop (behind n.ps key)).length<=_;simp only[List.length_append,List.length_cons,List.length_nil];omega
 ·show 2+((n.ps.take (findN n.ps key)++[(⟨key,val⟩:Pr)]++n.ps.drop (behind n.ps key)).map Pr.size).sum<=_;simp only[List.map_append,List.sum_append,List.map_cons,List.map_nil,List.sum_cons,List.sum_nil];have:(⟨key,val⟩:Pr).size<=74:=by show 2+key.size+val.size<=74;omega
  omega
theorem OP(key:ByteArray)(n:Nd)(hl:n.leaf=true)(h1:n.ps.length<=256)(h2:n.size<=256):NdB (n.cut key) 1000:=by
 have h4:findN n.ps key<=behind n.ps key:=by unfold behind;split<;>omega
 have e0:n.size=2+(n.ps.map Pr.size).sum:=by unfold Nd.size;rw[hl,if_pos rfl]
 have e2:(n.ps.map Pr.size).sum=((n.ps.take (findN n.ps key)).map Pr.size).sum+((n.ps.drop (findN n.ps key)).map Pr.size).sum:=by rw[<-List.sum_append,<-List.map_append,List.take_append_drop]
 have e3:=Au Pr.size (n.ps.drop (findN n.ps key)) (behind n.ps key - findN n.ps key);rw[List.drop_drop,show findN n.ps key+(behind n.ps key - findN n.ps key)=behind n.ps key by omega]at e3;have e5:(n.ps.drop (behind n.ps key)).length<=n.ps.length:=by rw[List.length_drop];omega
 have e6:(n.ps.take (findN n.ps key)).length<=n.ps.length:=by rw[List.length_take];omega
 refine⟨?_,by show ([]:List ByteArray).length<=_;simp,by show ([]:List Int).length<=_;simp,?_⟩
 ·show (n.ps.take (findN n.ps key)++n.ps.drop (behind n.ps key)).length<=_;simp only[List.length_append];omega
 ·show 2+((n.ps.take (findN n.ps key)++n.ps.drop (behind n.ps key)).map Pr.size).sum<=_;simp only[List.map_append,List.sum_append];omega
end Go.Proofs.YtgcgacjhkhjhmaaGreatDoor
namespace Go.Proofs.YtgcgacjhkhjhmaaGreatDoor
open Go Go.RowKit
def KH(r c mm:Nat)(o:Nat->Nat)(S':Sw)(w w':World):Prop:=∃V':Nat->Prop,Wk w' r V' c mm S'/\(∀k,V' k->k<w.heap.size->o k=5)/\Kp (fun k=>1<=o k/\o k<=6) w w'
set_option maxRecDepth 100000 in
theorem It(b r c mm g m cap rb base:Nat)(o:Nat->Nat)(C:Cg)(ns:List Sp)(Z:Nat)(root:Int)(w:World)(hSt:SeSt b r c mm g m cap rb base o ns w w (ns.length - 1) (dn C ns (ns.length - 1)))(hm:m=ns.length)(hb:base<=w.heap.size)(hmm:mm<=500)(hns:NsB ns Z)(hZ:256<=Z)(hZ':Z<=10000)(hB:Bd C 10 10 10 50000) :
  Calls prog 34 #[.pointer (some ⟨b,0,none⟩),.int .i64 root,.slice (some ⟨g,0,none⟩) m cap] w fun e w'=>e=.returned (.tuple #[.int .i64 (C.putZ root ns),.int .i64 (C.putE ns)])/\KH r c (mm+3000) o (C.putS ns) w w':=by
 have HSE:=hide (Js b r c mm g m cap rb base o C ns Z w hSt hm hb (by omega) hns hZ hZ' hB);have HBD:=hide (Mt hns hZ hB);have HM:=hide hmm;clear hSt hm hb hmm hns hZ hZ' hB;obtain⟨S1,HS1⟩:∃q,Hid (C.settle ns=q):=⟨_,hide rfl⟩;rw[HS1.out]at HSE HBD;have HPE:Hid (C.putE ns=if S1.2.2=0 then S1.1.commitE else S1.2.2):=by show _=_;unfold Cg.putE;rw[HS1.out]
 have HPS:Hid (C.putS ns=if C.putE ns=0 then S1.1.commitS else dropL S1.1.S S1.1.tk):=by show _=_;unfold Cg.putS;rw[HS1.out]
 have HPZ:Hid (C.putZ root ns=if C.putE ns=0 then S1.2.1 else root):=by show _=_;unfold Cg.putZ;rw[HS1.out]
 obtain⟨C1,sz,se⟩:=S1;dsimp only at HSE HBD HPE HPS HPZ;obtain⟨pe,Hpe⟩:∃q,Hid (C.putE ns=q):=⟨_,hide rfl⟩;rw[Hpe.out]at HPE HPS HPZ |-;go_enter func34,ntmps34;go_upto_region 2 with (first
  | (go_at_call 65;refine HSE.out.mono ?_;rintro e w1 ⟨rfl,o1,V1,wv1,tv1,sv1,xs1,hC1,hW1,hV1,hk1,hvo1⟩)
  | fail)
 have HGB:Hid (∀(W:World) (m2:Nat),Wk W r (fun k=>V1 k\/w1.heap.size<=k) c m2 C1.S->m2<=2000->Kp V1 w1 W->Calls prog 67 #[.pointer (some ⟨b,0,none⟩)] W fun e w'=>e=.returned (.tuple #[])/\KH r c (m2+1000) o (dropL C1.S C1.tk) w w'):=by
  intro W m2 hWk hm2 hkW;have ho:∀k,k<w1.heap.size->lab o1 w1.heap.size 5 k=o1 k:=fun k h=>Ad h;have hCW:=hC1.kept (o':=lab o1 w1.heap.size 5) hkW (fun k _ e e'=>by have:=(hV1 k e').1;omega) ho;refine(GS b r c m2 (lab o1 w1.heap.size 5) (fun k=>V1 k\/(w1.heap.size<=k/\k<W.heap.size)) C1 wv1 tv1 sv1 xs1 W hCW (hWk.mono (fun k h e=>by rcases e with e|e;exact .inl e;exact .inr ⟨e,h⟩) (Nat.le_refl _)) (fun k e=>?_) hm2 (by have:=HBD.out.tk;omega)).mono ?_
  ·rcases e with e|e
   ·exact⟨by rw[ho k (hV1 k e).2];exact(hV1 k e).1,Qd (hV1 k e).2 hkW.size⟩
   ·exact⟨Ap e.1,e.2⟩
  ·rintro e w' ⟨rfl,h1,h2⟩;have hs1:=hk1.size;have hsW:=hkW.size;refine⟨rfl,_,h1,fun k e h=>?_,?_⟩
   ·rcases e with (e|e)|e
    ·exact hvo1 k e h
    ·omega
    ·omega
   ·refine(hk1.trans hkW (fun _ _ h=>h) (fun k h e=>by have:=hvo1 k e h;omega)).trans h2 (fun _ _ h=>h) (fun k h e=>?_);rcases e with e|e
    ·have:=hvo1 k e h;omega
    ·omega
 have HW1:=hide (hW1.mono (V':=fun k=>V1 k\/w1.heap.size<=k) (fun _ _ h=>.inl h) (Nat.le_refl _));by_cases hse:se=0
 ·have hb1:(se==0)=true:=by rw[hse];rfl
  rw[if_pos hse]at HPE;have HCM:=hide (JK b r c (mm+100) o1 V1 C1 wv1 tv1 sv1 xs1 w1 hC1 hW1 hV1 (by have:=HM.out;omega) (by have:=HBD.out.ws;omega) (by have:=HBD.out.sp;omega) (fun p hp=>by have:=HBD.out.wz p hp;omega));rw[<-HPE.out]at HCM;have HK1:=hide hk1;have HVO:=hide hvo1;have HSC:Hid (pe≠0->C1.commitS=C1.S):=fun h=>by unfold Cg.commitS;rw[<-HPE.out,if_neg h]
  clear hse hC1 hW1 hV1 hk1 hvo1;by_cases hpe:pe=0
  ·have hb2:(pe != 0)=false:=by rw[hpe];rfl
   have HPE0:=hide hpe;clear hpe;go_wp2_with (first
    | (go_at_call 66;refine HCM.out.mono ?_;rintro e w2 ⟨rfl,hW2,hk2⟩)
    | fail)
   go_ret2;rw[HPS.out,HPZ.out,if_pos HPE0.out,if_pos HPE0.out,HPE0.out];have hs1:=HK1.out.size;refine⟨rfl,_,hW2.mono (fun _ _ h=>h) (by omega),fun k e h=>?_,HK1.out.trans hk2 (fun _ _ h=>h) (fun k h e=>by have:=HVO.out k e h;omega)⟩;rcases e with e|e
   ·exact HVO.out k e h
   ·omega
  ·have hb2:(pe != 0)=true:=by rw[bne_iff_ne];exact hpe
   have HPE0:=hide hpe;clear hpe;go_wp2_with (first
    | (go_at_call 66;refine HCM.out.mono ?_;rintro e w2 ⟨rfl,hW2,hk2⟩)
    | (go_at_call 67;refine(HGB.out w2 (mm+100+1000) (by rw[HSC.out HPE0.out]at hW2;exact hW2) (by have:=HM.out;omega) hk2).mono ?_;rintro e w3 ⟨rfl,hP3⟩)
    | fail)
   go_ret2;rw[HPS.out,HPZ.out,if_neg HPE0.out,if_neg HPE0.out];obtain⟨V',h1,h2,h3⟩:=hP3;exact⟨rfl,V',h1.mono (fun _ _ h=>h) (by omega),h2,h3⟩
 ·have hb1:(se==0)=false:=by rw[beq_eq_false_iff_ne];exact hse
  have hb2:(se != 0)=true:=by rw[bne_iff_ne];exact hse
  rw[if_neg hse]at HPE;have HNE:Hid (pe≠0):=by show _≠_;rw[HPE.out];exact hse
  clear hse hC1 hW1 hV1 hk1 hvo1;go_wp2_with (first
   | (go_at_call 67;refine(HGB.out w1 (mm+100) HW1.out (by have:=HM.out;omega) (Kp.refl _ _)).mono ?_;rintro e w3 ⟨rfl,hP3⟩)
   | fail)
  go_ret2;rw[HPS.out,HPZ.out,if_neg HNE.out,if_neg HNE.out];obtain⟨V',h1,h2,h3⟩:=hP3;rw[HPE.out];exact⟨rfl,V',h1.mono (fun _ _ h=>h) (by omega),h2,h3⟩
theorem Ja{w:World}{rb g m cap:Nat}{xs:List SpV}(h:w.ownsRow rb 85 7 (.slice (some ⟨g,0,none⟩) m cap) xs.length (stcs xs))(i:Nat)(y:SpV)(hy:xs[i]?=some y)(l:Bool)(a1 a2 a3:Option Addr)(n1 c1 n2 c2 n3 c3:Nat) :
  (w.cell? ⟨g,i*7+1,none⟩=some (.bool y.l)/\w.frozen? ⟨g,i*7+1,none⟩=false) /\
  ((w.setCell ⟨g,i*7+1,none⟩ (.bool l)).cell? ⟨g,i*7+1+1,none⟩=some y.p/\(w.setCell ⟨g,i*7+1,none⟩ (.bool l)).frozen? ⟨g,i*7+1+1,none⟩=false) /\
  (((w.setCell ⟨g,i*7+1,none⟩ (.bool l)).setCell ⟨g,i*7+1+1,none⟩ (.slice a1 n1 c1)).cell? ⟨g,i*7+1+2,none⟩=some y.k/\((w.setCell ⟨g,i*7+1,none⟩ (.bool l)).setCell ⟨g,i*7+1+1,none⟩ (.slice a1 n1 c1)).frozen? ⟨g,i*7+1+2,none⟩=false) /\
  ((((w.setCell ⟨g,i*7+1,none⟩ (.bool l)).setCell ⟨g,i*7+1+1,none⟩ (.slice a1 n1 c1)).setCell ⟨g,i*7+1+2,none⟩ (.slice a2 n2 c2)).cell? ⟨g,i*7+1+3,none⟩=some y.d/\(((w.setCell ⟨g,i*7+1,none⟩ (.bool l)).setCell ⟨g,i*7+1+1,none⟩ (.slice a1 n1 c1)).setCell ⟨g,i*7+1+2,none⟩ (.slice a2 n2 c2)).frozen? ⟨g,i*7+1+3,none⟩=false) /\
  ((((w.setCell ⟨g,i*7+1,none⟩ (.bool l)).setCell ⟨g,i*7+1+1,none⟩ (.slice a1 n1 c1)).setCell ⟨g,i*7+1+2,none⟩ (.slice a2 n2 c2)).setCell ⟨g,i*7+1+3,none⟩ (.slice a3 n3 c3)).ownsRow rb 85 7 (.slice (some ⟨g,0,none⟩) m cap) (xs.set i ⟨y.pg,l,a1,n1,c1,a2,n2,c2,a3,n3,c3,y.kid,y.was⟩).length (stcs (xs.set i ⟨y.pg,l,a1,n1,c1,a2,n2,c2,a3,n3,c3,y.kid,y.was⟩)) /\
  Kp (only g) w ((((w.setCell ⟨g,i*7+1,none⟩ (.bool l)).setCell ⟨g,i*7+1+1,none⟩ (.slice a1 n1 c1)).setCell ⟨g,i*7+1+2,none⟩ (.slice a2 n2 c2)).setCell ⟨g,i*7+1+3,none⟩ (.slice a3 n3 c3)):=by
 have hi:i<xs.length:=(List.getElem?_eq_some_iff.1 hy).1;have hyi:xs[i]=y:=(List.getElem?_eq_some_iff.1 hy).2;have q1:=row_step h i hi 1 (.bool y.l) (by rw[hyi];rfl);obtain⟨r1,k1⟩:=BY h i hi 1 (by omega) { y with l:=l } (.bool l) (by rw[hyi];rfl);have hi1:i<(xs.set i { y with l:=l }).length:=by rw[List.length_set];exact hi
 have q2:=row_step r1 i hi1 2 y.p (by rw[List.getElem_set_self];rfl);obtain⟨r2,k2⟩:=BY r1 i hi1 2 (by omega) { y with l:=l,a1:=a1,n1:=n1,c1:=c1 } (.slice a1 n1 c1) (by rw[List.getElem_set_self];rfl);rw[List.set_set]at r2;have hi2:i<(xs.set i { y with l:=l,a1:=a1,n1:=n1,c1:=c1 }).length:=by rw[List.length_set];exact hi
 have q3:=row_step r2 i hi2 3 y.k (by rw[List.getElem_set_self];rfl);obtain⟨r3,k3⟩:=BY r2 i hi2 3 (by omega) { y with l:=l,a1:=a1,n1:=n1,c1:=c1,a2:=a2,n2:=n2,c2:=c2 } (.slice a2 n2 c2) (by rw[List.getElem_set_self];rfl);rw[List.set_set]at r3;have hi3:i<(xs.set i { y with l:=l,a1:=a1,n1:=n1,c1:=c1,a2:=a2,n2:=n2,c2:=c2 }).length:=by rw[List.length_set];exact hi
 have q4:=row_step r3 i hi3 4 y.d (by rw[List.getElem_set_self];rfl);obtain⟨r4,k4⟩:=BY r3 i hi3 4 (by omega) ⟨y.pg,l,a1,n1,c1,a2,n2,c2,a3,n3,c3,y.kid,y.was⟩ (.slice a3 n3 c3) (by rw[List.getElem_set_self];rfl);rw[List.set_set]at r4;exact⟨q1,q2,q3,q4,r4,((k1.then k2).then k3).then k4⟩
theorem GG{w W:World}{b r c mm base g m cap:Nat}{o1:Nat->Nat}{V1:Nat->Prop}{C1:Cg}{wv tv sv:Value}{xs ys:List SpV}{ns:List Sp}{y y':SpV}{gN:Nd->Nd}(hM:WayM w base (.slice (some ⟨g,0,none⟩) m cap) ys ns)(hp:CI ns)(hlv:∀k,(Value.slice (some ⟨g,0,none⟩) m cap).ownBlock=some k->o1 k=6)(hly:∀i (h:i<ys.length) k,ys[i].own k->o1 k=6)(hC:Cm w b r o1 C1 wv tv sv xs)(hW:Wk w r V1 c mm C1.S)(hV:∀k,V1 k->o1 k=5/\k<w.heap.size)
  (w5:World) (hk5:Kp none' w w5) (hk6:Kp (only g) w5 W) (hy:ys[ns.length - 1]?=some y) (hrow:W.ownsRow base 85 7 (.slice (some ⟨g,0,none⟩) m cap) (ys.set (ns.length - 1) y').length (stcs (ys.set (ns.length - 1) y'))) (hf:y'.pg=y.pg/\y'.kid=y.kid/\y'.was=y.was) (hN:Nv W.heap.size W y'.node (gN (ns.getD (ns.length - 1) sp0).nd)) (hown:∀k,y'.own k->w.heap.size<=k/\k<w5.heap.size) :
  SeSt b r c mm g m cap base base (lab o1 w.heap.size 6) (setLast gN ns) W W ((setLast gN ns).length - 1) (dn C1 (setLast gN ns) ((setLast gN ns).length - 1))/\m=(setLast gN ns).length/\∀k,k<w.heap.size->lab o1 w.heap.size 6 k=o1 k:=by
 obtain⟨hp1,hp2,hp3,hp4⟩:=DX ns hp;have hlen:=CS gN ns;have hold:∀k,k<w.heap.size->lab o1 w.heap.size 6 k=o1 k:=fun k h=>Ad h;have hg:o1 g=6:=hlv g rfl;have hgl:g<w.heap.size:=(World.ownsRow.lt hM.row g rfl).2;have hmL:m=ns.length:=by
  rcases hM.row.2 with ⟨e,_⟩|⟨g',cap',cur,e,_⟩
  ·cases e
  ·simp only[Value.slice.injEq]at e;rw[e.2.1,hM.len]
 have hs5:=hk5.size;have hs6:=hk6.size;have hyl:ns.length - 1<ys.length:=by rw[hM.len];omega
 have hyy:ys[ns.length - 1]=y:=(List.getElem?_eq_some_iff.1 hy).2;have hkall:Kp (only g) w W:=hk5.nThen hk6;rw[KQ C1 (setLast gN ns) _ (by rw[hlen];omega),hlen]
 refine⟨⟨lab o1 w.heap.size 6,V1,wv,tv,sv,xs,ys.set (ns.length - 1) y',hC.kept hkall (fun k _ e e'=>by unfold only at e';subst e';omega) hold,hW.kept hkall (fun k _ e e'=>by unfold only at e';subst e';have:=(hV k e).1;omega),fun k e=>⟨by rw[hold k (hV k e).2];exact(hV k e).1,Qd (hV k e).2 (by omega)⟩,Kp.refl _ _,?_,fun k e _=>by rw[hold k (hV k e).2];exact(hV k e).1⟩,by rw[hmL],hold⟩
 have hlow:∀j x,j<ns.length - 1->(ys.set (ns.length - 1) y')[j]?=some x->∃h:j<ys.length,ys[j]=x:=fun j x hj hx=>by
  rw[List.getElem?_set_ne (by omega)]at hx;exact⟨(List.getElem?_eq_some_iff.1 hx).1,(List.getElem?_eq_some_iff.1 hx).2⟩
 have hat:∀x,(ys.set (ns.length - 1) y')[ns.length - 1]?=some x->x=y':=fun x hx=>by rw[List.getElem?_set_self hyl]at hx;exact(Option.some.inj hx).symm
 have hsl:∀j (h:j<ns.length),ns.getD j sp0=ns[j]:=fun j h=>by rw[List.getD_eq_getElem?_getD,List.getElem?_eq_getElem h];rfl
 have hblk:∀j (h:j<ys.length) k,ys[j].own k->k<w.heap.size/\o1 k=6/\k≠g:=fun j h k e=>⟨((hM.is j h (by rw[<-hM.len];exact h)).nd.blocks k e).2,hly j h k e,fun e'=>hM.rowd j h k (by rw[e'];rfl) e⟩;refine⟨hrow,by rw[List.length_set,hM.len,hlen],by rw[hold g hgl];omega,fun j x hj hx=>?_,fun x hx=>?_,fun j x hj hx k e=>?_,fun j j' x x' hj hj' hne hx hx' k e e'=>?_,fun j x hj hx e=>?_,fun k _=>.inl rfl,fun _=>by rw[hold g hgl];exact hg⟩
 ·obtain⟨h1,rfl⟩:=hlow j x hj hx;rw[Bo gN ns j (by omega),if_neg (by omega),hsl j (by omega)];exact(hM.is j h1 (by omega)).kept hkall (fun k e e'=>by unfold only at e';exact(hblk j h1 k e).2.2 e')
 ·rw[hat x hx];have h1:=hM.is (ns.length - 1) hyl (by omega);rw[hyy]at h1;have h2:(setLast gN ns).getD (ns.length - 1) sp0={ ns.getD (ns.length - 1) sp0 with nd:=gN (ns.getD (ns.length - 1) sp0).nd }:=by rw[Bo gN ns _ (by omega),if_pos (by omega)]
  rw[h2];have h3:=hsl (ns.length - 1) (by omega);exact⟨hN,by rw[hf.1,h1.pg,h3],by rw[hf.2.1,h1.kid,h3],by rw[hf.2.2,h1.was,h3]⟩
 ·rcases Nat.lt_or_eq_of_le hj with hj|hj
  ·obtain⟨h1,rfl⟩:=hlow j x hj hx;have h2:=hblk j h1 k e;exact⟨by omega,by rw[hold k h2.1];omega,fun _=>by rw[hold k h2.1];exact h2.2.1⟩
  ·subst hj;rw[hat x hx]at e;have h2:=hown k e;exact⟨by omega,by rw[Ap h2.1];omega,fun _=>Ap h2.1⟩
 ·rcases Nat.lt_or_eq_of_le hj with hj|hj<;>rcases Nat.lt_or_eq_of_le hj' with hj'|hj'
  ·obtain⟨h1,rfl⟩:=hlow j x hj hx;obtain⟨h2,rfl⟩:=hlow j' x' hj' hx';exact hM.dis j j' h1 h2 hne k e e'
  ·subst hj';obtain⟨h1,rfl⟩:=hlow j x hj hx;rw[hat x' hx']at e';have h2:=hblk j h1 k e;have h3:=hown k e';omega
  ·subst hj;obtain⟨h1,rfl⟩:=hlow j' x' hj' hx';rw[hat x hx]at e;have h2:=hblk j' h1 k e';have h3:=hown k e;omega
  ·omega
 ·rcases Nat.lt_or_eq_of_le hj with hj|hj
  ·obtain⟨h1,rfl⟩:=hlow j x hj hx;exact(hblk j h1 g e).2.2 rfl
  ·subst hj;rw[hat x hx]at e;have:=hown g e;omega
theorem P4(S:Sw)(key:ByteArray):∀(f:Nat) (acc:List Sp) (z:Int) (k:Nat),(wayG S key f acc z k).2.2<=k+f+1:=by
 intro f;induction f with
 | zero=>intro acc z k;show k<=_;omega
 | succ f ih =>
  intro acc z k;unfold wayG;split
  ·split
   ·show k+1<=_;omega
   ·have:=ih (acc++[⟨z,ndOf S z,An (ndOf S z).ks key,(ndOf S z).size⟩]) ((ndOf S z).kd.getD (An (ndOf S z).ks key) 0) (k+1);omega
  ·have:=Ky S k z;show trK S k z<=_;omega
theorem PI(S:Sw)(h:S.now.length<=1000):Bd (cg0 S) 0 0 0 0:=⟨Nat.le_refl _,Nat.le_refl _,Nat.le_refl _,Nat.le_refl _,h,fun z hz=>(by cases hz),fun p hp=>(by cases hp)⟩
theorem Fl(S:Sw)(hS:S.now.length<=1000)(root:Int)(hr:okZ root)(key:ByteArray)(hE:(cg0 S).leafE root key=0):CI ((cg0 S).leafW root key)/\((cg0 S).leafW root key).length<=41/\Bd ((cg0 S).leaf root key) 10 10 10 50000:=by
 have hb:=PI S hS;unfold Cg.leafW Cg.leaf;unfold Cg.leafE at hE;by_cases h0:root=0
 ·rw[if_pos h0,if_pos h0];exact⟨⟨Eo hb,rfl,by simp,by show 2+0<=256;omega,rfl,rfl⟩,by simp,hb.take.mono (by omega) (by omega) (by omega) (by omega)⟩
 ·rw[if_neg h0]at hE |-;rw[if_neg h0];obtain⟨p,e,hp,hl⟩:=GF S key 41 [] root 0 hr hE;have e':(wayG (cg0 S).S key 41 [] root (cg0 S).k).1=p:=by rw[show (wayG (cg0 S).S key 41 [] root (cg0 S).k).1=(wayG S key 41 [] root 0).1 from rfl,e];rfl
  rw[e'];refine⟨hp,hl,⟨by simp[cg0],by simp[cg0],by simp[cg0],?_,hS,fun z hz=>(by cases hz),fun p hp=>(by cases hp)⟩⟩;have:=P4 S key 41 [] root 0;show (wayG S key 41 [] root 0).2.2<=50000;omega
theorem Cm.start(w:World)(r:Nat)(S:Sw)(o:Nat->Nat)(ho:o w.heap.size=1):Cm (w.alloc (.cells #[.pointer (some ⟨r,0,none⟩),.int .i64 0,.slice none 0 0,.slice none 0 0,.slice none 0 0] 80)) w.heap.size r o (cg0 S) (.slice none 0 0) (.slice none 0 0) (.slice none 0 0) [] :=
 ⟨heap_alloc_new w _,ho,World.ownsRow_nil _ _ _ _,fun k e=>(by cases e),rfl,fun i h=>(by simp at h),Ow.nil _ _ _ _,fun k e=>(by cases e),Ow.nil _ _ _ _,fun k e=>(by cases e)⟩
theorem D6(V:Nat->Prop)(b:Nat)(hb:¬V b):∃o:Nat->Nat,(∀k,V k->o k=5)/\(∀k,¬V k->k≠b->o k=9)/\o b=1:=by
 classical
 exact⟨fun k=>if V k then 5 else if k=b then 1 else 9,fun k h=>if_pos h,fun k h h'=>by show (if V k then 5 else if k=b then 1 else 9)=9;rw[if_neg h,if_neg h'],by show (if V b then 5 else if b=b then 1 else 9)=1;rw[if_neg hb,if_pos rfl]⟩
set_option maxRecDepth 100000 in
theorem FS(r c m:Nat)(V:Nat->Prop)(S:Sw)(root:Int)(key val:ByteArray)(w:World)(hWk:Wk w r V c m S)(hV:∀k,V k->k<w.heap.size)(hm:m<=400)(hrt:okZ root)(hkm:key.size<=maxLen)(hvm:val.size<=maxLen)(hS:S.now.length<=1000) :
  Calls prog 11 #[.pointer (some ⟨r,0,none⟩),.int .i64 root,.string key,.string val] w fun e w'=>e=.returned (.tuple #[.int .i64 (putTZ S root key val),.int .i64 (putTE S root key val)])/\Wk w' r (fun k=>V k\/w.heap.size<=k) c (m+4000) (putTS S root key val)/\Kp V w w':=by
 cases hA:argE key val with
 | true =>
  have hA':key.size<1\/32<key.size\/40<val.size:=of_decide_eq_true hA;have HE:Hid (putTE S root key val=1/\putTZ S root key val=root/\putTS S root key val=S):=by
   refine⟨?_,?_,?_⟩
   ·unfold putTE;rw[hA];rfl
   ·unfold putTZ;rw[hA];rfl
   ·unfold putTS;rw[hA];rfl
  have HW:=hide hWk;clear hWk hA hkm hvm;have HEND:Hid (Wk w r (fun k=>V k\/w.heap.size<=k) c (m+4000) S/\Kp V w w):=⟨HW.out.mono (fun _ _ h=>.inl h) (by omega),Kp.refl _ _⟩;obtain⟨kz,Hkz⟩:∃q,Hid (key.size=q):=⟨_,hide rfl⟩;obtain⟨vz,Hvz⟩:∃q,Hid (val.size=q):=⟨_,hide rfl⟩;rw[Hkz.out,Hvz.out]at hA';by_cases h1:kz<1
  ·have g1:key.size<1:=by rw[Hkz.out];exact h1
   go_enter func11,ntmps11;go_wp2;go_ret2;rw[HE.out.1,HE.out.2.1,HE.out.2.2];exact⟨rfl,HEND.out⟩
  ·have g1:¬key.size<1:=by rw[Hkz.out];exact h1
   by_cases h2:32<kz
   ·have g2:32<key.size:=by rw[Hkz.out];exact h2
    go_enter func11,ntmps11;go_wp2;go_ret2;rw[HE.out.1,HE.out.2.1,HE.out.2.2];exact⟨rfl,HEND.out⟩
   ·have g2:¬32<key.size:=by rw[Hkz.out];exact h2
    have g3:40<val.size:=by rw[Hvz.out];omega
    go_enter func11,ntmps11;go_wp2;go_ret2;rw[HE.out.1,HE.out.2.1,HE.out.2.2];exact⟨rfl,HEND.out⟩
 | false =>
  have hA':¬(key.size<1\/32<key.size\/40<val.size):=of_decide_eq_false hA;have HKV:Hid (key.size<=32/\val.size<=40):=⟨by omega,by omega⟩;have g1:¬key.size<1:=by omega
  have g2:¬32<key.size:=by omega
  have g3:¬40<val.size:=by omega
  have HPE:Hid (putTE S root key val=if (cg0 S).leafE root key=0 then ((cg0 S).leaf root key).putE (setLast (fun n=>n.put key val) ((cg0 S).leafW root key)) else (cg0 S).leafE root key):=by show _=_;unfold putTE;rw[hA];rfl
  have HPZ:Hid (putTZ S root key val=if (cg0 S).leafE root key=0 then ((cg0 S).leaf root key).putZ root (setLast (fun n=>n.put key val) ((cg0 S).leafW root key)) else root):=by show _=_;unfold putTZ;rw[hA];rfl
  have HPS:Hid (putTS S root key val=if (cg0 S).leafE root key=0 then ((cg0 S).leaf root key).putS (setLast (fun n=>n.put key val) ((cg0 S).leafW root key)) else ((cg0 S).leaf root key).S):=by show _=_;unfold putTS;rw[hA];rfl
  obtain⟨o,ho5,ho9,hob⟩:=D6 V w.heap.size (fun e=>by have:=hV _ e;omega);have hka:Kp none' w (w.alloc (.cells #[.pointer (some ⟨r,0,none⟩),.int .i64 0,.slice none 0 0,.slice none 0 0,.slice none 0 0] 80)):=Kp.alloc _ _ _;have hC1:=Cm.start w r S o hob
  have HWL:=hide (F3 w.heap.size r c m o V (cg0 S) (.slice none 0 0) (.slice none 0 0) (.slice none 0 0) [] root key _ hC1 (hWk.keptN hka) (fun k e=>⟨ho5 k e,Qd (hV k e) hka.size⟩) (by omega) (by simp[cg0]) (by simp[cg0]) (by simp[cg0]));have HKA:=hide hka;have HO5:=hide ho5;have HO9:Hid (∀k,k<w.heap.size->¬V k->o k=9):=fun k h e=>ho9 k e (by omega);have HLF:=hide (Fl S hS root hrt key);have HKM:=hide hkm;have HVM:=hide hvm;have HM:=hide hm
  clear hWk hA hA' hC1 hka ho5 ho9 hob hkm hvm hS hV;obtain⟨le,Hle⟩:∃q,Hid ((cg0 S).leafE root key=q):=⟨_,hide rfl⟩;rw[Hle.out]at HWL HPE HPZ HPS HLF;obtain⟨ns,Hns⟩:∃q,Hid ((cg0 S).leafW root key=q):=⟨_,hide rfl⟩;obtain⟨C1,HC1⟩:∃q,Hid ((cg0 S).leaf root key=q):=⟨_,hide rfl⟩;rw[Hns.out]at HWL HPE HPZ HPS HLF;rw[HC1.out]at HWL HPE HPZ HPS HLF;go_enter func11,ntmps11;go_upto_region 4 with fail;obtain⟨b,Hb⟩:∃q,Hid (w.heap.size=q):=⟨_,hide rfl⟩;rw[Hb.out]at HWL |-
  generalize w.alloc (.cells #[.pointer (some ⟨r,0,none⟩),.int .i64 0,.slice none 0 0,.slice none 0 0,.slice none 0 0] 80)=w1 at *;go_upto_region 5 with (first
   | (go_at_call 32;refine HWL.out.mono ?_;rintro e w2 ⟨v,rfl,o2,V2,tv2,sv2,ys,hM,hlv,hly,ho2,hC2,hW2,hV2,hk2⟩;obtain⟨va,vc,hv⟩:=hM.slice;subst hv)
   | fail)
  have HSZ:Hid (w.heap.size<=w1.heap.size/\w1.heap.size<=w2.heap.size):=⟨HKA.out.size,hk2.size⟩;have HOO:Hid (∀k,k<w.heap.size->o2 k=o k):=fun k h=>ho2 k (Qd h HKA.out.size);have HOV:Hid (∀k,k<w.heap.size->o k=5\/(1<=o k/\o k<=6)->V k):=fun k h e=>by
   by_cases hv:V k
   ·exact hv
   ·have:=HO9.out k h hv;omega
  have HK2:Hid (Kp V w w2):=HKA.out.trans hk2 (fun _ _ h=>by cases h) (fun k h e=>HOV.out k h (by omega));have HV2:Hid (∀k,V2 k->k<w.heap.size->V k):=fun k e h=>HOV.out k h (.inl (by rw[<-HOO.out k h];exact(hV2 k e).1));by_cases hle:le=0
  ·have hb0:(le != 0)=false:=by rw[hle];rfl
   obtain⟨hp,hpl,hbd⟩:=HLF.out hle;rw[if_pos hle]at HPE HPZ HPS;obtain⟨hp1,hp2,hp3,hp4⟩:=DX ns hp;obtain⟨i,Hi⟩:∃i,Hid (ns.length=i+1):=⟨ns.length - 1,hide (by omega)⟩;obtain⟨g,hva⟩:∃g,va=some ⟨g,0,none⟩:=by
    rcases hM.row.2 with ⟨e,h0⟩|⟨g,cap,cur,e,_⟩
    ·have:=hM.len;omega
    ·simp only[Value.slice.injEq]at e;exact⟨g,e.1⟩
   subst hva;have hlen:ys.length=i+1:=by rw[hM.len,Hi.out]
   obtain⟨y,hy⟩:∃y,ys[i]?=some y:=⟨ys[i],List.getElem?_eq_getElem (by omega)⟩;have hiy:i<ys.length:=by omega
   have hyi:ys[i]=y:=(List.getElem?_eq_some_iff.1 hy).2;have hin:i<ns.length:=by rw[Hi.out];omega
   have his:=hM.is i hiy hin;rw[hyi]at his;have hgd:ns.getD (ns.length - 1) sp0=ns[i]:=by rw[show ns.length - 1=i by have:=Hi.out;omega,List.getD_eq_getElem?_getD,List.getElem?_eq_getElem hin];rfl
   have HNV:=hide his.nd.nv;have hps:ns[i].nd.ps.length<=256:=by rw[<-hgd];exact hp4.2.1
   have HPO:=hide (Pn y.node ns[i].nd _ key val w2 HNV.out HKM.out HVM.out (by omega));unfold SpV.node at HPO;have HRW:Hid (∀W,Kp none' w2 W->W.ownsRow w1.heap.size 85 7 (.slice (some ⟨g,0,none⟩) ns.length vc) ys.length (stcs ys)):=fun W hk=>Ao hM.row hk (fun _ _ h=>h);have q1:w2.cell? ⟨g,i*7+1,none⟩=some (.bool y.l):=(row_step hM.row i hiy 1 _ (by rw[hyi];rfl)).1;have q2:w2.cell? ⟨g,i*7+1+1,none⟩=some (.slice y.a1 y.n1 y.c1):=(row_step hM.row i hiy 2 _ (by rw[hyi];rfl)).1
   have q3:w2.cell? ⟨g,i*7+1+2,none⟩=some (.slice y.a2 y.n2 y.c2):=(row_step hM.row i hiy 3 _ (by rw[hyi];rfl)).1;have q4:w2.cell? ⟨g,i*7+1+3,none⟩=some (.slice y.a3 y.n3 y.c3):=(row_step hM.row i hiy 4 _ (by rw[hyi];rfl)).1
   have HRDY:Hid (∀(w5 W:World) (a5:Option Addr) (n5 c5:Nat),Kp none' w2 w5->Kp (only g) w5 W->OwP w5 w2.heap.size (.slice a5 n5 c5) (ns[i].nd.put key val).ps->W.ownsRow w1.heap.size 85 7 (.slice (some ⟨g,0,none⟩) ns.length vc) (ys.set i ⟨y.pg,true,a5,n5,c5,none,0,0,none,0,0,y.kid,y.was⟩).length (stcs (ys.set i ⟨y.pg,true,a5,n5,c5,none,0,0,none,0,0,y.kid,y.was⟩))->Calls prog 34 #[.pointer (some ⟨b,0,none⟩),.int .i64 root,.slice (some ⟨g,0,none⟩) ns.length vc] W fun e w'=>e=.returned (.tuple #[.int .i64 (putTZ S root key val),.int .i64 (putTE S root key val)])/\Wk w' r (fun k=>V k\/w.heap.size<=k) c (m+4000) (putTS S root key val)/\Kp V w w'):=by
    intro w5 W a5 n5 c5 hk5 hk6 hO5 hrow;have hgl:g<w2.heap.size:=(World.ownsRow.lt hM.row g rfl).2;have hOW:OwP W w2.heap.size (.slice a5 n5 c5) (ns[i].nd.put key val).ps:=hO5.kept hk6 (fun k e e'=>by unfold only at e';have:=(hO5.lt k e).1;omega);have hown:∀k,(⟨y.pg,true,a5,n5,c5,none,0,0,none,0,0,y.kid,y.was⟩:SpV).own k->w2.heap.size<=k/\k<w5.heap.size:=fun k e=>by
     rcases e with e|e|e
     ·exact hO5.lt k e
     ·cases e
     ·cases e
    have hidx:ns.length - 1=i:=by have:=Hi.out;omega
    obtain⟨hSt,hmm,hlab⟩:=GG (gN:=fun n=>n.put key val) (y:=y) (y':=⟨y.pg,true,a5,n5,c5,none,0,0,none,0,0,y.kid,y.was⟩) hM hp hlv hly hC2 hW2 hV2 w5 hk5 hk6 (by rw[hidx];exact hy) (by rw[hidx];exact hrow) ⟨rfl,rfl,rfl⟩ (by rw[hgd];exact Nv.own hOW.prs (PV his.nd.wf key val HKM.out HVM.out)) hown;have hs5:=hk5.size;have hs6:=hk6.size
    refine(It b r c (m+2) g ns.length vc w1.heap.size w1.heap.size _ C1 (setLast (fun n=>n.put key val) ns) 1000 root W hSt hmm (by have:=HSZ.out.2;omega) (by have:=HM.out;omega) (I2 hp hpl _ (fun n h1 h2 h3=>Pm key val HKV.out.1 HKV.out.2 n h1 h2 h3)) (by omega) (by omega) hbd).mono ?_;rintro e w' ⟨rfl,V',h1,h2,h3⟩;rw[HPE.out,HPZ.out,HPS.out];have hsz:=HSZ.out;refine⟨rfl,h1.mono (fun k _ e=>?_) (by omega),?_⟩
    ·rcases Nat.lt_or_ge k w.heap.size with h|h
     ·left;have h4:=h2 k e (by omega);rw[hlab k (by omega),HOO.out k h]at h4;exact HOV.out k h (.inl h4)
     ·exact .inr h
    ·have hk27:Kp (only g) w2 W:=hk5.nThen hk6;refine(HK2.out.trans hk27 (fun _ _ h=>h) (fun k h e=>?_)).trans h3 (fun _ _ h=>h) (fun k h e=>?_)
     ·unfold only at e;subst e;have:=(World.ownsRow.lt hM.row k rfl).1;omega
     ·rw[hlab k (by omega),HOO.out k h]at e;exact HOV.out k h (.inr e)
   have HLL:Hid (i+1<=41):=by show _<=_;rw[<-Hi.out];exact hpl
   have hi40:i<=40:=by have:=HLL.out;omega
   rw[Hi.out]at HRW HRDY |-;have HY:=hide hy;obtain⟨nd,Hnd⟩:∃q,Hid (ns[i].nd=q):=⟨_,hide rfl⟩;rw[Hnd.out]at HPO HRDY;clear HNV Hnd;clear hM hlv hly ho2 hC2 hW2 hV2 hk2 hp hpl hbd hp1 hp2 hp3 hp4 hlen hy hiy hyi hin his hgd hps hle;go_upto_region 9 with (first
    | (go_at_call 33;refine HPO.out.mono ?_;rintro e w5 ⟨a5,n5,c5,rfl,hO5,hk5⟩;obtain⟨⟨f1,f1'⟩,⟨f2,f2'⟩,⟨f3,f3'⟩,⟨f4,f4'⟩,hr6,hk6⟩:=Ja (HRW.out w5 hk5) i y HY.out true a5 none none n5 c5 0 0 0 0)
    | fail)
   have HF:=hide (HRDY.out w5 _ a5 n5 c5 hk5 hk6 hO5 hr6);generalize ((w5.setCell ⟨g,i*7+1,none⟩ (.bool true)).setCell ⟨g,i*7+1+1,none⟩ (.slice a5 n5 c5))=W0 at *;go_wp2_with (first
    | (go_at_call 34;refine HF.out.mono ?_;rintro e w' ⟨rfl,hend⟩)
    | fail)
   go_ret2;exact⟨rfl,hend⟩
  ·have hb0:(le != 0)=true:=by rw[bne_iff_ne];exact hle
   rw[if_neg hle]at HPE HPZ HPS;have HEND:Hid (Wk w2 r (fun k=>V k\/w.heap.size<=k) c (m+4000) C1.S):=hW2.mono (fun k _ e=>by rcases Nat.lt_or_ge k w.heap.size with h|h;exact .inl (HV2.out k e h);exact .inr h) (by omega);clear hM hlv hly ho2 hC2 hW2 hV2 hk2 hle;go_wp2;go_ret2;rw[HPE.out,HPZ.out,HPS.out];exact⟨rfl,HEND.out,HK2.out⟩
end Go.Proofs.YtgcgacjhkhjhmaaGreatDoor
namespace Go.Proofs.YtgcgacjhkhjhmaaGreatDoor
open Go
def kdOk(n:Nd):Prop:=∀z∈n.kd,okZ z
def Oz(C:Cg):Prop:=C.S.now.length<=1000/\∀z∈C.sp,okZ z
theorem okZ0:okZ 0:=⟨by omega,by omega⟩
theorem Oz.takeZ{C:Cg}(h:Oz C):okZ C.takeZ.1:=by
 unfold Cg.takeZ;split
 ·exact GE _ h.1
 ·exact Cd h.2 _
theorem Oz.take{C:Cg}(h:Oz C):Oz C.take:=by
 unfold Cg.take;split
 ·exact⟨by show (C.S.take _).now.length<=1000;rw[Jn];exact h.1,h.2⟩
 ·exact⟨h.1,fun z hz=>h.2 z (List.mem_of_mem_take hz)⟩
theorem Oz.snoc{C:Cg}(h:Oz C){z:Int}(hz:okZ z){C':Cg}(e1:C'.S=C.S)(e2:C'.sp=C.sp++[z]):Oz C':=by
 refine⟨by rw[e1];exact h.1,fun x hx=>?_⟩;rw[e2]at hx;rcases List.mem_append.1 hx with h1|h1
 ·exact h.2 x h1
 ·rw[List.mem_singleton.1 h1];exact hz
theorem Oz.same{C:Cg}(h:Oz C){C':Cg}(e1:C'.S=C.S)(e2:C'.sp=C.sp):Oz C':=⟨by rw[e1];exact h.1,by rw[e2];exact h.2⟩
theorem kdOk.lose{n:Nd}(h:kdOk n)(i:Nat):kdOk (n.lose i):=fun z hz=>h z (List.mem_of_mem_eraseIdx hz)
theorem Oz.split{C:Cg}(h:Oz C)(z:Int)(n:Nd):Oz (C.split z n):=by
 unfold Cg.split;split
 ·exact h.take.same rfl rfl
 ·exact h.take
theorem kdOk.splitAb{C:Cg}(h:Oz C)(kid:Nat)(n nab:Nd)(hn:kdOk nab):kdOk (C.splitAb kid n nab):=by
 unfold Cg.splitAb;split
 ·intro z hz;have hz:z∈nab.kd.take (kid+1)++C.takeZ.1::nab.kd.drop (kid+1):=hz;rcases List.mem_append.1 hz with h1|h1
  ·exact hn z (List.mem_of_mem_take h1)
  ·rcases List.mem_cons.1 h1 with h2|h2
   ·rw[h2];exact h.takeZ
   ·exact hn z (List.mem_of_mem_drop h2)
 ·exact hn
theorem Ho(z:Int)(n nab:Nd)(kid:Nat)(hn:kdOk nab):∀(l:List Nat) (g:Option (Nat × Nd)) (C:Cg),Oz C->Oz (gathG z n nab kid l g C).C/\kdOk (gathG z n nab kid l g C).ab
 | [],g,C,h=>by
  cases g with
  | none=>exact⟨h.same rfl rfl,hn⟩
  | some g =>
   show Oz (if n.kd.length=1 then (⟨(C.write (nab.kd.getD g.1 0) g.2.fst).write (nab.kd.getD (g.1+1) 0) g.2.snd,{ nab with ks:=nab.ks.set g.1 g.2.mid },true,0⟩:Gr) else ⟨C.write z n,nab,false,0⟩).C/\kdOk (if n.kd.length=1 then (⟨(C.write (nab.kd.getD g.1 0) g.2.fst).write (nab.kd.getD (g.1+1) 0) g.2.snd,{ nab with ks:=nab.ks.set g.1 g.2.mid },true,0⟩:Gr) else ⟨C.write z n,nab,false,0⟩).ab
   split
   ·exact⟨h.same rfl rfl,hn⟩
   ·exact⟨h.same rfl rfl,hn⟩
 | bt::r,g,C,h=>by
  rw[gathG]
  split
  ·split
   ·split
    ·exact⟨h.snoc (Cd hn (bt+1)) rfl rfl,hn.lose _⟩
    ·exact Ho z n nab kid hn r _ _ (h.same rfl rfl)
   ·exact Ho z n nab kid hn r _ _ (h.same rfl rfl)
  ·exact⟨h.same rfl rfl,hn⟩
theorem N4{C:Cg}(h:Oz C)(s:Sp)(hs:okZ s.page)(kid:Nat)(nab:Nd)(hn:kdOk nab):Oz (C.below s kid nab).C/\kdOk (C.below s kid nab).ab:=by
 unfold Cg.below;split
 ·exact⟨h.snoc hs rfl rfl,hn.lose _⟩
 ·split
  ·exact⟨h.split _ _,kdOk.splitAb h _ _ _ hn⟩
  ·split
   ·exact Ho _ _ _ _ hn _ _ _ h
   ·exact⟨h.same rfl rfl,hn⟩
theorem Lg{C:Cg}(h:Oz C):∀(l:List Sp) (a:Sp),(∀s∈a::l,okZ s.page/\kdOk s.nd)->Oz (C.down a l).C/\kdOk (C.down a l).ab
 | [],a,hs=>⟨h,(hs a (by simp)).2⟩
 | b::l,a,hs=>by
  obtain⟨i1,i2⟩:=Lg h l b (fun s h=>hs s (by simp only[List.mem_cons]at h |-;exact .inr h))
  have ha:=(hs a (by simp)).2
  have hb:=(hs b (by simp)).1
  rw[Cg.down]
  split
  ·split
   ·exact N4 i1 { b with nd:=(C.down b l).ab } hb _ _ ha
   ·exact⟨i1,ha⟩
  ·exact⟨i1,ha⟩
theorem Pf{C:Cg}(h:Oz C)(pg:Int)(hp:okZ pg)(n:Nd)(hn:kdOk n):okZ (C.rootZ pg n).1:=by
 unfold Cg.rootZ;split
 ·exact okZ0
 ·split
  ·exact Cd hn 0
  ·split
   ·unfold Cg.raiseZ;split
    ·split
     ·exact h.takeZ
     ·exact okZ0
    ·exact okZ0
   ·exact hp
theorem Mb{C:Cg}(h:Oz C)(l:List Sp)(hs:∀s∈l,okZ s.page/\kdOk s.nd):okZ (C.settle l).2.1:=by
 cases l with
 | nil=>exact okZ0
 | cons a l =>
  obtain⟨i1,i2⟩:=Lg h l a hs;have ha:=(hs a (by simp)).1;show okZ (if (C.down a l).e=0 then (if (C.down a l).go then ((C.down a l).C.root a.page (C.down a l).ab,(C.down a l).C.rootZ a.page (C.down a l).ab) else ((C.down a l).C,a.page,0)) else ((C.down a l).C,0,(C.down a l).e)).2.1;split
  ·split
   ·exact Pf i1 _ ha _ i2
   ·exact ha
  ·exact okZ0
theorem Pe{C:Cg}(h:Oz C)(root:Int)(hr:okZ root)(l:List Sp)(hs:∀s∈l,okZ s.page/\kdOk s.nd):okZ (C.putZ root l):=by
 unfold Cg.putZ;split
 ·exact Mb h l hs
 ·exact hr
theorem I1(g:Nd->Nd)(hg:∀n,(g n).kd=[]):∀(p:List Sp),CI p->∀s∈setLast g p,okZ s.page/\kdOk s.nd
 | [],h=>h.elim
 | [a],h=>fun s hs=>by
  have e:s={ a with nd:=g a.nd }:=by simpa[setLast]using hs
  subst e
  exact⟨h.1,fun z hz=>by rw[show ({ a with nd:=g a.nd }:Sp).nd.kd=[] from hg _]at hz;cases hz⟩
 | a::b::l,h=>fun s hs=>by
  have hs:s∈a::setLast g (b::l):=hs
  rcases List.mem_cons.1 hs with rfl|h1
  ·exact⟨h.1,h.2.1.oz⟩
  ·exact I1 g hg (b::l) h.2.2 s h1
theorem Ld{S:Sw}(hl:S.now.length<=1000)(z:Int)(key val:ByteArray)(hz:okZ z):okZ (putTZ S z key val):=by
 have h0:Oz (cg0 S):=⟨hl,fun x hx=>by cases hx⟩;unfold putTZ;split
 ·exact hz
 ·split
  ·next he =>
   refine Pe ?_ z hz _ ?_
   ·unfold Cg.leaf;split
    ·exact h0.take
    ·exact h0.same rfl rfl
   ·by_cases h1:z=0
    ·have e:(cg0 S).leafW z key=[⟨(cg0 S).takeZ.1,⟨true,[],[],[]⟩,0,0⟩]:=by unfold Cg.leafW;rw[if_pos h1]
     rw[e];intro s hs;have e2:s=⟨(cg0 S).takeZ.1,(⟨true,[],[],[]⟩:Nd).put key val,0,0⟩:=by simpa[setLast]using hs
     subst e2;exact⟨h0.takeZ,fun x hx=>by cases hx⟩
    ·have e:(cg0 S).leafW z key=(wayG S key 41 [] z 0).1:=by unfold Cg.leafW;rw[if_neg h1];rfl
     have e2:(wayG S key 41 [] z 0).2.1=0:=by
      unfold Cg.leafE at he;rw[if_neg h1]at he;exact he
     obtain⟨p,hp1,hp2,_⟩:=GF S key 41 [] z 0 hz e2;rw[e,hp1,List.nil_append];exact I1 _ (fun _=>rfl) p hp2
  ·exact hz
end Go.Proofs.YtgcgacjhkhjhmaaGreatDoor
