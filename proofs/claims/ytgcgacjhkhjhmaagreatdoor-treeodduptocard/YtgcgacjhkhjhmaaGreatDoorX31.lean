/- Part of the proof: contracts over the turned program. -/
import Derived.Test.YtgcgacjhkhjhmaaGreatDoorX7
import Derived.Test.YtgcgacjhkhjhmaaGreatDoorX27
import Derived.Test.YtgcgacjhkhjhmaaGreatDoorX12
set_option linter.unusedVariables false
set_option maxHeartbeats 4000000
open Go.Proofs.Tryz
namespace Go.Proofs.YtgcgacjhkhjhmaaGreatDoor
open Go Go.RowKit
theorem Ow.putRow{α:Type}[Inhabited α]{f:α->Value}(hf:∀x,(f x).oneCell'=true){e:TypeId}{w:World}{base g n c:Nat}{l:List α}(hO:Ow f e w base (.slice (some ⟨g,0,none⟩) n c) l)(q:Nat)(d:List α)(hd:d.length=n)(m:Nat)(hm:m<=n) :
  Ow f e (Sort.putRow f (Sort.ahead w q) g 0 d.toArray) base (.slice (some ⟨g,0,none⟩) m c) (d.take m)/\Kp (only g) w (Sort.putRow f (Sort.ahead w q) g 0 d.toArray):=by
 have hn:=hO.isn;rcases hO.2 with ⟨h1,_⟩|⟨g',cap,cur,h1,hb,hg,h2,h3,h4,h5⟩
 ·cases h1
 ·cases h1
  have hblk:∀k,k≠g->(Sort.putRow f (Sort.ahead w q) g 0 d.toArray).heap[k]?=w.heap[k]?:=by
   intro k hk;show (w.heap.modify g _)[k]?=_;rw[Array.getElem?_modify,if_neg (fun e=>hk e.symm)]
  have hrow:(Sort.putRow f (Sort.ahead w q) g 0 d.toArray).heap[g]?=some (.cells (Sort.putCells f 0 d.toArray cur) e (0,0)):=by
   show (w.heap.modify g _)[g]?=_;rw[Array.getElem?_modify,if_pos rfl,hg];rfl
  refine⟨⟨by simp,.inr ⟨g,c,_,?_,hb,hrow,by simp;omega,h3,?_,?_⟩⟩,⟨rfl,rfl,rfl,by simp[Sort.ahead],fun k hk hS=>hblk k (fun e=>hS e)⟩⟩
  ·rw[List.length_take,hd,Nat.min_eq_left hm]
  ·unfold Sort.putCells;rw[Array.size_mapIdx];exact h4
  ·rw[List.length_take,hd,Nat.min_eq_left hm,Nat.mul_one];refine List.ext_getElem? fun j=>?_;rw[List.getElem?_take,List.getElem?_map,List.getElem?_take];by_cases hj:j<m
   ·rw[if_pos hj,if_pos hj];have hjc:j<cur.size:=by rw[h4];omega
    have hjd:j<d.length:=by omega
    rw[Array.getElem?_toList];unfold Sort.putCells;rw[Array.getElem?_mapIdx,Array.getElem?_eq_getElem hjc,List.getElem?_eq_getElem hjd];simp only[Option.map_some];rw[if_pos ⟨Nat.zero_le _,by simp;omega⟩,Nat.sub_zero,getElem!_pos d.toArray j (by simpa using hjd)];simp
   ·rw[if_neg hj,if_neg hj];rfl
theorem Ow.holds{α:Type}[Inhabited α]{f:α->Value}{e:TypeId}{w:World}{base g n c:Nat}{l:List α}(hO:Ow f e w base (.slice (some ⟨g,0,none⟩) n c) l):Sort.Holds f w g 0 l.toArray:=by
 intro j hj;have hjl:j<l.length:=by simpa using hj
 have:=hO.cellA j hjl;rw[Nat.zero_add,getElem!_pos l.toArray j hj];simpa using this
theorem Iu{α:Type}(l:List α)(i:Nat)(z:α)(h:i<l.length):(l.take i++l.drop (i+1)++List.replicate 1 z).take (l.length - 1)=l.eraseIdx i:=by
 rw[List.take_left' (by simp;omega),List.eraseIdx_eq_take_drop_succ]
theorem Na(g n c i:Nat)(l:List Int)(base:Nat)(w:World)(hO:Ow (Value.int .i64) 3 w base (.slice (some ⟨g,0,none⟩) n c) l)(hi:i<n) :
  Calls prog 150 #[.slice (some ⟨g,0,none⟩) n c,.int .i64 (i:Int),.int .i64 ((i+1:Nat):Int)] w fun e w'=>e=.returned (.slice (some ⟨g,0,none⟩) (n - 1) c)/\Ow (Value.int .i64) 3 w' base (.slice (some ⟨g,0,none⟩) (n - 1) c) (l.eraseIdx i)/\Kp (only g) w w':=by
 obtain⟨i0,hi0,hz0,hz1,hz2⟩:=info_parts infoI;have hn:=hO.isn;obtain⟨hc1,hc2⟩:n<=c/\c<=maxLen:=by
  rcases hO.2 with ⟨h1,_⟩|⟨g',cap,cur,h1,_,_,h2,h3,_⟩
  ·cases h1
  ·cases h1;exact⟨by omega,h3⟩
 have h:=M7 (Value.int .i64) (fun _=>rfl) 0 (fun w=>by simp[zeroValue,typeInfo,hi0,hz0]) i0 hi0 hz1 g 0 c i (i+1) l.toArray w hO.holds (by simp;omega) (by unfold maxLen at hc2;exact hc2) (by omega) (by simp;omega);rw[List.size_toArray,<-hn]at h;refine h.mono ?_;rintro e w' ⟨rfl,q,rfl⟩;have e1:i+1 - i=1:=by omega
 rw[e1];have hp:=hO.putRow (fun _=>rfl) q (l.take i++l.drop (i+1)++List.replicate 1 0) (by simp;omega) (n - 1) (by omega);rw[hn,Iu l i 0 (by omega)]at hp;rw[hn];exact⟨rfl,hp.1,hp.2⟩
theorem Nc(g n c i:Nat)(l:List ByteArray)(base:Nat)(w:World)(hO:Ow Value.string 9 w base (.slice (some ⟨g,0,none⟩) n c) l)(hi:i<n) :
  Calls prog 151 #[.slice (some ⟨g,0,none⟩) n c,.int .i64 (i:Int),.int .i64 ((i+1:Nat):Int)] w fun e w'=>e=.returned (.slice (some ⟨g,0,none⟩) (n - 1) c)/\Ow Value.string 9 w' base (.slice (some ⟨g,0,none⟩) (n - 1) c) (l.eraseIdx i)/\Kp (only g) w w':=by
 obtain⟨i0,hi0,hz0,hz1,hz2⟩:=info_parts Fd;have hn:=hO.isn;obtain⟨hc1,hc2⟩:n<=c/\c<=maxLen:=by
  rcases hO.2 with ⟨h1,_⟩|⟨g',cap,cur,h1,_,_,h2,h3,_⟩
  ·cases h1
  ·cases h1;exact⟨by omega,h3⟩
 have h:=M9 Value.string (fun _=>rfl) ⟨#[]⟩ (fun w=>by simp[zeroValue,typeInfo,hi0,hz0]) i0 hi0 hz1 g 0 c i (i+1) l.toArray w hO.holds (by simp;omega) (by unfold maxLen at hc2;exact hc2) (by omega) (by simp;omega);rw[List.size_toArray,<-hn]at h;refine h.mono ?_;rintro e w' ⟨rfl,q,rfl⟩;have e1:i+1 - i=1:=by omega
 rw[e1];have hp:=hO.putRow (fun _=>rfl) q (l.take i++l.drop (i+1)++List.replicate 1 ⟨#[]⟩) (by simp;omega) (n - 1) (by omega);rw[hn,Iu l i ⟨#[]⟩ (by omega)]at hp;rw[hn];exact⟨rfl,hp.1,hp.2⟩
structure OwM (w:World) (base:Nat) (l:Bool) (pv kv dv:Value) (n:Nd):Prop where
 l:l=n.leaf
 p:OwP w base pv n.ps
 k:Ow Value.string 9 w base kv n.ks
 d:Ow (Value.int .i64) 3 w base dv n.kd
 wf:n.wf
theorem OwN.toM{w:World}{base:Nat}{l:Bool}{pv kv dv:Value}{n:Nd}(h:OwN w base l pv kv dv n):OwM w base l pv kv dv n:=⟨h.l,h.p,h.k,h.d,h.wf⟩
theorem OwM.nv{w:World}{base:Nat}{l:Bool}{pv kv dv:Value}{n:Nd}(h:OwM w base l pv kv dv n):Nv w.heap.size w (.agg #[.bool l,pv,kv,dv]) n:=⟨⟨pv,kv,dv,by rw[h.l],h.p.prs,h.k.sl,h.d.sl⟩,h.wf⟩
theorem Ox(xs:List SpV)(i:Nat)(x:SpV)(j:Nat)(hi:i<xs.length)(hj:j<7)(u:Value)(hu:(x.cells)=(xs[i].cells).set j u):stcs (xs.set i x)=(stcs xs).set (i*7+j) u:=by
 induction xs generalizing i with
 | nil=>simp at hi
 | cons y ys ih =>
  have e:stcs (y::ys)=SpV.cells y++stcs ys:=by simp[stcs]
  rcases i with _|i
  ·simp only[List.getElem_cons_zero]at hu;rw[Qb,e,show stcs (x::ys)=SpV.cells x++stcs ys by simp[stcs],hu,Nat.zero_mul,Nat.zero_add,List.set_append_left _ _ (by simp[SpV.cells];omega)]
  ·simp only[List.getElem_cons_succ]at hu;rw[Qc,e,show stcs (y::ys.set i x)=SpV.cells y++stcs (ys.set i x) by simp[stcs],ih i (by simpa using hi) hu,List.set_append_right _ _ (by simp[SpV.cells];omega)];congr 2;simp[SpV.cells];omega
theorem row_step{w:World}{rb g m cap:Nat}{xs:List SpV}(h:w.ownsRow rb 85 7 (.slice (some ⟨g,0,none⟩) m cap) xs.length (stcs xs))(i:Nat)(hi:i<xs.length)(j:Nat)(u:Value)(hj:(xs[i].cells)[j]?=some u):w.cell? ⟨g,i*7+j,none⟩=some u/\w.frozen? ⟨g,i*7+j,none⟩=false:=by
 have hj7:j<7:=by have:=(List.getElem?_eq_some_iff.1 hj).1;simpa[SpV.cells]using this
 have hm:m=xs.length:=by
  rcases h.2 with ⟨h1,_⟩|⟨g',cap',cur,h1,_⟩
  ·cases h1
  ·cases h1;rfl
 subst hm;exact AO h (i*7+j) u (by rw[Ls xs i j hi hj7];exact hj)
theorem BY{w:World}{rb g m cap:Nat}{xs:List SpV}(h:w.ownsRow rb 85 7 (.slice (some ⟨g,0,none⟩) m cap) xs.length (stcs xs))(i:Nat)(hi:i<xs.length)(j:Nat)(hj:j<7)(x:SpV)(u:Value)(hu:x.cells=(xs[i].cells).set j u) :
  (w.setCell ⟨g,i*7+j,none⟩ u).ownsRow rb 85 7 (.slice (some ⟨g,0,none⟩) m cap) (xs.set i x).length (stcs (xs.set i x))/\Kp (only g) w (w.setCell ⟨g,i*7+j,none⟩ u):=by
 have hm:m=xs.length:=by
  rcases h.2 with ⟨h1,_⟩|⟨g',cap',cur,h1,_⟩
  ·cases h1
  ·cases h1;rfl
 subst hm;have h1:=World.ownsRow.stored (g:=g) (cap:=cap) h (i*7+j) u;rw[Ox xs i x j hi hj u hu,List.length_set];exact⟨h1.1,Kp.setCell _ _ _ _ rfl⟩
def MJ(g m cap i rb base:Nat)(xs:List SpV)(x:SpV)(n':Nd)(w w':World):Prop:=∃x':SpV,w'.ownsRow rb 85 7 (.slice (some ⟨g,0,none⟩) m cap) (xs.set i x').length (stcs (xs.set i x'))/\OwM w' base x'.l x'.p x'.k x'.d n'/\(x'.pg=x.pg/\x'.kid=x.kid/\x'.was=x.was)/\(∀k,x'.own k->x.own k)/\Kp (fun k=>k=g\/x.own k) w w'
set_option maxRecDepth 100000 in
theorem IJ(g cap m i rb base:Nat)(xs:List SpV)(x:SpV)(n:Nd)(kid:Nat)(w:World)(hrow:w.ownsRow rb 85 7 (.slice (some ⟨g,0,none⟩) m cap) xs.length (stcs xs))(hi:i<xs.length)(hx:xs[i]=x)
  (hN:OwN w base x.l x.p x.k x.d n) (hg:¬x.own g) (hgpd:∀k j,x.p.ownBlock=some k->x.k.ownBlock=some j\/x.d.ownBlock=some j->k≠j) (hk:kid<n.kd.length) (hks:n.kd.length=n.ks.length+1) (hn6:n.kd.length<=1000000) :
  Calls prog 127 #[.pointer (some ⟨g,i*7,none⟩),.int .i64 (kid:Int)] w fun e w'=>e=.returned (.tuple #[])/\MJ g m cap i rb base xs x (n.lose kid) w w':=by
 obtain⟨gk,nk,gd,nd',ek,ed,hne⟩:=hN.t (by intro h;rw[h]at hk;simp at hk);obtain⟨pg,l,a1,n1,c1,a2,n2,c2,a3,n3,c3,kd',was⟩:=x;simp only[SpV.k,SpV.d,Value.slice.injEq]at ek ed;obtain⟨rfl,rfl,rfl⟩:=ek;obtain⟨rfl,rfl,rfl⟩:=ed;have hNk:Ow Value.string 9 w base (.slice (some ⟨gk,0,none⟩) c2 c2) n.ks:=hN.k;have hNd:Ow (Value.int .i64) 3 w base (.slice (some ⟨gd,0,none⟩) c3 c3) n.kd:=hN.d;have hNp:OwP w base (.slice a1 n1 c1) n.ps:=hN.p;have hgk:gk≠g:=fun e=>hg (.inr (.inl (by rw[<-e];rfl)))
 have hgd:gd≠g:=fun e=>hg (.inr (.inr (by rw[<-e];rfl)));have hgp:∀k,(Value.slice a1 n1 c1).ownBlock=some k->k≠g:=fun k hk e=>hg (.inl (by rw[<-e];exact hk));have hnd:=hNd.isn;have hnk:=hNk.isn;have q4:w.cell? ⟨g,i*7+1+3,none⟩=some (.slice (some ⟨gd,0,none⟩) c3 c3):=(row_step hrow i hi 4 _ (by rw[hx];rfl)).1;have hkn:kid<c3:=by omega
 have hD:=Na gd c3 c3 kid n.kd base w hNd hkn;rw[show ((kid+1:Nat):Int)=(kid:Int)+1 by omega]at hD;have hkb:(kid:Int)+1<=1000001:=by omega
 have hc6:c3<=1000000:=by omega
 have HND:=hide hnd;have HNKL:=hide hnk;have HKS:=hide hks;have HX0:=hide hx;clear hnd hnk hks hn6 hk;have HGP1:Hid (∀k,(Value.slice a1 n1 c1).ownBlock=some k->k≠gd):=fun k e=>hgpd k gd e (.inr rfl);have HGP2:Hid (∀k,(Value.slice a1 n1 c1).ownBlock=some k->k≠gk):=fun k e=>hgpd k gk e (.inl rfl);have HROW:=hide hrow;have HNK:=hide hNk;have HNP:=hide hNp;have HWF:=hide hN.wf;have HLF:=hide hN.l;clear hrow hNk hNp hNd hN hg hx hgpd;go_enter func127,ntmps127
 have f4:∀W:World,Kp (only gd) w W->W.cell? ⟨g,i*7+1+3,none⟩=some (.slice (some ⟨gd,0,none⟩) c3 c3)/\W.frozen? ⟨g,i*7+1+3,none⟩=false:=by
  intro W hk;have h:=row_step (Ao HROW.out hk (fun k e h=>by have:=Option.some.inj e;unfold only at h;simp only at this;omega)) i hi 4 (.slice (some ⟨gd,0,none⟩) c3 c3) (by rw[HX0.out];rfl);exact h
 have HF4:=hide f4;clear f4;go_upto_region 1 with (first
  | (go_at_call 150;refine hD.mono ?_;rintro e w1 ⟨rfl,hO1,hk1⟩;obtain⟨y4,z4⟩:=HF4.out w1 hk1)
  | fail)
 have hrow1:=Ao HROW.out hk1 (fun k e h=>by have:=Option.some.inj e;unfold only at h;simp only at this;omega);obtain⟨hrow2,hk2⟩:=BY hrow1 i hi 4 (by omega) ⟨pg,l,a1,n1,c1,some ⟨gk,0,none⟩,c2,c2,some ⟨gd,0,none⟩,c3 - 1,c3,kd',was⟩ (.slice (some ⟨gd,0,none⟩) (c3 - 1) c3) (by rw[HX0.out];rfl);have hk2':Kp (only g) w1 (w1.setCell ⟨g,i*7+1+3,none⟩ (.slice (some ⟨gd,0,none⟩) (c3 - 1) c3)):=hk2
 have hrow2':(w1.setCell ⟨g,i*7+1+3,none⟩ (.slice (some ⟨gd,0,none⟩) (c3 - 1) c3)).ownsRow rb 85 7 (.slice (some ⟨g,0,none⟩) m cap) (xs.set i ⟨pg,l,a1,n1,c1,some ⟨gk,0,none⟩,c2,c2,some ⟨gd,0,none⟩,c3 - 1,c3,kd',was⟩).length (stcs (xs.set i ⟨pg,l,a1,n1,c1,some ⟨gk,0,none⟩,c2,c2,some ⟨gd,0,none⟩,c3 - 1,c3,kd',was⟩)):=hrow2;generalize w1.setCell ⟨g,i*7+1+3,none⟩ (.slice (some ⟨gd,0,none⟩) (c3 - 1) c3)=w2 at *;clear hk2 hrow2 y4 z4 q4 hD hrow1 HF4
 obtain⟨X,HX⟩:∃q:SpV,Hid ((⟨pg,l,a1,n1,c1,some ⟨gk,0,none⟩,c2,c2,some ⟨gd,0,none⟩,c3 - 1,c3,kd',was⟩:SpV)=q):=⟨_,rfl⟩;rw[HX.out]at hrow2';have hXi:(xs.set i X)[i]'(by rw[List.length_set];exact hi)=X:=by simp
 have q3:w2.cell? ⟨g,i*7+1+2,none⟩=some (.slice (some ⟨gk,0,none⟩) c2 c2):=(row_step hrow2' i (by rw[List.length_set];exact hi) 3 _ (by rw[hXi,<-HX.out];rfl)).1;have hO2:=hO1.kept hk2' (fun k e h=>by have:=Option.some.inj e;unfold only at h;simp only at this;omega)
 have HNK2:Hid (Ow Value.string 9 w2 base (.slice (some ⟨gk,0,none⟩) c2 c2) n.ks):=(HNK.out.kept hk1 (fun k e h=>by have:=Option.some.inj e;unfold only at h;simp only at this;omega)).kept hk2' (fun k e h=>by have:=Option.some.inj e;unfold only at h;simp only at this;omega);have HP2:Hid (OwP w2 base (.slice a1 n1 c1) n.ps):=(HNP.out.kept hk1 (fun k e h=>by unfold only at h;exact HGP1.out k e h)).kept hk2' (fun k e h=>by unfold only at h;exact hgp k e h)
 have HK2:Hid (Kp (fun k=>k=g\/k=gd) w w2):=(hk1.mono (fun k _ e=>.inr e)).then (hk2'.mono (fun k _ e=>.inl e));have HGP3:=hide hgp;clear hk1 hk2' hO1 hgp;have HER:Hid (∀(l:List Int) (j:Nat) (z:Int),z∈l.eraseIdx j->z∈l):=fun l j z h=>List.mem_of_mem_eraseIdx h;by_cases hz:c2=0
 ·have hzb:((c2:Int)==0)=true:=by simp[hz]
  have HE:Hid (n.lose kid={ n with kd:=n.kd.eraseIdx kid }):=by show _=_;unfold Nd.lose;rw[if_pos (by rw[<-HNKL.out];exact hz)]
  clear hz;go_wp2;refine bodyPost_ret (results_none rfl _ _ _) rfl ?_;rw[HE.out];refine⟨rfl,X,hrow2',?_,by rw[<-HX.out];exact⟨rfl,rfl,rfl⟩,fun k e=>by rw[<-HX.out]at e;exact e,HK2.out.mono (fun k _ e=>by rcases e with e|e;exact .inl e;exact .inr (.inr (.inr (by rw[e];rfl))))⟩;rw[<-HX.out];exact⟨HLF.out,HP2.out,HNK2.out,hO2,⟨HWF.out.p,HWF.out.k,fun z hz=>HWF.out.d z (HER.out _ _ _ hz)⟩⟩
 ·have hzb:((c2:Int)==0)=false:=by rw[beq_eq_false_iff_ne];omega
  obtain⟨kk,Hkk⟩:∃q,Hid (kid - 1=q):=⟨_,rfl⟩;have hkk:kk<c2:=by have:=Hkk.out;have:=HND.out;have:=HNKL.out;have:=HKS.out;omega
  have HE:Hid (n.lose kid={ n with kd:=n.kd.eraseIdx kid,ks:=n.ks.eraseIdx kk }):=by show _=_;unfold Nd.lose;rw[if_neg (by rw[<-HNKL.out];exact hz),Hkk.out]
  have hD2:=Nc gk c2 c2 kk n.ks base w2 HNK2.out hkk;rw[show ((kk+1:Nat):Int)=(kk:Int)+1 by omega]at hD2;have hkb2:(kk:Int)+1<=1000001:=by have:=Hkk.out;omega
  have hmx:max ((kid:Int) - 1) 0=(kk:Int):=by have:=Hkk.out;omega
  have f3:∀W:World,Kp (only gk) w2 W->W.cell? ⟨g,i*7+1+2,none⟩=some (.slice (some ⟨gk,0,none⟩) c2 c2)/\W.frozen? ⟨g,i*7+1+2,none⟩=false:=by
   intro W hk;exact row_step (Ao hrow2' hk (fun k e h=>by have:=Option.some.inj e;unfold only at h;simp only at this;omega)) i (by rw[List.length_set];exact hi) 3 (.slice (some ⟨gk,0,none⟩) c2 c2) (by rw[hXi,<-HX.out];rfl)
  have HF3:=hide f3;have HROW2:=hide hrow2';have HXI:=hide hXi;clear f3 hrow2' hXi hz;go_upto_region 3 with fail;go_wp2_with (first
   | (go_at_call 151;refine hD2.mono ?_;rintro e w3 ⟨rfl,hO3,hk3⟩;obtain⟨y3,z3⟩:=HF3.out w3 hk3)
   | fail)
  have hrow3:=Ao HROW2.out hk3 (fun k e h=>by have:=Option.some.inj e;unfold only at h;simp only at this;omega);have hil:i<(xs.set i X).length:=by rw[List.length_set];exact hi
  obtain⟨hrow4,hk4⟩:=BY hrow3 i hil 3 (by omega) ⟨pg,l,a1,n1,c1,some ⟨gk,0,none⟩,c2 - 1,c2,some ⟨gd,0,none⟩,c3 - 1,c3,kd',was⟩ (.slice (some ⟨gk,0,none⟩) (c2 - 1) c2) (by rw[HXI.out,<-HX.out];rfl);rw[List.set_set]at hrow4;first|go_end0|((try simp only[Exit.inBlock,Exit.then]);refine bodyPost_ret (results_none rfl _ _ _) rfl ?_)
  rw[HE.out];have hO4:=hO3.kept hk4 (fun k e h=>by have:=Option.some.inj e;unfold only at h;simp only at this;omega);have hO5:=(hO2.kept hk3 (fun k e h=>by have:=Option.some.inj e;unfold only at h;simp only at this;omega)).kept hk4 (fun k e h=>by have:=Option.some.inj e;unfold only at h;simp only at this;omega);have hP4:=(HP2.out.kept hk3 (fun k e h=>by unfold only at h;exact HGP2.out k e h)).kept hk4 (fun k e h=>by unfold only at h;exact HGP3.out k e h)
  refine⟨rfl,⟨pg,l,a1,n1,c1,some ⟨gk,0,none⟩,c2 - 1,c2,some ⟨gd,0,none⟩,c3 - 1,c3,kd',was⟩,hrow4,⟨HLF.out,hP4,hO4,hO5,⟨HWF.out.p,fun y hy=>HWF.out.k y (List.mem_of_mem_eraseIdx hy),fun y hy=>HWF.out.d y (HER.out _ _ _ hy)⟩⟩,⟨rfl,rfl,rfl⟩,fun k e=>e,?_⟩;refine((HK2.out.mono (fun k _ e=>?_)).then (hk3.mono (fun k _ e=>?_))).then (hk4.mono (fun k _ e=>?_))
  ·rcases e with e|e
   ·exact .inl e
   ·exact .inr (.inr (.inr (by rw[e];rfl)))
  ·unfold only at e;exact .inr (.inr (.inl (by rw[e];rfl)))
  ·exact .inl e
structure AbM (w:World) (o:Nat->Nat) (g m cap i rb base:Nat) (xa:List SpV) (x:SpV) (n:Nd):Prop where
 row:w.ownsRow rb 85 7 (.slice (some ⟨g,0,none⟩) m cap) xa.length (stcs xa)
 hi:i<xa.length
 hx:xa[i]=x
 nd:OwN w base x.l x.p x.k x.d n
 hg:¬x.own g
 hp:∀k j,x.p.ownBlock=some k->x.k.ownBlock=some j\/x.d.ownBlock=some j->k≠j
 og:o g=6
 ox:∀k,x.own k->o k=6
theorem AbM.lt{w:World}{o:Nat->Nat}{g m cap i rb base:Nat}{xa:List SpV}{x:SpV}{n:Nd}(h:AbM w o g m cap i rb base xa x n):g<w.heap.size:=(World.ownsRow.lt h.row g rfl).2
theorem AbM.kept{w w':World}{o o':Nat->Nat}{g m cap i rb base:Nat}{xa:List SpV}{x:SpV}{n:Nd}{S:Nat->Prop}(h:AbM w o g m cap i rb base xa x n)(hk:Kp S w w')(hS:∀k,k<w.heap.size->o k=6->¬S k)(ho:∀k,k<w.heap.size->o' k=o k):AbM w' o' g m cap i rb base xa x n :=
 ⟨Ao h.row hk (fun k e=>by have e':g=k:=Option.some.inj e;subst e';exact hS g h.lt h.og),h.hi,h.hx,h.nd.keptO hk (fun k e=>hS k (h.nd.blocks k e).2 (h.ox k e)),h.hg,h.hp,by rw[ho g h.lt];exact h.og,fun k e=>by rw[ho k (h.nd.blocks k e).2];exact h.ox k e⟩
def Jy(g m cap i rb base:Nat)(xa:List SpV)(x:SpV)(n':Nd)(w':World):Prop:=∃x':SpV,w'.ownsRow rb 85 7 (.slice (some ⟨g,0,none⟩) m cap) (xa.set i x').length (stcs (xa.set i x'))/\OwM w' base x'.l x'.p x'.k x'.d n'/\(x'.pg=x.pg/\x'.kid=x.kid/\x'.was=x.was)/\(∀k,x'.own k->x.own k)
def LB(b r g m cap i rb base:Nat)(o:Nat->Nat)(C':Cg)(tv:Value)(xs' xa:List SpV)(x:SpV)(n':Nd)(w w':World):Prop:=∃(o':Nat->Nat) (wv' sv':Value),(∀k,k<w.heap.size->o' k=o k)/\Cm w' b r o' C' wv' tv sv' xs'/\Jy g m cap i rb base xa x n' w'/\Kp (fun k=>o k=1\/o k=2\/o k=4\/o k=6) w w'
set_option maxRecDepth 100000 in
theorem L7(b r g m cap i rb base:Nat)(o:Nat->Nat)(C:Cg)(wv tv sv:Value)(xs xa:List SpV)(y x:SpV)(n nab:Nd)(rt:Int)(bt:Nat)(w:World)(hC:Cm w b r o C wv tv sv xs)(hy:WrIs w o y (y.pg,n))(h0:y.kid=0)(h1:y.was=0)(hA:AbM w o g m cap i rb base xa x nab)(hbt:bt+1<nab.kd.length)(hks:nab.kd.length=nab.ks.length+1)(hn6:nab.kd.length<=100000)(hl:C.ws.length<=100000)(hs:C.sp.length<=100000) :
  Calls prog 156 #[.pointer (some ⟨b,0,none⟩),.agg #[.int .i64 y.pg,.int .i64 rt,.int .i64 (bt:Int),.bool y.l,.slice y.a1 y.n1 y.c1,.slice y.a2 y.n2 y.c2,.slice y.a3 y.n3 y.c3],.pointer (some ⟨g,i*7,none⟩)] w fun e w'=>e=.returned (.tuple #[])/\LB b r g m cap i rb base o { C.write y.pg n with sp:=C.sp++[rt] } tv (xs++[y]) xa x (nab.lose (bt+1)) w w':=by
 have hKA:Kp none' w (w.alloc (.cells #[.int .i64 y.pg,.int .i64 rt,.int .i64 (bt:Int),.bool y.l,.slice y.a1 y.n1 y.c1,.slice y.a2 y.n2 y.c2,.slice y.a3 y.n3 y.c3] 216)):=Kp.alloc _ _ _;have cell:=Am w #[.int .i64 y.pg,.int .i64 rt,.int .i64 (bt:Int),.bool y.l,.slice y.a1 y.n1 y.c1,.slice y.a2 y.n2 y.c2,.slice y.a3 y.n3 y.c3] 216;have q0:=cell 0 _ rfl;have q1:=cell 1 _ rfl;have q2:=cell 2 _ rfl;have q3:=cell 3 _ rfl
 have q4:(w.alloc (.cells #[.int .i64 y.pg,.int .i64 rt,.int .i64 (bt:Int),.bool y.l,.slice y.a1 y.n1 y.c1,.slice y.a2 y.n2 y.c2,.slice y.a3 y.n3 y.c3] 216)).cell? ⟨w.heap.size,3+1,none⟩=_:=cell 4 _ rfl;have q5:(w.alloc (.cells #[.int .i64 y.pg,.int .i64 rt,.int .i64 (bt:Int),.bool y.l,.slice y.a1 y.n1 y.c1,.slice y.a2 y.n2 y.c2,.slice y.a3 y.n3 y.c3] 216)).cell? ⟨w.heap.size,3+2,none⟩=_:=cell 5 _ rfl
 have q6:(w.alloc (.cells #[.int .i64 y.pg,.int .i64 rt,.int .i64 (bt:Int),.bool y.l,.slice y.a1 y.n1 y.c1,.slice y.a2 y.n2 y.c2,.slice y.a3 y.n3 y.c3] 216)).cell? ⟨w.heap.size,3+3,none⟩=_:=cell 6 _ rfl;have hold:∀k,k<w.heap.size->lab o w.heap.size 9 k=o k:=fun k hk=>Ad hk;have hog:lab o w.heap.size 9 w.heap.size=9:=Ap (Nat.le_refl _);have hC1:=hC.kept (o':=lab o w.heap.size 9) hKA (fun _ _ _ h=>h) hold;have hy1:=hy.kept (o':=lab o w.heap.size 9) hKA (fun _ _ _ h=>h) hold
 have hA1:=hA.kept (o':=lab o w.heap.size 9) hKA (fun _ _ _ h=>h) hold;have hgw:w.heap.size<(w.alloc (.cells #[.int .i64 y.pg,.int .i64 rt,.int .i64 (bt:Int),.bool y.l,.slice y.a1 y.n1 y.c1,.slice y.a2 y.n2 y.c2,.slice y.a3 y.n3 y.c3] 216)).heap.size:=lt_of_cell q0;clear cell hC hy hA;go_enter func156,ntmps156;go_upto_region 1 with fail
 generalize w.alloc (.cells #[.int .i64 y.pg,.int .i64 rt,.int .i64 (bt:Int),.bool y.l,.slice y.a1 y.n1 y.c1,.slice y.a2 y.n2 y.c2,.slice y.a3 y.n3 y.c3] 216)=w1 at *;obtain⟨gb,Hgb⟩:∃q,Hid (w.heap.size=q):=⟨_,rfl⟩;obtain⟨o1,Ho1⟩:∃q,Hid (lab o w.heap.size 9=q):=⟨_,rfl⟩;rw[Ho1.out]at hC1 hy1 hA1 hold hog;have HGW:=hide hgw;have HKA:=hide hKA;have HOLD:=hide hold;rw[Hgb.out]at q0 q1 q2 q3 q4 q5 q6 hog |-;clear hgw hKA hold;have HWR:=hide (A0 b r o1 C wv tv sv xs y n w1 hC1 hy1 h0 h1 hl)
 have HOG:=hide hog;clear hog hC1 hy1 h0 h1 hl;go_upto_region 2 with (first
  | (go_at_call 130;refine HWR.out.mono ?_;rintro e w2 ⟨rfl,o2,wv2,ho2,hC2,hk2⟩)
  | fail)
 have hgl:gb<w1.heap.size:=by have:=HGW.out;rw[Hgb.out]at this;exact this
 have ngb:¬(o1 gb=1\/o1 gb=2):=by have:=HOG.out;omega
 replace q1:=hk2.cell q1 ngb;replace q2:=hk2.cell q2 ngb;have hog2:o2 gb=9:=by rw[ho2 gb hgl];exact HOG.out
 have hgl2:gb<w2.heap.size:=Qd hgl hk2.size;have hA2:=hA1.kept hk2 (fun k _ e1 e2=>by omega) ho2;have dr:Kp none' w2 w2.drew:=Kp.drew _ _;have hC2d:=hC2.kept (o':=o2) dr (fun _ _ _ h=>h) (fun _ _=>rfl);have hA2d:=hA2.kept (o':=o2) dr (fun _ _ _ h=>h) (fun _ _=>rfl);obtain⟨aq,nq,cq,a4,n4,c4,w4,esv,y4,hq,y4',f4,hC5,hk5⟩:=Cm.appSp rt hC2d (by show C.sp.length<=_;omega);have hA5:=hA2d.kept (o':=lab o2 w2.drew.heap.size 4) hk5 (fun k _ e1 e2=>by omega) (fun k hk=>Ad hk)
 have HQ2:Hid ((w4.setCell ⟨b,4,none⟩ (.slice a4 n4 c4)).cell? ⟨gb,2,none⟩=some (.int .i64 (bt:Int))):=hk5.cell q2 (by omega);have q1d:w2.drew.cell? ⟨gb,1,none⟩=some (.int .i64 rt):=q1;have q1a:∀oo,(w2.alloc oo).cell? ⟨gb,1,none⟩=some (.int .i64 rt):=fun oo=>(Kp.alloc none' w2 oo).cell q1 (fun h=>h);have y4n:w2.cell? ⟨b,4,none⟩=some (.slice aq nq cq):=y4;have y4a:∀oo,(w2.alloc oo).cell? ⟨b,4,none⟩=some (.slice aq nq cq):=fun oo=>(Kp.alloc none' w2 oo).cell y4n (fun h=>h)
 have HK5:Hid (Kp (fun k=>o k=1\/o k=2\/o k=4\/o k=6) w (w4.setCell ⟨b,4,none⟩ (.slice a4 n4 c4))/\∀k,k<w.heap.size->lab o2 w2.drew.heap.size 4 k=o k):=by
  have hk12:∀k,k<w.heap.size->k<w1.heap.size:=fun k hk=>Nat.lt_trans hk HGW.out;have hk22:∀k,k<w.heap.size->k<w2.heap.size:=fun k hk=>Qd (hk12 k hk) hk2.size;refine⟨?_,fun k hk=>by rw[Ad (show k<w2.drew.heap.size from hk22 k hk),ho2 k (hk12 k hk),HOLD.out k hk]⟩;refine((HKA.out.trans hk2 (fun _ _ h=>by cases h) (fun k hk e=>?_)).thenN dr).trans hk5 (fun _ _ h=>h) (fun k hk e=>?_)
  ·rw[HOLD.out k hk]at e;rcases e with e|e;exact .inl e;exact .inr (.inl e)
  ·rw[ho2 k (hk12 k hk),HOLD.out k hk]at e;rcases e with e|e;exact .inl e;exact .inr (.inr (.inl e))
 clear hC2 hC2d hA2 hA2d hA1 HWR hk2 hk5 q0 q3 q4 q5 q6 q2 ho2 esv dr y4 hgl hgl2 ngb hog2;go_region_law (first
  | (refine A9 (by rfl) (.tmp 16) (.tmp 19) 33 33 (by rfl) _ _ (by rfl) (by rfl) hq ?_)
  | fail)
 all_goals
  generalize w4.setCell ⟨b,4,none⟩ (.slice a4 n4 c4)=w5 at *;have q2:=HQ2.out;have hbw:(bt:Int)+1<=1000000:=by omega
  have HLS:=hide (IJ g cap m i rb base xa x nab (bt+1) w5 hA5.row hA5.hi hA5.hx hA5.nd hA5.hg hA5.hp hbt hks (by omega));rw[show ((bt+1:Nat):Int)=(bt:Int)+1 by omega]at HLS;have HA5:=hide hA5;have HC5:=hide hC5;clear hA5 hC5 hq y4n y4a q1d q1a q1 y4' f4 hbt hks hn6;go_wp2_with (first
   | (go_at_call 127;refine HLS.out.mono ?_;rintro e w6 ⟨rfl,x',hrow',hN',hf',ho',hk6⟩)
   | fail)
  first|go_end0|((try simp only[Exit.inBlock,Exit.then]);refine bodyPost_ret (results_none rfl _ _ _) rfl ?_)
  have hlab:∀k,(k=g\/x.own k)->lab o2 w2.drew.heap.size 4 k=6:=fun k e=>by rcases e with e|e;(rw[e];exact HA5.out.og);exact HA5.out.ox k e
  refine⟨rfl,lab o2 w2.drew.heap.size 4,_,_,HK5.out.2,HC5.out.kept hk6 (fun k _ h1 h2=>by have:=hlab k h2;omega) (fun _ _=>rfl),⟨x',hrow',hN',hf',ho'⟩,HK5.out.1.trans hk6 (fun _ _ h=>h) (fun k hk e=>.inr (.inr (.inr (by rw[<-HK5.out.2 k hk];exact hlab k e))))⟩
theorem Nd.wf.mid{n:Nd}(h:n.wf):n.mid.size<=maxLen:=by
 have h0:(⟨#[]⟩:ByteArray).size<=maxLen:=Nat.zero_le _;unfold Nd.mid;split
 ·split
  ·rw[List.getD_eq_getElem?_getD];cases e:n.ps[n.at_]? with
   | none=>exact h0
   | some q=>exact(h.p q (List.mem_of_getElem? e)).1
  ·rw[List.getD_eq_getElem?_getD];cases e:n.ks[n.at_]? with
   | none=>exact h0
   | some q=>exact h.k q (List.mem_of_getElem? e)
 ·exact h0
theorem NW(w:World):Nb ((w.alloc (.cells #[.bool false,.slice none 0 0,.slice none 0 0,.slice none 0 0] 35)).alloc (.cells #[.bool false,.slice none 0 0,.slice none 0 0,.slice none 0 0] 35)) w.heap.size false (.slice none 0 0) (.slice none 0 0) (.slice none 0 0)/\Nb ((w.alloc (.cells #[.bool false,.slice none 0 0,.slice none 0 0,.slice none 0 0] 35)).alloc (.cells #[.bool false,.slice none 0 0,.slice none 0 0,.slice none 0 0] 35)) (w.heap.size+1) false (.slice none 0 0) (.slice none 0 0) (.slice none 0 0)/\Kp none' w ((w.alloc (.cells #[.bool false,.slice none 0 0,.slice none 0 0,.slice none 0 0] 35)).alloc (.cells #[.bool false,.slice none 0 0,.slice none 0 0,.slice none 0 0] 35)):=by
 refine⟨(Nb.new w false (.slice none 0 0) (.slice none 0 0) (.slice none 0 0)).kept (Kp.alloc none' _ _) (fun h=>h),?_,(Kp.alloc _ _ _).thenN (Kp.alloc _ _ _)⟩;have n3:=Nb.new (w.alloc (.cells #[.bool false,.slice none 0 0,.slice none 0 0,.slice none 0 0] 35)) false (.slice none 0 0) (.slice none 0 0) (.slice none 0 0);rw[show (w.alloc (.cells #[.bool false,.slice none 0 0,.slice none 0 0,.slice none 0 0] 35)).heap.size=w.heap.size+1 by simp]at n3;exact n3
theorem AbM.setKey{w:World}{o:Nat->Nat}{g m cap i rb base:Nat}{xa:List SpV}{x:SpV}{n:Nd}(h:AbM w o g m cap i rb base xa x n)(bt:Nat)(s:ByteArray)(hbt:bt<n.ks.length)(hks:n.kd.length=n.ks.length+1)(hs:s.size<=maxLen) :
  ∃gk ck,w.cell? ⟨g,i*7+1+2,none⟩=some (.slice (some ⟨gk,0,none⟩) n.ks.length ck)/\(∃u,w.cell? ⟨gk,bt,none⟩=some (.string u))/\w.frozen? ⟨gk,bt,none⟩=false/\o gk=6/\Jy g m cap i rb base xa x { n with ks:=n.ks.set bt s } (w.setCell ⟨gk,bt,none⟩ (.string s))/\Kp (only gk) w (w.setCell ⟨gk,bt,none⟩ (.string s)):=by
 obtain⟨gk,nk,gd,nd',ek,ed,hne⟩:=h.nd.t (by intro e;rw[e]at hks;simp at hks);have hk:Kp (only gk) w (w.setCell ⟨gk,bt,none⟩ (.string s)):=Kp.setCell _ _ _ _ rfl;have hO:=h.nd.k;rw[ek]at hO;have hnk:nk=n.ks.length:=hO.isn;have hr:w.cell? ⟨gk,bt,none⟩=some (.string n.ks[bt])/\w.frozen? ⟨gk,bt,none⟩=false:=by
  have h':=hO;rw[hnk]at h';exact AO h' bt _ (by simp[hbt])
 have hkk:x.k=.slice (some ⟨gk,0,none⟩) nk nk:=ek;have hgk:gk≠g:=fun e=>h.hg (.inr (.inl (by rw[hkk,<-e];rfl)));have hxs:xa.set i x=xa:=by rw[<-h.hx];exact List.set_getElem_self h.hi
 have hrow:=Ao h.row hk (fun k e e'=>by have:=Option.some.inj e;unfold only at e';simp only at this;omega)
 refine⟨gk,nk,(row_step h.row i h.hi 3 _ (by rw[h.hx];show some x.k=_;rw[hkk,hnk])).1,⟨_,hr.1⟩,hr.2,h.ox gk (.inr (.inl (by rw[hkk];rfl))),⟨x,by rw[hxs];exact hrow,⟨h.nd.l,h.nd.p.kept hk (fun k e e'=>by unfold only at e';exact h.hp k gk e (.inl (by rw[hkk];rfl)) e'),?_,h.nd.d.kept hk (fun k e e'=>by unfold only at e';rw[ed]at e;have:=Option.some.inj e;simp only at this;omega),⟨h.nd.wf.p,fun y hy=>?_,h.nd.wf.d⟩⟩,⟨rfl,rfl,rfl⟩,fun k e=>e⟩,hk⟩
 ·rw[hkk];exact(hO.stored bt s).1
 ·rcases List.mem_or_eq_of_mem_set hy with e|e
  ·exact h.nd.wf.k y e
  ·rw[e];exact hs
def F4(b r g m cap i rb base:Nat)(o:Nat->Nat)(C':Cg)(tv sv:Value)(xs xa:List SpV)(x:SpV)(n':Nd)(w w':World):Prop:=∃(o':Nat->Nat) (wv':Value) (y z:SpV),(∀k,k<w.heap.size->o' k=o k)/\Cm w' b r o' C' wv' tv sv (xs++[y]++[z])/\Jy g m cap i rb base xa x n' w'/\Kp (fun k=>o k=1\/o k=2\/o k=6) w w'
set_option maxRecDepth 100000 in
theorem Mu(b r g m cap i rb base:Nat)(o:Nat->Nat)(C:Cg)(wv tv sv:Value)(xs xa:List SpV)(y x:SpV)(n nab:Nd)(rt:Int)(bt:Nat)(w:World)(hC:Cm w b r o C wv tv sv xs)(hN:Nv w.heap.size w y.node n)(hA:AbM w o g m cap i rb base xa x nab)(hbt:bt<nab.ks.length)(hks:nab.kd.length=nab.ks.length+1)(hn6:nab.kd.length<=100000)(hl:C.ws.length<=90000)(hp:n.ps.length<=1048576)(hk:n.ks.length<=1048576)(hd:n.kd.length<=1048576)(hsz:n.size<=4194304) :
  Calls prog 157 #[.pointer (some ⟨b,0,none⟩),.agg #[.int .i64 y.pg,.int .i64 rt,.int .i64 (bt:Int),.bool y.l,.slice y.a1 y.n1 y.c1,.slice y.a2 y.n2 y.c2,.slice y.a3 y.n3 y.c3],.pointer (some ⟨g,i*7,none⟩)] w fun e w'=>e=.returned (.tuple #[])/\F4 b r g m cap i rb base o ((C.write y.pg n.fst).write rt n.snd) tv sv xs xa x { nab with ks:=nab.ks.set bt n.mid } w w':=by
 have hKA:Kp none' w (w.alloc (.cells #[.int .i64 y.pg,.int .i64 rt,.int .i64 (bt:Int),.bool y.l,.slice y.a1 y.n1 y.c1,.slice y.a2 y.n2 y.c2,.slice y.a3 y.n3 y.c3] 216)):=Kp.alloc _ _ _;have cell:=Am w #[.int .i64 y.pg,.int .i64 rt,.int .i64 (bt:Int),.bool y.l,.slice y.a1 y.n1 y.c1,.slice y.a2 y.n2 y.c2,.slice y.a3 y.n3 y.c3] 216;have q0:=cell 0 _ rfl;have q1:=cell 1 _ rfl;have q2:=cell 2 _ rfl;have q3:=cell 3 _ rfl
 have q4:(w.alloc (.cells #[.int .i64 y.pg,.int .i64 rt,.int .i64 (bt:Int),.bool y.l,.slice y.a1 y.n1 y.c1,.slice y.a2 y.n2 y.c2,.slice y.a3 y.n3 y.c3] 216)).cell? ⟨w.heap.size,3+1,none⟩=_:=cell 4 _ rfl;have q5:(w.alloc (.cells #[.int .i64 y.pg,.int .i64 rt,.int .i64 (bt:Int),.bool y.l,.slice y.a1 y.n1 y.c1,.slice y.a2 y.n2 y.c2,.slice y.a3 y.n3 y.c3] 216)).cell? ⟨w.heap.size,3+2,none⟩=_:=cell 5 _ rfl
 have q6:(w.alloc (.cells #[.int .i64 y.pg,.int .i64 rt,.int .i64 (bt:Int),.bool y.l,.slice y.a1 y.n1 y.c1,.slice y.a2 y.n2 y.c2,.slice y.a3 y.n3 y.c3] 216)).cell? ⟨w.heap.size,3+3,none⟩=_:=cell 6 _ rfl;have hold:∀k,k<w.heap.size->lab o w.heap.size 9 k=o k:=fun k hk=>Ad hk;have hog:lab o w.heap.size 9 w.heap.size=9:=Ap (Nat.le_refl _);have HC1:=hide (hC.kept (o':=lab o w.heap.size 9) hKA (fun _ _ _ h=>h) hold);have HA1:=hide (hA.kept (o':=lab o w.heap.size 9) hKA (fun _ _ _ h=>h) hold)
 have HSPL:=hide (GB y.node n w.heap.size _ (hN.kept hKA (fun _ _ h=>h)) hKA.size hp hk hd hsz);have hmid:=hN.wf.mid;unfold SpV.node at HSPL;have HGW:=hide (lt_of_cell q0);clear cell hC hA hN hp hk hd hsz;go_enter func157,ntmps157;go_upto_region 1 with fail;have HKA:=hide hKA;have HOLD:=hide hold;have HOG:=hide hog;clear hKA hold hog
 generalize w.alloc (.cells #[.int .i64 y.pg,.int .i64 rt,.int .i64 (bt:Int),.bool y.l,.slice y.a1 y.n1 y.c1,.slice y.a2 y.n2 y.c2,.slice y.a3 y.n3 y.c3] 216)=w1 at *;obtain⟨gb,Hgb⟩:∃q,Hid (w.heap.size=q):=⟨_,rfl⟩;obtain⟨o1,Ho1⟩:∃q,Hid (lab o w.heap.size 9=q):=⟨_,rfl⟩;rw[Ho1.out]at HC1 HA1 HOLD HOG;rw[Hgb.out]at q0 q1 q2 q3 q4 q5 q6 HOG |-;have HLS:=hide hl;have HKS:=hide hks;have HBT:=hide hbt;have HMID:=hide hmid;clear hl hks hbt hmid hn6;go_upto_region 2 with (first
  | (go_at_call 152;refine HSPL.out.mono ?_;rintro e w2 ⟨yv,zv,rfl,hy2,hz2,hk2,hfy,hfz⟩;obtain⟨l4,a4,m4,c4,a5,m5,c5,a6,m6,c6,rfl,hfy⟩:=hfy;obtain⟨l7,a7,m7,c7,a8,m8,c8,a9,m9,c9,rfl,hfz⟩:=hfz;obtain⟨n2,n3,hk3⟩:=NW w2)
  | (refine Af rfl rfl (.tmp 6) (.tmp 13) rfl w2.heap.size rfl rfl n2 ?_;clear n2;intro w3 n2 hk4;replace n3:=Aw n3 (by omega) hk4)
  | (refine Af rfl rfl (.tmp 7) (.tmp 14) rfl (w2.heap.size+1) rfl rfl n3 ?_;clear n3;intro w4 n3 hk5;replace n2:=Aw n2 (by omega) hk5)
  | fail)
 have hk24:Kp none' w2 w4:=Ax (Ax hk3 (Nat.le_refl _) hk4) (by omega) hk5;clear hk3 hk4 hk5;have HK14:Hid (Kp none' w1 w4):=hk2.thenN hk24;obtain⟨o2,Ho2⟩:∃q,Hid (lab (lab o1 w1.heap.size 0) w2.heap.size 9=q):=⟨_,rfl⟩;have hs12:w1.heap.size<=w2.heap.size:=hk2.size;have ho2:∀k,k<w1.heap.size->o2 k=o1 k:=fun k h=>by rw[<-Ho2.out,Ad (by omega),Ad h]
 have ho0:∀k,w1.heap.size<=k->k<w2.heap.size->o2 k=0:=fun k h h'=>by rw[<-Ho2.out,Ad h',Ap h]
 have ho9:∀k,w2.heap.size<=k->o2 k=9:=fun k h=>by rw[<-Ho2.out,Ap h]
 have hC4:=HC1.out.kept (o':=o2) HK14.out (fun _ _ _ h=>h) ho2;have hA4:=HA1.out.kept (o':=o2) HK14.out (fun _ _ _ h=>h) ho2;have hY4:WrIs w4 o2 ⟨y.pg,l4,a4,m4,c4,a5,m5,c5,a6,m6,c6,0,0⟩ (y.pg,n.fst):=⟨rfl,Nv.keptO (x:=⟨y.pg,l4,a4,m4,c4,a5,m5,c5,a6,m6,c6,0,0⟩) hy2 hk24 (fun _ _ h=>h),fun k e=>⟨Qd (hfy k e).2 hk24.size,ho0 k (hfy k e).1 (hfy k e).2⟩⟩
 have hZ4:WrIs w4 o2 ⟨rt,l7,a7,m7,c7,a8,m8,c8,a9,m9,c9,0,0⟩ (rt,n.snd):=⟨rfl,Nv.keptO (x:=⟨rt,l7,a7,m7,c7,a8,m8,c8,a9,m9,c9,0,0⟩) hz2 hk24 (fun _ _ h=>h),fun k e=>⟨Qd (hfz k e).2 hk24.size,ho0 k (hfz k e).1 (hfz k e).2⟩⟩;have HWR:=hide (A0 b r o2 C wv tv sv xs ⟨y.pg,l4,a4,m4,c4,a5,m5,c5,a6,m6,c6,0,0⟩ n.fst w4 hC4 hY4 rfl rfl (by have:=HLS.out;omega));have hgb1:gb<w1.heap.size:=by have:=HGW.out;rw[Hgb.out]at this;exact this
 have hog2:o2 gb=9:=by rw[ho2 gb hgb1];exact HOG.out
 replace q0:=HK14.out.cell q0 (fun h=>h);replace q1:=HK14.out.cell q1 (fun h=>h);replace q2:=HK14.out.cell q2 (fun h=>h);obtain⟨g2,Hg2⟩:∃q,Hid (w2.heap.size=q):=⟨_,rfl⟩;rw[Hg2.out]at n2 n3 ho9 |-;have x0:=n2.c0;have x1:=n2.c1;have x2:=n2.c2;have x3:=n2.c3;have h29:o2 (g2+1)=9:=ho9 _ (by omega);have HO2:=hide ho2;have HGB1:=hide hgb1;clear HC1 hC4 hY4 hy2 hz2 hfy hfz HSPL n2 ho0 ho9 hs12 hk2 hk24 ho2 q3 q4 q5 q6 hgb1;go_upto_region 3 with (first
  | (go_at_call 130;refine HWR.out.mono ?_;rintro e w5 ⟨rfl,o5,wv5,ho5,hC5,hk5⟩)
  | fail)
 have ngb:¬(o2 gb=1\/o2 gb=2):=by omega
 have hgb4:gb<w4.heap.size:=Qd HGB1.out HK14.out.size;replace q1:=hk5.cell q1 ngb;replace q2:=hk5.cell q2 ngb;replace n3:=n3.kept hk5 (by omega);have hA5:=hA4.kept hk5 (fun k _ e1 e2=>by omega) ho5;have hZ5:=hZ4.kept hk5 (fun k _ e1 e2=>by omega) ho5;have hog5:o5 gb=9:=by rw[ho5 gb hgb4];exact hog2
 have hgb5:gb<w5.heap.size:=Qd hgb4 hk5.size;replace HWR:=hide (A0 b r o5 (C.write y.pg n.fst) wv5 tv sv _ ⟨rt,l7,a7,m7,c7,a8,m8,c8,a9,m9,c9,0,0⟩ n.snd w5 hC5 hZ5 rfl rfl (by have:=HLS.out;show (C.ws++_).length<=_;simp;omega));replace x0:=n3.c0;replace x1:=n3.c1;replace x2:=n3.c2;replace x3:=n3.c3;have HO5:=hide ho5;have HK5:=hide hk5;clear hC5 hZ5 hZ4 hA4 n3 q0 hk5 ho5 h29 hog2 ngb hgb4;go_upto_region 4 with (first
  | (go_at_call 130;refine HWR.out.mono ?_;rintro e w6 ⟨rfl,o6,wv6,ho6,hC6,hk6⟩)
  | fail)
 replace q2:=hk6.cell q2 (by omega);have hA6:=hA5.kept hk6 (fun k _ e1 e2=>by omega) ho6;have hA7:=hA6.kept (o':=o6) (Kp.drew none' w6) (fun _ _ _ h=>h) (fun _ _=>rfl);have hC7:=hC6.kept (o':=o6) (Kp.drew none' w6) (fun _ _ _ h=>h) (fun _ _=>rfl);obtain⟨gk,ck,q3,⟨u,q4⟩,f4,h46,hP,hk7⟩:=hA7.setKey bt n.mid HBT.out HKS.out HMID.out
 have HEND:Hid (F4 b r g m cap i rb base o ((C.write y.pg n.fst).write rt n.snd) tv sv xs xa x { nab with ks:=nab.ks.set bt n.mid } w (w6.drew.setCell ⟨gk,bt,none⟩ (.string n.mid))):=by
  have h1:∀k,k<w.heap.size->k<w1.heap.size:=fun k h=>Nat.lt_trans h HGW.out;have h4:∀k,k<w.heap.size->k<w4.heap.size:=fun k h=>Qd (h1 k h) HK14.out.size;have h5:∀k,k<w.heap.size->k<w5.heap.size:=fun k h=>Qd (h4 k h) HK5.out.size;have h6:∀k,k<w.heap.size->o2 k=o k:=fun k h=>by rw[HO2.out k (h1 k h),HOLD.out k h]
  have h7:∀k,k<w.heap.size->o5 k=o k:=fun k h=>by rw[HO5.out k (h4 k h),h6 k h]
  have h8:∀k,k<w.heap.size->o6 k=o k:=fun k h=>by rw[ho6 k (h5 k h),h7 k h]
  refine⟨o6,wv6,_,_,h8,hC7.kept hk7 (fun k _ e1 e2=>by unfold only at e2;subst e2;omega) (fun _ _=>rfl),hP,?_⟩;refine(((((HKA.out.thenN HK14.out).trans HK5.out (fun _ _ h=>by cases h) (fun k hk e=>?_)).trans hk6 (fun _ _ h=>h) (fun k hk e=>?_)).thenN (Kp.drew none' w6))).trans hk7 (fun _ _ h=>h) (fun k hk e=>?_)
  ·rw[h6 k hk]at e;rcases e with e|e;exact .inl e;exact .inr (.inl e)
  ·rw[h7 k hk]at e;rcases e with e|e;exact .inl e;exact .inr (.inl e)
  ·unfold only at e;subst e;rw[h8 k hk]at h46;exact .inr (.inr h46)
 have hbi:(bt:Int)<(nab.ks.length:Int):=by have:=HBT.out;omega
 have q3':w6.cell? ⟨g,i*7+1+2,none⟩=some (.slice (some ⟨gk,0,none⟩) nab.ks.length ck):=q3;clear hC6 hC7 hA5 hA6 hA7 hP hk7 hk6 ho6 x0 x1 x2 x3 q1 q3;go_region;all_goals
  first|go_end0|((try simp only[Exit.inBlock,Exit.then]);refine bodyPost_ret (results_none rfl _ _ _) rfl ?_)
 all_goals exact⟨rfl,HEND.out⟩
theorem Et(zs:List Int):(Lib.compact zs).length<=zs.length/\((Lib.compact zs).length=zs.length↔∀j,j+1<zs.length->zs.getD (j+1) 0≠zs.getD j 0):=by
 have key:∀m,m<=zs.length->(Lib.compactUpTo zs.toArray m).length<=m/\((Lib.compactUpTo zs.toArray m).length=m↔∀j,j+1<m->zs.getD (j+1) 0≠zs.getD j 0):=by
  intro m;induction m with
  | zero=>intro _;exact⟨by simp[Lib.compactUpTo],⟨fun _ j h=>by omega,fun _=>by simp[Lib.compactUpTo]⟩⟩
  | succ m ih =>
   intro hm;obtain⟨h1,h2⟩:=ih (by omega);have hget:∀i,i<zs.length->zs.toArray[i]! = zs.getD i 0:=fun i hi=>by simp[hi]
   rw[Lib.compactUpTo_succ,List.length_append];by_cases hk:Lib.keeps zs.toArray m=true
   ·rw[if_pos hk];refine⟨by simp;omega,?_⟩;constructor
    ·intro e j hj;have e':(Lib.compactUpTo zs.toArray m).length=m:=by simp at e;omega
     by_cases hjm:j+1<m
     ·exact h2.1 e' j hjm
     ·have:j+1=m:=by omega
      unfold Lib.keeps at hk;have hk':=of_decide_eq_true hk;rw[hget m (by omega),hget (m - 1) (by omega)]at hk';rcases hk' with e1|e1
      ·omega
      ·rw[this,show j=m - 1 by omega];exact e1
    ·intro h;have:=h2.2 (fun j hj=>h j (by omega));simp;omega
   ·rw[if_neg hk];refine⟨by simp;omega,?_⟩;constructor
    ·intro e;simp at e;omega
    ·intro h;exfalso;apply hk;unfold Lib.keeps;refine decide_eq_true ?_;by_cases h0:m=0
     ·exact .inl h0
     ·right;rw[hget m (by omega),hget (m - 1) (by omega)];have:=h (m - 1) (by omega);rw[show m - 1+1=m by omega]at this;exact this
 exact key zs.length (Nat.le_refl _)
theorem H8(zs:List Int)(h:zs.Pairwise (fun a b=>a<=b)):zs.Nodup↔∀j,j+1<zs.length->zs.getD (j+1) 0≠zs.getD j 0:=by
 induction zs with
 | nil=>exact⟨fun _ j h=>by simp at h,fun _=>List.nodup_nil⟩
 | cons a l ih =>
  obtain⟨h1,h2⟩:=List.pairwise_cons.1 h;have ih:=ih h2;constructor
  ·intro hn j hj;obtain⟨n1,n2⟩:=List.nodup_cons.1 hn;cases j with
   | zero =>
    cases l with
    | nil=>simp at hj
    | cons b l=>show b≠a;exact fun e=>n1 (by rw[<-e];exact List.mem_cons_self)
   | succ j=>exact ih.1 n2 j (by simp at hj;omega)
  ·intro hall;refine List.nodup_cons.2 ⟨fun hm=>?_,ih.2 (fun j hj=>hall (j+1) (by simp;omega))⟩;cases l with
   | nil=>cases hm
   | cons b l =>
    have hb:=hall 0 (by simp);have hb':b≠a:=hb;have h3:=h1 b List.mem_cons_self;rcases List.mem_cons.1 hm with e|e
    ·exact hb' e.symm
    ·have:=(List.pairwise_cons.1 h2).1 a e;omega
theorem GN(l:List Int):((Lib.compact (l.mergeSort fun x y=>decide (x<=y))).length<l.length)↔¬l.Nodup:=by
 have hp:=List.mergeSort_perm l (fun x y=>decide (x<=y));have hs:(l.mergeSort fun x y=>decide (x<=y)).Pairwise (fun a b=>a<=b):=by
  have:=List.pairwise_mergeSort (le:=fun x y:Int=>decide (x<=y)) (fun a b c h1 h2=>by simp only[decide_eq_true_iff]at *;omega) (fun a b=>by simp only[Bool.or_eq_true,decide_eq_true_iff];omega) l;exact this.imp (fun h=>of_decide_eq_true h)
 have h1:=Et (l.mergeSort fun x y=>decide (x<=y));have h2:=H8 _ hs;have h3:=hp.length_eq;have h4:=hp.nodup_iff;rw[h3]at h1;rw[<-h4,h2,h3,<-h1.2];have:=h1.1;omega
theorem sortI(v:Value)(l:List Int)(base:Nat)(w:World)(hO:Ow (Value.int .i64) 3 w base v l)(hl:l.length<=1000000) :
  Calls prog 134 #[v] w fun e w'=>e=.returned (.tuple #[])/\Ow (Value.int .i64) 3 w' base v (l.mergeSort fun x y=>decide (x<=y))/\Kp (fun k=>v.ownBlock=some k) w w':=by
 rcases hO.2 with ⟨rfl,h0⟩|⟨g,cap,cur,rfl,hb,hg,h1,h2,h3,h4⟩
 ·have hz:l=[]:=List.eq_nil_of_length_eq_zero h0;subst hz;refine(Mx none 0 w).mono ?_;rintro e w' ⟨rfl,rfl⟩;exact⟨rfl,by rw[show (([]:List Int).mergeSort fun x y=>decide (x<=y))=[] by simp];exact hO,Kp.refl _ _⟩
 ·have hlen:(l.mergeSort fun x y=>decide (x<=y)).length=l.length:=(List.mergeSort_perm l _).length_eq;refine(Mw g 0 cap l w (holds_of_blockI hg (by simpa using h4)) (Array.getElem?_eq_some_iff.1 hg).1 (by omega)).mono ?_;rintro e w' ⟨rfl,n,os,rfl⟩;refine⟨rfl,?_,Kp.ofGrown (grownBy_sortedI _) (fun k hk _=>by cases hk;rfl)⟩;have:=ownsRow_sortedI (w:=w) (base:=base) (g:=g) (cap:=cap) (n:=n) (e:=3) (os:=os) (ss:=l) (ts:=l.mergeSort fun x y=>decide (x<=y)) hlen hb hg h1 h2 h3;unfold Ow;rw[hlen]
  exact this
theorem M1(v:Value)(l:List Int)(base:Nat)(w:World)(hO:Ow (Value.int .i64) 3 w base v l)(hl:l.length<=1000000) :
  Calls prog 135 #[v] w fun e w'=>∃a c,e=.returned (.slice a (Lib.compact l).length c)/\Kp (fun k=>v.ownBlock=some k) w w':=by
 rcases hO.shape with ⟨rfl,rfl⟩|⟨g,cap,rfl,hb,hg,_⟩
 ·refine(BS none 0 w).mono ?_;rintro e w' ⟨rfl,rfl⟩;exact⟨none,0,rfl,Kp.refl _ _⟩
 ·have hcap:l.length<=cap:=by
   rcases hO.2 with ⟨h1,_⟩|⟨g',cap',cur,h1,_,_,h2,_⟩
   ·cases h1
   ·cases h1;exact h2
  refine(CW g 0 cap l w hO.holds (by omega) hcap).mono ?_;rintro e w' ⟨rfl,q,rfl⟩;have hc:=(Et l).1;exact⟨_,_,rfl,(hO.putRow (fun _=>rfl) q (Lib.compact l++List.replicate (l.length - (Lib.compact l).length) 0) (by simp;omega) 0 (Nat.zero_le _)).2.mono (fun k _ e=>by unfold only at e;rw[e];rfl)⟩
theorem app1(w:World)(base:Nat)(a:Option Addr)(n c:Nat)(l:List Int)(z:Int)(hO:Ow (Value.int .i64) 3 w base (.slice a n c) l)(hb:base<=w.heap.size)(hl:l.length<=1000000):∃a4 n4 c4 w4,(Builtin.append_ #[33,33] 33 #[.slice a n c,.slice (some ⟨w.heap.size,0,none⟩) 1 1]).run prog (w.alloc (.cells #[.int .i64 z] 3))=.ok (.slice a4 n4 c4) w4/\Ow (Value.int .i64) 3 w4 base (.slice a4 n4 c4) (l++[z])/\Kp (fun k=>(Value.slice a n c).ownBlock=some k) w w4:=by
 have hKA:Kp none' w (w.alloc (.cells #[.int .i64 z] 3)):=Kp.alloc _ _ _;obtain⟨v3,w3,hq3,hO3,hg3,hv3⟩:=appI (w.alloc (.cells #[.int .i64 z] 3)) base (.slice a n c) (.slice (some ⟨w.heap.size,0,none⟩) 1 1) l [z] (hO.keptN hKA) (src1 w 33 3 underlying33 _ rfl _ rfl) (Nat.le_trans hb hKA.size) (by simp;omega);obtain⟨a4,c4,e4⟩:∃a c,v3=.slice a (l++[z]).length c:=by obtain⟨a,c,h1,_⟩:=hO3.open;exact⟨a,c,h1⟩
 subst e4;exact⟨_,_,_,_,hq3,hO3,hKA.nThen (Kp.ofGrown hg3 (fun k hk _=>hk))⟩
theorem DU{w W W':World}{base:Nat}{v:Value}{l:List Int}(hO:Ow (Value.int .i64) 3 W base v l)(hk:Kp none' w W)(hb:base=w.heap.size)(hk':Kp (fun k=>v.ownBlock=some k) W W'):Kp none' w W':=hk.trans hk' (fun _ _ h=>h) (fun k h e=>by have:=(hO.lt k e).1;omega)
set_option maxRecDepth 100000 in
theorem Jo(b r:Nat)(o:Nat->Nat)(C:Cg)(wv tv sv:Value)(xs:List SpV)(w:World)(hC:Cm w b r o C wv tv sv xs)(hl:C.ws.length<=100000)(hs:C.sp.length<=100000) :
  Calls prog 96 #[.pointer (some ⟨b,0,none⟩)] w fun e w'=>e=.returned (.bool C.tangled)/\Kp none' w w':=by
 obtain⟨wa,wc,ewv⟩:∃a c,wv=.slice a xs.length c:=by
  rcases hC.ws.2 with ⟨rfl,h0⟩|⟨g,cap,cur,rfl,_⟩
  ·exact⟨none,0,by rw[h0]⟩
  ·exact⟨_,_,rfl⟩
 subst ewv;have hB2:∀W,Kp none' w W->W.cell? ⟨b,2,none⟩=some (.slice wa xs.length wc):=fun W hk=>hk.cell (hC.hd.cx 0) (fun h=>h);have hB4:∀W,Kp none' w W->W.cell? ⟨b,4,none⟩=some sv:=fun W hk=>hk.cell (hC.hd.cx 2) (fun h=>h);have HCW:Hid (∀j (h:j<xs.length) W,Kp none' w W->∃gw,wa=some ⟨gw,0,none⟩/\∀t u,(xs[j].cells)[t]?=some u->W.cell? ⟨gw,j*7+t,none⟩=some u):=by
  intro j h W hk;have hr:=hC.ws;rcases hr.2 with ⟨e,h0⟩|⟨gw,cap,cur,e,_⟩
  ·omega
  ·have e':wa=some ⟨gw,0,none⟩/\wc=cap:=by simp only[Value.slice.injEq]at e;exact⟨e.1,e.2.2⟩
   obtain⟨rfl,rfl⟩:=e';exact⟨gw,rfl,fun t u hu=>hk.cell (row_step hr j h t u hu).1 (fun h=>h)⟩
 have HKD:Hid (∀j (h:j<xs.length) (h':j<C.ws.length) W,Kp none' w W->Sl (Value.int .i64) w.heap.size W (.slice xs[j].a3 xs[j].n3 xs[j].c3) C.ws[j].2.kd/\xs[j].pg=C.ws[j].1):=by
  intro j h h' W hk;have hi:=hC.wi j h h';obtain⟨⟨pv,kv,dv,e0,_,_,hD⟩,_⟩:=hi.nd;unfold SpV.node at e0;simp only[Value.agg.injEq,Array.mk.injEq,List.cons.injEq,Value.bool.injEq]at e0;rw[e0.2.2.2.1];exact⟨hD.keptN hk,hi.pg⟩
 obtain⟨sa,sc,esv,_⟩:=hC.sp.open;have HCON:Hid (∀(z:Int) W,Kp none' w W->Calls prog 133 #[sv,.int .i64 z] W fun e w'=>e=.returned (.bool (C.sp.contains z))/\w'=W):=fun z W hk=>DA sv C.sp z _ W (hC.sp.sl.keptN hk);have HCLN:=hide (GM sv C.sp _ w hC.sp.sl (by omega));have HWL:=hide hC.wl;subst esv;obtain⟨lw,Hlw⟩:∃q,Hid (xs.length=q):=⟨_,hide rfl⟩;obtain⟨ls,Hls⟩:∃q,Hid (C.sp.length=q):=⟨_,hide rfl⟩;rw[Hls.out]at hB4 HCON HCLN;rw[Hlw.out]at hB2;have HL:=hide hl;have HS:=hide hs
 have HB2:=hide hB2;have HB4:=hide hB4;have q4:=hB4 w (Kp.refl _ _);clear hC hl hs hB2 hB4;go_enter func96,ntmps96;go_upto_region 2 with (first
  | (go_at_call 132;refine HCLN.out.mono ?_;rintro e w1 ⟨v1,rfl,hO1,hk1⟩;obtain⟨a1,c1,e1,_⟩:=hO1.open;subst e1)
  | fail)
 have q2:=HB2.out w1 hk1;have HO1:=hide hO1;have HK1:=hide hk1;clear q4 hO1 hk1;rw[Hls.out]at HO1;rw[Hls.out];go_upto_region 3 with fail;clear q2;go_loopw [3,5,7,18] (fun t3 _ _ t18 wr=>∃(j:Nat) (a:Option Addr) (n cc:Nat),j<=lw/\t18=.int .i64 j/\t3=.slice a n cc/\Hid (Ow (Value.int .i64) 3 wr w.heap.size (.slice a n cc) (C.sp++(C.ws.take j).map Prod.fst))/\Hid (Kp none' w wr)/\Hid ((C.ws.take j).any (fun p=>p.2.kd.any (fun k=>C.sp.contains k))=false)) (fun _ _ _ t18 _=>lw - (intOf t18).toNat)
 case atStart=>exact⟨0,_,_,_,Nat.zero_le _,rfl,rfl,by simpa using HO1,HK1,hide rfl⟩
 case round =>
  obtain⟨j,a,n,cc,hj,rfl,rfl,HO,HK,HNO⟩:=hrel;have hlw6:lw<=100000:=by have:=HL.out;have:=HWL.out;have:=Hlw.out;omega
  by_cases hlt:j<lw
  ·have hlt':(j:Int)<(lw:Int):=by omega
   have hjx:j<xs.length:=by rw[Hlw.out];exact hlt
   have hjc:j<C.ws.length:=by rw[<-HWL.out];exact hjx
   obtain⟨gw,rfl,hcell⟩:=HCW.out j hjx wr HK.out;obtain⟨hKD,hpg⟩:=HKD.out j hjx hjc wr HK.out;have HSN:=hide (show C.ws.take (j+1)=C.ws.take j++[C.ws[j]] from List.take_succ_eq_append_getElem hjc);generalize C.ws[j]=p at *;generalize xs[j]=x at *;have y0:=hcell 0 _ rfl;have y1:=hcell 1 _ rfl;have y2:=hcell 2 _ rfl;have y3:=hcell 3 _ rfl;have y4:=hcell 4 _ rfl;have y5:=hcell 5 _ rfl;have y6:=hcell 6 _ rfl;rw[Nat.add_zero]at y0;have HPG:=hide hpg;have HKDD:=hide hKD;clear hcell hjx hjc hpg hKD
   have hka:Kp none' wr (wr.alloc (.cells #[.int .i64 x.pg,.bool x.l,.slice x.a1 x.n1 x.c1,.slice x.a2 x.n2 x.c2,.slice x.a3 x.n3 x.c3,.int .i64 x.kid,.int .i64 x.was] 85)):=Kp.alloc _ _ _;have cell:=Am wr #[.int .i64 x.pg,.bool x.l,.slice x.a1 x.n1 x.c1,.slice x.a2 x.n2 x.c2,.slice x.a3 x.n3 x.c3,.int .i64 x.kid,.int .i64 x.was] 85;have z0:=cell 0 _ rfl
   have z4:(wr.alloc (.cells #[.int .i64 x.pg,.bool x.l,.slice x.a1 x.n1 x.c1,.slice x.a2 x.n2 x.c2,.slice x.a3 x.n3 x.c3,.int .i64 x.kid,.int .i64 x.was] 85)).cell? ⟨wr.heap.size,1+3,none⟩=some (.slice x.a3 x.n3 x.c3):=cell 4 _ rfl;go_upto_region 5 with fail;have HOQ:=hide (HO.out.keptN hka);have HKQ:=hide (HK.out.thenN hka);have HVB:Hid (∀k,(Value.slice a n cc).ownBlock=some k->k<wr.heap.size):=fun k e=>(HO.out.lt k e).2;have HKDQ:=hide (HKDD.out.keptN hka);clear cell hka y0 y1 y2 y3 y4 y5 y6
   generalize wr.alloc (.cells #[.int .i64 x.pg,.bool x.l,.slice x.a1 x.n1 x.c1,.slice x.a2 x.n2 x.c2,.slice x.a3 x.n3 x.c3,.int .i64 x.kid,.int .i64 x.was] 85)=wq at *;obtain⟨gs,Hgs⟩:∃q,Hid (wr.heap.size=q):=⟨_,hide rfl⟩;rw[Hgs.out]at z0 z4 HVB |-;obtain⟨a4,n4,c4,w4,hq,hO4,hk4⟩:=app1 wq w.heap.size a n cc _ x.pg HOQ.out HKQ.out.size (by rw[List.length_append,List.length_map,List.length_take];have:=HL.out;have:=HS.out;omega);replace z4:=hk4.cell z4 (fun e=>by have:=HVB.out gs e;omega)
   have HO4:=hide hO4;have HK4:=hide (DU HOQ.out HKQ.out rfl hk4);have HKD4:Hid (Sl (Value.int .i64) w.heap.size w4 (.slice x.a3 x.n3 x.c3) p.2.kd):=HKDQ.out.kept hk4 (fun k h e=>by have:=(HOQ.out.lt k e).1;omega);clear hO4 hk4;go_upto_region 6 with (first
    | (at_builtin;refine Ak rfl (.tmp 22) (.tmp 25) 33 33 rfl _ _ rfl rfl hq ?_)
    | fail)
   clear hq z0;go_upto_region 7 with fail;clear z4;obtain⟨ka,kc,ek,hc1,hc2,hkc⟩:=HKD4.out;have HCAP:Hid (p.2.kd.length<=maxLen):=Nat.le_trans hc1 hc2;clear hc1 hc2;have ek':x.a3=ka/\x.n3=p.2.kd.length/\x.c3=kc:=by simp only[Value.slice.injEq]at ek;exact ek
   have HKC:=hide hkc;have HEK:=hide ek';clear ek ek' hkc;obtain⟨n3,Hn3⟩:∃q,Hid (x.n3=q):=⟨_,hide rfl⟩;rw[Hn3.out];obtain⟨a3,Ha3⟩:∃q,Hid (x.a3=q):=⟨_,hide rfl⟩;rw[Ha3.out];have hn3m:n3<=9223372036854775807:=by have h1:=HEK.out.2.1;have h2:=HCAP.out;unfold maxLen at h2;have:=Hn3.out;omega
   have HNOT:Hid (∀i,i<p.2.kd.length->C.sp.contains (p.2.kd.getD i 0)=true->C.tangled=true):=by
    intro i hi hc;unfold Cg.tangled;rw[Bool.or_eq_true];left;rw[List.any_eq_true];refine⟨p,List.mem_of_mem_take (i:=j+1) (by rw[HSN.out];simp),List.any_eq_true.2 ⟨p.2.kd.getD i 0,?_,hc⟩⟩;rw[List.getD_eq_getElem?_getD,List.getElem?_eq_getElem hi];exact List.getElem_mem hi
   go_loopw [7,31] (fun _ t31 wr'=>w4=wr'/\∃i:Nat,i<=n3/\t31=.int .i64 i/\Hid ((p.2.kd.take i).any (fun k=>C.sp.contains k)=false)) (fun _ t31 _=>n3 - (intOf t31).toNat)
   case atStart=>exact⟨rfl,0,Nat.zero_le _,rfl,hide rfl⟩
   case round =>
    obtain⟨hw4,i,hi,rfl,HNI⟩:=hrel;obtain rfl:=hw4;by_cases hil:i<n3
    ·have hil':(i:Int)<(n3:Int):=by omega
     have hik:i<p.2.kd.length:=by rw[<-HEK.out.2.1,Hn3.out];exact hil
     obtain⟨bd,off,hka,_,kcell⟩:=HKC.out i hik;have hka':a3=some ⟨bd,off,none⟩:=by rw[<-Ha3.out,HEK.out.1,hka]
     subst hka';have hgd:p.2.kd.getD i 0=p.2.kd[i]:=by rw[List.getD_eq_getElem?_getD,List.getElem?_eq_getElem hik];rfl
     have HTK:Hid ((p.2.kd.take (i+1)).any (fun k=>C.sp.contains k)=(C.sp.contains p.2.kd[i])):=by
      show _=_;rw[List.take_succ_eq_append_getElem hik,List.any_append,HNI.out];simp
     have HTG:Hid (C.sp.contains p.2.kd[i]=true->C.tangled=true):=fun h=>HNOT.out i hik (by rw[hgd];exact h);generalize p.2.kd[i]=z at *;have q4:=HB4.out w4 HK4.out;have HCN:=hide (HCON.out z w4 HK4.out);obtain⟨cb,Hcb⟩:∃q,Hid (C.sp.contains z=q):=⟨_,hide rfl⟩;rw[Hcb.out]at HCN HTK HTG;clear hik hgd hka;cases cb with
     | true =>
      go_wp2_with (first
       | (go_at_call 133;refine HCN.out.mono ?_;rintro e w5 ⟨rfl,hw5⟩;obtain rfl:=hw5.symm)
       | fail)
      go_ret;rw[HTG.out (by first|rfl|trivial)];exact⟨rfl,HK4.out⟩
     | false =>
      go_wp2_with (first
       | (go_at_call 133;refine HCN.out.mono ?_;rintro e w5 ⟨rfl,hw5⟩;obtain rfl:=hw5.symm)
       | fail)
      go_roundw
      case rel=>exact⟨by first|rfl|trivial,i+1,by omega,by go_num,HTK⟩
      case measure=>simp[intOf];omega
    ·have hil':¬(i:Int)<(n3:Int):=by omega
     have HALL:Hid (p.2.kd.any (fun k=>C.sp.contains k)=false):=by
      have h:=HNI.out;rw[List.take_of_length_le (by rw[<-HEK.out.2.1,Hn3.out];omega)]at h;exact h
     go_wp2;go_roundw
     case rel =>
      refine⟨j+1,a4,n4,c4,by omega,by go_num,rfl,?_,HK4,?_⟩
      ·rw[HSN.out,List.map_append,<-List.append_assoc];show Hid (Ow _ _ _ _ _ (_++[p.1]));rw[<-HPG.out];exact HO4
      ·rw[HSN.out];show ((C.ws.take j++[p]).any _)=false;rw[List.any_append,HNO.out];simp only[List.any_cons,List.any_nil,HALL.out,Bool.or_false]
     case measure=>simp[intOf];omega
  ·have hlt':¬(j:Int)<(lw:Int):=by omega
   have hfull:C.ws.take j=C.ws:=List.take_of_length_le (by rw[<-HWL.out,Hlw.out];omega);rw[hfull]at HO HNO;have hll:(C.sp++C.ws.map Prod.fst).length=ls+lw:=by rw[List.length_append,List.length_map,Hls.out,<-HWL.out,Hlw.out]
   have HLL:=hide hll;have HSO:=hide (sortI _ _ _ wr HO.out (by rw[hll];have:=HL.out;have:=HS.out;have:=HWL.out;have:=Hlw.out;have:=Hls.out;omega));have HTG:Hid (C.tangled=decide ((Lib.compact ((C.sp++C.ws.map Prod.fst).mergeSort fun x y=>decide (x<=y))).length<ls+lw)):=by
    show _=_;unfold Cg.tangled;rw[HNO.out,Bool.false_or,<-hll];have:=GN (C.sp++C.ws.map Prod.fst);by_cases h:(C.sp++C.ws.map Prod.fst).Nodup
    ·rw[decide_eq_true h,decide_eq_false (fun e=>this.1 e h)];rfl
    ·rw[decide_eq_false h,decide_eq_true (this.2 h)];rfl
   obtain⟨l,Hl⟩:∃q,Hid ((C.sp++C.ws.map Prod.fst).mergeSort (fun x y=>decide (x<=y))=q):=⟨_,hide rfl⟩;rw[Hl.out]at HSO HTG;have HLN:Hid (l.length=ls+lw):=by show _=_;rw[<-Hl.out,(List.mergeSort_perm _ _).length_eq];exact hll
   clear hfull hll;go_upto_region 14 with (first
    | (go_at_call 134;refine HSO.out.mono ?_;rintro e w5 ⟨rfl,hO5,hk5⟩)
    | fail)
   have HK5:=hide (DU HO.out HK.out rfl hk5);have HO5:=hide hO5;clear hO5 hk5;have hb5:∀W,Kp (fun k=>(Value.slice a n cc).ownBlock=some k) w5 W->Kp none' w W:=fun W hk=>DU HO5.out HK5.out rfl hk;have HB5:=hide hb5;clear hb5;obtain⟨cl,Hcl⟩:∃q,Hid ((Lib.compact l).length=q):=⟨_,hide rfl⟩;rw[Hcl.out]at HTG;have HCM:Hid (∀W,Kp none' w5 W->Calls prog 135 #[.slice a n cc] W fun e w'=>∃a' c',e=.returned (.slice a' cl c')/\Kp none' w w'):=by
    intro W hk;refine(M1 _ _ _ W (HO5.out.keptN hk) (by have:=HLN.out;have:=HL.out;have:=HS.out;have:=HWL.out;have:=Hlw.out;have:=Hls.out;omega)).mono ?_;rintro e w' ⟨a',c',rfl,hk'⟩;rw[Hcl.out];exact⟨a',c',rfl,DU (HO5.out.keptN hk) (HK5.out.thenN hk) rfl hk'⟩
   have HD1:Hid (decide ((cl:Int)<IntKind.i64.wrap ((ls:Int)+(lw:Int)))=decide (cl<ls+lw)):=by
    have hw:IntKind.i64.wrap ((ls:Int)+(lw:Int))=(ls:Int)+(lw:Int):=by
     have:=HL.out;have:=HS.out;have:=HWL.out;have:=Hlw.out;have:=Hls.out;rw[IntKind.wrap_i64];omega
    show _=_;rw[hw];by_cases h:cl<ls+lw
    ·rw[decide_eq_true h,decide_eq_true (by omega)]
    ·rw[decide_eq_false h,decide_eq_false (by omega)]
   have dr:Kp none' w5 w5.drew:=Kp.drew _ _;have y2:=HB2.out w5.drew (HK5.out.thenN dr);have y4:=HB4.out w5.drew (HK5.out.thenN dr);have y2n:=HB2.out w5 HK5.out;have y4n:=HB4.out w5 HK5.out;go_region_law (first
    | (go_simp;go_at_call 135;refine(HCM.out _ (by first|assumption|exact dr)).mono ?_;rintro e w6 ⟨a',c',rfl,hk6⟩;have b2:=HB2.out _ hk6;have b4:=HB4.out _ hk6)
    | fail)
   all_goals (
    go_wp2;go_ret;rw[HTG.out];refine⟨?_,hk6⟩;rw[<-HD1.out];rfl)
end Go.Proofs.YtgcgacjhkhjhmaaGreatDoor
