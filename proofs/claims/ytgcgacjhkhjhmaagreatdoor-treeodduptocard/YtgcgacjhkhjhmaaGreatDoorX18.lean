/- Part of the proof: contracts over the turned program. -/
import Derived.Test.YtgcgacjhkhjhmaaGreatDoorX1
import Derived.Test.YtgcgacjhkhjhmaaGreatDoorX17
set_option linter.unusedVariables false
set_option maxHeartbeats 4000000
open Go.Proofs.Tryz
namespace Go.Proofs.YtgcgacjhkhjhmaaGreatDoor
open Go.RowKit
theorem NA(l:List ByteArray):Lib.join (l.map (·.data.toList)) []=catB l:=by
 unfold catB;rw[Lib.join];induction l with
 | nil=>rfl
 | cons s l ih =>
  cases l with
  | nil=>simp[List.intercalate]
  | cons t l =>
   rw[List.map_cons,List.map_cons,List.flatMap_cons,<-ih];simp[List.intercalate]
theorem Kp.ofBelow{w w':World}(h:Below w.heap.size w w'):Kp none' w w':=⟨h.os,h.tape,h.output,h.size,fun k hk _=>h.block k hk⟩
theorem Pu(bk o c:Nat)(l:List ByteArray)(w:World)(hc:∀i (h:i<l.length),bk<w.heap.size/\w.cell? ⟨bk,o+i,none⟩=some (.string l[i]))(hcap:l.length<=c)(hJ:okJ l=true) :
  Calls prog 143 #[.slice (some ⟨bk,o,none⟩) l.length c,.string ⟨#[]⟩] w fun e w'=>e=.returned (.string (joinS l))/\Kp none' w w':=by
 have hj:=hJ;unfold okJ at hj;simp only[decide_eq_true_eq]at hj;have hl:(Lib.join (l.map (·.data.toList)) (⟨#[]⟩:ByteArray).data.toList)=catB l:=NA l;have hs:(catB l).length=256:=by rw[Ik l hj.2,hj.1]
 refine(strings_Join bk o c l ⟨#[]⟩ w (fun j x hx=>?_) (hc 0 (by omega)).1 (by omega) hcap (by rw[hl];omega)).mono ?_
 ·obtain⟨h1,rfl⟩:=List.getElem?_eq_some_iff.1 hx;exact(hc j h1).2
 ·rintro e w' ⟨rfl,hb⟩;refine⟨?_,Kp.ofBelow hb⟩;rw[hl];unfold joinS;rw[hJ];rfl
set_option maxRecDepth 100000 in
theorem Nz(v:Value)(l:List ByteArray)(B:Nat)(w:World)(hS:Sl Value.string B w v l)(hB:B<=w.heap.size) :
  Calls prog 108 #[v] w fun e w'=>e=.returned (.tuple #[.string (joinS l),.int .i64 (joinE l)])/\Kp none' w w':=by
 obtain⟨a,c,rfl,hlc,hcm,ha⟩:=hS;unfold maxLen at hcm;by_cases hl:l.length=4
 ·obtain⟨bk,o,rfl,_,hzz⟩:=ha 0 (by omega);clear hzz;have HC:Hid (∀i (h:i<l.length),bk<w.heap.size/\w.cell? ⟨bk,o+i,none⟩=some (.string l[i])):=fun i hi=>by
   obtain⟨b',o',e,hb,hc⟩:=ha i hi;cases e
   exact⟨by omega,hc⟩
  obtain⟨S,HS⟩:∃S,Hid (joinS l=S):=⟨_,rfl⟩;obtain⟨E,HE⟩:∃E,Hid (joinE l=E):=⟨_,rfl⟩;rw[HS.out,HE.out];have hne:((l.length:Int) != 4)=false:=by simp[hl]
  have HL:Hid (l.length=4):=hl;have hli:(l.length:Int)<=4:=by omega
  have Hcap:=hide hlc;clear hl ha;go_enter func108,ntmps108;go_wp2;go_loopw [11] (fun t wr=>∃k:Nat,k<=l.length/\t=.int .i64 k/\Hid (∀s∈l.take k,s.size=64)/\wr=w) (fun t _=>l.length - (intOf t).toNat)
  case atStart=>exact⟨0,Nat.zero_le _,rfl,hide (by simp),rfl⟩
  case round =>
   obtain⟨k,hk,rfl,HA,rfl⟩:=hrel;by_cases hlt:k<l.length
   ·have hcc:=(HC.out k hlt).2;have hk':(k:Int)<(l.length:Int):=by omega
    have HB:=hide (Pc (l:=l) hlt);have HM:Hid (l[k].size=64->∀s∈l.take (k+1),s.size=64):=by
     intro h s hs;rw[List.take_succ_eq_append_getElem hlt]at hs;rcases List.mem_append.1 hs with hs|hs
     ·exact HA.out s hs
     ·simp at hs;subst hs;exact h
    generalize l[k]=x at hcc HB HM;by_cases hx:x.size=64
    ·have hx':((x.size:Int) != 64)=false:=by simp[hx]
     have HR:=hide (HM.out hx);clear hx;go_wp2;go_roundw
     case rel=>exact⟨k+1,by omega,by go_num,HR,trivial⟩
     case measure=>simp[intOf];omega
    ·have hx':((x.size:Int) != 64)=true:=by simp;omega
     have hb:=hide (HB.out hx);clear hx;go_wp2;go_ret2;rw[<-HS.out,<-HE.out];refine⟨?_,Kp.refl _ _⟩;unfold joinS joinE;rw[hb.out];rfl
   ·have hb:Hid (okJ l=true):=by
     have h:=HA.out;rw[List.take_of_length_le (by omega)]at h;show _=_;unfold okJ;simp only[decide_eq_true_eq];exact⟨HL.out,h⟩
    go_wp2_with (go_at_call 143;refine(Pu bk o c l _ HC.out Hcap.out hb.out).mono ?_;rintro e w2 ⟨rfl,hk2⟩);go_ret2;rw[<-HS.out,<-HE.out];refine⟨?_,hk2⟩;unfold joinE;rw[hb.out];rfl
 ·have hb:okJ l=false:=by unfold okJ;simp[hl]
  have hE:joinE l=1:=by simp[joinE,hb]
  have hB:joinS l=⟨#[]⟩:=by unfold joinS;rw[hb];rfl
  rw[hE,hB];have hne:((l.length:Int) != 4)=true:=by simp;omega
  clear ha hE hB hl hb;go_enter func108,ntmps108;go_wp2;go_ret2;exact⟨rfl,Kp.refl _ _⟩
theorem KM{D:Dv}(hu:∀k,D.u k=none):D.at=D.s:=by
 funext k;simp[Dv.at,hu]
def AC(p j:Nat):Nat:=126+4*p+j
structure Chg where
 page:Int
 data:ByteArray
def secL(x:ByteArray)(j:Nat):List UInt8:=(cutAt x j).data.toList
theorem Oo{x:ByteArray}(h:x.size=256){j:Nat}(hj:j<4):(secL x j).length=64:=by
 unfold secL cutAt;rw[Array.length_toList];show (x.extract (j*64) ((j+1)*64)).size=64;rw[ByteArray.size_extract];omega
def mkA(x:List UInt8):ByteArray:=⟨x.toArray⟩
def says(x:List UInt8):Bool:=saysB (mkA x)
def Clean(n:Nat)(S:Nat->List UInt8)(Q:Nat->ByteArray):Prop:=says (S 0)=false/\∀p,p<n->∀j,j<4->S (AC p j)=secL (Q p) j
end Go.Proofs.YtgcgacjhkhjhmaaGreatDoor
namespace Go.Proofs.YtgcgacjhkhjhmaaGreatDoor
open Go Go.RowKit
def Chg.cells(c:Chg):List Value:=[.int .i64 c.page,.string c.data]
def ccs(l:List Chg):List Value:=l.flatMap Chg.cells
theorem JF(l m:List Chg):ccs (l++m)=ccs l++ccs m:=by simp[ccs]
theorem MS(l:List Chg):∀(i j:Nat) (h:i<l.length),j<2->(ccs l)[i*2+j]?=(Chg.cells l[i])[j]?:=by
 induction l with
 | nil=>intro i j h;simp at h
 | cons x l ih =>
  intro i j h hj;have e:ccs (x::l)=Chg.cells x++ccs l:=by simp[ccs]
  rw[e];rcases i with _|i
  ·rw[List.getElem?_append_left (by simp[Chg.cells];omega)];simp
  ·rw[List.getElem?_append_right (by simp[Chg.cells];omega)];have h2:=ih i j (by simpa using h) hj;have e2:(i+1)*2+j - (Chg.cells x).length=i*2+j:=by simp[Chg.cells];omega
   rw[e2,h2];simp
def Chs(S:Nat->Prop)(w:World)(v:Value)(l:List Chg):Prop :=
 ∃a c,v=.slice a l.length c/\l.length<=c/\c<=maxLen/\∀i (h:i<l.length),∃b off,a=some ⟨b,off,none⟩/\S b/\b<w.heap.size /\
  w.cell? ⟨b,off+i*2,none⟩=some (.int .i64 l[i].page)/\w.cell? ⟨b,off+i*2+1,none⟩=some (.string l[i].data)
theorem Chs.nil(S:Nat->Prop)(w:World):Chs S w (.slice none 0 0) []:=⟨none,0,rfl,Nat.le_refl _,Nat.zero_le _,fun i h=>absurd h (by simp)⟩
theorem Chs.kept{S T:Nat->Prop}{w w':World}{v:Value}{l:List Chg}(h:Chs S w v l)(hk:Kp T w w')(hS:∀k,S k->¬T k):Chs S w' v l:=by
 obtain⟨a,c,rfl,h1,h2,h3⟩:=h;refine⟨a,c,rfl,h1,h2,fun i hi=>?_⟩;obtain⟨b,off,rfl,hb,hl,c0,c1⟩:=h3 i hi;exact⟨b,off,rfl,hb,Qd hl hk.size,hk.cell c0 (hS b hb),hk.cell c1 (hS b hb)⟩
theorem Chs.shape{S:Nat->Prop}{w:World}{v:Value}{l:List Chg}(h:Chs S w v l):∃a c,v=.slice a l.length c:=by
 obtain⟨a,c,rfl,_⟩:=h;exact⟨a,c,rfl⟩
def OwC(t:TypeId)(w:World)(base:Nat)(v:Value)(l:List Chg):Prop:=w.ownsRow base t 2 v l.length (ccs l)
theorem OwC.nil(t:TypeId)(w:World)(base:Nat):OwC t w base (.slice none 0 0) []:=World.ownsRow_nil w base t 2
theorem OwC.lt{t:TypeId}{w:World}{base:Nat}{v:Value}{l:List Chg}(h:OwC t w base v l):∀k,v.ownBlock=some k->base<=k/\k<w.heap.size:=World.ownsRow.lt h
theorem OwC.kept{t:TypeId}{w w':World}{base:Nat}{v:Value}{l:List Chg}{S:Nat->Prop}(h:OwC t w base v l)(hk:Kp S w w')(hS:∀k,v.ownBlock=some k->¬S k):OwC t w' base v l:=by
 rcases h.2 with ⟨rfl,h0⟩|⟨g,cap,cur,rfl,hb,hg,h1,h2,h3,h4⟩
 ·exact⟨h.1,.inl ⟨rfl,h0⟩⟩
 ·have hlt:g<w.heap.size:=(Array.getElem?_eq_some_iff.1 hg).1;exact⟨h.1,.inr ⟨g,cap,cur,rfl,hb,by rw[hk.block g hlt (hS g rfl)];exact hg,h1,h2,h3,h4⟩⟩
theorem OwC.keptN{t:TypeId}{w w':World}{base:Nat}{v:Value}{l:List Chg}(h:OwC t w base v l)(hk:Kp none' w w'):OwC t w' base v l:=h.kept hk (fun _ _ h=>h)
theorem OwC.chs{t:TypeId}{w:World}{base:Nat}{v:Value}{l:List Chg}(h:OwC t w base v l):Chs (fun k=>base<=k) w v l:=by
 have h':=h;rcases h.2 with ⟨rfl,h0⟩|⟨g,cap,cur,rfl,hb,hg,hnc,hcm,hcs,htake⟩
 ·have:l=[]:=List.eq_nil_of_length_eq_zero h0;subst this;exact Chs.nil _ w
 ·refine⟨some ⟨g,0,none⟩,cap,rfl,hnc,hcm,fun i hi=>⟨g,0,rfl,hb,(Array.getElem?_eq_some_iff.1 hg).1,?_⟩⟩;have hc:=World.ownsRow.cells h' (g:=g) rfl;have plain:∀q,(⟨g,0,none⟩:Addr).add q=⟨g,0+q,none⟩:=by intro q;unfold Addr.add;split<;>simp_all
  have g0:=hc (i*2+0) _ (by rw[MS l i 0 hi (by omega)];rfl);have g1:=hc (i*2+1) _ (by rw[MS l i 1 hi (by omega)];rfl);rw[plain]at g0 g1;exact⟨g0,g1⟩
structure Pag (w:World) (g:Nat) (p:Dp) (n:Nat) (c:Int) (bv:Value) (bl:List Chg):Prop where
 c0:w.cell? ⟨g,0,none⟩=some (.pointer (some ⟨p.d,0,none⟩))
 c1:w.cell? ⟨g,1,none⟩=some (.int .i64 n)
 c2:w.cell? ⟨g,2,none⟩=some (.int .i64 c)
 c3:w.cell? ⟨g,3,none⟩=some bv
 fr:∀j,w.frozen? ⟨g,j,none⟩=false
 bs:Chs (fun k=>¬p.mem k/\k≠g) w bv bl
 gp:¬p.mem g
theorem Pag.lt{w:World}{g:Nat}{p:Dp}{n:Nat}{c:Int}{bv:Value}{bl:List Chg}(h:Pag w g p n c bv bl):g<w.heap.size:=lt_of_cell h.c0
theorem Pag.kept{w w':World}{g:Nat}{p:Dp}{n:Nat}{c:Int}{bv:Value}{bl:List Chg}(h:Pag w g p n c bv bl)(hk:Kp p.mem w w'):Pag w' g p n c bv bl :=
 ⟨hk.cell h.c0 h.gp,hk.cell h.c1 h.gp,hk.cell h.c2 h.gp,hk.cell h.c3 h.gp,fun j=>by rw[hk.frozen h.lt h.gp];exact h.fr j,h.bs.kept hk (fun _ h=>h.1),h.gp⟩
theorem Pag.keptN{w w':World}{g:Nat}{p:Dp}{n:Nat}{c:Int}{bv:Value}{bl:List Chg}(h:Pag w g p n c bv bl)(hk:Kp none' w w'):Pag w' g p n c bv bl:=h.kept (hk.mono (fun _ _ h=>h.elim))
end Go.Proofs.YtgcgacjhkhjhmaaGreatDoor
namespace Go.Proofs.YtgcgacjhkhjhmaaGreatDoor
open Go.RowKit
theorem Gv(g:Nat)(n:Int)(w:World)(h1:w.cell? ⟨g,1,none⟩=some (.int .i64 n)):Calls prog 80 #[.pointer (some ⟨g,0,none⟩)] w fun e w'=>e=.returned (.int .i64 n)/\w'=w:=by
 go_enter func80,ntmps80;go_wp2;go_ret;exact⟨rfl,rfl⟩
theorem DY(g:Nat)(n:Int)(w:World)(h1:w.cell? ⟨g,2,none⟩=some (.int .i64 n)):Calls prog 45 #[.pointer (some ⟨g,0,none⟩)] w fun e w'=>e=.returned (.int .i64 n)/\w'=w:=by
 go_enter func45,ntmps45;go_wp2;go_ret;exact⟨rfl,rfl⟩
theorem I4(g n:Nat)(i:Int)(w:World)(h1:w.cell? ⟨g,1,none⟩=some (.int .i64 n)):Calls prog 107 #[.pointer (some ⟨g,0,none⟩),.int .i64 i] w fun e w'=>e=.returned (.bool (hasB n i))/\w'=w:=by
 by_cases h0:0<=i;all_goals
  go_enter func107,ntmps107;go_wp2_with (go_at_call 80;refine(Gv _ _ _ h1).mono ?_;rintro e w' ⟨rfl,rfl⟩);go_ret;exact⟨by simp[hasB,h0]<;>omega,rfl⟩
theorem GL(w:World)(x:Chg)(t:TypeId):(w.alloc (.cells #[.int .i64 x.page,.string x.data] t)).cell? ⟨w.heap.size,0,none⟩=some (.int .i64 x.page)/\(w.alloc (.cells #[.int .i64 x.page,.string x.data] t)).cell? ⟨w.heap.size,1,none⟩=some (.string x.data):=by
 have hb:(w.alloc (.cells #[.int .i64 x.page,.string x.data] t)).heap[w.heap.size]?=some (.cells #[.int .i64 x.page,.string x.data] t (0,0)):=heap_alloc_new w _;exact⟨by rw[cell_of_row _ _ _ _ _ _ hb];rfl,by rw[cell_of_row _ _ _ _ _ _ hb];rfl⟩
theorem Og(D:Dv)(k:Nat)(h:k<D.n):rdL D (k:Int)=D.at k:=by
 have:hasB D.n (k:Int)=true:=by simp[hasB];omega
 simp[rdL,this]
theorem Gx(s:ByteArray)(j:Nat):secL s j=(s.data.toList.drop (j*64)).take 64:=by
 unfold secL cutAt;rw[ext_list];congr 1;omega
def lkL(D:Dv)(f:Nat->Nat)(k:Nat):List ByteArray:=(List.range k).map fun j=>mkA (D.at (f j))
theorem O6(D:Dv)(f:Nat->Nat)(k:Nat):(lkL D f k).length=k:=by simp[lkL]
theorem NQ(D:Dv)(f:Nat->Nat)(k:Nat):lkL D f (k+1)=lkL D f k++[mkA (D.at (f k))]:=by simp[lkL,List.range_succ]
def lookS(D:Dv)(f:Nat->Nat):ByteArray:=joinS (lkL D f 4)
theorem L5{D:Dv}{f:Nat->Nat}{x:ByteArray}(hx:x.size=256)(h:∀j,j<4->D.at (f j)=secL x j):lookS D f=x:=by
 have e:lkL D f 4=[mkA (secL x 0),mkA (secL x 1),mkA (secL x 2),mkA (secL x 3)]:=by
  rw[<-h 0 (by omega),<-h 1 (by omega),<-h 2 (by omega),<-h 3 (by omega)];rfl
 have hz:∀j,j<4->(mkA (secL x j)).size=64:=fun j hj=>by
  show (secL x j).toArray.size=64;rw[List.size_toArray,Oo hx hj]
 have ho:okJ (lkL D f 4)=true:=by
  unfold okJ;rw[e];simp only[decide_eq_true_eq];refine⟨rfl,fun s hs=>?_⟩;simp only[List.mem_cons,List.not_mem_nil,or_false]at hs;rcases hs with rfl|rfl|rfl|rfl
  ·exact hz 0 (by omega)
  ·exact hz 1 (by omega)
  ·exact hz 2 (by omega)
  ·exact hz 3 (by omega)
 have hl:x.data.toList.length=256:=by rw[Array.length_toList];exact hx
 have hc:catB (lkL D f 4)=x.data.toList:=by
  rw[e];unfold catB mkA;simp only[List.flatMap_cons,List.flatMap_nil,List.append_nil,Gx];have step:∀k:Nat,(x.data.toList.drop (k*64)).take 64++x.data.toList.drop ((k+1)*64)=x.data.toList.drop (k*64):=fun k=>by
   have:=List.take_append_drop 64 (x.data.toList.drop (k*64));rw[List.drop_drop]at this;rw[show (k+1)*64=k*64+64 by omega];exact this
  have s3:(x.data.toList.drop (3*64)).take 64=x.data.toList.drop (3*64):=List.take_of_length_le (by rw[List.length_drop];omega);rw[s3,show (3*64)=(2+1)*64 from rfl,step 2,show (2*64)=(1+1)*64 from rfl,step 1,show (1*64)=(0+1)*64 from rfl,step 0];simp
 unfold lookS joinS;rw[if_pos ho,hc]
set_option maxRecDepth 100000 in
theorem J9(g k:Nat)(p:Dp)(D:Dv)(w:World)(hc0:w.cell? ⟨g,0,none⟩=some (.pointer (some ⟨p.d,0,none⟩)))(hD:Dev w p D)(hk:k<=160)(hn:∀j,j<4->AC k j<D.n) :
  Calls prog 76 #[.pointer (some ⟨g,0,none⟩),.func (.func 119) #[] #[],.int .i64 k] w fun e w'=>e=.returned (.string (lookS D (AC k)))/\Kp none' w w':=by
 have hgl:g<w.heap.size:=lt_of_cell hc0;obtain⟨wa,hmk,hO,hka⟩:=Eg w 4 (by omega);rw[show ((4:Nat):Int)=4 from rfl]at hmk;obtain⟨B,HB⟩:∃B,Hid (w.heap.size=B):=⟨_,rfl⟩;rw[HB.out]at hmk hO;have hgB:g≠B:=by have:=HB.out;omega
 go_enter func76,ntmps76;go_upto_region 2 with (at_make;refine By rfl (.const (.int .i64 4)) (.const (.int .i64 4)) 32 rfl _ _ rfl rfl hmk ?_);clear hmk;go_wp2;go_loopw [14] (fun t wr=>∃j:Nat,j<=4/\t=.int .i64 j/\Ow Value.string 9 wr B (.slice (some ⟨B,0,none⟩) 4 4) (lkL D (AC k) j++List.replicate (4 - j) ByteArray.empty)/\Kp none' w wr) (fun t _=>4 - (intOf t).toNat)
 case atStart=>exact⟨0,Nat.zero_le _,rfl,hO,hka⟩
 case round =>
  obtain⟨j,hj,rfl,hO,hK⟩:=hrel;by_cases hlt:j<4
  ·have hji:(j:Int)<4:=by omega
   obtain⟨m,hm⟩:∃m,4 - j=m+1:=⟨4 - j - 1,by omega⟩;have Hm:Hid (4 - (j+1)=m):=by show _=_;omega
   rw[hm]at hO;have hcr:wr.drew.cell? ⟨g,0,none⟩=some (.pointer (some ⟨p.d,0,none⟩)):=hK.cell hc0 (fun h=>h);have hDr:=(hD.keptN hK).drew;have HW:Hid (wrap64 (126+4*(k:Int)+(j:Int))=(AC k j:Int)):=by show _=_;unfold wrap64 AC;omega
   have HR:Hid (rdL D (AC k j:Int)=D.at (AC k j)):=Og D _ (hn j hlt);have HS:Hid (lkL D (AC k) (j+1)=lkL D (AC k) j++[mkA (D.at (AC k j))]):=NQ _ _ _;have HL:Hid ((lkL D (AC k) j).length=j):=O6 _ _ _;obtain⟨X,HX⟩:∃X,Hid ((⟨(D.at (AC k j)).toArray⟩:ByteArray)=X):=⟨_,rfl⟩;rw[show mkA (D.at (AC k j))=(⟨(D.at (AC k j)).toArray⟩:ByteArray) from rfl,HX.out]at HS;obtain⟨q,HQ⟩:∃q,Hid (AC k j=q):=⟨_,rfl⟩;rw[HQ.out]at HW HR HX
   have hjl:j<(lkL D (AC k) j++List.replicate (m+1) ByteArray.empty).length:=by rw[List.length_append,HL.out,List.length_replicate];omega
   have k1:∀W:World,Kp none' wr W->∃v,W.cell? ⟨B,j,none⟩=some (.string v):=fun W h=>⟨_,((hO.keptN h).cellAt j hjl).1⟩;have k2:∀W:World,Kp none' wr W->W.frozen? ⟨B,j,none⟩=false:=fun W h=>((hO.keptN h).cellAt j hjl).2;have dr:Kp none' wr wr.drew:=Kp.drew _ _;have kS:∀W:World,W.cell? ⟨g,0,none⟩=some (.pointer (some ⟨p.d,0,none⟩))->(W.setCell ⟨B,j,none⟩ (.string X)).cell? ⟨g,0,none⟩=some (.pointer (some ⟨p.d,0,none⟩)):=fun W h=>(Kp.setCell (S:=only B) W B _ _ rfl).cell h hgB;have HO:=hide hO
   clear hO hD;go_upto_region 5 with fail;go_region_held_law (fun W=>W.cell? ⟨g,0,none⟩=some (.pointer (some ⟨p.d,0,none⟩))) (first|assumption|exact kS _ (by assumption)) (first
    | (go_at_call 119;refine(Md _ _ _).mono ?_;rintro e w' ⟨rfl,rfl⟩;rw[HW.out])
    | (go_at_call 73;refine(I7 p D _ _ hDr).mono ?_;rintro e w2 ⟨rfl,hk2⟩;rw[HR.out,HX.out];have S2:Kp none' wr w2:=dr.then hk2;have T0:w2.cell? ⟨g,0,none⟩=some (.pointer (some ⟨p.d,0,none⟩)):=hk2.cell hcr (fun h=>h);obtain⟨v1,T1⟩:=k1 _ S2;have T2:=k2 _ S2)
    | fail)
   have hO2:=HO.out.keptN S2;have hst:=hO2.stored j X;have e1:=Ms (lkL D (AC k) j) m X;rw[HL.out]at e1;rw[e1,<-HS.out]at hst;have HST:=hide hst;clear hst hO2 e1 k1 k2 kS T0 T1 T2;go_wp2;go_roundw
   case rel=>exact⟨j+1,by omega,by go_num,by rw[Hm.out];exact HST.out.1,(hK.then S2).trans (Kp.ofGrown HST.out.2 (S:=only B) (fun k he _=>by cases he;rfl)) (fun _ _ h=>h) (fun k hk he=>absurd hk (by have:=HB.out;unfold only at he;omega))⟩
   case measure=>simp[intOf];omega
  ·obtain rfl:j=4:=by omega
   have e4:lkL D (AC k) 4++List.replicate (4 - 4) ByteArray.empty=lkL D (AC k) 4:=by simp
   rw[e4]at hO;have hSl:=hO.sl;have HJ:Hid (joinS (lkL D (AC k) 4)=lookS D (AC k)):=rfl;go_wp2_with (go_at_call 108;refine(Nz _ _ _ _ hSl (Nat.le_refl _)).mono ?_;rintro e w2 ⟨rfl,hk2⟩;rw[HJ.out]);go_ret;exact⟨rfl,hK.then hk2⟩
end Go.Proofs.YtgcgacjhkhjhmaaGreatDoor
namespace Go.Proofs.YtgcgacjhkhjhmaaGreatDoor
def undoL(P:List ByteArray)(l:List Chg):List ByteArray:=l.foldl (fun P c=>P.set c.page.toNat c.data) P
def Be(l:List Chg)(n:Nat):Bool:=l.any (fun c=>c.page==(n:Int))
def backTo(P:List ByteArray)(NL:List (List Chg))(k:Nat):List ByteArray:=(NL.drop k).foldr (fun l P=>undoL P l) P
theorem Ez(c:Chg)(l:List Chg)(n:Nat):Be (c::l) n=(c.page==(n:Int)||Be l n):=by simp[Be]
theorem KA(l:List Chg)(n:Nat)(s:ByteArray):∀P,Be l n=true->undoL (P.set n s) l=undoL P l:=by
 induction l with
 | nil=>intro P h;simp[Be]at h
 | cons c l ih =>
  intro P h;show undoL ((P.set n s).set c.page.toNat c.data) l=undoL (P.set c.page.toNat c.data) l;by_cases he:c.page.toNat=n
  ·rw[he,List.set_set]
  ·rw[List.set_comm _ _ (fun e=>he e.symm)];refine ih _ ?_;rw[Ez]at h;have:(c.page==(n:Int))=false:=by
    have h2:c.page≠(n:Int):=fun e=>he (by rw[e,Int.toNat_natCast]);simpa using h2
   rw[this,Bool.false_or]at h;exact h
theorem IQ{c:Chg}{l:List Chg}{n:Nat}(h0:0<=c.page)(h:Be (c::l) n=false):n≠c.page.toNat/\Be l n=false:=by
 rw[Ez,Bool.or_eq_false_iff]at h;refine⟨fun e=>?_,h.2⟩;have h2:c.page≠(n:Int):=by simpa using h.1
 omega
theorem Kz(l:List Chg)(n:Nat)(s:ByteArray)(h0:∀c∈l,0<=c.page):∀P,Be l n=false->undoL (P.set n s) l=(undoL P l).set n s:=by
 induction l with
 | nil=>intro P h;rfl
 | cons c l ih =>
  intro P h;obtain⟨h1,h2⟩:=IQ (h0 c List.mem_cons_self) h;show undoL ((P.set n s).set c.page.toNat c.data) l=(undoL (P.set c.page.toNat c.data) l).set n s;rw[List.set_comm _ _ h1];exact ih (fun c hc=>h0 c (List.mem_cons_of_mem _ hc)) _ h2
theorem Py(l:List Chg)(n:Nat)(h0:∀c∈l,0<=c.page):∀P,Be l n=false->(undoL P l)[n]?=P[n]?:=by
 induction l with
 | nil=>intro P h;rfl
 | cons c l ih =>
  intro P h;obtain⟨h1,h2⟩:=IQ (h0 c List.mem_cons_self) h;show (undoL (P.set c.page.toNat c.data) l)[n]?=_;rw[ih (fun c hc=>h0 c (List.mem_cons_of_mem _ hc)) _ h2,List.getElem?_set,if_neg (fun e=>h1 e.symm)]
theorem Oq(P:List ByteArray)(n:Nat)(x:ByteArray)(h:P[n]?=some x):P.set n x=P:=by
 refine List.ext_getElem? (fun i=>?_);rw[List.getElem?_set];by_cases e:n=i
 ·subst e;rw[if_pos rfl,h,if_pos (List.getElem?_eq_some_iff.1 h).1]
 ·rw[if_neg e]
def lastC(NL:List (List Chg)):List Chg:=NL.getD (NL.length - 1) []
def chgN(P:List ByteArray)(NL:List (List Chg))(n:Nat):List (List Chg):=if NL.length=0 then NL else if Be (lastC NL) n then NL else NL.set (NL.length - 1) (lastC NL++[⟨(n:Int),P.getD n ⟨#[]⟩⟩])
theorem BO(P:List ByteArray)(NL:List (List Chg))(n:Nat):(chgN P NL n).length=NL.length:=by
 unfold chgN;split
 ·rfl
 ·split
  ·rfl
  ·exact List.length_set ..
theorem Ch{NL:List (List Chg)}(h:NL.length≠0):lastC NL∈NL:=by
 unfold lastC;rw[List.getD_eq_getElem?_getD,List.getElem?_eq_getElem (by omega)];exact List.getElem_mem _
theorem E4{P:List ByteArray}{NL:List (List Chg)}{n:Nat}{l:List Chg}(h:l∈chgN P NL n):l∈NL\/(NL.length≠0/\l=lastC NL++[⟨(n:Int),P.getD n ⟨#[]⟩⟩]):=by
 unfold chgN at h;split at h
 ·exact .inl h
 ·split at h
  ·exact .inl h
  ·rcases List.mem_or_eq_of_mem_set h with h|h
   ·exact .inl h
   ·exact .inr ⟨by assumption,h⟩
theorem Ps{NL:List (List Chg)}(h:NL.length≠0):∃M,NL=M++[lastC NL]/\M.length=NL.length - 1:=by
 refine⟨NL.take (NL.length - 1),?_,by rw[List.length_take];omega⟩;have h1:NL.length - 1<NL.length:=by omega
 have:lastC NL=NL[NL.length - 1]:=by
  unfold lastC;rw[List.getD_eq_getElem?_getD,List.getElem?_eq_getElem h1];rfl
 rw[this,<-List.take_succ_eq_append_getElem h1,Nat.sub_add_cancel (by omega),List.take_length]
theorem BW(P:List ByteArray)(M:List (List Chg))(l:List Chg)(k:Nat)(hk:k<=M.length):backTo P (M++[l]) k=backTo (undoL P l) M k:=by
 unfold backTo;rw[List.drop_append_of_le_length hk,List.foldr_append];rfl
theorem JB(P:List ByteArray)(NL:List (List Chg))(n:Nat)(s:ByteArray)(k:Nat)(hn:n<P.length)(h0:∀l∈NL,∀c∈l,0<=c.page)(hk:k<NL.length):backTo (P.set n s) (chgN P NL n) k=backTo P NL k:=by
 have hne:NL.length≠0:=by omega
 have hl:=h0 _ (Ch hne);obtain⟨M,hM,hML⟩:=Ps hne;unfold chgN;rw[if_neg hne];generalize lastC NL=l at hl hM;subst hM;have hkM:k<=M.length:=by simp at hk;omega
 have hl1:(M++[l]).length - 1=M.length:=by simp
 rw[hl1];cases hnm:Be l n with
 | true =>
  rw[if_pos rfl,BW _ _ _ _ hkM,BW _ _ _ _ hkM,KA _ _ _ _ hnm]
 | false =>
  have e:(M++[l]).set M.length (l++[⟨(n:Int),P.getD n ⟨#[]⟩⟩])=M++[l++[⟨(n:Int),P.getD n ⟨#[]⟩⟩]]:=by
   rw[List.set_append_right _ _ (Nat.le_refl _)];simp
  rw[if_neg (by simp),e,BW _ _ _ _ hkM,BW _ _ _ _ hkM];have e2:undoL (P.set n s) (l++[⟨(n:Int),P.getD n ⟨#[]⟩⟩])=undoL P l:=by
   have:undoL (P.set n s) (l++[⟨(n:Int),P.getD n ⟨#[]⟩⟩])=(undoL (P.set n s) l).set n (P.getD n ⟨#[]⟩):=by
    unfold undoL;rw[List.foldl_append];rfl
   rw[this,Kz _ _ _ hl _ hnm,List.set_set];refine Oq _ _ _ ?_;rw[Py _ _ hl _ hnm,List.getD_eq_getElem?_getD,List.getElem?_eq_getElem hn];rfl
  rw[e2]
structure Agr (P Q:List ByteArray):Prop where
 len:P.length=Q.length
 us:∀i,i<Q.length->isU Q i=true->P.getD i ⟨#[]⟩=Q.getD i ⟨#[]⟩
theorem Agr.p0{P Q:List ByteArray}(h:Agr P Q)(h0:0<Q.length):pg0 P=pg0 Q:=h.us 0 h0 rfl
theorem Agr.isU{P Q:List ByteArray}(h:Agr P Q)(h0:0<Q.length)(i:Nat):Go.Proofs.YtgcgacjhkhjhmaaGreatDoor.isU P i=Go.Proofs.YtgcgacjhkhjhmaaGreatDoor.isU Q i:=by
 unfold Go.Proofs.YtgcgacjhkhjhmaaGreatDoor.isU;rw[h.p0 h0]
theorem Ce(l:List ByteArray)(n i:Nat)(x d:ByteArray)(hn:n<l.length):(l.set n x).getD i d=if n=i then x else l.getD i d:=by
 rw[List.getD_eq_getElem?_getD,List.getD_eq_getElem?_getD,List.getElem?_set];by_cases e:n=i
 ·rw[if_pos e,if_pos e,if_pos (by omega)];rfl
 ·rw[if_neg e,if_neg e]
theorem Agr.set{P Q:List ByteArray}(h:Agr P Q)(n:Nat)(x:ByteArray)(hn:n<Q.length)(hu:∀i,i<Q.length->i≠n->Go.Proofs.YtgcgacjhkhjhmaaGreatDoor.isU (Q.set n x) i=true->Go.Proofs.YtgcgacjhkhjhmaaGreatDoor.isU Q i=true):Agr (P.set n x) (Q.set n x):=by
 refine⟨by rw[List.length_set,List.length_set];exact h.len,fun i hi hiu=>?_⟩;rw[List.length_set]at hi;rw[Ce _ _ _ _ _ (by rw[h.len];exact hn),Ce _ _ _ _ _ hn];by_cases e:n=i
 ·rw[if_pos e,if_pos e]
 ·rw[if_neg e,if_neg e];exact h.us i hi (hu i hi (fun e'=>e e'.symm) hiu)
theorem Agr.put{P Q:List ByteArray}(h:Agr P Q)(n:Nat)(x:ByteArray)(hn:n<Q.length)(h0:0<n):Agr (P.set n x) (Q.set n x):=h.set n x hn (fun i _ _ hi=>by rw[EQ _ _ _ _ h0]at hi;exact hi)
theorem Agr.drop{P Q:List ByteArray}(h:Agr P Q)(n:Nat)(h0:0<Q.length)(hs:(pg0 Q).size=256)(hn:n<160)(hu:Go.Proofs.YtgcgacjhkhjhmaaGreatDoor.isU Q n=true):Agr (turnL P n) (turnL Q n):=by
 unfold turnL;rw[h.p0 h0];refine h.set 0 _ h0 (fun i hi hi0 hiu=>?_);have:=Ff (l:=Q) (n:=n) (m:=i) h0 hs (by omega) (by omega);unfold turnL at this;rw[this]at hiu;by_cases e:n=i
 ·subst e;exact hu
 ·rw[if_neg e]at hiu;exact hiu
theorem Agr.take{P Q:List ByteArray}(h:Agr P Q)(n:Nat)(Z:ByteArray)(h0:0<Q.length)(hs:(pg0 Q).size=256)(hn:n<Q.length)(hn1:0<n)(h160:Q.length<=160):Agr ((turnL P n).set n Z) ((turnL Q n).set n Z):=by
 have hl:(turnL Q n).length=Q.length:=Bv Q n;have hlP:(turnL P n).length=Q.length:=by rw[Bv,h.len]
 refine⟨by rw[List.length_set,List.length_set,hl,hlP],fun i hi hiu=>?_⟩;rw[List.length_set,hl]at hi;rw[EQ _ _ _ _ hn1]at hiu;rw[Ce _ _ _ _ _ (by omega),Ce _ _ _ _ _ (by omega)];by_cases e:n=i
 ·rw[if_pos e,if_pos e]
 ·rw[if_neg e,if_neg e];unfold turnL at hiu |-;rw[Ce _ _ _ _ _ (by rw[h.len];exact h0),Ce _ _ _ _ _ h0,h.p0 h0];by_cases e0:0=i
  ·rw[if_pos e0,if_pos e0]
  ·rw[if_neg e0,if_neg e0];have:=Ff (l:=Q) (n:=n) (m:=i) h0 hs (by omega) (by omega);unfold turnL at this;rw[this,if_neg e]at hiu;exact h.us i hi hiu
structure AgN (P:List ByteArray) (NL:List (List Chg)) (S:Sw):Prop where
 n:NL.length=S.notes.length
 b:∀k,k<NL.length->Agr (backTo P NL k) (S.notes.getD k [])
 pg:∀l∈NL,∀c∈l,0<=c.page/\c.page<(P.length:Int)
 sz:∀l∈NL,∀c∈l,c.data.size<=256
theorem AgN.chg{P:List ByteArray}{NL:List (List Chg)}{S:Sw}(h:AgN P NL S)(n:Nat)(s:ByteArray)(hn:n<P.length)(hz:(P.getD n ⟨#[]⟩).size<=256):AgN (P.set n s) (chgN P NL n) S:=by
 refine⟨by rw[BO];exact h.n,fun k hk=>?_,fun l hl c hc=>?_,fun l hl c hc=>?_⟩
 ·rw[BO]at hk;rw[JB P NL n s k hn (fun l hl c hc=>(h.pg l hl c hc).1) hk];exact h.b k hk
 ·rw[List.length_set];rcases E4 hl with h1|⟨hne,h1⟩
  ·exact h.pg l h1 c hc
  ·rw[h1]at hc;rcases List.mem_append.1 hc with h2|h2
   ·exact h.pg _ (Ch hne) c h2
   ·have:c=⟨(n:Int),P.getD n ⟨#[]⟩⟩:=by simpa using h2
    rw[this];exact⟨by show (0:Int)<=(n:Int);omega,by show (n:Int)<_;omega⟩
 ·rcases E4 hl with h1|⟨hne,h1⟩
  ·exact h.sz l h1 c hc
  ·rw[h1]at hc;rcases List.mem_append.1 hc with h2|h2
   ·exact h.sz _ (Ch hne) c h2
   ·have:c=⟨(n:Int),P.getD n ⟨#[]⟩⟩:=by simpa using h2
    rw[this];exact hz
structure Ag (P:List ByteArray) (NL:List (List Chg)) (S:Sw):Prop where
 a:Agr P S.now
 g:AgN P NL S
 l0:0<S.now.length
 l1:S.now.length<=160
 sz:∀x∈S.now,x.size=256
 ps:∀x∈P,x.size<=256
 bl:S.base.length=S.now.length
 nt:∀q∈S.notes,q.length=S.base.length/\∀x∈q,x.size=256
theorem Ag.p0{P:List ByteArray}{NL:List (List Chg)}{S:Sw}(h:Ag P NL S):pg0 P=pg0 S.now:=h.a.p0 h.l0
theorem Ag.s0{P:List ByteArray}{NL:List (List Chg)}{S:Sw}(h:Ag P NL S):(pg0 S.now).size=256:=Br h.l0 h.sz
theorem Ag.sP{P:List ByteArray}{NL:List (List Chg)}{S:Sw}(h:Ag P NL S):(pg0 P).size=256:=by rw[h.p0];exact h.s0
theorem Ag.isU{P:List ByteArray}{NL:List (List Chg)}{S:Sw}(h:Ag P NL S)(i:Nat):Go.Proofs.YtgcgacjhkhjhmaaGreatDoor.isU P i=Go.Proofs.YtgcgacjhkhjhmaaGreatDoor.isU S.now i:=h.a.isU h.l0 i
theorem Ef{P:List ByteArray}(h:∀x∈P,x.size<=256)(n:Nat):(P.getD n ⟨#[]⟩).size<=256:=by
 rw[List.getD_eq_getElem?_getD];cases e:P[n]? with
 | none=>exact Nat.zero_le _
 | some x=>exact h x (List.mem_of_getElem? e)
theorem Dr{l:List ByteArray}{n:Nat}{x:ByteArray}(hs:∀y∈l,y.size<=256)(hx:x.size<=256):∀y∈l.set n x,y.size<=256:=fun y hy=>by
 rcases List.mem_or_eq_of_mem_set hy with h|h
 ·exact hs y h
 ·rw[h];exact hx
theorem Ag.chg{P:List ByteArray}{NL:List (List Chg)}{S:Sw}(h:Ag P NL S)(n:Nat)(s:ByteArray)(now:List ByteArray)(hn:n<P.length)(hs:s.size<=256)(ha:Agr (P.set n s) now)(hz:∀x∈now,x.size=256):Ag (P.set n s) (chgN P NL n) { S with now:=now }:=by
 have hl:now.length=S.now.length:=by rw[<-ha.len,List.length_set,h.a.len]
 have hg:=h.g.chg n s hn (Ef h.ps n);exact⟨ha,⟨hg.n,hg.b,hg.pg,hg.sz⟩,by show 0<now.length;rw[hl];exact h.l0,by show now.length<=160;rw[hl];exact h.l1,hz,Dr h.ps hs,by show S.base.length=now.length;rw[hl];exact h.bl,h.nt⟩
end Go.Proofs.YtgcgacjhkhjhmaaGreatDoor
namespace Go.Proofs.YtgcgacjhkhjhmaaGreatDoor
open Go.RowKit
theorem take_at{P:Program}{md:Region.Mode}{ops:Array Oper}{Q:Exit->Act->World->Prop}{S:World->Prop}{i d:Nat}{oi:Oper}{v:Value}{fuel:Nat}{listed:Array Bool}{a:Act}{w:World}(hi:ops[i]?=some oi)(hd:oi.dst=some d)
  (hs:Region.noSelect ops=true) (hf:Region.free md ops listed i=true) (hr:(Region.ready md ops listed).contains i=true)
  (hQ:∀c a w,Q (.panic c) (a.put oi.dst v) w->Q (.panic c) a w) (hy:YieldsIf P ops S oi v a) (hS:S w)
  (h:wpAnyH P md ops Q S fuel (listed.setIfInBounds i true) (a.put (some d) v) w):wpAnyH P md ops Q S (fuel+1) listed a w :=
 wpAnyH_take hi hs hf hr hQ hy hS (by rw[hd];exact h)
theorem O0:(prog.info? 75).map (fun i=>(i.zero,i.size,i.bytes))=some (some (.agg #[.int .i64 0,.string ByteArray.empty]),2,24):=by kernel_rfl
theorem Pg(w:World)(p:Dp)(D:Dv)(n:Nat)(hD:Dev w p D):Pag (w.alloc (.cells #[.pointer (some ⟨p.d,0,none⟩),.int .i64 n,.int .i64 0,.slice none 0 0] 97)) w.heap.size p n 0 (.slice none 0 0) []:=by
 have hb:=heap_alloc_new w (.cells #[.pointer (some ⟨p.d,0,none⟩),.int .i64 (n:Int),.int .i64 0,.slice none 0 0] 97);refine⟨by rw[cell_of_row _ _ _ _ _ _ hb];rfl,by rw[cell_of_row _ _ _ _ _ _ hb];rfl,by rw[cell_of_row _ _ _ _ _ _ hb];rfl,by rw[cell_of_row _ _ _ _ _ _ hb];rfl,fun j=>?_,Chs.nil _ _,fun h=>?_⟩
 ·unfold World.frozen?;rw[show (w.alloc (.cells #[.pointer (some ⟨p.d,0,none⟩),.int .i64 (n:Int),.int .i64 0,.slice none 0 0] 97)).heap[(⟨w.heap.size,j,none⟩:Addr).block]?=_ from hb];simp
 ·have:=hD.lt _ h;omega
def rdP(D:Dv)(bl:List Chg)(k:Nat):ByteArray:=match bl.find? (fun c=>c.page==(k:Int)) with
 | some c=>c.data
 | none=>lookS D (AC k)
set_option maxRecDepth 100000 in
theorem Me(g n k:Nat)(p:Dp)(D:Dv)(c:Int)(bv:Value)(bl:List Chg)(w:World)(hP:Pag w g p n c bv bl)(hD:Dev w p D)(hk:k<n)(hn:126+4*n<=D.n)(hn2:n<=160)(hbl:bl.length<=1000) :
  Calls prog 82 #[.pointer (some ⟨g,0,none⟩),.int .i64 k] w fun e w'=>e=.returned (.tuple #[.string (rdP D bl k),.int .i64 0])/\Kp none' w w':=by
 have hc0:=hP.c0;have hc1:=hP.c1;have hc3:=hP.c3;obtain⟨a,cc,rfl,_,_,ha'⟩:=hP.bs;have ha:=hide ha';clear ha';have hB:hasB n (k:Int)=true:=by simp[hasB];omega
 obtain⟨X,HX⟩:∃X,Hid (rdP D bl k=X):=⟨_,rfl⟩;rw[HX.out];have Hfind:Hid (∀j (hj:j<bl.length),(∀c∈bl.take j,(c.page==(k:Int))=false)->bl[j].page=(k:Int)->bl[j].data=X):=fun j hj hA he=>by
  rw[<-HX.out];unfold rdP;have e1:bl=bl.take j++bl[j]::bl.drop (j+1):=by rw[<-List.drop_eq_getElem_cons hj,List.take_append_drop]
  have e2:bl.find? (fun c=>c.page==(k:Int))=some bl[j]:=by
   rw[List.find?_eq_some_iff_append];exact⟨by simp[he],bl.take j,bl.drop (j+1),e1,fun c hc=>by simp[hA c hc]⟩
  rw[e2]
 have Hnone:Hid ((∀c∈bl,(c.page==(k:Int))=false)->lookS D (AC k)=X):=fun hA=>by
  rw[<-HX.out];unfold rdP;have e2:bl.find? (fun c=>c.page==(k:Int))=none:=by
   rw[List.find?_eq_none];intro c hc;simp[hA c hc]
  rw[e2]
 go_enter func82,ntmps82;go_upto_region 5 with (go_at_call 107;refine(I4 _ _ _ _ hc1).mono ?_;rintro e w' ⟨rfl,rfl⟩;rw[hB]);go_wp2;go_loopw [19] (fun t wr=>∃j:Nat,j<=bl.length/\t=.int .i64 j/\(∀c∈bl.take j,(c.page==(k:Int))=false)/\Kp none' w' wr) (fun t _=>bl.length - (intOf t).toNat)
 case atStart=>exact⟨0,Nat.zero_le _,rfl,by simp,Kp.refl _ _⟩
 case round =>
  obtain⟨j,hj,rfl,hA,hK⟩:=hrel;by_cases hlt:j<bl.length
  ·have hji:(j:Int)<(bl.length:Int):=by omega
   obtain⟨b,o,rfl,hbm,hbl2,hq0,hq1⟩:=ha.out j hlt;have d0:=hK.cell hq0 (fun h=>h);have d1:=hK.cell hq1 (fun h=>h);have HT:=hide (List.take_succ_eq_append_getElem hlt);have HF:=hide (Hfind.out j hlt hA);have hv:=GL wr bl[j] 75;have hka:=Kp.alloc none' wr (.cells #[.int .i64 bl[j].page,.string bl[j].data] 75);have HA:=hide hA;clear hA hq0 hq1;generalize bl[j]=x at *;obtain⟨wb,Hb⟩:∃wb,Hid (wr.alloc (.cells #[.int .i64 x.page,.string x.data] 75)=wb):=⟨_,rfl⟩;go_upto_region 8 with fail;rw[Hb.out]
   rw[Hb.out]at hv hka;have v0:=hv.1;have v1:=hv.2;generalize wr.heap.size=gg at *;clear hv d0 d1;by_cases he:x.page=(k:Int)
   ·have hE:=HF.out he;rw[he]at v0;rw[hE]at v1;go_wp2;go_ret2;exact⟨rfl,hK.then hka⟩
   ·have hne:(x.page==(k:Int))=false:=by simpa using he
    go_wp2;go_roundw
    case rel =>
     refine⟨j+1,by omega,by go_num,?_,hK.then hka⟩;rw[HT.out];intro c hc;rcases List.mem_append.1 hc with hc|hc
     ·exact HA.out c hc
     ·rw[List.mem_singleton.1 hc];exact hne
    case measure=>simp[intOf];omega
  ·obtain rfl:j=bl.length:=by omega
   rw[List.take_length]at hA;have hlk:=J9 g k p D wr (hK.cell hc0 (fun h=>h)) (hD.keptN hK) (by omega) (fun j hj=>by unfold AC;omega);rw[Hnone.out hA]at hlk;go_wp2_with (go_at_call 76;refine hlk.mono ?_;rintro e w5 ⟨rfl,hk5⟩);go_ret2;exact⟨rfl,hK.then hk5⟩
end Go.Proofs.YtgcgacjhkhjhmaaGreatDoor
