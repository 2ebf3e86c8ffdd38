/- Part of the proof: contracts over the turned program. -/
import Derived.Test.YtgcgacjhkhjhmaaGreatDoorX24
set_option linter.unusedVariables false
set_option maxHeartbeats 4000000
open Go.Proofs.Tryz
namespace Go.Proofs.YtgcgacjhkhjhmaaGreatDoor
open Go.RowKit
def pgK(Q:List ByteArray)(k:Nat):List ByteArray:=(List.range Q.length).map (fun i=>if i<k/\isU Q i=true then Q.getD i ⟨#[]⟩ else ⟨#[]⟩)
theorem AX(Q:List ByteArray)(k:Nat):(pgK Q k).length=Q.length:=by simp[pgK]
theorem Dq(Q:List ByteArray)(k i:Nat)(hi:i<Q.length):(pgK Q k)[i]?=some (if i<k/\isU Q i=true then Q.getD i ⟨#[]⟩ else ⟨#[]⟩):=by
 unfold pgK;rw[List.getElem?_map,List.getElem?_range hi];rfl
theorem N8(Q:List ByteArray):pgK Q 0=List.replicate Q.length ⟨#[]⟩:=by
 refine List.ext_getElem? (fun i=>?_);by_cases hi:i<Q.length
 ·rw[Dq Q 0 i hi,if_neg (by omega),List.getElem?_replicate,if_pos hi]
 ·rw[List.getElem?_eq_none (by rw[AX];omega),List.getElem?_eq_none (by rw[List.length_replicate];omega)]
theorem N7(Q:List ByteArray)(k:Nat)(hk:k<Q.length)(hu:isU Q k=true):pgK Q (k+1)=(pgK Q k).set k (Q.getD k ⟨#[]⟩):=by
 refine List.ext_getElem? (fun i=>?_);by_cases hi:i<Q.length
 ·rw[Dq Q _ i hi,List.getElem?_set,Dq Q k i hi,AX];by_cases e:k=i
  ·subst e;rw[if_pos rfl,if_pos hi,if_pos ⟨by omega,hu⟩]
  ·rw[if_neg e];congr 1;by_cases h:i<k/\isU Q i=true
   ·rw[if_pos h,if_pos ⟨by omega,h.2⟩]
   ·rw[if_neg h,if_neg (fun h'=>h ⟨by omega,h'.2⟩)]
 ·rw[List.getElem?_eq_none (by rw[AX];omega),List.getElem?_eq_none (by rw[List.length_set,AX];omega)]
theorem Pk(Q:List ByteArray)(k:Nat)(hu:isU Q k=false):pgK Q (k+1)=pgK Q k:=by
 refine List.ext_getElem? (fun i=>?_);by_cases hi:i<Q.length
 ·rw[Dq Q _ i hi,Dq Q k i hi];congr 1;by_cases h:i<k/\isU Q i=true
  ·rw[if_pos h,if_pos ⟨by omega,h.2⟩]
  ·rw[if_neg h,if_neg (fun h'=>h ⟨by
    by_cases e:i=k
    ·subst e;rw[hu]at h';cases h'.2
    ·omega,h'.2⟩)]
 ·rw[List.getElem?_eq_none (by rw[AX];omega),List.getElem?_eq_none (by rw[AX];omega)]
theorem PQ(Q:List ByteArray)(k:Nat)(hk:0<k)(h0:0<Q.length):pg0 (pgK Q k)=pg0 Q:=by
 unfold pg0;rw[List.getD_eq_getElem?_getD,Dq Q k 0 h0,if_pos ⟨hk,rfl⟩];rfl
theorem Pj(Q:List ByteArray):Agr (pgK Q Q.length) Q:=⟨AX _ _,fun i hi hu=>by
 rw[List.getD_eq_getElem?_getD,Dq Q _ i hi,if_pos ⟨hi,hu⟩]
 rfl⟩
theorem PR(Q:List ByteArray)(k:Nat)(hs:∀x∈Q,x.size=256):∀x∈pgK Q k,x.size<=256:=fun x hx=>by
 unfold pgK at hx
 obtain⟨i,hi,rfl⟩:=List.mem_map.1 hx
 by_cases h:i<k/\isU Q i=true
 ·rw[if_pos h,List.getD_eq_getElem?_getD,List.getElem?_eq_getElem (List.mem_range.1 hi)]
  exact Nat.le_of_eq (hs _ (List.getElem_mem _))
 ·rw[if_neg h]
  exact Nat.zero_le _
theorem MM(Q:List ByteArray)(h0:0<Q.length)(h1:Q.length<=160)(hs:∀x∈Q,x.size=256):Ag (pgK Q Q.length) [] ⟨Q,Q,[],false⟩ :=
 ⟨Pj Q,⟨rfl,fun k h=>absurd h (by simp),(fun l h=>by cases h),(fun l h=>by cases h)⟩,h0,h1,hs,PR Q _ hs,rfl,(fun q h=>by cases h)⟩
set_option maxRecDepth 100000 in
theorem Kt(r gP:Nat)(V:Nat->Prop)(c:Nat)(P:List ByteArray)(NL:List (List Chg))(w:World)(H:Wm w r gP V c P NL)(h0:0<P.length) :
  Calls prog 22 #[.pointer (some ⟨r,0,none⟩),.int .i64 0] w fun e w'=>e=.returned (.bool true)/\w'=w:=by
 obtain⟨cN,c2,_⟩:=H.c2;have hl0:¬((P.length:Int)<=0):=by omega
 obtain⟨ln,HL⟩:∃ln,Hid (P.length=ln):=⟨_,rfl⟩;rw[HL.out]at c2 hl0;clear H;go_enter func22,ntmps22;go_wp2;go_ret;exact⟨rfl,rfl⟩
def Bgn(w w':World)(r:Nat)(q:Cq)(F:Nat->Prop)(D:Dv)(Q:Nat->ByteArray)(M cm:Int)(s:St)(Ql:List ByteArray):Prop :=
 ∃(F' V:Nat->Prop) (s':St),Wk w' r V q.c 0 ⟨Ql,Ql,[],false⟩/\Cz w w' q F F' D Q M cm s 160 s'/\(∀k,V k->w.heap.size<=k/\¬F' k)
set_option maxRecDepth 100000 in
theorem FJ{w:World}{q:Cq}{F:Nat->Prop}{D:Dv}{Q:Nat->ByteArray}{M cm:Int}{s:St}(hC:Cst w q F D Q M cm s)(Ql:List ByteArray)(hl:Ql.length=q.n)(h0:0<q.n)(h1:q.n<=160)(hQ:∀i,i<q.n->Ql.getD i ⟨#[]⟩=Q i)(hsz:∀x∈Ql,x.size=256)(hb:s.h+s.m<=900000000) :
  Calls prog 19 #[.pointer (some ⟨q.c,0,none⟩)] w fun e w'=>∃r,e=.returned (.tuple #[.pointer (some ⟨r,0,none⟩),.int .i64 0])/\Bgn w w' r q F D Q M cm s Ql:=by
 have hpa:=JN hC;obtain⟨wa,hmk,hOa,hka⟩:=Eg w q.n (by omega);have cell:=Am wa #[.pointer (some ⟨q.c,0,none⟩),.bool false,.slice (some ⟨w.heap.size,0,none⟩) q.n q.n,.slice none 0 0] 62;have frz:=Cy wa #[.pointer (some ⟨q.c,0,none⟩),.bool false,.slice (some ⟨w.heap.size,0,none⟩) q.n q.n,.slice none 0 0] 62;have kb:=Kp.alloc none' wa (.cells #[.pointer (some ⟨q.c,0,none⟩),.bool false,.slice (some ⟨w.heap.size,0,none⟩) q.n q.n,.slice none 0 0] 62)
 have hlg:=(hOa.lt w.heap.size rfl).2;have hWb:Wm (wa.alloc (.cells #[.pointer (some ⟨q.c,0,none⟩),.bool false,.slice (some ⟨w.heap.size,0,none⟩) q.n q.n,.slice none 0 0] 62)) wa.heap.size w.heap.size (fun k=>k=w.heap.size\/k=wa.heap.size) q.c (pgK Ql 0) []:=by
  refine⟨cell 0 _ rfl,cell 1 _ rfl,⟨q.n,by rw[AX,hl];exact cell 2 _ rfl,?_⟩,⟨_,[],cell 3 _ rfl,Ow.nil _ _ _ _,(fun k hk=>by cases hk),rfl,(fun i h=>absurd h (by simp)),(fun i j h=>absurd h (by simp))⟩,frz,.inr rfl,.inl rfl,by omega⟩;rw[AX,N8,hl];exact Ow.mono (hOa.keptN kb) (Nat.zero_le _)
 have hZb:Cz w (wa.alloc (.cells #[.pointer (some ⟨q.c,0,none⟩),.bool false,.slice (some ⟨w.heap.size,0,none⟩) q.n q.n,.slice none 0 0] 62)) q F (fun k=>F k/\k<w.heap.size) D Q M cm s 0 s:=⟨Cas.keptN (Cas.keptN (Cas.mono hC (fun k h1 h2=>⟨h2,h1⟩)) hka) kb,fun k h=>.inl h.1,(hka.then kb).mono (fun _ _ h=>h.elim),Nat.le_refl _⟩;have HWB:=hide hWb;have HZB:=hide hZb;have HAG:Hid (Ag (pgK Ql Ql.length) [] ⟨Ql,Ql,[],false⟩):=MM Ql (by omega) (by omega) hsz;have HQ:=hide hQ
 have HU:Hid (∀k (W:World) (r gP:Nat) (V:Nat->Prop),k<q.n->Wm W r gP V q.c (pgK Ql k) []->Calls prog 22 #[.pointer (some ⟨r,0,none⟩),.int .i64 (k:Int)] W fun e w'=>e=.returned (.bool (isU Ql k))/\w'=W):=fun k W r gP V hk hW=>by
  rcases Nat.eq_zero_or_pos k with e|e
  ·subst e;exact Kt r gP V q.c _ _ W hW (by rw[AX];omega)
  ·have hp:=PQ Ql k e (by omega);have h:=Cr r gP V q.c (pgK Ql k) [] (k:Int) W hW (by rw[AX];omega) (by rw[AX];omega) (by rw[hp];exact Br (by omega) hsz);have e2:usedB (pgK Ql k) (k:Int)=isU Ql k:=by
    unfold usedB isU;rw[AX,decide_eq_true ⟨by omega,by omega⟩,Bool.true_and,Int.toNat_natCast,hp]
   rw[e2]at h;exact h
 obtain⟨n,HN⟩:∃n,Hid (q.n=n):=⟨_,rfl⟩;have hlw:w.heap.size<wa.heap.size:=hlg;rw[HN.out]at hpa hmk HWB HZB h0 h1 hl HQ HU;have h0i:¬(n:Int)<1:=by omega
 obtain⟨g,HG⟩:∃g,Hid (w.heap.size=g):=⟨_,rfl⟩;rw[HG.out]at hmk HWB hlw;rw[HG.out]at HZB;have h0n:0<=(n:Int):=by omega
 clear hC hOa hka kb cell frz hlg hWb hZb hQ;go_enter func19,ntmps19;go_upto_region 4 with (first
  | (go_at_call 42;refine hpa.mono ?_;rintro e w' ⟨rfl,hw'⟩;obtain rfl:=hw'.symm)
  | (at_make;refine By rfl (.tmp 13) (.tmp 13) 32 rfl _ _ rfl rfl hmk ?_)
  | fail)
 obtain⟨r,HR⟩:∃r,Hid (wa.heap.size=r):=⟨_,rfl⟩;obtain⟨wb,HB⟩:∃wb,Hid (wa.alloc (.cells #[.pointer (some ⟨q.c,0,none⟩),.bool false,.slice (some ⟨g,0,none⟩) n n,.slice none 0 0] 62)=wb):=⟨_,rfl⟩;rw[HB.out]at HWB HZB |-;rw[HR.out]at HWB hlw |-;have b2:wb.cell? ⟨r,2,none⟩=some (.slice (some ⟨g,0,none⟩) n n):=by
  have:=HWB.out;show _=_;rw[<-HB.out,<-HR.out];exact Am wa _ _ 2 _ rfl
 have hgw:=HG.out;go_wp2;go_loopw [22] (fun t wr=>∃k:Nat,k<=n/\t=.int .i64 k/\∃F' s',Wm wr r g (fun j=>j=g\/j=r) q.c (pgK Ql k) []/\Cz w wr q F F' D Q M cm s k s'/\¬F' g/\¬F' r) (fun t _=>n - (intOf t).toNat)
 case atStart=>exact⟨0,Nat.zero_le _,rfl,_,s,HWB.out,HZB.out,(fun h=>by have:=h.2;omega),(fun h=>by have:=h.2;omega)⟩
 case round =>
  obtain⟨k,hk,rfl,F',s',hW,hZ,hg,hr⟩:=hrel;clear HWB HZB b2;by_cases hlt:k<n
  ·have hki:(k:Int)<(n:Int):=by omega
   have hu:=HU.out k wr r g _ hlt hW;have hrd:=hZ.read (by omega) (k:Int);have hin:inR q.n (k:Int)=true:=EO.2 ⟨by omega,by rw[HN.out];exact hki⟩;have er1:rdCS q.n Q (k:Int)=Q k:=by unfold rdCS;rw[if_pos hin,Int.toNat_natCast]
   have er2:rdCE q.n (k:Int)=0:=by unfold rdCE;rw[if_pos hin]
   rw[er1,er2,<-HQ.out k hlt]at hrd;have HW:=hide hW;have HZ:=hide hZ;have hrlt:=hW.lt;have hglt:g<wr.heap.size:=lt_of_cell ((hW.pageAt 0 (by rw[AX];omega)).1);cases hU:isU Ql k with
   | false =>
    rw[hU]at hu;have HP:=hide (Pk Ql k hU);clear hrd hW hZ hU;go_wp2_with (first
     | (go_at_call 22;refine hu.mono ?_;rintro e w' ⟨rfl,hw'⟩;obtain rfl:=hw'.symm)
     | fail)
    go_roundw
    case rel=>exact⟨k+1,by omega,by go_num,F',s',by rw[HP.out];exact HW.out,⟨HZ.out.c,HZ.out.f,HZ.out.k,by have:=HZ.out.b;omega⟩,hg,hr⟩
    case measure=>simp[intOf];omega
   | true =>
    rw[hU]at hu;have HP:=hide (N7 Ql k (by omega) hU);obtain⟨X,HX⟩:∃X,Hid (Ql.getD k ⟨#[]⟩=X):=⟨_,rfl⟩;rw[HX.out]at hrd HP;have HRD:=hide hrd;clear hrd hW hZ hU er1 er2 hin;go_upto_region 11 with (first
     | (go_at_call 22;refine hu.mono ?_;rintro e w' ⟨rfl,hw'⟩;obtain rfl:=hw'.symm)
     | (go_at_call 43;refine HRD.out.mono ?_;rintro e w2 ⟨rfl,F2,s2,hZ2,hf2,hf2',hk2⟩)
     | fail)
    have hW2:=HW.out.kept hk2 (fun j _ hj=>by
     rcases hj with e|e
     ·rw[e];exact hg
     ·rw[e];exact hr)
    have hkP:k<(pgK Ql k).length:=by rw[AX,hl];exact hlt
    obtain⟨cN,q2,_⟩:=hW2.c2;obtain⟨g0,gf⟩:=hW2.pageAt k hkP;obtain⟨p1,p2⟩:=hW2.putPage k X hkP;have hg2:¬F2 g:=fun h=>hg (hf2 g hglt h);have hr2:¬F2 r:=fun h=>hr (hf2 r hrlt h);have hZ3:=hZ2.own p2 (fun j e=>by have e':j=g:=e;rw[e'];exact⟨by omega,hg2⟩);rw[<-HP.out]at p1;have HP1:=hide p1;have HZ3:=hide hZ3;rw[AX,hl]at q2;clear p1 hZ3 hZ2 hW2;go_wp2;go_roundw
    case rel=>exact⟨k+1,by omega,by go_num,F2,s2,HP1.out,HZ3.out,hg2,hr2⟩
    case measure=>simp[intOf];omega
  ·have hkn:k=n:=by omega
   have hkl:k=Ql.length:=by omega
   rw[hkl]at hW;have HF:Hid (Bgn w wr r q F D Q M cm s Ql):=⟨F',_,s',.inr ⟨rfl,g,_,_,hW,HAG.out,Nat.le_refl _,fun l h=>by cases h⟩,⟨hZ.c,hZ.f,hZ.k,Nat.le_trans hZ.b (by omega)⟩,fun j hj=>by
    rcases hj with e|e
    ·rw[e];exact⟨by omega,hg⟩
    ·rw[e];exact⟨by omega,hr⟩⟩
   clear hW hZ hkl;subst hkn;clear hl;go_wp2;go_ret2;exact⟨r,rfl,HF.out⟩
def zeroP(n:Nat):List ByteArray:=List.replicate n (fillB 0)
theorem Ct(n:Nat):(zeroP n).length=n:=by simp[zeroP]
theorem FT(n:Nat):∀x∈zeroP n,x.size=256:=fun x hx=>by
 rw[List.eq_of_mem_replicate hx]
 exact A8 0
theorem D9(n i:Nat)(hi:i<n)(d:ByteArray):(zeroP n).getD i d=fillB 0:=by
 unfold zeroP;rw[List.getD_eq_getElem?_getD,List.getElem?_replicate,if_pos hi];rfl
theorem MP(i:Nat):bitOf (fillB 0) i=false:=by
 have e:AZ (fillB 0) (i / 8)=0:=by
  unfold AZ fillB;rw[List.getD_eq_getElem?_getD,List.getElem?_replicate];split<;>rfl
 unfold bitOf;rw[e];simp
theorem Tk.begin(n:Nat)(h0:0<n)(h1:n<=160):Tk ⟨zeroP n,zeroP n,[],false⟩ n (fun _=>false):=by
 refine⟨rfl,Ct n,h0,h1,FT n,fun i hi hin=>?_⟩;show isU (zeroP n) i=false;unfold isU pg0;rw[D9 n 0 h0,MP];have:(i==0)=false:=by simpa using (by omega:i≠0)
 rw[this];rfl
end Go.Proofs.YtgcgacjhkhjhmaaGreatDoor
