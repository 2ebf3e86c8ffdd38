/- Part of the proof: contracts over the turned program. -/
import Derived.Test.YtjojffepakclcaaGreatDoorX18
import Derived.Test.YtjojffepakclcaaGreatDoorX5
set_option linter.unusedVariables false
set_option maxHeartbeats 4000000
open Go.Proofs.Tryz
namespace Go.Proofs.YtjojffepakclcaaGreatDoor
open Go Go.RowKit
def Pk(w:World)(b r:Nat)(root:Int)(v:Value):Prop:=w.heap[b]?=some (.cells #[.pointer (some ⟨r,0,none⟩),.int .i64 root,v] 37 (0,0))
theorem Pk.c0{w:World}{b r:Nat}{root:Int}{v:Value}(h:Pk w b r root v):w.cell? ⟨b,0,none⟩=some (.pointer (some ⟨r,0,none⟩)):=by rw[cell_of_row w b 0 _ 37 (0,0) h];rfl
theorem Pk.c1{w:World}{b r:Nat}{root:Int}{v:Value}(h:Pk w b r root v):w.cell? ⟨b,1,none⟩=some (.int .i64 root):=by rw[cell_of_row w b 1 _ 37 (0,0) h];rfl
theorem Pk.c2{w:World}{b r:Nat}{root:Int}{v:Value}(h:Pk w b r root v):w.cell? ⟨b,2,none⟩=some v:=by rw[cell_of_row w b 2 _ 37 (0,0) h];rfl
theorem Pk.lt{w:World}{b r:Nat}{root:Int}{v:Value}(h:Pk w b r root v):b<w.heap.size:=(Array.getElem?_eq_some_iff.1 h).1
theorem Pk.kept{w w':World}{b r:Nat}{root:Int}{v:Value}{S:Nat->Prop}(h:Pk w b r root v)(hk:Kp S w w')(hS:¬S b):Pk w' b r root v:=by
 unfold Pk;rw[hk.block b h.lt hS];exact h
theorem Pk.fz{w:World}{b r:Nat}{root:Int}{v:Value}(h:Pk w b r root v)(j:Nat):w.frozen? ⟨b,j,none⟩=false:=by
 unfold World.frozen?;rw[show w.heap[(⟨b,j,none⟩:Addr).block]?=_ from h];simp
theorem Pk.set1{w:World}{b r:Nat}{root:Int}{v:Value}(h:Pk w b r root v)(z:Int):Pk (w.setCell ⟨b,1,none⟩ (.int .i64 z)) b r z v:=by
 unfold Pk;rw[heap_setCell_same w b 1 _ 37 _ h];rfl
theorem Pk.set2{w:World}{b r:Nat}{root:Int}{v:Value}(h:Pk w b r root v)(x:Value):Pk (w.setCell ⟨b,2,none⟩ x) b r root x:=by
 unfold Pk;rw[heap_setCell_same w b 2 _ 37 _ h];rfl
structure Pq (w:World) (b:Nat) (v:Value) (l:List Pr):Prop where
 o:OwP w (b+1) v l
 asc:Asc l
 sz:∀p∈l,p.k.size<=maxLen/\p.v.size<=maxLen
theorem Pq.kept{w w':World}{b:Nat}{v:Value}{l:List Pr}{S:Nat->Prop}(h:Pq w b v l)(hk:Kp S w w')(hS:∀k,v.ownBlock=some k->¬S k):Pq w' b v l:=⟨h.o.kept hk hS,h.asc,h.sz⟩
theorem Pk.pz{w:World}{b r:Nat}{root:Int}{v:Value}{l:List Pr}(h:Pk w b r root v)(hq:Pq w b v l):Pz w b v l:=⟨h.c2,hq.o.prs,hq.asc,hq.sz⟩
set_option maxRecDepth 100000 in
theorem Ck(x y:Value)(l:List Pr)(B B':Nat)(w:World)(hP:Prs B w x l)(hP':Prs B' w y l) :
  Calls prog 16 #[x,y] w fun e w'=>e=.returned (.bool true)/\Kp none' w w':=by
 obtain⟨a1,c1,rfl,hl1,hm1,ha1⟩:=hP;obtain⟨e1,f1,rfl,_,_,hb1⟩:=hP';unfold maxLen at hm1;have HA1:=hide ha1;have HB1:=hide hb1;clear ha1 hb1;go_enter func16,ntmps16;go_wp2;go_loopw [5] (fun t wr=>∃j:Nat,j<=l.length/\t=.int .i64 j/\Kp none' w wr) (fun t _=>l.length - (intOf t).toNat)
 case atStart=>exact⟨0,Nat.zero_le _,rfl,Kp.refl _ _⟩
 case round =>
  obtain⟨j,hj,rfl,hK⟩:=hrel;by_cases hlt:j<l.length
  ·obtain⟨b,o,rfl,_,p1,p2⟩:=HA1.out j hlt;obtain⟨b',o',rfl,_,q1,q2⟩:=HB1.out j hlt;have p1:=hK.cell p1 (fun h=>h);have p2:=hK.cell p2 (fun h=>h);have q1:=hK.cell q1 (fun h=>h);have q2:=hK.cell q2 (fun h=>h);have hlt':(j:Int)<(l.length:Int):=by omega
   generalize l[j]=z at *;go_upto_region 6 with fail;go_quiet (fail);go_wp2;go_roundw
   case rel=>exact⟨j+1,by omega,by go_num,hK.thenN (Kp.drewN _ _ _)⟩
   case measure=>simp[intOf];omega
  ·have hlt':¬(j:Int)<(l.length:Int):=by omega
   go_wp2;go_ret;exact⟨rfl,hK⟩
theorem FC(l:List Pr)(k:ByteArray):(cutP l k).Sublist l:=by
 have h:findN l k<=behind l k:=by unfold behind;split<;>omega
 have e:l=l.take (findN l k)++l.drop (findN l k):=(List.take_append_drop _ _).symm;have h2:(l.drop (behind l k)).Sublist (l.drop (findN l k)):=by
  have:behind l k=findN l k+(behind l k - findN l k):=by omega
  rw[this,<-List.drop_drop];exact List.drop_sublist _ _
 have h3:=(List.Sublist.refl (l.take (findN l k))).append h2;rw[<-e]at h3;exact h3
set_option maxRecDepth 100000 in
theorem NW(b r:Nat)(root:Int)(v:Value)(l:List Pr)(k:ByteArray)(w:World)(hb:Pk w b r root v)(hq:Pq w b v l)(hk:k.size<=maxLen)(hp:l.length<=100000) :
  Calls prog 34 #[.pointer (some ⟨b,2,none⟩),.string k] w fun e w'=>e=.returned (.bool (hasN l k))/\∃v',Pk w' b r root v'/\Pq w' b v' (if hasN l k then cutP l k else l)/\(∀g,v'.ownBlock=some g->v.ownBlock=some g\/w.heap.size<=g)/\Kp (only b) w w':=by
 have HPL:=hide (Dx b v l k w (hb.pz hq) hk);have hfl:=Bl l k;have hbl:=Ch l k;have hP:=hq.o.prs;obtain⟨a,c,rfl,hlc,hcm,ha⟩:=hP;have hP:Prs w.heap.size w (.slice a l.length c) l:=⟨a,c,rfl,hlc,hcm,ha⟩;clear ha;unfold maxLen at hcm;obtain⟨i,Hi⟩:∃i,Hid (findN l k=i):=⟨_,rfl⟩;cases ht:hasN l k with
 | false =>
  rw[ht]at HPL;have HQ:=hide hq;clear hq hP;go_enter func34,ntmps34;go_wp2_with (first
   | (go_at_call 27;refine HPL.out.mono ?_;rintro e w1 ⟨rfl,hK1⟩)
   | fail)
  go_ret;refine⟨rfl,_,hb.kept hK1 (fun h=>h),?_,fun g h=>.inl h,hK1.mono (fun _ _ h=>h.elim)⟩;exact HQ.out.kept hK1 (fun _ _ h=>h)
 | true =>
  have hbe:behind l k=i+1:=by unfold behind;rw[ht,if_pos rfl,Hi.out]
  rw[ht]at HPL;rw[Hi.out]at HPL hfl;rw[hbe]at hbl;have HCUT:Hid (cutP l k=l.take i++l.drop (i+1)):=by show _=_;unfold cutP;rw[Hi.out,hbe]
  have HAS:Hid (Asc (l.take i++l.drop (i+1))/\∀p∈l.take i++l.drop (i+1),p.k.size<=maxLen/\p.v.size<=maxLen):=by
   rw[<-HCUT.out];exact⟨List.Pairwise.sublist (FC l k) hq.asc,fun p hp=>hq.sz p ((FC l k).subset hp)⟩
  have HQ:=hide hq;clear hq hbe;have hil:(i:Int)<=(l.length:Int):=by omega
  have hic:(i:Int)<=(c:Int):=by omega
  have hlc':(l.length:Int)<=(c:Int):=by omega
  have hI1:(i:Int)+1<=(l.length:Int):=by omega
  have hI2:(i:Int)<=(i:Int)+1:=by omega
  have hI3:(i:Int)+1<=(c:Int):=by omega
  have hI4:((i:Int)+1).toNat=i+1:=by omega
  have hI5:(0:Int)<=(i:Int)+1:=by omega
  have hI6:IntKind.i64.wrap ((i:Int)+1)=(i:Int)+1:=by rw[IntKind.wrap_i64];omega
  by_cases hcj:c=i+1
  ·subst hcj;go_enter func34,ntmps34;go_upto_region 3 with (first
    | (go_at_call 27;refine HPL.out.mono ?_;rintro e w1 ⟨rfl,hK1⟩)
    | fail)
   have hKa:Kp none' w w1.drew:=hK1.thenN (Kp.drew none' w1);have hb1:=hb.kept hKa (fun h=>h);have c1:=hb1.c2;have hP1:=hP.keptN hKa;obtain⟨v2,w2,hq2,hO2,hg2,hv2⟩:=appP w1.drew w1.drew.heap.size (.slice none 0 0) (.slice a i (i+1)) [] (l.take i) (OwP.nil _ _) (hP1.take i hfl).src (Nat.le_refl _) (by simp;omega);rw[List.nil_append]at hO2;have hK2:Kp none' w1.drew w2:=Kp.ofGrown hg2 (fun k hk _=>by cases hk);have c1':=(hb1.kept hK2 (fun h=>h)).c2
   obtain⟨v4,w4,hq4,hO4,hg4,hv4⟩:=appP w2 w1.drew.heap.size v2 _ (l.take i) (l.drop (i+1)) hO2 ((hP1.keptN hK2).drop0 (i+1) hbl rfl).src hK2.size (by simp;omega);have hK4:Kp none' w1.drew w4:=hK2.trans (Kp.ofGrown hg4 (S:=fun k=>v2.ownBlock=some k) (fun k hk _=>hk)) (fun _ _ h=>h) (fun k hk he=>absurd hk (by have:=(hO2.lt k he).1;omega));have hb4:=hb1.kept hK4 (fun h=>h);have c1'':=hb4.c2;have f1'':=hb4.fz 2;have HO4:=hide hO4;obtain⟨a4,c4,e4,_⟩:=hO4.prs
   obtain⟨n4,Hn4⟩:∃m,Hid ((l.take i++l.drop (i+1)).length=m):=⟨_,rfl⟩;rw[Hn4.out]at e4;subst e4;have HPT:=hide (hb4.set2 (.slice a4 n4 c4));have HBL:=hide hb.lt;clear hP hP1 hO2 hO4 hg2 hg4 hv2 hv4;go_region_law (first
    | (refine Au (by rfl) (.const (.slice none 0 0)) (.tmp 20) 33 33 (by rfl) _ _ (by rfl) (by rfl) hq2 ?_)
    | (refine Au (by rfl) (.tmp 21) (.tmp 28) 33 33 (by rfl) _ _ (by rfl) (by rfl) hq4 ?_)
    | fail)
   all_goals (
    go_wp2;go_ret;have hs:=hKa.size;have hst:Kp (only b) w4 (w4.setCell ⟨b,2,none⟩ (.slice a4 n4 c4)):=Kp.setCell _ _ _ _ rfl;refine⟨rfl,_,HPT.out,?_,fun g h=>.inr (by have:=(HO4.out.lt g h).1;omega),(hKa.thenN hK4).trans hst (fun _ _ h=>h.elim) (fun _ _ h=>h)⟩;rw[HCUT.out];exact⟨(HO4.out.kept hst (fun z hz hzo=>by have:=(HO4.out.lt z hz).1;have:=HBL.out;unfold only at hzo;omega)).mono (by have:=HBL.out;omega),HAS.out.1,HAS.out.2⟩)
  ·go_enter func34,ntmps34;go_upto_region 3 with (first
    | (go_at_call 27;refine HPL.out.mono ?_;rintro e w1 ⟨rfl,hK1⟩)
    | fail)
   have hKa:Kp none' w w1.drew:=hK1.thenN (Kp.drew none' w1);have hb1:=hb.kept hKa (fun h=>h);have c1:=hb1.c2;have hP1:=hP.keptN hKa;obtain⟨v2,w2,hq2,hO2,hg2,hv2⟩:=appP w1.drew w1.drew.heap.size (.slice none 0 0) (.slice a i c) [] (l.take i) (OwP.nil _ _) (hP1.take i hfl).src (Nat.le_refl _) (by simp;omega);rw[List.nil_append]at hO2;have hK2:Kp none' w1.drew w2:=Kp.ofGrown hg2 (fun k hk _=>by cases hk);have c1':=(hb1.kept hK2 (fun h=>h)).c2
   obtain⟨v4,w4,hq4,hO4,hg4,hv4⟩:=appP w2 w1.drew.heap.size v2 _ (l.take i) (l.drop (i+1)) hO2 ((hP1.keptN hK2).dropM (i+1) hbl).src hK2.size (by simp;omega);have hK4:Kp none' w1.drew w4:=hK2.trans (Kp.ofGrown hg4 (S:=fun k=>v2.ownBlock=some k) (fun k hk _=>hk)) (fun _ _ h=>h) (fun k hk he=>absurd hk (by have:=(hO2.lt k he).1;omega));have hb4:=hb1.kept hK4 (fun h=>h);have c1'':=hb4.c2;have f1'':=hb4.fz 2;have HO4:=hide hO4;obtain⟨a4,c4,e4,_⟩:=hO4.prs
   obtain⟨n4,Hn4⟩:∃m,Hid ((l.take i++l.drop (i+1)).length=m):=⟨_,rfl⟩;rw[Hn4.out]at e4;subst e4;have HPT:=hide (hb4.set2 (.slice a4 n4 c4));have HBL:=hide hb.lt;clear hP hP1 hO2 hO4 hg2 hg4 hv2 hv4;go_region_law (first
    | (refine Au (by rfl) (.const (.slice none 0 0)) (.tmp 20) 33 33 (by rfl) _ _ (by rfl) (by rfl) hq2 ?_)
    | (refine Au (by rfl) (.tmp 21) (.tmp 28) 33 33 (by rfl) _ _ (by rfl) (by rfl) hq4 ?_)
    | fail)
   all_goals (
    go_wp2;go_ret;have hs:=hKa.size;have hst:Kp (only b) w4 (w4.setCell ⟨b,2,none⟩ (.slice a4 n4 c4)):=Kp.setCell _ _ _ _ rfl;refine⟨rfl,_,HPT.out,?_,fun g h=>.inr (by have:=(HO4.out.lt g h).1;omega),(hKa.thenN hK4).trans hst (fun _ _ h=>h.elim) (fun _ _ h=>h)⟩;rw[HCUT.out];exact⟨(HO4.out.kept hst (fun z hz hzo=>by have:=(HO4.out.lt z hz).1;have:=HBL.out;unfold only at hzo;omega)).mono (by have:=HBL.out;omega),HAS.out.1,HAS.out.2⟩)
end Go.Proofs.YtjojffepakclcaaGreatDoor
