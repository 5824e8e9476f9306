/- Texts of mine, joined. -/
import Derived.Test.YtncadccbepjekaaGreatDoorU22
import Derived.Test.YtncadccbepjekaaGreatDoorU26
set_option maxRecDepth 100000
set_option maxHeartbeats 1000000
namespace Go.Proofs.YtncadccbepjekaaGreatDoor
open Go.RowKit
theorem ajj{l:List Bk}{e:Nat}(ht:abA 184 l e){j:Nat}{x:Bk}{o:Int}(hx:l[j]?=some x) (ho:(x.off:Int)=o) (hu:x.used=true):(aaY l o).map (aam l)=some x:=by
 have hxm:=List.mem_of_getElem? hx;obtain⟨i,h1,h2,h3⟩:=asK ht hxm;unfold aaY;rw[<-ho,h1];dsimp only;rw[h3,hu,if_pos rfl,Option.map_some,h3]
theorem akB{l:List Bk}{o:Int}(h:∀(i:Nat) (x:Bk),l[i]?=some x->¬((x.off:Int)=o/\x.used=true)):aaY l o=none:=by
 unfold aaY
 cases hi:atB o l with
 | none=>rfl
 | some i=>
  obtain⟨x,h1,h2⟩:=ab5 hi;dsimp only;rw[if_neg];intro hu;rw[aa9 h1]at hu;exact h i x h1 ⟨h2,hu⟩
theorem aeP{l:List Bk}{o:Int}{i:Nat}(h:aaY l o=some i):i<l.length/\((aam l i).off:Int)=o/\(aam l i).used=true:=by
 unfold aaY at h
 cases hi:atB o l with
 | none=>rw[hi]at h;cases h
 | some k=>
  rw[hi]at h;dsimp only at h;split at h
  · rename_i hu;injection h with h;subst h;obtain⟨x,h1,h2⟩:=ab5 hi;exact⟨abi h1,by rw[aa9 h1];exact h2,hu⟩
  · cases h
theorem ajk{B:Nat}{w w':World}(h:Below B w w'){b j:Nat}{v:Value}(hc:w.cell? ⟨b,j,none⟩=some v) (hb:b<B):w'.cell? ⟨b,j,none⟩=some v:=
 (h.cell (p:=⟨b,j,none⟩) hb).trans hc
theorem asg:avJ:=by
 intro w g base cap c A bs H o h hb hcap hc hR ho;obtain⟨l,hl⟩:=nmE H.blks;rw[hl];have hwk:=hR.walk;rw[hl]at hwk;have ht:=(aaj hwk).2.1;have hbl:=(hR.bound (by omega)).1;have hll:=ajR hwk;obtain⟨y,hy⟩:=nmE ((aaY l o).map (aam l));rw[hy];have HHIT:Hid (∀(j:Nat) (x:Bk),l[j]?=some x->(x.off:Int)=o->x.used=true->some x=y):=fun j x hx ho hu=>by rw[<-hy];exact(ajj ht hx ho hu).symm
 have HMISS:Hid ((∀(i:Nat) (x:Bk),l[i]?=some x->¬((x.off:Int)=o/\x.used=true))->none=y):=fun hm=>by rw[<-hy,akB hm];rfl
 obtain⟨w1,hw1⟩:=nmE (w.alloc (.cells #[.int .i64 0, .int .i64 0, .bool false] 112));have hb1:=abE hw1;have hn1:=anE hw1;have hW:=alR w1 g base cap c A bs _ (h.below hb1) hb hbl hwk;dsimp only[ac0,Option.isSome,Option.getD,aat]at hW;have HW:=hE0 hW;have HW1:=hE0 hw1;have HB1:=hE0 hb1;have HN1:=hE0 hn1;clear hW hw1 hb1 hn1 h hR hwk ht hy hl hb hcap hc;go_enter Tryz.func189,Tryz.ntmps189
 go_wp2_with fail
 rw[HW1.out]
 with_reducible refine HW.out.mono ?_
 rintro e w2 ⟨A2,c2,rfl,ho2,hb2⟩;have hcl:l.length<=c2/\c2<=9223372036854775807:=by
  rcases ho2.2 with⟨h',h0⟩ | ⟨_,_,_,h',_,_,h1,h2,_⟩
  · injection h' with _ _ e;rw[h0,e];omega
  · injection h' with _ _ e;unfold maxLen at h2;omega
 have HR:=hE0 (BkRd.of_own ho2);have HB2:=hE0 (HB1.out.trans (hb2.mono HB1.out.size));have HN2:=hE0 ((hb2.block w.heap.size (aae HN1.out)).trans HN1.out);clear ho2 hb2 HW HN1 HB1;go_wp2
 go_loopw [21] (fun t wr=>∃j:Nat,t= .int .i64 (j:Int)/\j<=l.length/\(∀(i:Nat) (x:Bk),i<j->l[i]?=some x->¬((x.off:Int)=o/\x.used=true))/\Below w2.heap.size w2 wr) (fun t _=>l.length-(intOf t).toNat)
 case atStart=>exact⟨0,rfl,Nat.zero_le _,fun i x hi=>absurd hi (Nat.not_lt_zero _),Below.refl _ _⟩
 case round=>
  obtain⟨j,rfl,hj,hno,hbe⟩:=hrel;have nl:=(hbe.block w.heap.size (aae HN2.out)).trans HN2.out;have hfin:=HB2.out.trans (hbe.mono HB2.out.size);by_cases hlt:j<l.length
  · obtain⟨x,hx⟩:∃x,l[j]?=some x:=⟨l[j],List.getElem?_eq_getElem hlt⟩;obtain⟨b2,q,rfl,hbb,hcl2⟩:=HR.out (by omega);obtain⟨p0,p1,p2⟩:=hcl2 j x hx;have r0:=ajk hbe p0 hbb;have r1:=ajk hbe p1 hbb;have r2:=ajk hbe p2 hbb;have HIT:=hE0 (HHIT.out j x hx);have HNO:Hid (¬((x.off:Int)=o/\x.used=true)->∀(i:Nat) (z:Bk),i<j+1->l[i]?=some z->¬((z.off:Int)=o/\z.used=true)):=fun hx2 i z hi hz=>by
     by_cases hij:i<j
     · exact hno i z hij hz
     · obtain rfl:i=j:=by omega
       rw[hx]at hz;injection hz with hz;rw[<-hz];exact hx2
    obtain⟨xo,xs,xu⟩:=x;dsimp only at p0 p1 p2 r0 r1 r2;obtain⟨w4,hw4⟩:=nmE (wr.alloc (.cells #[.int .i64 (xo:Int), .int .i64 (xs:Int), .bool xu] 112));have hb4:Below w2.heap.size w2 w4:=by rw[<-hw4];exact hbe.alloc hbe.size _
    have n4:=anE hw4;have nl4:w4.heap[w.heap.size]?=some (.cells #[.int .i64 0, .int .i64 0, .bool false] 112 (0,0)):=by rw[<-hw4];exact(heap_alloc_old _ _ (aae nl)).trans nl
    have hf4:Below w.heap.size w w4:=by rw[<-hw4];exact hfin.alloc hfin.size _
    obtain⟨⟨d0,d1,d2⟩,_⟩:=aad n4;have HW4:=hE0 hw4;have HB4:=hE0 hb4;have HF4:=hE0 hf4;have NL4:=hE0 nl4;have HNEQ:=hE0 (show wr.heap.size≠w.heap.size from fun e=>by have:=aae nl;omega);clear hx hbe p0 p1 p2 hb4 n4 hw4 hcl2 hno nl nl4 hf4 hfin;by_cases hxo:(xo:Int)=o
    · have e1:((xo:Int)==o)=true:=by rw[beq_iff_eq];exact hxo
      cases xu with
      | true=>
       obtain rfl:=HIT.out hxo rfl;obtain⟨⟨c0,c1,c2⟩,f0,f1,f2⟩:=aad NL4.out;have hlt4:=aac NL4.out;clear hxo HHIT HMISS HIT HNO;go_wp2_with (first | (rw[HW4.out]) | fail)
       (try simp only[Exit.inBlock,Exit.then])
       refine abP (x:= .nilIface) (g:=w.heap.size) (o:=(xo:Int)) (s:=(xs:Int)) (b:=true) Tryz.results189 ?_ ?_ ?_ ?_ ?_
       · rfl
       · rfl
       · rfl
       · exact aaJ NL4.out _ _ _
       · exact⟨rfl,((HF4.out.setCell (Nat.le_refl _) _).setCell (Nat.le_refl _) _).setCell (Nat.le_refl _) _⟩
      | false=>
       have HNO2:=hE0 (HNO.out (fun hh=>by cases hh.2));clear hxo HHIT HMISS HIT HNO;go_wp2_with (first | (rw[HW4.out]) | fail)
       go_roundw
       case rel=>exact⟨j+1,by go_num,by omega,HNO2.out,HB4.out⟩
       case measure=>simp only[intOf];omega
    · have e1:((xo:Int)==o)=false:=by rw[beq_eq_false_iff_ne];exact hxo
      have HNO2:=hE0 (HNO.out (fun hh=>hxo hh.1));clear hxo HHIT HMISS HIT HNO;go_wp2_with (first | (rw[HW4.out]) | fail)
      go_roundw
      case rel=>exact⟨j+1,by go_num,by omega,HNO2.out,HB4.out⟩
      case measure=>simp only[intOf];omega
  · obtain rfl:=HMISS.out (fun i x hx=>hno i x (by have:=abi hx;omega) hx);have NL:=hE0 nl;have HF:=hE0 hfin;obtain⟨⟨c0,c1,c2⟩,f0,f1,f2⟩:=aad NL.out;have hlt4:=aac NL.out;clear hno hbe nl hfin HHIT HMISS;go_wp2
    (try simp only[Exit.inBlock,Exit.then])
    refine abP (x:= .iface 130 (.int .i64 3)) (g:=w.heap.size) (o:=0) (s:=0) (b:=false) Tryz.results189 ?_ ?_ ?_ ?_ ?_
    · rfl
    · rfl
    · rfl
    · exact aaJ NL.out _ _ _
    · exact⟨rfl,((HF.out.setCell (Nat.le_refl _) _).setCell (Nat.le_refl _) _).setCell (Nat.le_refl _) _⟩
section
variable {w:World} {g base cap c:Nat} {A:Option Addr} {bs:List UInt8} {H:Hp}
theorem au9:avH:=by
 intro w g base cap c A bs H o h hb hcap hc hR ho;have hU:=asg w g base cap c A bs H o h hb hcap hc hR ho;have BC:=hE0 (show Became 195 g base cap A bs w w from⟨A,c,h,Tch.refl _ _, .inl rfl⟩)
 cases hi:aaY H.blks o with
 | none=>
  have e:H.giveO o=none:=by unfold Hp.giveO;rw[hi];rfl
  rw[e];rw[hi]at hU;dsimp only[aaA,bkV,Bk.val,Option.isSome,aat,Option.map]at hU;dsimp only[ac1,aat];have HU:=hE0 hU;clear hU hi e h hR;go_enter Tryz.func127,Tryz.ntmps127
  go_wp2_with fail
  with_reducible refine HU.out.mono ?_
  rintro e w2 ⟨rfl,hb2⟩;have HB2:=hE0 (hb2.alloc hb2.size (.cells #[.int .i64 0, .int .i64 0, .bool false] 112));clear hb2 HU;go_wp2
  go_ret
  exact⟨rfl,HB2.out⟩
 | some i=>
  obtain⟨h1,h2,h3⟩:=aeP hi;have e:H.giveO o=some (H.give i):=by unfold Hp.giveO;rw[hi];rfl
  rw[e];rw[hi]at hU;obtain⟨m1,m2⟩:=ae9 h1;obtain⟨A1,p,n,B1,eA,eB,hN⟩:=alv (H.blks.take i) (H.blks.drop (i+1));obtain⟨x,hx⟩:=nmE (aam H.blks i);rw[hx]at m1 h2 h3;have hm:Option.map (aam H.blks) (some i)=some x:=by rw[<-hx];rfl
  rw[hm]at hU;obtain⟨xo,xs,xu⟩:=x;dsimp only at h2 h3;subst h3;dsimp only[aaA,bkV,Bk.val,Option.isSome,aat]at hU;dsimp only[ac1,aat];have hbk:H.blks=(A1++p.toList)++⟨xo,xs,true⟩::(n.toList++B1):=by rw[<-eA,<-eB];exact m1
  have hlen:(A1++p.toList).length=i:=by rw[<-eA];exact m2
  have HG:=hE0 (fun w2 (hB:Became 195 g base cap A bs w w2)=>aqr hB hb hcap hc hR hbk hN);have HHELD:=hE0 (fun out hP=>hR.gave (by omega) hbk hN (out:=out) hP);rw[hlen]at HG HHELD;have HU:=hE0 hU;clear hU hi e h hR eA eB hN hbk m1 m2 hm hx h2;go_enter Tryz.func127,Tryz.ntmps127
  go_wp2_with fail
  with_reducible refine HU.out.mono ?_
  rintro e w2 ⟨rfl,hb2⟩;obtain⟨w3,hw3⟩:=nmE (w2.alloc (.cells #[.int .i64 (xo:Int), .int .i64 (xs:Int), .bool true] 112));have n3:=anE hw3;have hb3:Below w.heap.size w w3:=by rw[<-hw3];exact hb2.alloc hb2.size _
  have HG3:=hE0 (HG.out w3 (aaz BC.out hb3));obtain⟨⟨d0,d1,d2⟩,_⟩:=aad n3;have hlt3:=aac n3;have HW3:=hE0 hw3;clear hb2 HU HG BC hw3 n3 hb3;go_wp2_with (first | (rw[HW3.out]) | fail)
  refine HG3.out.mono ?_;clear d0 d1 d2 hlt3;rintro e w4 ⟨rfl,out,hB,hR,hP⟩;have HB:=hE0 hB;have HR:=hE0 hR;have HH:=hE0 (HHELD.out out hP);clear hB hR hP HG3 HHELD;go_wp2
  go_ret
  exact⟨rfl,out,HB.out,HR.out,HH.out⟩
theorem ava:avI:=by
 intro w g base cap c A bs H o s h hb hcap hc hR ho hsr;have hC:=ajX w s hsr;constructor
 · intro hs;have e:aaq s= -1:=by simp[aaq,hs]
   rw[e]at hC;dsimp only[aat];have HC:=hE0 hC;clear hC e hs h hR;go_enter Tryz.func191,Tryz.ntmps191
   go_wp2_with fail
   with_reducible refine HC.out.mono ?_
   rintro e w2 ⟨rfl,hb2⟩;have HB2:=hE0 hb2;clear hb2 HC;go_wp2
   go_ret
   exact⟨rfl,HB2.out⟩
 · intro hs;have hq:=(aab _).1 hs;obtain⟨n,rfl⟩:∃n:Nat,s=(n:Int):=⟨s.toNat,by omega⟩;rw[Int.toNat_natCast];obtain⟨k,hk,hk2⟩:=abq (x:=⟨0,n,false⟩) hs;have hk:aaq (n:Int)=(k:Int):=hk;rw[hk]at hC;have HC:=hE0 hC;have BC:=hE0 (show Became 195 g base cap A bs w w from⟨A,c,h,Tch.refl _ _, .inl rfl⟩);have HU:=hE0 (fun w1 (hB:Below w.heap.size w w1)=>asg w1 g base cap c A bs H o (h.below hB) hb hcap hc hR ho)
   cases hi:aaY H.blks o with
   | none=>
    have e:H.trimO o n=none:=by unfold Hp.trimO;rw[hi]
    rw[e];rw[hi]at HU;dsimp only[aaA,bkV,Bk.val,Option.isSome,aat,Option.map]at HU;dsimp only[ac1,aat];clear hC hi e h hR hk;go_enter Tryz.func191,Tryz.ntmps191
    go_wp2_with fail
    with_reducible refine HC.out.mono ?_
    rintro e w1 ⟨rfl,hb1⟩;have HU1:=hE0 (HU.out w1 hb1);have HB1:=hE0 hb1;clear hb1 HC HU;go_wp2_with fail
    with_reducible refine HU1.out.mono ?_
    rintro e w2 ⟨rfl,hb2⟩;have hb2':=HB1.out.trans (hb2.mono HB1.out.size);have HB2:=hE0 (hb2'.alloc hb2'.size (.cells #[.int .i64 0, .int .i64 0, .bool false] 112));clear hb2 hb2' HU1;go_wp2
    go_ret
    exact⟨rfl,HB2.out⟩
   | some i=>
    obtain⟨h1,h2,h3⟩:=aeP hi;rw[hi]at HU;obtain⟨m1,m2⟩:=ae9 h1;obtain⟨x,hx⟩:=nmE (aam H.blks i);rw[hx]at m1 h2 h3;have hm:Option.map (aam H.blks) (some i)=some x:=by rw[<-hx];rfl
    rw[hm]at HU;have hxb:=(hR.bound (by omega)).2 x (by rw[m1];simp);have hbl:=(hR.bound (by omega)).1;obtain⟨xo,xs,xu⟩:=x;dsimp only at h2 h3 hxb;subst h3;dsimp only[aaA,bkV,Bk.val,Option.isSome,aat]at HU;by_cases hlt:xs<n
    · have e:H.trimO o n=none:=by unfold Hp.trimO;rw[hi];dsimp only;rw[hx];dsimp only;rw[if_pos hlt]
      rw[e];dsimp only[ac1,aat];have e2:decide ((xs:Int)<(n:Int))=true:=decide_eq_true (by omega);clear hC hi e h hR hk m1 m2 hm hx h2;go_enter Tryz.func191,Tryz.ntmps191
      go_wp2_with fail
      with_reducible refine HC.out.mono ?_
      rintro e w1 ⟨rfl,hb1⟩;have HU1:=hE0 (HU.out w1 hb1);have HB1:=hE0 hb1;clear hb1 HC HU;go_wp2_with fail
      with_reducible refine HU1.out.mono ?_
      rintro e w2 ⟨rfl,hb2⟩;have hb2':=HB1.out.trans (hb2.mono HB1.out.size);have HB2:=hE0 (hb2'.alloc hb2'.size (.cells #[.int .i64 (xo:Int), .int .i64 (xs:Int), .bool true] 112));clear hb2 hb2' HU1;go_wp2
      go_ret
      exact⟨rfl,HB2.out⟩
    · have e:H.trimO o n=some (H.cut i n):=by unfold Hp.trimO;rw[hi];dsimp only;rw[hx];dsimp only;rw[if_neg hlt]
      rw[e];dsimp only[ac1,aat];have HG:=hE0 (fun w2 (hB:Became 195 g base cap A bs w w2)=>aqt hB hb hcap hc hR m1 hs (Nat.le_of_not_lt hlt));rw[m2]at HG;have e2:decide ((xs:Int)<(n:Int))=false:=decide_eq_false (by omega);clear hC hi e h hR hk m1 m2 hm hx h2;go_enter Tryz.func191,Tryz.ntmps191
      go_wp2_with fail
      with_reducible refine HC.out.mono ?_
      rintro e w1 ⟨rfl,hb1⟩;have HU1:=hE0 (HU.out w1 hb1);have HB1:=hE0 hb1;clear hb1 HC HU;go_wp2_with fail
      with_reducible refine HU1.out.mono ?_
      rintro e w2 ⟨rfl,hb2⟩;have hb2':=HB1.out.trans (hb2.mono HB1.out.size);obtain⟨w3,hw3⟩:=nmE (w2.alloc (.cells #[.int .i64 (xo:Int), .int .i64 (xs:Int), .bool true] 112));have n3:=anE hw3;have hb3:Below w.heap.size w w3:=by rw[<-hw3];exact hb2'.alloc hb2'.size _
      have HG3:=hE0 (HG.out w3 (aaz BC.out hb3));obtain⟨⟨d0,d1,d2⟩,_⟩:=aad n3;have hlt3:=aac n3;have HW3:=hE0 hw3;clear hb2 hb2' HU1 HG BC hw3 n3 hb3;go_wp2_with (first | (rw[HW3.out]) | fail)
      refine HG3.out.mono ?_;clear d0 d1 d2 hlt3;rintro e w4 ⟨rfl,out,hB,hR,hH,_⟩;have HB:=hE0 hB;have HR:=hE0 hR;have HH:=hE0 hH;clear hB hR hH HG3;go_wp2
      go_ret
      exact⟨rfl,out,HB.out,HR.out,HH.out⟩
end
end Go.Proofs.YtncadccbepjekaaGreatDoor
