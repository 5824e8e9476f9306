/- Texts of mine, joined. -/
import Derived.Great.BuildSlice
import Derived.Test.YthnfclimjmmckaaGreatDoorM5
set_option maxRecDepth 100000
set_option maxHeartbeats 2000000
namespace Go.Proofs.YthnfclimjmmckaaGreatDoor
open Go.RowKit
def asl (x:Nat × List Rk) (A:Option Addr):Value:=if x.1=0 then .tuple #[.slice A x.2.length x.2.length, .nilIface] else .tuple #[.slice none 0 0, .iface 90 (.int .i64 (x.1:Int))]
theorem apW{w:World}{g i k:Nat}{cs:Array Value}{t:TypeId}(hg:w.heap[g]?=some (.cells cs t (0,0))) (hs:cs.size=3*k) (hi:i<k):
 (∃y,w.cell? ⟨g,i*3,none⟩=some y)/\(∃y,w.cell? ⟨g,i*3+1,none⟩=some y)/\(∃y,w.cell? ⟨g,i*3+2,none⟩=some y)/\
 w.frozen? ⟨g,i*3,none⟩=false/\w.frozen? ⟨g,i*3+1,none⟩=false/\w.frozen? ⟨g,i*3+2,none⟩=false:=
 ⟨⟨_,(cell_of_row _ _ _ _ _ _ hg).trans (Array.getElem?_eq_getElem (by omega))⟩,⟨_,(cell_of_row _ _ _ _ _ _ hg).trans (Array.getElem?_eq_getElem (by omega))⟩,⟨_,(cell_of_row _ _ _ _ _ _ hg).trans (Array.getElem?_eq_getElem (by omega))⟩,
  frozen_of_row w g _ _ _ hg,frozen_of_row w g _ _ _ hg,frozen_of_row w g _ _ _ hg⟩
theorem an8{w:World}{g i:Nat}{cs:Array Value}{t:TypeId}(hg:w.heap[g]?=some (.cells cs t (0,0))) (x0 x1 x2:Value):
 (((w.setCell ⟨g,i*3,none⟩ x0).setCell ⟨g,i*3+1,none⟩ x1).setCell ⟨g,i*3+2,none⟩ x2).heap[g]?=some (.cells (((cs.setIfInBounds (i*3) x0).setIfInBounds (i*3+1) x1).setIfInBounds (i*3+2) x2) t (0,0)):=by
 have h1:=heap_setCell_same w g (i*3) _ _ x0 hg;have h2:=heap_setCell_same _ g (i*3+1) _ _ x1 h1;exact heap_setCell_same _ g (i*3+2) _ _ x2 h2
theorem ajq (w:World) (A:Option Addr) (n c B N k:Nat) (b:List UInt8) (hr:Rd w B A n b) (hBw:B<=w.heap.size) (hnc:n<=c) (hc:c<=9223372036854775807) (hn:n<=900000) (hN:ab3 (N:Int)=true) (hk:k<=1024):
 Calls Tryz.prog 244 #[.slice A n c, .int .i64 (N:Int), .int .i64 (k:Int)] w fun e w'=>∃A2,e= .returned (asl (abB b N k) A2)/\RkRd w' w'.heap.size A2 (abB b N k).2/\Below w.heap.size w w':=by
 have hbl:b.length=n:=hr.1;have HT:=hE0 (fun W (j:Nat) (hj:j<=1024)=>aie W j (by omega));have hT:=(HT.out w k hk);obtain⟨E,hE⟩:=nmE (28+k*8);rw[hE]at hT;have hEb:E<=10000:=by omega
 unfold abB;rw[hbl,show 32+8*k=E+4 from by omega,show 28+8*k=E from by omega];by_cases h1:n<E+4
 · rw[if_pos h1];have g1:decide (n<E+4)=true:=decide_eq_true h1;have g1':decide ((n:Int)<(E:Int)+4)=true:=decide_eq_true (by omega);clear HT hr hbl hE;go_enter Tryz.func244,Tryz.ntmps244
   go_wp2_with fail
   refine hT.mono ?_;rintro e w2 ⟨rfl,rfl⟩;go_wp2
   go_ret2
   exact⟨none,rfl,fun h=>absurd h (by simp),Below.refl _ _⟩
 rw[if_neg h1];have g1:decide (n<E+4)=false:=decide_eq_false h1;have g1':decide ((n:Int)<(E:Int)+4)=false:=decide_eq_false (by omega);obtain⟨sy,hsy⟩:∃y,aaS b 28 E=y:=⟨_,rfl⟩;have HS:=hE0 (acu w A n c B b 28 E hr hnc hc hn (by omega) (by omega) sy hsy);rw[hsy]
 cases sy with
 | false=>
  rw[if_pos rfl];clear HT hr hbl hE hsy;go_enter Tryz.func244,Tryz.ntmps244
  go_wp2_with fail
  refine hT.mono ?_;rintro e w2 ⟨rfl,rfl⟩;go_wp2_with fail
  refine HS.out.mono ?_;rintro e w2 ⟨rfl,rfl⟩;go_wp2
  go_ret2
  exact⟨none,rfl,fun h=>absurd h (by simp),Below.refl _ _⟩
 | true=>
  rw[if_neg (by simp)];obtain⟨r,hres⟩:=nmE (aq2 N (aaQ (b.drop 28) k 184));rw[hres];have HRES:=hE0 hres;clear hres;obtain⟨cs0,hs0,hmk⟩:=arK w k hk;obtain⟨w1,hw1⟩:=nmE (w.alloc (.cells cs0 132));have hb1:=abE hw1;have n1:=anE hw1;have HR:=hE0 ((hr.more hBw));have HN1:=hE0 n1;have HB1:=hE0 hb1;have HW1:=hE0 hw1;have HS0:=hE0 hs0;obtain⟨h184,h16,_⟩:=(aaN (N:Int)).1 hN;have HEE:=hE0 hE;clear hr hbl hsy hw1 hb1 n1 hN hE;go_enter Tryz.func244,Tryz.ntmps244
  go_wp2_with fail
  refine hT.mono ?_;rintro e w2 ⟨rfl,rfl⟩;go_wp2_with fail
  refine HS.out.mono ?_;rintro e w2 ⟨rfl,rfl⟩;go_wp2_with (first | (rw[HW1.out]) | fail)
  go_loopw [10,34] (fun o t wr=>∃(j:Nat) (l:List Rk) (cs:Array Value) (z:Nat),o= .int .i64 (z:Int)/\t= .int .i64 (j:Int)/\j<=k/\z=184+(l.map (·.s.toNat)).sum/\z<=184+20000*j/\aaQ (b.drop 28) j 184=some l/\wr.heap[w.heap.size]?=some (.cells cs 132 (0,0))/\cs.size=3*k/\RkC cs l/\Below w.heap.size w wr) (fun _ t _=>k-(intOf t).toNat)
  case atStart=>exact⟨0,[],cs0,184,rfl,rfl,Nat.zero_le _,rfl,by omega,rfl,HN1.out,HS0.out,fun j x hx=>by simp at hx,HB1.out⟩
  case round=>
   obtain⟨j,l,cs,z,rfl,rfl,hj,hz,hzb,hbk,hg,hsz,hrk,hb⟩:=hrel;have hll:=afC hbk;by_cases hlt:j<k
   · have hT2:=HT.out wr j (by omega);obtain⟨p,hp⟩:=nmE (28+j*8);rw[hp]at hT2;have hG:=adY A n c w.heap.size b p wr (HR.out.below hb) hnc (by omega) (by have:=HEE.out;omega);have hv:abC ((b.drop p).take 8)<18446744073709551616:=aaG _ (List.length_take_le _ _);have hsn:=aeJ hbk;rw[List.drop_drop,show 28+8*j=p from by omega]at hsn;obtain⟨v,hvv⟩:=nmE (abC ((b.drop p).take 8));rw[hvv]at hG hv hsn;have hU:=ack (w:=wr) v hv;obtain⟨un,hun⟩:=nmE (adT v);rw[hun]at hU hsn;have HG:=hE0 hG;have HU:=hE0 hU;have HT2:=hE0 hT2;have HSN:=hE0 hsn;have HB:=hE0 hb;have hp2:p<=10000:=by omega
     clear hG hU hT2 hsn hb hvv hv
     cases un with
     | none=>
      have HE0:Hid (aaQ (b.drop 28) k 184=none):=(show _=none by
       have h:=agE (j:=k-(j+1)) HSN.out;rw[show j+1+(k-(j+1))=k from by omega]at h;exact h)
      have HR3:Hid (r=(3,[])):=(show _=_ by rw[<-HRES.out,HE0.out];rfl);clear HSN hbk hg hsz hrk hz hll hun hp;unfold ann at HU;go_wp2_with fail
      refine HT2.out.mono ?_;rintro e w2 ⟨rfl,rfl⟩;go_wp2_with fail
      refine HG.out.mono ?_;rintro e w2 ⟨rfl,rfl⟩;go_wp2_with fail
      refine HU.out.mono ?_;rintro e w2 ⟨rfl,rfl⟩;go_wp2
      go_ret2
      exact⟨none,by rw[HR3.out];rfl,by rw[HR3.out];exact fun h=>absurd h (by simp),HB.out⟩
     | some x=>
      obtain⟨s,u⟩:=x;have hs3:=(aae _).1 (adi hun).1;have hsn:=HSN.out;dsimp only at hsn;rw[<-hz]at hsn;have HRK:=hE0 (hrk.snoc hsz (by omega) (z:Int) (s:Int) u (by omega) (by omega));have HGG:=hE0 (an8 (i:=j) hg (.int .i64 (z:Int)) (.int .i64 (s:Int)) (.bool u));obtain⟨⟨y0,c0⟩,⟨y1,c1⟩,⟨y2,c2⟩,f0,f1,f2⟩:=apW hg hsz hlt;rw[hll]at HRK;have HZ:Hid (((z+s:Nat))=184+((l++ [(⟨(z:Int),(s:Int),u⟩:Rk)]).map (·.s.toNat)).sum):=(show _=_ by
       simp[hz,Nat.add_assoc])
      have HSNN:=hE0 hsn;have HSZ:=hE0 hsz;have hgl:=aaa hg;have HBS:=hE0 (((HB.out.setCell (p:=⟨w.heap.size,j*3,none⟩) (Nat.le_refl _) (.int .i64 (z:Int))).setCell (p:=⟨w.heap.size,j*3+1,none⟩) (Nat.le_refl _) (.int .i64 (s:Int))).setCell (p:=⟨w.heap.size,j*3+2,none⟩) (Nat.le_refl _) (.bool u));clear HSN hbk hg hsz hrk hz hll hun hsn hp;unfold ann at HU;go_wp2_with fail
      refine HT2.out.mono ?_;rintro e w2 ⟨rfl,rfl⟩;go_wp2_with fail
      refine HG.out.mono ?_;rintro e w2 ⟨rfl,rfl⟩;go_wp2_with fail
      refine HU.out.mono ?_;rintro e w2 ⟨rfl,rfl⟩;go_wp2
      go_roundw
      case rel=>exact⟨j+1,_,_,z+s,by go_num,by go_num,by omega,HZ.out,by omega,HSNN.out,HGG.out,by simp[HSZ.out],HRK.out,HBS.out⟩
      case measure=>simp only[intOf];omega
   · have e:j=k:=by omega
     subst e;have hrd:=hrk.rd hg;have HRD:=hE0 hrd;obtain⟨y,hy⟩:=nmE (abe (N:Int) 184 false l);have HROW:=hE0 (ajf wr (some ⟨w.heap.size,0,none⟩) j l hrd (by omega) (N:Int) ⟨h184,h16⟩ y hy);rw[hll]at HROW;have HB:=hE0 hb;have hres:=HRES.out;rw[hbk]at hres;unfold aq2 at hres;dsimp only at hres;rw[hy]at hres;have HR3:=hE0 hres;clear hres;have HLL:=hE0 hll;clear hrd hy hb hbk hrk hg hsz hz hll
     cases y with
     | false=>
      go_wp2_with fail
      refine HROW.out.mono ?_;rintro e w3 ⟨rfl,hb3⟩;have HF:=hE0 (HB.out.trans (hb3.mono HB.out.size));clear hb3;go_wp2
      go_ret2
      have e:r=(3,[]):=by rw[<-HR3.out];rfl
      exact⟨none,by rw[e];rfl,by rw[e];exact fun h=>absurd h (by simp),HF.out⟩
     | true=>
      go_wp2_with fail
      refine HROW.out.mono ?_;rintro e w3 ⟨rfl,hb3⟩;have HF:=hE0 (HB.out.trans (hb3.mono HB.out.size));have HRF:=hE0 ((HRD.out.below hb3).more hb3.size);clear hb3;go_wp2
      go_ret2
      have e:r=(0,l):=by rw[<-HR3.out];rfl
      exact⟨some ⟨w.heap.size,0,none⟩,by rw[e];unfold asl;rw[if_pos rfl];dsimp only;rw[HLL.out];rfl,by rw[e];exact HRF.out,HF.out⟩
def asA (x:Nat × List (List UInt8)) (A:Option Addr) (c:Nat):Value:=if x.1=0 then .tuple #[.slice A x.2.length c, .nilIface] else .tuple #[.slice none 0 0, .iface 90 (.int .i64 (x.1:Int))]
theorem ail:∀{l:List Rk},(∀x∈l,aa3 x.s=true)->aaK l<=20000*l.length
 | [],_=>Nat.le_refl _
 | x::l,h=>by
  have h1:=ail fun y hy=>h y (List.mem_cons_of_mem _ hy);have h2:=(aae _).1 (h x List.mem_cons_self);unfold aaK;rw[List.length_cons];split<;>omega
theorem aim{s:Int}(h:aa3 s=true):∃q:Nat,s=((q+16:Nat):Int)/\s.toNat-16=q/\q<=20000:=by
 have h2:=(aae _).1 h;exact⟨s.toNat-16,by omega,rfl,by omega⟩
theorem amv (w:World) (A A2:Option Addr) (n c B k2:Nat) (b:List UInt8) (l:List Rk) (hr:Rd w B A n b) (hnc:n<=c) (hc:c<=9223372036854775807) (hn:n<=900000) (hl:RkRd w w.heap.size A2 l) (hBw:B<=w.heap.size) (hll:l.length<=1024) (hs:∀x∈l,aa3 x.s=true) (hbad:(adV b l).1≠0):
 Calls Tryz.prog 245 #[.slice A n c, .slice A2 l.length k2] w fun e w'=>e= .returned (asA (adV b l) none 0)/\(adV b l).2= []/\Below w.heap.size w w':=by
 have hbl:b.length=n:=hr.1;have hh:=ail hs;obtain⟨D,hD⟩:=nmE (adV b l);rw[hD]at hbad ⊢;unfold adV at hD;rw[hbl]at hD;obtain⟨m,hm⟩:=nmE l.length;rw[hm]at hll hh hD ⊢;obtain⟨E,hE⟩:=nmE (28+m*8);obtain⟨T,hT⟩:=nmE (E+4+aaK l);have hTE:E+4<=T:=by omega
 rw[show 32+8*m=E+4 from by omega,hT]at hD;have HT:=aie w m (by omega);rw[hE]at HT;have HTT:=hE0 HT;have HR:=hE0 (hr.more hBw);have HL:=hE0 hl;have HSZ:=hE0 hs;have HM:=hE0 hm;have HTL:=hE0 hT;have hEb:E<=10000:=by omega
 have hTb:T<=30000000:=by omega
 have HDD:=hE0 hD;clear hr hl hs hm hT HT hD hE hh hbl;go_enter Tryz.func245,Tryz.ntmps245
 go_wp2_with fail
 refine HTT.out.mono ?_;rintro e w2 ⟨rfl,rfl⟩;go_wp2_with fail
 go_loopw [7,20] (fun o t wr=>∃(j z:Nat),o= .int .i64 (z:Int)/\t= .int .i64 (j:Int)/\j<=m/\z+aaK (l.drop j)=T/\Below w.heap.size w wr) (fun _ t _=>m-(intOf t).toNat)
 case atStart=>exact⟨0,E+4,by go_num,rfl,Nat.zero_le _,HTL.out,Below.refl _ _⟩
 case round=>
  obtain⟨j,z,rfl,rfl,hj,hz,hb⟩:=hrel;have hzT:z<=T:=by omega
  by_cases hlt:j<m
  · obtain⟨x,hx⟩:∃x,l[j]?=some x:=⟨l[j]'(by rw[HM.out];exact hlt),List.getElem?_eq_getElem _⟩;obtain⟨b2,o,rfl,hbb,hcl⟩:=HL.out (by rw[HM.out];omega);obtain⟨p0,p1,p2,hxo,hxs⟩:=hcl j x hx;have r0:=(hb.cell (p:=⟨b2,o+j*3,none⟩) hbb).trans p0;have r1:=(hb.cell (p:=⟨b2,o+j*3+1,none⟩) hbb).trans p1;have r2:=(hb.cell (p:=⟨b2,o+j*3+2,none⟩) hbb).trans p2;have hsx:=HSZ.out x (List.mem_of_getElem? hx);rw[acC hx]at hz;unfold aaK at hz;obtain⟨xo,xs,xu⟩:=x;dsimp only at p0 p1 p2 r0 r1 r2 hz hxo hxs hsx;obtain⟨q,hq1,hq2,hq3⟩:=aim hsx;have hxb:16<=xs/\xs<=20016:=by omega
    rw[hq2]at hz;obtain⟨w4,hw4⟩:=nmE (wr.alloc (.cells #[.int .i64 xo, .int .i64 xs, .bool xu] 132));have hb4:Below w.heap.size w w4:=by rw[<-hw4];exact hb.alloc hb.size _
    have n4:=anE hw4;obtain⟨d0,d1,d2⟩:=aac n4;have hl4:=aaa n4;have HHELD:=hE0 (adq w4 xo xs xu hsx);have HW4:=hE0 hw4;have HB4:=hE0 hb4;have HZ:=hE0 hz;clear hx hb p0 p1 p2 hb4 n4 hw4 hcl hz
    cases xu with
    | false=>
     have HF:Hid (z+aaK (l.drop (j+1))=T):=(show _=T by have:=HZ.out;simpa using this);clear hq1 hq2;go_wp2_with (first | (rw[HW4.out]) | fail)
     go_roundw
     case rel=>exact⟨j+1,z,rfl,by go_num,by omega,HF.out,HB4.out⟩
     case measure=>simp only[intOf];omega
    | true=>
     have HF:Hid (z+q+aaK (l.drop (j+1))=T):=(show _=T by have:=HZ.out;rw[if_pos rfl]at this;omega);have HQ:=hE0 hq1;clear hq1 hq2;go_wp2_with (first | (rw[HW4.out]) | fail)
     refine HHELD.out.mono ?_;rintro e w5 ⟨rfl,hb5⟩;have HB5:=hE0 (HB4.out.trans (hb5.mono HB4.out.size));clear hb5;go_wp2_with fail
     go_roundw
     case rel=>exact⟨j+1,z+q,by have:=HQ.out;go_num,by go_num,by omega,HF.out,HB5.out⟩
     case measure=>simp only[intOf];omega
  · have hd:l.drop j= []:=List.drop_eq_nil_of_le (by rw[HM.out];omega);rw[hd]at hz;have hz2:z=T:=hz;subst hz2;have HB:=hE0 hb;have hR:=HR.out.below hb;have hDD:=HDD.out;clear hb hz hd;by_cases h1:n≠z+8
    · rw[if_pos h1]at hDD;have g1:((n:Int) !=(z:Int)+8)=true:=by rw[bne_iff_ne];omega
      have HD3:=hE0 hDD;clear hDD hR;go_wp2
      go_ret2
      exact⟨by rw[<-HD3.out];rfl,by rw[<-HD3.out],HB.out⟩
    · rw[if_neg h1]at hDD;have h1':n=z+8:=Decidable.byContradiction h1;have g1:((n:Int) !=(z:Int)+8)=false:=by rw[bne_eq_false_iff_eq];omega
      obtain⟨y1,hy1⟩:∃y,aaS b (E+4) z=y:=⟨_,rfl⟩;obtain⟨y2,hy2⟩:∃y,aaS b 0 (z+4)=y:=⟨_,rfl⟩;rw[hy1,hy2]at hDD;have HS1:=hE0 (acu wr A n c w.heap.size b (E+4) z hR hnc hc hn (by omega) (by omega) y1 hy1);have HS2:=hE0 (acu wr A n c w.heap.size b 0 (z+4) hR hnc hc hn (by omega) (by omega) y2 hy2);rw[show((E+4:Nat):Int)=(E:Int)+4 from by omega]at HS1;rw[show((z+4:Nat):Int)=(z:Int)+4 from by omega]at HS2;have HD3:=hE0 hDD;clear hDD hR hy1 hy2 h1 h1'
      cases y1 with
      | false=>
       go_wp2_with fail
       refine HS1.out.mono ?_;rintro e w5 ⟨rfl,rfl⟩;go_wp2
       go_ret2
       exact⟨by rw[<-HD3.out];rfl,by rw[<-HD3.out];rfl,HB.out⟩
      | true=>
       cases y2 with
       | false=>
        go_wp2_with fail
        refine HS1.out.mono ?_;rintro e w5 ⟨rfl,rfl⟩;go_wp2_with fail
        refine HS2.out.mono ?_;rintro e w5 ⟨rfl,rfl⟩;go_wp2
        go_ret2
        exact⟨by rw[<-HD3.out];rfl,by rw[<-HD3.out];rfl,HB.out⟩
       | true=>
        exact absurd (by rw[<-HD3.out];rfl) hbad
theorem an9 (w:World) (A A2:Option Addr) (n c B k2:Nat) (b:List UInt8) (l:List Rk) (hr:Rd w B A n b) (hnc:n<=c) (hc:c<=9223372036854775807) (hn:n<=900000) (hl:RkRd w w.heap.size A2 l) (hBw:B<=w.heap.size) (hll:l.length<=1024) (hs:∀x∈l,aa3 x.s=true) (hbad:(adV b l).1=0):
 Calls Tryz.prog 245 #[.slice A n c, .slice A2 l.length k2] w fun e w'=>∃A3 c3,e= .returned (asA (adV b l) A3 c3)/\(∃xs,w'.ownsRow w.heap.size 37 1 (.slice A3 (adV b l).2.length c3) (adV b l).2.length xs/\DtO w' (adV b l).2 xs)/\Below w.heap.size w w':=by
 have hbl:b.length=n:=hr.1;have hh:=ail hs;obtain⟨D,hD⟩:=nmE (adV b l);rw[hD]at hbad ⊢;unfold adV at hD;rw[hbl]at hD;obtain⟨m,hm⟩:=nmE l.length;rw[hm]at hll hh hD ⊢;obtain⟨E,hE⟩:=nmE (28+m*8);obtain⟨T,hT⟩:=nmE (E+4+aaK l);have hTE:E+4<=T:=by omega
 rw[show 32+8*m=E+4 from by omega,hT]at hD;have HT:=aie w m (by omega);rw[hE]at HT;have HTT:=hE0 HT;have HR:=hE0 (hr.more hBw);have HL:=hE0 hl;have HSZ:=hE0 hs;have HM:=hE0 hm;have HTL:=hE0 hT;have hEb:E<=10000:=by omega
 have hTb:T<=30000000:=by omega
 have HDD:=hE0 hD;clear hr hl hs hm hT HT hD hE hh hbl;go_enter Tryz.func245,Tryz.ntmps245
 go_wp2_with fail
 refine HTT.out.mono ?_;rintro e w2 ⟨rfl,rfl⟩;go_wp2_with fail
 go_loopw [7,20] (fun o t wr=>∃(j z:Nat),o= .int .i64 (z:Int)/\t= .int .i64 (j:Int)/\j<=m/\z+aaK (l.drop j)=T/\Below w.heap.size w wr) (fun _ t _=>m-(intOf t).toNat)
 case atStart=>exact⟨0,E+4,by go_num,rfl,Nat.zero_le _,HTL.out,Below.refl _ _⟩
 case round=>
  obtain⟨j,z,rfl,rfl,hj,hz,hb⟩:=hrel;have hzT:z<=T:=by omega
  by_cases hlt:j<m
  · obtain⟨x,hx⟩:∃x,l[j]?=some x:=⟨l[j]'(by rw[HM.out];exact hlt),List.getElem?_eq_getElem _⟩;obtain⟨b2,o,rfl,hbb,hcl⟩:=HL.out (by rw[HM.out];omega);obtain⟨p0,p1,p2,hxo,hxs⟩:=hcl j x hx;have r0:=(hb.cell (p:=⟨b2,o+j*3,none⟩) hbb).trans p0;have r1:=(hb.cell (p:=⟨b2,o+j*3+1,none⟩) hbb).trans p1;have r2:=(hb.cell (p:=⟨b2,o+j*3+2,none⟩) hbb).trans p2;have hsx:=HSZ.out x (List.mem_of_getElem? hx);rw[acC hx]at hz;unfold aaK at hz;obtain⟨xo,xs,xu⟩:=x;dsimp only at p0 p1 p2 r0 r1 r2 hz hxo hxs hsx;obtain⟨q,hq1,hq2,hq3⟩:=aim hsx;have hxb:16<=xs/\xs<=20016:=by omega
    rw[hq2]at hz;obtain⟨w4,hw4⟩:=nmE (wr.alloc (.cells #[.int .i64 xo, .int .i64 xs, .bool xu] 132));have hb4:Below w.heap.size w w4:=by rw[<-hw4];exact hb.alloc hb.size _
    have n4:=anE hw4;obtain⟨d0,d1,d2⟩:=aac n4;have hl4:=aaa n4;have HHELD:=hE0 (adq w4 xo xs xu hsx);have HW4:=hE0 hw4;have HB4:=hE0 hb4;have HZ:=hE0 hz;clear hx hb p0 p1 p2 hb4 n4 hw4 hcl hz
    cases xu with
    | false=>
     have HF:Hid (z+aaK (l.drop (j+1))=T):=(show _=T by have:=HZ.out;simpa using this);clear hq1 hq2;go_wp2_with (first | (rw[HW4.out]) | fail)
     go_roundw
     case rel=>exact⟨j+1,z,rfl,by go_num,by omega,HF.out,HB4.out⟩
     case measure=>simp only[intOf];omega
    | true=>
     have HF:Hid (z+q+aaK (l.drop (j+1))=T):=(show _=T by have:=HZ.out;rw[if_pos rfl]at this;omega);have HQ:=hE0 hq1;clear hq1 hq2;go_wp2_with (first | (rw[HW4.out]) | fail)
     refine HHELD.out.mono ?_;rintro e w5 ⟨rfl,hb5⟩;have HB5:=hE0 (HB4.out.trans (hb5.mono HB4.out.size));clear hb5;go_wp2_with fail
     go_roundw
     case rel=>exact⟨j+1,z+q,by have:=HQ.out;go_num,by go_num,by omega,HF.out,HB5.out⟩
     case measure=>simp only[intOf];omega
  · have hd:l.drop j= []:=List.drop_eq_nil_of_le (by rw[HM.out];omega);rw[hd]at hz;have hz2:z=T:=hz;subst hz2;have HB:=hE0 hb;have hR:=HR.out.below hb;have hDD:=HDD.out;clear hb hz hd;have h1:n=z+8:=by
     refine Decidable.byContradiction fun h=> ?_;rw[if_pos h]at hDD;rw[<-hDD]at hbad;exact absurd hbad (by decide)
    rw[if_neg (fun h=>h h1)]at hDD;have g1:((n:Int) !=(z:Int)+8)=false:=by rw[bne_eq_false_iff_eq];omega
    have hy1:aaS b (E+4) z=true:=by
     cases h:aaS b (E+4) z with
     | true=>rfl
     | false=>
      rw[h,if_pos rfl]at hDD;rw[<-hDD]at hbad;exact absurd hbad (by decide)
    rw[if_neg (by rw[hy1];simp)]at hDD;have hy2:aaS b 0 (z+4)=true:=by
     cases h:aaS b 0 (z+4)with
     | true=>rfl
     | false=>
      rw[h,if_pos rfl]at hDD;rw[<-hDD]at hbad;exact absurd hbad (by decide)
    rw[if_neg (by rw[hy2];simp)]at hDD;have HS1:=hE0 (acu wr A n c w.heap.size b (E+4) z hR hnc hc hn (by omega) (by omega) true hy1);have HS2:=hE0 (acu wr A n c w.heap.size b 0 (z+4) hR hnc hc hn (by omega) (by omega) true hy2);rw[show((E+4:Nat):Int)=(E:Int)+4 from by omega]at HS1;rw[show((z+4:Nat):Int)=(z:Int)+4 from by omega]at HS2;obtain⟨F,hF⟩:=nmE (ae8 l (b.drop (E+4)));rw[hF]at hDD;have HD3:=hE0 hDD;have HFF:=hE0 hF;have HTL2:=hE0 HTL.out;have hzn:z+8<=n:=by omega
    have hEz:E+4<=z:=hTE;obtain⟨g,off,rfl,hgB,_⟩:=HR.out.2 (by omega);clear hDD hR hy1 hy2 h1 hbad HTL hF;go_wp2_with fail
    refine HS1.out.mono ?_;rintro e w5 ⟨rfl,rfl⟩;go_wp2_with fail
    refine HS2.out.mono ?_;rintro e w5 ⟨rfl,rfl⟩;go_wp2_with fail
    have HBr:=HB;clear HB HS1 HS2 HTT;go_loopw [6,10,52] (fun o v t W=>∃(j p:Nat) (d:List (List UInt8)) (xs:List Value) (A3:Option Addr) (c3:Nat),o= .int .i64 (p:Int)/\v= .slice A3 d.length c3/\t= .int .i64 (j:Int)/\j<=m/\E+4<=p/\p+aaK (l.drop j)=z/\d++ae8 (l.drop j) (b.drop p)=F/\W.ownsRow w.heap.size 37 1 (.slice A3 d.length c3) d.length xs/\DtO W d xs/\d.length<=j/\Below w.heap.size w W) (fun _ _ t _=>m-(intOf t).toNat)
    case atStart=>exact⟨0,E+4,[],[],none,0,by go_num,rfl,rfl,Nat.zero_le _,Nat.le_refl _,HTL2.out,HFF.out,World.ownsRow_nil _ _ _ _,fun i y h=>by simp at h,Nat.le_refl _,HBr.out⟩
    case round=>
     obtain⟨j,p,d,xs,A3,c3,rfl,rfl,rfl,hj,hp,hpz,hcut,hown,hdo,hdl,hb⟩:=hrel;by_cases hlt:j<m
     · obtain⟨x,hx⟩:∃x,l[j]?=some x:=⟨l[j]'(by rw[HM.out];exact hlt),List.getElem?_eq_getElem _⟩;obtain⟨b2,o,rfl,hbb,hcl⟩:=HL.out (by rw[HM.out];omega);obtain⟨p0,p1,p2,hxo,hxs⟩:=hcl j x hx;have r0:=(hb.cell (p:=⟨b2,o+j*3,none⟩) hbb).trans p0;have r1:=(hb.cell (p:=⟨b2,o+j*3+1,none⟩) hbb).trans p1;have r2:=(hb.cell (p:=⟨b2,o+j*3+2,none⟩) hbb).trans p2;have hsx:=HSZ.out x (List.mem_of_getElem? hx);rw[acC hx]at hpz hcut;unfold aaK at hpz;unfold ae8 at hcut;obtain⟨xo,xs',xu⟩:=x;dsimp only at p0 p1 p2 r0 r1 r2 hpz hxo hxs hsx hcut;obtain⟨q,hq1,hq2,hq3⟩:=aim hsx;have hxb:16<=xs'/\xs'<=20016:=by omega
       rw[hq2]at hpz hcut;obtain⟨w4,hw4⟩:=nmE (wr.alloc (.cells #[.int .i64 xo, .int .i64 xs', .bool xu] 132));have hb04:=abE hw4;have hb4:Below w.heap.size w w4:=hb.trans (hb04.mono hb.size);have n4:=anE hw4;obtain⟨d0,d1,d2⟩:=aac n4;have hl4:=aaa n4;have hown4:=aaO hown hb04 (abl hown);have hdo4:DtO w4 d xs:=by rw[<-hw4];exact hdo.grown (World.grownBy_alloc wr _ none) (fun k h=>by cases h)
       have HW4:=hE0 hw4;have HN4:=hE0 n4;have HB4:=hE0 hb4;have HO4:=hE0 hown4;have HD4:=hE0 hdo4;clear hx hb p0 p1 p2 hb4 hb04 n4 hw4 hcl hown hdo hown4 hdo4
       cases xu with
       | false=>
        have HF:Hid (p+aaK (l.drop (j+1))=z):=(show _=z by simpa using hpz);have HC:Hid (d++ae8 (l.drop (j+1)) (b.drop p)=F):=(show _=_ by simpa using hcut);clear hq1 hq2 hpz hcut;go_wp2_with (first | (rw[HW4.out]) | fail)
        go_roundw
        case rel=>exact⟨j+1,p,d,xs,A3,c3,rfl,rfl,by go_num,by omega,hp,HF.out,HC.out,HO4.out,HD4.out,by omega,HB4.out⟩
        case measure=>simp only[intOf];omega
       | true=>
        rw[if_pos rfl]at hpz hcut;have hpq:p+q<=z:=by omega
        have HF:Hid (p+q+aaK (l.drop (j+1))=z):=(show _=z by omega);have HC:Hid ((d++ [(b.drop p).take q])++ae8 (l.drop (j+1)) (b.drop (p+q))=F):=(show _=_ by
         rw[<-hcut,List.append_assoc,List.drop_drop];rfl)
        have hyl:((b.drop p).take q).length=q:=(HR.out.sub p q (by omega)).1;obtain⟨y,hy⟩:=nmE ((b.drop p).take q);rw[hy]at HC hyl;have HHELD:=hE0 (fun(V:World)=>adq V xo xs' true hsx);rw[show xs'-16=(q:Int) from by omega]at HHELD;have hcl:∀V:World,Below w.heap.size w V->Calls Tryz.prog 70 #[.slice (some ⟨g,off+p,none⟩) q (c-p)] V fun e w'=>aeT y V e w':=fun V hV=>by
         have h:=HR.out.sub p q (by omega);rw[hy]at h;have h2:=aby (some ⟨g,off+p,none⟩) (c-p) w.heap.size y V (by rw[hyl];exact h.below hV) hV.size (fun e=>by cases e) (by omega);rw[hyl]at h2;exact h2
        have HCL:=hE0 hcl;have HYL:=hE0 hyl;have hg1:(p:Int)<(c:Int):=by omega
        have hg2:(p:Int)+(q:Int)<=(c:Int):=by omega
        obtain⟨i0,hi,hz0,hz1,hz2⟩:=info_parts ajh;clear hq1 hq2 hpz hcut hy hcl hyl;go_wp2_with (first | (rw[HW4.out]) | fail)
        refine(HHELD.out w4).mono ?_;rintro e w5 ⟨rfl,hb5⟩;have HN5:=hE0 ((hb5.block _ (aaa HN4.out)).trans HN4.out);have HB5:=hE0 (HB4.out.trans (hb5.mono HB4.out.size));have HO5:=hE0 (aaO HO4.out hb5 (abl HO4.out));have HD5:=hE0 (HD4.out.stay hb5);clear hb5 d0 d1 d2 hl4;go_wp2_with fail
        refine(HCL.out w5 HB5.out).mono ?_;rintro e w6 ⟨A6,k6,rfl,ho6,hb6⟩;rw[HYL.out]at ho6 ⊢;have hO6:=aaO HO5.out hb6 (abl HO5.out);have hD6:=HD5.out.stay hb6;have n6:=(hb6.block _ (aaa HN5.out)).trans HN5.out;have hB6:=HB5.out.trans (hb6.mono HB5.out.size);obtain⟨w7,hw7⟩:=nmE (w6.alloc (.cells #[.slice A6 q k6] 37));have hb7:=abE hw7;have n7:=anE hw7;have m7:=(hb7.block _ (aaa n6)).trans n6;have hO7:=aaO hO6 hb7 (abl hO6);have hD7:=hD6.stay hb7;have ho7:=aaO ho6 hb7 (abl ho6);have hB7:=hB6.trans (hb7.mono hB6.size);have hlx:xs.length=d.length:=by have:=hO7.1;omega
        have hrow:=aif hO7;have HRUN:=hE0 (fun V:World=>ad9 V A6 q k6);have HW7:=hE0 hw7;have HNEW:Hid (∀j u,[Value.slice A6 q k6][j]?=some u->w7.cell? ((⟨w6.heap.size,0,none⟩:Addr).add j)=some u):=fun j u hu=>by
         have e:(⟨w6.heap.size,0,none⟩:Addr).add j=⟨w6.heap.size,j,none⟩:=by unfold Addr.add;split<;>simp_all
         rw[e,cell_of_row w7 _ j _ _ (0,0) n7];simpa using hu
        have HONE:Hid (∀u∈ [Value.slice A6 q k6],u.oneCell'=true):=fun u hu=>by
         simp at hu;rcases hu with rfl;rfl
        have hB7s:w.heap.size<=w7.heap.size:=hB7.size;have HO7:=hE0 hO7;have HD7:=hE0 hD7;have Ho7:=hE0 ho7;have HB7:=hE0 hB7;have HN7:=hE0 m7;have HROW:=hE0 hrow;have HLX:=hE0 hlx;have HGE:=hE0 (abS hO7);have hdb:d.length<=2000:=by omega
        have hne:∀k,(Value.slice A3 d.length c3).ownBlock=some k->k≠wr.heap.size:=fun k hk e=>by
         obtain⟨cs,fz,h⟩:=hrow k hk;rw[e,m7]at h;injection h with h;injection h with _ h _;exact absurd h (by decide)
        have HNE:=hE0 hne;have hl7:=aaa m7;clear ho6 hb6 hO6 hD6 n6 hB6 hw7 hb7 n7 m7 hO7 hD7 ho7 hB7 hlx hrow hne HCL;go_wp2_with (first
         | (rw[HRUN.out])
         | (rw[HW7.out])
         | (at_builtin;go_must (refine wpList_append_own _ rfl _ _ 57 rfl w.heap.size 37 i0 _ 1 24 Tryz.underlying57 hi hz0 hz1 hz2 rfl (by decide) _ d.length xs rfl HO7.out ⟨w6.heap.size,0,none⟩ 1 1 [.slice A6 q k6] rfl rfl HNEW.out HONE.out (by unfold maxLen;omega) (by omega) hB7s ?_);intro x8 w8 own8 gr8 at8
            have gr8':w7.grownBy w8 (Value.slice A3 d.length c3).ownBlock:=gr8;have e8:=(gr8'.block _ hl7 (fun e=>HNE.out _ e.symm rfl)).trans HN7.out;obtain⟨c80,c81,c82⟩:=aac e8;have hl8:=aaa e8;have HB8:Hid (Below w.heap.size w w8):=HB7.out.grown gr8' hB7s (fun k hk=>HGE.out k hk);have OWN8:Hid (w8.ownsRow w.heap.size 37 1 x8 (d.length+1) (xs++ [.slice A6 q k6])):=own8;have Ho8:Hid (w8.ownsRow w5.heap.size 5 1 (.slice A6 q k6) q (y.map bv)):=aa0 Ho7.out gr8' (fun k hk hrk=>by obtain⟨cs,fz,h⟩:=HROW.out k hrk;exact abi Ho7.out hk h (by decide));have HD8:Hid (DtO w8 d xs):=HD7.out.grown gr8' (fun k hk=>by obtain⟨cs,fz,h⟩:=HROW.out k hk;exact⟨cs,_,fz,by decide,h⟩);clear own8 gr8 gr8' at8 e8)
         | fail)
        refine(HHELD.out w8).mono ?_;rintro e w9 ⟨rfl,hb9⟩;obtain⟨A8,c8,rfl,_⟩:=aaU OWN8.out;have HO9:=hE0 (aaO OWN8.out hb9 (abl OWN8.out));have Ho9:=aaY (aaO Ho8.out hb9 (abl Ho8.out)) (Nat.zero_le _);have HD9:=HD8.out.stay hb9;have HB9:=hE0 (HB8.out.trans (hb9.mono HB8.out.size));have HDS:Hid (DtO w9 (d++ [y]) (xs++ [.slice A6 q k6])):=(show DtO _ _ _ by
         have e:=HYL.out;subst e;exact HD9.snoc HLX.out (by omega) Ho9)
        clear Ho9 HD9 hb9;go_wp2_with fail
        go_roundw
        case rel=>exact⟨j+1,p+q,d++ [y],_,A8,c8,by go_num,by rw[List.length_append,List.length_singleton],by go_num,by omega,by omega,HF.out,HC.out,by rw[List.length_append,List.length_singleton];exact HO9.out,HDS.out,by rw[List.length_append,List.length_singleton];omega,HB9.out⟩
        case measure=>simp only[intOf];omega
     · have hd:l.drop j= []:=List.drop_eq_nil_of_le (by rw[HM.out];omega);rw[hd]at hcut;have hcut2:d=F:=by
        have:ae8 [] (b.drop p)= []:=by unfold ae8;rfl
        rw[this,List.append_nil]at hcut;exact hcut
       have HE:Hid (D=(0,d)):=(show D=(0,d) by rw[<-HD3.out,hcut2]);have HRD:=hE0 (And.intro hown hdo);have HBF:=hE0 hb;clear hcut hcut2 hd hown hdo hb;go_wp2
       go_ret2
       exact⟨A3,c3,by rw[HE.out];rfl,by rw[HE.out];exact⟨xs,HRD.out⟩,HBF.out⟩
def acO (b:List UInt8):Nat × Nat × List Rk × List (List UInt8):=
 if acE b≠0 then (acE b,0,[],[])
 else if (abB b (abH b) (abU b)).1≠0 then ((abB b (abH b) (abU b)).1,0,[],[])
 else if (adV b (abB b (abH b) (abU b)).2).1≠0 then ((adV b (abB b (abH b) (abU b)).2).1,0,[],[])
 else (0,abH b,(abB b (abH b) (abU b)).2,(adV b (abB b (abH b) (abU b)).2).2)
def ag8 (c:Nat):Value:=if c=0 then .nilIface else .iface 90 (.int .i64 (c:Int))
theorem alr{b:List UInt8}(h:acE b=0):ab3 (abH b:Int)=true/\abU b<=1024:=by
 unfold acE at h;split at h
 · cases h
 split at h
 · cases h
 split at h
 · cases h
 split at h
 · cases h
 rename_i h1;split at h
 · cases h
 rename_i h2;exact⟨by cases e:ab3 (abH b:Int)<;>simp_all,Nat.le_of_not_lt h2⟩
theorem als{b:List UInt8}{n k:Nat}(h:(abB b n k).1=0):(abB b n k).2.length=k/\∀x∈(abB b n k).2,aa3 x.s=true:=by
 unfold abB at h ⊢;split
 · rename_i h1;rw[if_pos h1]at h;cases h
 rename_i h1;rw[if_neg h1]at h;split
 · rename_i h2;rw[if_pos h2]at h;cases h
 rename_i h2;rw[if_neg h2]at h
 cases e:aaQ (b.drop 28) k 184 with
 | none=>rw[e]at h;cases h
 | some l=>
  rw[e]at h;unfold aq2 at h ⊢;dsimp only at h ⊢;split
  · rename_i h3;rw[if_pos h3]at h;cases h
  · rename_i h3;exact⟨afC e,ae0 (by simpa using h3)⟩
theorem amw (w:World) (A:Option Addr) (n c B:Nat) (b:List UInt8) (hr:Rd w B A n b) (hB:B<=w.heap.size) (hnc:n<=c) (hc:c<=9223372036854775807) (hn:n<=900000):
 Calls Tryz.prog 220 #[.slice A n c] w fun e w'=>∃A1 A2 c1 c2,e= .returned (.tuple #[.agg #[.int .i64 ((acO b).2.1:Int), .slice A1 (acO b).2.2.1.length c1, .slice A2 (acO b).2.2.2.length c2],ag8 (acO b).1])/\RkRd w' w'.heap.size A1 (acO b).2.2.1/\DtRd w' w'.heap.size A2 (acO b).2.2.2/\(∀a,A2=some a->w.heap.size<=a.block)/\Below w.heap.size w w':=by
 obtain⟨G,hG⟩:=nmE (acO b);rw[hG];unfold acO at hG;obtain⟨w1,hw1⟩:=nmE (w.alloc (.cells #[.int .i64 0, .slice none 0 0, .slice none 0 0] 110));have hb1:=abE hw1;have n1:=anE hw1;have HR1:=hE0 ((hr.more hB).below hb1);have hHH:=amu w1 A n c _ b HR1.out hnc hc hn;unfold arJ at hHH;have HN1:=hE0 n1;have HB1:=hE0 hb1;have HW1:=hE0 hw1;clear hr hw1 hb1 n1;by_cases hh:acE b≠0
 · rw[if_pos hh]at hG;rw[if_neg hh]at hHH;obtain⟨k,hk⟩:=nmE (acE b);rw[hk]at hG hHH hh;have HG:=hE0 hG;have HH:=hE0 hHH;have hk0:(k:Int)≠0:=by omega
   clear hG hHH hk;have HKK:=hE0 hh;have n1:=HN1.out;have hl1:=aaa n1;obtain⟨f0,f1,f2⟩:=aay n1;obtain⟨z0,z1,z2⟩:=aac n1;have HM:=hE0 (aa5 n1 (.int .i64 0) (.slice none 0 0) (.slice none 0 0));have HF:=hE0 (((HB1.out.setCell (p:=⟨w.heap.size,0,none⟩) (Nat.le_refl _) (.int .i64 0)).setCell (p:=⟨w.heap.size,1,none⟩) (Nat.le_refl _) (.slice none 0 0)).setCell (p:=⟨w.heap.size,2,none⟩) (Nat.le_refl _) (.slice none 0 0));have N1':=hE0 n1;clear n1;go_enter Tryz.func220,Tryz.ntmps220
   go_wp2_with (first | (rw[HW1.out]) | fail)
   refine HH.out.mono ?_;rintro e w2 ⟨rfl,rfl⟩;go_wp2
   (try simp only[Exit.inBlock,Exit.then])
   refine ajg (g:=w.heap.size) (x:= .iface 90 (.int .i64 (k:Int))) Tryz.results220 ?_ ?_ ?_ HM.out ?_
   · rfl
   · rfl
   · rfl
   · refine⟨none,none,0,0,?_,?_,?_,fun _ h=>(by cases h),HF.out⟩
     · rw[<-HG.out];unfold ag8;dsimp only;rw[if_neg HKK.out];rfl
     · rw[<-HG.out];exact fun h=>absurd h (by simp)
     · rw[<-HG.out];exact fun h=>absurd h (by simp)
 have hh0:acE b=0:=Decidable.byContradiction hh;obtain⟨hlo,hcn⟩:=alr hh0;rw[if_neg hh]at hG;rw[if_pos hh0]at hHH;have HH:=hE0 hHH;have hBL:=ajq w1 A n c _ (abH b) (abU b) b HR1.out (by have:=HB1.out.size;omega) hnc hc hn hlo hcn;clear hHH;by_cases hb0:(abB b (abH b) (abU b)).1≠0
 · rw[if_pos hb0]at hG;have eV:∀A,asl (abB b (abH b) (abU b)) A= .tuple #[.slice none 0 0, .iface 90 (.int .i64 ((abB b (abH b) (abU b)).1:Int))]:=fun A=>by unfold asl;rw[if_neg hb0]
   simp only[eV]at hBL;clear eV;obtain⟨k,hk⟩:=nmE ((abB b (abH b) (abU b)).1);rw[hk]at hG hBL hb0;have HG:=hE0 hG;have HBL:=hE0 hBL;have HKK:=hE0 hb0;clear hG hBL hk hb0 hh hh0 hlo;go_enter Tryz.func220,Tryz.ntmps220
   go_wp2_with (first | (rw[HW1.out]) | fail)
   refine HH.out.mono ?_;rintro e w2 ⟨rfl,rfl⟩;go_wp2_with fail
   refine HBL.out.mono ?_;rintro e w2 ⟨A2,rfl,_,hb2⟩;have n1:=(hb2.block _ (aaa HN1.out)).trans HN1.out;have hl1:=aaa n1;obtain⟨f0,f1,f2⟩:=aay n1;obtain⟨z0,z1,z2⟩:=aac n1;have HM:=hE0 (aa5 n1 (.int .i64 0) (.slice none 0 0) (.slice none 0 0));have HF:=hE0 ((((HB1.out.trans (hb2.mono HB1.out.size)).setCell (p:=⟨w.heap.size,0,none⟩) (Nat.le_refl _) (.int .i64 0)).setCell (p:=⟨w.heap.size,1,none⟩) (Nat.le_refl _) (.slice none 0 0)).setCell (p:=⟨w.heap.size,2,none⟩) (Nat.le_refl _) (.slice none 0 0));have N1':=hE0 n1;clear n1;clear hb2;go_wp2
   (try simp only[Exit.inBlock,Exit.then])
   refine ajg (g:=w.heap.size) (x:= .iface 90 (.int .i64 (k:Int))) Tryz.results220 ?_ ?_ ?_ HM.out ?_
   · rfl
   · rfl
   · rfl
   · refine⟨none,none,0,0,?_,?_,?_,fun _ h=>(by cases h),HF.out⟩
     · rw[<-HG.out];unfold ag8;dsimp only;rw[if_neg HKK.out];rfl
     · rw[<-HG.out];exact fun h=>absurd h (by simp)
     · rw[<-HG.out];exact fun h=>absurd h (by simp)
 have hb1':(abB b (abH b) (abU b)).1=0:=Decidable.byContradiction hb0;obtain⟨hlen,hszs⟩:=als hb1';rw[if_neg hb0]at hG;have eV:∀A,asl (abB b (abH b) (abU b)) A= .tuple #[.slice A (abB b (abH b) (abU b)).2.length (abB b (abH b) (abU b)).2.length, .nilIface]:=fun A=>by unfold asl;rw[if_pos hb1']
 simp only[eV]at hBL;clear eV;obtain⟨l,hl⟩:=nmE ((abB b (abH b) (abU b)).2);rw[hl]at hG hBL hlen hszs;have hll:l.length<=1024:=by omega
 have HBL:=hE0 hBL;have HSZ:=hE0 hszs;clear hBL hl hb0 hb1' hszs;by_cases hd0:(adV b l).1≠0
 · rw[if_pos hd0]at hG;have HDB:=hE0 (fun V A2 k2 (hV:Below w.heap.size w V) (hr2:Rd V w.heap.size A n b) (hrk:RkRd V V.heap.size A2 l)=>amv V A A2 n c w.heap.size k2 b l hr2 hnc hc hn hrk hV.size hll HSZ.out hd0);unfold asA at HDB;rw[if_neg hd0]at HDB;obtain⟨k,hk⟩:=nmE ((adV b l).1);rw[hk]at hG HDB hd0;have HG:=hE0 hG;have HKK:=hE0 hd0;obtain⟨ll,hlll⟩:=nmE l.length;rw[hlll]at HBL HDB;clear hG hk hd0 hh hh0 hlo hlen hll hlll;go_enter Tryz.func220,Tryz.ntmps220
   go_wp2_with (first | (rw[HW1.out]) | fail)
   refine HH.out.mono ?_;rintro e w2 ⟨rfl,rfl⟩;go_wp2_with fail
   refine HBL.out.mono ?_;rintro e w2 ⟨A2,rfl,hrk2,hb2⟩;have HD:=hE0 (HDB.out w2 A2 ll (HB1.out.trans (hb2.mono HB1.out.size)) (HR1.out.below (hb2.mono HB1.out.size)) hrk2);have HB2:=hE0 hb2;have N2:=hE0 ((hb2.block _ (aaa HN1.out)).trans HN1.out);clear hb2 hrk2 HDB;go_wp2_with fail
   refine HD.out.mono ?_;rintro e w3 ⟨rfl,_,hb3⟩;have hb2:=HB2.out.trans (hb3.mono HB2.out.size);have n1:=(hb3.block _ (aaa N2.out)).trans N2.out;have hl1:=aaa n1;obtain⟨f0,f1,f2⟩:=aay n1;obtain⟨z0,z1,z2⟩:=aac n1;have HM:=hE0 (aa5 n1 (.int .i64 0) (.slice none 0 0) (.slice none 0 0));have HF:=hE0 ((((HB1.out.trans (hb2.mono HB1.out.size)).setCell (p:=⟨w.heap.size,0,none⟩) (Nat.le_refl _) (.int .i64 0)).setCell (p:=⟨w.heap.size,1,none⟩) (Nat.le_refl _) (.slice none 0 0)).setCell (p:=⟨w.heap.size,2,none⟩) (Nat.le_refl _) (.slice none 0 0));have N1':=hE0 n1;clear n1;clear hb2 hb3;go_wp2
   (try simp only[Exit.inBlock,Exit.then])
   refine ajg (g:=w.heap.size) (x:= .iface 90 (.int .i64 (k:Int))) Tryz.results220 ?_ ?_ ?_ HM.out ?_
   · rfl
   · rfl
   · rfl
   · refine⟨none,none,0,0,?_,?_,?_,fun _ h=>(by cases h),HF.out⟩
     · rw[<-HG.out];unfold ag8;dsimp only;rw[if_neg HKK.out];rfl
     · rw[<-HG.out];exact fun h=>absurd h (by simp)
     · rw[<-HG.out];exact fun h=>absurd h (by simp)
 have hd1:(adV b l).1=0:=Decidable.byContradiction hd0;rw[if_neg hd0]at hG;have HDB:=hE0 (fun V A2 k2 (hV:Below w.heap.size w V) (hr2:Rd V w.heap.size A n b) (hrk:RkRd V V.heap.size A2 l)=>an9 V A A2 n c w.heap.size k2 b l hr2 hnc hc hn hrk hV.size hll HSZ.out hd1);have eV:∀A c,asA (adV b l) A c= .tuple #[.slice A (adV b l).2.length c, .nilIface]:=fun A c=>by unfold asA;rw[if_pos hd1]
 simp only[eV]at HDB;clear eV;obtain⟨d,hd⟩:=nmE ((adV b l).2);rw[hd]at hG HDB;obtain⟨ll,hlll⟩:=nmE l.length;obtain⟨dl,hdll⟩:=nmE d.length;rw[hlll]at HBL HDB;rw[hdll]at HDB;have HG:=hE0 hG;have HLL:=hE0 hlll;have HDL:=hE0 hdll;obtain⟨N,hN⟩:=nmE (abH b);obtain⟨K,hK⟩:=nmE (abU b);rw[hN,hK]at HH HBL;rw[hN]at HG;clear hG hd hd0 hd1 hh hh0 hlo hlen hll hlll hdll hN hK hcn;go_enter Tryz.func220,Tryz.ntmps220
 go_wp2_with (first | (rw[HW1.out]) | fail)
 refine HH.out.mono ?_;rintro e w2 ⟨rfl,rfl⟩;go_wp2_with fail
 refine HBL.out.mono ?_;rintro e w2 ⟨A2,rfl,hrk2,hb2⟩;have HD:=hE0 (HDB.out w2 A2 ll (HB1.out.trans (hb2.mono HB1.out.size)) (HR1.out.below (hb2.mono HB1.out.size)) hrk2);have HB2:=hE0 hb2;have HRK2:=hE0 hrk2;have N2:=hE0 ((hb2.block _ (aaa HN1.out)).trans HN1.out);clear hb2 hrk2 HDB;go_wp2_with fail
 refine HD.out.mono ?_;rintro e w3 ⟨A3,c3,rfl,hdt3,hb3⟩;have n2:=(hb3.block _ (aaa N2.out)).trans N2.out;have hl2:=aaa n2;obtain⟨f0,f1,f2⟩:=aay n2;obtain⟨z0,z1,z2⟩:=aac n2;have HM:=hE0 (aa5 n2 (.int .i64 (N:Int)) (.slice A2 ll ll) (.slice A3 dl c3));have hB3:=HB1.out.trans ((HB2.out.trans (hb3.mono HB2.out.size)).mono HB1.out.size);have HF:=hE0 (((hB3.setCell (p:=⟨w.heap.size,0,none⟩) (Nat.le_refl _) (.int .i64 (N:Int))).setCell (p:=⟨w.heap.size,1,none⟩) (Nat.le_refl _) (.slice A2 ll ll)).setCell (p:=⟨w.heap.size,2,none⟩) (Nat.le_refl _) (.slice A3 dl c3));have N2':=hE0 n2;have HRK3:=hE0 ((HRK2.out.below hb3).more hb3.size);have HDT3:=hE0 hdt3;have HG3:Hid (∀a,A3=some a->w.heap.size<=a.block):=(show ∀a,_->_ from fun a e=>by
  obtain⟨xs,ho,_⟩:=hdt3;have h1:=abS ho a.block (by rw[e];rfl);have h2:=HB1.out.size;have h3:=HB2.out.size;omega)
 clear hb3 n2 hB3 HBL HH hdt3;go_wp2
 (try simp only[Exit.inBlock,Exit.then])
 refine ajg (g:=w.heap.size) (x:= .nilIface) Tryz.results220 ?_ ?_ ?_ HM.out ?_
 · rfl
 · rfl
 · rfl
 · refine⟨A2,A3,ll,c3,?_,?_,?_,HG3.out,HF.out⟩
   · rw[<-HG.out];dsimp only;rw[HLL.out,HDL.out];rfl
   · rw[<-HG.out];refine(HRK3.out.off N2'.out fun k hk=> ?_).more (by simp);rw[heap_setCell_other _ _ _ _ hk,heap_setCell_other _ _ _ _ hk,heap_setCell_other _ _ _ _ hk]
   · rw[<-HG.out];obtain⟨xs,ho,hdo⟩:=HDT3.out;rw[<-HDL.out]at ho;have g0:=abf w3 w.heap.size 0 (.int .i64 (N:Int));have g1:=abf (w3.setCell ⟨w.heap.size,0,none⟩ (.int .i64 (N:Int))) w.heap.size 1 (.slice A2 ll ll);have g2:=abf ((w3.setCell ⟨w.heap.size,0,none⟩ (.int .i64 (N:Int))).setCell ⟨w.heap.size,1,none⟩ (.slice A2 ll ll)) w.heap.size 2 (.slice A3 dl c3);have k0:=N2'.out;have k1:=heap_setCell_same w3 w.heap.size 0 _ _ (.int .i64 (N:Int)) k0;have k2:=heap_setCell_same _ w.heap.size 1 _ _ (.slice A2 ll ll) k1;have o1:=aa0 ho g0 (fun k hk hrk=>by injection hrk with hrk;subst hrk;exact abi ho hk k0 (by decide));have o2:=aa0 o1 g1 (fun k hk hrk=>by injection hrk with hrk;subst hrk;exact abi o1 hk k1 (by decide));have o3:=aa0 o2 g2 (fun k hk hrk=>by injection hrk with hrk;subst hrk;exact abi o2 hk k2 (by decide));have d1:=hdo.grown g0 (fun k hrk=>by injection hrk with hrk;subst hrk;exact⟨_,_,_,by decide,k0⟩);have d2:=d1.grown g1 (fun k hrk=>by injection hrk with hrk;subst hrk;exact⟨_,_,_,by decide,k1⟩);have d3:=d2.grown g2 (fun k hrk=>by injection hrk with hrk;subst hrk;exact⟨_,_,_,by decide,k2⟩);exact d3.rd o3
theorem arL (a b:List UInt8):((adh a).toList==(adh b).toList)=decide (a=b):=by
 unfold adh;simp;by_cases h:a=b<;>simp[h]
theorem agF{b:List UInt8}{i j:Nat}(hj:j+4<=b.length):decide (adU ((b.drop i).take (j-i))=(b.drop j).take 4)=aaS b i j:=by
 have hl:((b.drop j).take 4).length=4:=by rw[List.length_take,List.length_drop];omega
 unfold aaS adU;have h1:=acs 4 (abn 0 ((b.drop i).take (j-i)));rw[Nat.mod_eq_of_lt (by have:=acI 0 ((b.drop i).take (j-i));omega)]at h1;have h2:=agc ((b.drop j).take 4);rw[hl]at h2;by_cases h:aat 4 (abn 0 ((b.drop i).take (j-i)))=(b.drop j).take 4
 · rw[decide_eq_true h,<-h,h1];exact(beq_self_eq_true _).symm
 · rw[decide_eq_false h];symm
   rw[beq_eq_false_iff_ne];intro e;rw[<-e,h2]at h;exact h rfl
theorem aba (w:World) (A:Option Addr) (n c B:Nat) (b:List UInt8) (i j:Nat) (hr:Rd w B A n b) (hB:B<=w.heap.size) (hnc:n<=c) (hc:c<=9223372036854775807) (hn:n<=900000) (hij:i<=j) (hj:j+4<=n) (y:Bool) (hy:aaS b i j=y):
 Calls Tryz.prog 225 #[.slice A n c, .int .i64 (i:Int), .int .i64 (j:Int)] w fun e w'=>e= .returned (.bool y)/\Below w.heap.size w w':=by
 have hbl:b.length=n:=hr.1;rw[<-agF (by omega)]at hy;obtain⟨g,off,rfl,_⟩:=hr.2 (by omega);have HF:=hE0 (fun V (hV:Below w.heap.size w V)=>ads V (some ⟨g,off+i,none⟩) (j-i) (c-i) w.heap.size _ (((hr.more hB).sub i (j-i) (by omega)).below hV) (by omega));have HR4:=hE0 ((hr.more hB).sub j 4 (by omega));obtain⟨s,hs⟩:=nmE (adU ((b.drop i).take (j-i)));obtain⟨t,ht⟩:=nmE ((b.drop j).take 4);rw[hs,ht]at hy;rw[hs]at HF;rw[ht]at HR4;have HY:Hid (((adh s).toList==(adh t).toList)=y):=(show _=y by rw[arL,hy]);obtain⟨S,hS⟩:=nmE (adh s);obtain⟨T,hT⟩:=nmE (adh t);rw[hS,hT]at HY;have HS:=hE0 hS;have HT:=hE0 hT;have h1:(i:Int)<=(j:Int):=by omega
 have h2:(j:Int)<=(c:Int):=by omega
 have h3:(i:Int)<(c:Int):=by omega
 have h4:(j:Int)+4<=(c:Int):=by omega
 have h5:(j:Int)<(c:Int):=by omega
 have h6:j<=900000:=by omega
 clear hr hy hs ht hS hT hbl;go_enter Tryz.func225,Tryz.ntmps225
 obtain⟨wd,hwd⟩:=nmE w.drew;have HWD:=hE0 hwd;have hbd:=adE hwd;have HFD:=hE0 (HF.out wd hbd);have HRD:=hE0 (((HR4.out.below hbd).more hbd.size));have HBD:=hE0 hbd;clear hwd hbd HF;go_wp2_with fail
 refine aad wd.heap.size [([0,1,2,3,6,7,8,9,10,11],4)] [5,12,13] [] (by kernel_rfl) (by kernel_rfl) (by kernel_rfl) (fun _ _ _ _ _ h=>h) ?_;rw[HWD.out];have q0:∀z:LaterB wd.heap.size wd,(convert 37 9 (.slice (some ⟨g,off+j,none⟩) 4 (c-j))).run Tryz.prog z.val= .ok (.string T) z.val:=fun z=>by rw[<-HT.out];exact aaJ (HRD.out.below z.ext)
 refine tail_cons (l:= ?segA) ?hsegA ?_
 case hsegA=>simp only[pick,lE1,lE2,lE3];rfl
 repeat (go_big_quiet_step (fail))
 refine wpQuiet_nil ?_;clear q0;refine aas (vs:= #[.slice (some ⟨g,off+i,none⟩) (j-i) (c-i)]) Tryz.call124 rfl rfl rfl (R:=fun r w'=>∃A c,r= .slice A 4 c/\w'.ownsRow wd.heap.size 5 1 (.slice A 4 c) 4 (s.map bv)/\Below wd.heap.size wd w') (HFD.out.mono ?_) ?_
 · rintro e w' ⟨A,c,rfl,_,ho,hb⟩;exact⟨_,rfl,hb,A,c,rfl,ho,hb⟩
 rintro r w8 _ ⟨A8,c8,rfl,ho8,hb8⟩;have HR8:=hE0 (aak ho8);have HE:=hE0 (HBD.out.trans (hb8.mono HBD.out.size));refine⟨w8.heap.size,hb8.size,?_⟩;clear ho8 hb8;simp only[Act.put,lE4,lE5,lE6];have q4:∀z:LaterB w8.heap.size w8,(convert 37 9 (.slice A8 4 c8)).run Tryz.prog z.val= .ok (.string S) z.val:=fun z=>by rw[<-HS.out];exact aaJ (HR8.out.below z.ext)
 refine aam (l:= ?lastB) (t:= []) ?hlastB ?htlastB ?_
 case hlastB=>simp only[pick,lE1,lE2,lE3];rfl
 case htlastB=>rfl
 repeat (go_big_quiet_step (fail))
 refine wpQuiet_nil ?_;go_wp2
 go_ret
 exact⟨aaE HY.out,HE.out⟩
theorem abQ{fn:Func}{R:Ending->World->Prop}{a:Act}{w:World}{p u:Tmp}{g:Nat}{x:Value}{n:Int}{A1 A2:Option Addr}{a1 b1 a2 b2:Nat}(hres:fn.results= #[.cell p 59, .tmp u]) (hp:a.tmps.getD p undef= .pointer (some ⟨g,0,none⟩)) (hx:a.tmps.getD u undef=x) (hd:a.defers= [])
 (hg:w.heap[g]?=some (.cells #[.int .i64 n, .slice A1 a1 b1, .slice A2 a2 b2] 59 (0,0))) (hR:R (.returned (.tuple #[.agg #[.int .i64 n, .slice A1 a1 b1, .slice A2 a2 b2],x])) w):bodyPost Tryz.prog fn R .ret a w:=by
 obtain⟨c0,c1,c2⟩:=aac hg;refine bodyPost_ret (v:= .tuple #[.agg #[.int .i64 n, .slice A1 a1 b1, .slice A2 a2 b2],x]) ?_ hd hR;rw[results_cell_tmp hres,hp,hx];simp[go_sem,c0,c1,c2]
theorem apX{a m:List UInt8}(h:a≠m):((adh a).toList !=(adh m).toList)=true:=by
 unfold adh;rw[bne_iff_ne];simpa using h
theorem amx (w:World) (A:Option Addr) (n c:Nat) (h28:n<28):
 Calls Tryz.prog 182 #[.slice A n c] w fun e w'=>e= .returned (.tuple #[.agg #[.int .i64 0, .slice none 0 0, .slice none 0 0], .int .i64 3])/\Below w.heap.size w w':=by
 obtain⟨w1,hw1⟩:=nmE (w.alloc (.cells #[.int .i64 0, .slice none 0 0, .slice none 0 0] 59));have hb1:=abE hw1;have n1:=anE hw1;have hl1:=aaa n1;obtain⟨f0,f1,f2⟩:=aay n1;obtain⟨z0,z1,z2⟩:=aac n1;have HM:=hE0 (aa5 n1 (.int .i64 0) (.slice none 0 0) (.slice none 0 0));have HF:=hE0 (((hb1.setCell (p:=⟨w.heap.size,0,none⟩) (Nat.le_refl _) (.int .i64 0)).setCell (p:=⟨w.heap.size,1,none⟩) (Nat.le_refl _) (.slice none 0 0)).setCell (p:=⟨w.heap.size,2,none⟩) (Nat.le_refl _) (.slice none 0 0));have HW1:=hE0 hw1;have N1:=hE0 n1;have g1:decide (n<28)=true:=decide_eq_true h28;clear hw1 hb1 n1;go_enter Tryz.func182,Tryz.ntmps182
 go_wp2_with (first | (rw[HW1.out]) | fail)
 (try simp only[Exit.inBlock,Exit.then])
 refine abQ (g:=w.heap.size) (x:= .int .i64 3) Tryz.results182 ?_ ?_ ?_ HM.out ?_
 · rfl
 · rfl
 · rfl
 · exact⟨rfl,HF.out⟩
theorem ajr (w:World) (A:Option Addr) (n c B:Nat) (b:List UInt8) (hr:Rd w B A n b) (hB:B<=w.heap.size) (hnc:n<=c) (hc:c<=9223372036854775807) (hn:n<=900000) (h28:28<=n) (y:Bool) (hy:((adh (b.take 8)).toList !=(adh imMarkB).toList)=y) (ys:Bool) (hys:aaS b 0 24=ys) (hbad:y=true\/ys=false):
 Calls Tryz.prog 182 #[.slice A n c] w fun e w'=>e= .returned (.tuple #[.agg #[.int .i64 0, .slice none 0 0, .slice none 0 0], .int .i64 (if y=true then 3 else 9)])/\Below w.heap.size w w':=by
 obtain⟨g,off,rfl,_⟩:=hr.2 (by omega);obtain⟨w1,hw1⟩:=nmE (w.alloc (.cells #[.int .i64 0, .slice none 0 0, .slice none 0 0] 59));have hb1:=abE hw1;have n1:=anE hw1;obtain⟨wd,hwd⟩:=nmE w1.drew;have hbd:=adE hwd;have nd:=(hbd.block _ (aaa n1)).trans n1;have hBd:=hb1.trans (hbd.mono hb1.size);have HBD:=hE0 hBd;have hR:=(hr.more hB).below hBd;have HR:=hE0 hR;have HRS:=hE0 ((hR.more hBd.size).sub 0 8 (by omega));rw[List.drop_zero,Nat.add_zero]at HRS;have HBG:=hE0 (abM wd);obtain⟨S,hS⟩:=nmE (adh (b.take 8));obtain⟨T,hT⟩:=nmE (adh imMarkB);rw[hS,hT]at hy;have hy2:(S.toList==T.toList)= !y:=by rw[<-hy];unfold bne;simp
 have HS:=hE0 hS;have HT:=hE0 hT;have HSU:=hE0 (fun V (hV:Below w.heap.size w V)=>aba V (some ⟨g,off,none⟩) n c w.heap.size b 0 24 ((hr.more hB).below hV) hV.size hnc hc hn (by omega) (by omega) ys hys);have HW1:=hE0 hw1;have HWD:=hE0 hwd;have HND:=hE0 nd;have g1:decide (n<28)=false:=decide_eq_false (by omega);have g3:(8:Int)<=(c:Int):=by omega
 clear hr hw1 hb1 n1 hwd hbd nd hBd hR hS hT hys;go_enter Tryz.func182,Tryz.ntmps182
 go_wp2_with (first | (rw[HW1.out]) | fail)
 refine aad wd.heap.size [([0,1,2],3)] [4,5] [] (by kernel_rfl) (by kernel_rfl) (by kernel_rfl) (fun _ _ _ _ _ h=>h) ?_;rw[HWD.out];have q0:∀z:LaterB wd.heap.size wd,(convert 37 9 (.slice (some ⟨g,off,none⟩) 8 c)).run Tryz.prog z.val= .ok (.string S) z.val:=fun z=>by rw[<-HS.out];exact aaJ (HRS.out.below z.ext)
 refine tail_cons (l:= ?segA) ?hsegA ?_
 case hsegA=>simp only[pick,lE1,lE2,lE3];rfl
 repeat (go_big_quiet_step (fail))
 refine wpQuiet_nil ?_;clear q0;refine aas (vs:= #[]) Tryz.call122 rfl rfl rfl (R:=fun r w'=>∃A c,r= .slice A 8 c/\w'.ownsRow wd.heap.size 5 1 (.slice A 8 c) 8 (imMarkB.map bv)/\Below wd.heap.size wd w') (HBG.out.mono ?_) ?_
 · rintro e w' ⟨A,c,rfl,_,ho,hb⟩;exact⟨_,rfl,hb,A,c,rfl,ho,hb⟩
 rintro r w8 _ ⟨A8,c8,rfl,ho8,hb8⟩;have HR8:=hE0 (aak ho8);have HB8:=hE0 (HBD.out.trans (hb8.mono HBD.out.size));have HN8:=hE0 ((hb8.block _ (aaa HND.out)).trans HND.out);refine⟨w8.heap.size,hb8.size,?_⟩;clear ho8 hb8;simp only[Act.put,lE4,lE5,lE6];have q4:∀z:LaterB w8.heap.size w8,(convert 37 9 (.slice A8 8 c8)).run Tryz.prog z.val= .ok (.string T) z.val:=fun z=>by rw[<-HT.out];exact aaJ (HR8.out.below z.ext)
 refine aam (l:= ?lastB) (t:= []) ?hlastB ?htlastB ?_
 case hlastB=>simp only[pick,lE1,lE2,lE3];rfl
 case htlastB=>rfl
 repeat (go_big_quiet_step (fail))
 refine wpQuiet_nil ?_;clear q4;have n8:=HN8.out;have hl8:=aaa n8;obtain⟨f0,f1,f2⟩:=aay n8;obtain⟨z0,z1,z2⟩:=aac n8;have hy3:(!S.toList==T.toList)=y:=by rw[hy2];simp
 cases y with
 | true=>
  have HM:=hE0 (aa5 n8 (.int .i64 0) (.slice none 0 0) (.slice none 0 0));have HF:=hE0 (((HB8.out.setCell (p:=⟨w.heap.size,0,none⟩) (Nat.le_refl _) (.int .i64 0)).setCell (p:=⟨w.heap.size,1,none⟩) (Nat.le_refl _) (.slice none 0 0)).setCell (p:=⟨w.heap.size,2,none⟩) (Nat.le_refl _) (.slice none 0 0));clear n8;go_wp2_with fail
  (try simp only[Exit.inBlock,Exit.then])
  refine abQ (g:=w.heap.size) (x:= .int .i64 3) Tryz.results182 ?_ ?_ ?_ HM.out ?_
  · rfl
  · rfl
  · rfl
  · exact⟨rfl,HF.out⟩
 | false=>
  obtain rfl:ys=false:=hbad.resolve_left (by simp);clear n8;go_wp2_with fail
  refine(HSU.out w8 HB8.out).mono ?_;rintro e w9 ⟨rfl,hb9⟩;have n9:=(hb9.block _ hl8).trans HN8.out;have HB9:=HB8.out.trans (hb9.mono HB8.out.size);have hl9:=aaa n9;clear f0 f1 f2 z0 z1 z2;obtain⟨f0,f1,f2⟩:=aay n9;obtain⟨z0,z1,z2⟩:=aac n9;have HM:=hE0 (aa5 n9 (.int .i64 0) (.slice none 0 0) (.slice none 0 0));have HF:=hE0 (((HB9.setCell (p:=⟨w.heap.size,0,none⟩) (Nat.le_refl _) (.int .i64 0)).setCell (p:=⟨w.heap.size,1,none⟩) (Nat.le_refl _) (.slice none 0 0)).setCell (p:=⟨w.heap.size,2,none⟩) (Nat.le_refl _) (.slice none 0 0));clear n9 HB9 hb9;go_wp2
  (try simp only[Exit.inBlock,Exit.then])
  refine abQ (g:=w.heap.size) (x:= .int .i64 9) Tryz.results182 ?_ ?_ ?_ HM.out ?_
  · rfl
  · rfl
  · rfl
  · exact⟨rfl,HF.out⟩
theorem arM (w:World) (A:Option Addr) (n c B:Nat) (b:List UInt8) (hr:Rd w B A n b) (hB:B<=w.heap.size) (hnc:n<=c) (hc:c<=9223372036854775807) (hn:n<=900000) (h28:28<=n) (hm:b.take 8=imMarkB) (hys:aaS b 0 24=true) (N K:Nat) (hN:abH b=N) (hK:abU b=K) (h1:N<184):
 Calls Tryz.prog 182 #[.slice A n c] w fun e w'=>e= .returned (.tuple #[.agg #[.int .i64 0, .slice none 0 0, .slice none 0 0], .int .i64 3])/\Below w.heap.size w w':=by
 obtain⟨g,off,rfl,_⟩:=hr.2 (by omega);obtain⟨w1,hw1⟩:=nmE (w.alloc (.cells #[.int .i64 0, .slice none 0 0, .slice none 0 0] 59));have hb1:=abE hw1;have n1:=anE hw1;obtain⟨wd,hwd⟩:=nmE w1.drew;have hbd:=adE hwd;have nd:=(hbd.block _ (aaa n1)).trans n1;have hBd:=hb1.trans (hbd.mono hb1.size);have HBD:=hE0 hBd;have hR:=(hr.more hB).below hBd;have HR:=hE0 hR;have HRS:=hE0 ((hR.more hBd.size).sub 0 8 (by omega));rw[List.drop_zero,Nat.add_zero]at HRS;have HBG:=hE0 (abM wd);obtain⟨T,hT⟩:=nmE (adh imMarkB);rw[hm]at HRS;have HT:=hE0 hT;have gT:(T.toList !=T.toList)=false:=adf T;have HR0:=hE0 (hr.more hB);have HSU:=hE0 (fun V (hV:Below w.heap.size w V)=>aba V (some ⟨g,off,none⟩) n c w.heap.size b 0 24 ((hr.more hB).below hV) hV.size hnc hc hn (by omega) (by omega) true hys);have HNA:=hE0 (fun V (hV:Below w.heap.size w V)=>aaI (some ⟨g,off+8,none⟩) 8 (c-8) w.heap.size ((b.drop 8).take 8) V (((hr.more hB).sub 8 8 (by omega)).below hV) (Nat.le_refl _));have HNB:=hE0 (fun V (hV:Below w.heap.size w V)=>aaI (some ⟨g,off+16,none⟩) 8 (c-16) w.heap.size ((b.drop 16).take 8) V (((hr.more hB).sub 16 8 (by omega)).below hV) (Nat.le_refl _));have hNl:N<18446744073709551616:=by rw[<-hN];exact aaG _ (List.length_take_le _ _)
 have hKl:K<18446744073709551616:=by rw[<-hK];exact aaG _ (List.length_take_le _ _)
 unfold abH at hN;unfold abU at hK;rw[hN]at HNA;rw[hK]at HNB;have HW1:=hE0 hw1;have HWD:=hE0 hwd;have HND:=hE0 nd;have g1:decide (n<28)=false:=decide_eq_false (by omega);have g3:(8:Int)<=(c:Int):=by omega
 have g4:(16:Int)<=(c:Int):=by omega
 have g5:(24:Int)<=(c:Int):=by omega
 have g6:decide (N<184)=true:=decide_eq_true (by omega);have g6':decide ((N:Int)<(184:Int))=true:=decide_eq_true (by omega);clear hr hw1 hb1 n1 hwd hbd nd hBd hR hT hys hN hK hm hB h1;go_enter Tryz.func182,Tryz.ntmps182
 go_wp2_with (first | (rw[HW1.out]) | fail)
 refine aad wd.heap.size [([0,1,2],3)] [4,5] [] (by kernel_rfl) (by kernel_rfl) (by kernel_rfl) (fun _ _ _ _ _ h=>h) ?_;rw[HWD.out];have q0:∀z:LaterB wd.heap.size wd,(convert 37 9 (.slice (some ⟨g,off,none⟩) 8 c)).run Tryz.prog z.val= .ok (.string T) z.val:=fun z=>by rw[<-HT.out];exact aaJ (HRS.out.below z.ext)
 refine tail_cons (l:= ?segA) ?hsegA ?_
 case hsegA=>simp only[pick,lE1,lE2,lE3];rfl
 repeat (go_big_quiet_step (fail))
 refine wpQuiet_nil ?_;clear q0;refine aas (vs:= #[]) Tryz.call122 rfl rfl rfl (R:=fun r w'=>∃A c,r= .slice A 8 c/\w'.ownsRow wd.heap.size 5 1 (.slice A 8 c) 8 (imMarkB.map bv)/\Below wd.heap.size wd w') (HBG.out.mono ?_) ?_
 · rintro e w' ⟨A,c,rfl,_,ho,hb⟩;exact⟨_,rfl,hb,A,c,rfl,ho,hb⟩
 rintro r w8 _ ⟨A8,c8,rfl,ho8,hb8⟩;have HR8:=hE0 (aak ho8);have HB8:=hE0 (HBD.out.trans (hb8.mono HBD.out.size));have HN8:=hE0 ((hb8.block _ (aaa HND.out)).trans HND.out);refine⟨w8.heap.size,hb8.size,?_⟩;clear ho8 hb8;simp only[Act.put,lE4,lE5,lE6];have q4:∀z:LaterB w8.heap.size w8,(convert 37 9 (.slice A8 8 c8)).run Tryz.prog z.val= .ok (.string T) z.val:=fun z=>by rw[<-HT.out];exact aaJ (HR8.out.below z.ext)
 refine aam (l:= ?lastB) (t:= []) ?hlastB ?htlastB ?_
 case hlastB=>simp only[pick,lE1,lE2,lE3];rfl
 case htlastB=>rfl
 repeat (go_big_quiet_step (fail))
 refine wpQuiet_nil ?_;clear q4;go_wp2_with fail
 refine(HSU.out w8 HB8.out).mono ?_;rintro e w9 ⟨rfl,hb9⟩;have HN9:=hE0 ((hb9.block _ (aaa HN8.out)).trans HN8.out);have HB9:=hE0 (HB8.out.trans (hb9.mono HB8.out.size));clear hb9;go_wp2_with fail
 refine(HNA.out w9 HB9.out).mono ?_;rintro e wq ⟨rfl,rfl⟩;go_wp2_with fail
 refine(HNB.out w9 HB9.out).mono ?_;rintro e wq ⟨rfl,rfl⟩;have n9:=HN9.out;have hl9:=aaa n9;obtain⟨f0,f1,f2⟩:=aay n9;obtain⟨z0,z1,z2⟩:=aac n9;have HM:=hE0 (aa5 n9 (.int .i64 0) (.slice none 0 0) (.slice none 0 0));have HF:=hE0 (((HB9.out.setCell (p:=⟨w.heap.size,0,none⟩) (Nat.le_refl _) (.int .i64 0)).setCell (p:=⟨w.heap.size,1,none⟩) (Nat.le_refl _) (.slice none 0 0)).setCell (p:=⟨w.heap.size,2,none⟩) (Nat.le_refl _) (.slice none 0 0));clear n9;go_wp2
 (try simp only[Exit.inBlock,Exit.then])
 refine abQ (g:=w.heap.size) (x:= .int .i64 3) Tryz.results182 ?_ ?_ ?_ HM.out ?_
 · rfl
 · rfl
 · rfl
 · exact⟨rfl,HF.out⟩
theorem arN (w:World) (A:Option Addr) (n c B:Nat) (b:List UInt8) (hr:Rd w B A n b) (hB:B<=w.heap.size) (hnc:n<=c) (hc:c<=9223372036854775807) (hn:n<=900000) (h28:28<=n) (hm:b.take 8=imMarkB) (hys:aaS b 0 24=true) (N K:Nat) (hN:abH b=N) (hK:abU b=K) (h1:16384<N):
 Calls Tryz.prog 182 #[.slice A n c] w fun e w'=>e= .returned (.tuple #[.agg #[.int .i64 0, .slice none 0 0, .slice none 0 0], .int .i64 3])/\Below w.heap.size w w':=by
 obtain⟨g,off,rfl,_⟩:=hr.2 (by omega);obtain⟨w1,hw1⟩:=nmE (w.alloc (.cells #[.int .i64 0, .slice none 0 0, .slice none 0 0] 59));have hb1:=abE hw1;have n1:=anE hw1;obtain⟨wd,hwd⟩:=nmE w1.drew;have hbd:=adE hwd;have nd:=(hbd.block _ (aaa n1)).trans n1;have hBd:=hb1.trans (hbd.mono hb1.size);have HBD:=hE0 hBd;have hR:=(hr.more hB).below hBd;have HR:=hE0 hR;have HRS:=hE0 ((hR.more hBd.size).sub 0 8 (by omega));rw[List.drop_zero,Nat.add_zero]at HRS;have HBG:=hE0 (abM wd);obtain⟨T,hT⟩:=nmE (adh imMarkB);rw[hm]at HRS;have HT:=hE0 hT;have gT:(T.toList !=T.toList)=false:=adf T;have HR0:=hE0 (hr.more hB);have HSU:=hE0 (fun V (hV:Below w.heap.size w V)=>aba V (some ⟨g,off,none⟩) n c w.heap.size b 0 24 ((hr.more hB).below hV) hV.size hnc hc hn (by omega) (by omega) true hys);have HNA:=hE0 (fun V (hV:Below w.heap.size w V)=>aaI (some ⟨g,off+8,none⟩) 8 (c-8) w.heap.size ((b.drop 8).take 8) V (((hr.more hB).sub 8 8 (by omega)).below hV) (Nat.le_refl _));have HNB:=hE0 (fun V (hV:Below w.heap.size w V)=>aaI (some ⟨g,off+16,none⟩) 8 (c-16) w.heap.size ((b.drop 16).take 8) V (((hr.more hB).sub 16 8 (by omega)).below hV) (Nat.le_refl _));have hNl:N<18446744073709551616:=by rw[<-hN];exact aaG _ (List.length_take_le _ _)
 have hKl:K<18446744073709551616:=by rw[<-hK];exact aaG _ (List.length_take_le _ _)
 unfold abH at hN;unfold abU at hK;rw[hN]at HNA;rw[hK]at HNB;have HW1:=hE0 hw1;have HWD:=hE0 hwd;have HND:=hE0 nd;have g1:decide (n<28)=false:=decide_eq_false (by omega);have g3:(8:Int)<=(c:Int):=by omega
 have g4:(16:Int)<=(c:Int):=by omega
 have g5:(24:Int)<=(c:Int):=by omega
 have g6:decide (N<184)=false:=decide_eq_false (by omega);have g6':decide ((N:Int)<(184:Int))=false:=decide_eq_false (by omega);have g7:decide (16384<N)=true:=decide_eq_true (by omega);have g7':decide ((16384:Int)<(N:Int))=true:=decide_eq_true (by omega);clear hr hw1 hb1 n1 hwd hbd nd hBd hR hT hys hN hK hm hB h1;go_enter Tryz.func182,Tryz.ntmps182
 go_wp2_with (first | (rw[HW1.out]) | fail)
 refine aad wd.heap.size [([0,1,2],3)] [4,5] [] (by kernel_rfl) (by kernel_rfl) (by kernel_rfl) (fun _ _ _ _ _ h=>h) ?_;rw[HWD.out];have q0:∀z:LaterB wd.heap.size wd,(convert 37 9 (.slice (some ⟨g,off,none⟩) 8 c)).run Tryz.prog z.val= .ok (.string T) z.val:=fun z=>by rw[<-HT.out];exact aaJ (HRS.out.below z.ext)
 refine tail_cons (l:= ?segA) ?hsegA ?_
 case hsegA=>simp only[pick,lE1,lE2,lE3];rfl
 repeat (go_big_quiet_step (fail))
 refine wpQuiet_nil ?_;clear q0;refine aas (vs:= #[]) Tryz.call122 rfl rfl rfl (R:=fun r w'=>∃A c,r= .slice A 8 c/\w'.ownsRow wd.heap.size 5 1 (.slice A 8 c) 8 (imMarkB.map bv)/\Below wd.heap.size wd w') (HBG.out.mono ?_) ?_
 · rintro e w' ⟨A,c,rfl,_,ho,hb⟩;exact⟨_,rfl,hb,A,c,rfl,ho,hb⟩
 rintro r w8 _ ⟨A8,c8,rfl,ho8,hb8⟩;have HR8:=hE0 (aak ho8);have HB8:=hE0 (HBD.out.trans (hb8.mono HBD.out.size));have HN8:=hE0 ((hb8.block _ (aaa HND.out)).trans HND.out);refine⟨w8.heap.size,hb8.size,?_⟩;clear ho8 hb8;simp only[Act.put,lE4,lE5,lE6];have q4:∀z:LaterB w8.heap.size w8,(convert 37 9 (.slice A8 8 c8)).run Tryz.prog z.val= .ok (.string T) z.val:=fun z=>by rw[<-HT.out];exact aaJ (HR8.out.below z.ext)
 refine aam (l:= ?lastB) (t:= []) ?hlastB ?htlastB ?_
 case hlastB=>simp only[pick,lE1,lE2,lE3];rfl
 case htlastB=>rfl
 repeat (go_big_quiet_step (fail))
 refine wpQuiet_nil ?_;clear q4;go_wp2_with fail
 refine(HSU.out w8 HB8.out).mono ?_;rintro e w9 ⟨rfl,hb9⟩;have HN9:=hE0 ((hb9.block _ (aaa HN8.out)).trans HN8.out);have HB9:=hE0 (HB8.out.trans (hb9.mono HB8.out.size));clear hb9;go_wp2_with fail
 refine(HNA.out w9 HB9.out).mono ?_;rintro e wq ⟨rfl,rfl⟩;go_wp2_with fail
 refine(HNB.out w9 HB9.out).mono ?_;rintro e wq ⟨rfl,rfl⟩;have n9:=HN9.out;have hl9:=aaa n9;obtain⟨f0,f1,f2⟩:=aay n9;obtain⟨z0,z1,z2⟩:=aac n9;have HM:=hE0 (aa5 n9 (.int .i64 0) (.slice none 0 0) (.slice none 0 0));have HF:=hE0 (((HB9.out.setCell (p:=⟨w.heap.size,0,none⟩) (Nat.le_refl _) (.int .i64 0)).setCell (p:=⟨w.heap.size,1,none⟩) (Nat.le_refl _) (.slice none 0 0)).setCell (p:=⟨w.heap.size,2,none⟩) (Nat.le_refl _) (.slice none 0 0));clear n9;go_wp2
 (try simp only[Exit.inBlock,Exit.then])
 refine abQ (g:=w.heap.size) (x:= .int .i64 3) Tryz.results182 ?_ ?_ ?_ HM.out ?_
 · rfl
 · rfl
 · rfl
 · exact⟨rfl,HF.out⟩
theorem arO (w:World) (A:Option Addr) (n c B:Nat) (b:List UInt8) (hr:Rd w B A n b) (hB:B<=w.heap.size) (hnc:n<=c) (hc:c<=9223372036854775807) (hn:n<=900000) (h28:28<=n) (hm:b.take 8=imMarkB) (hys:aaS b 0 24=true) (N K:Nat) (hN:abH b=N) (hK:abU b=K) (h0:184<=N) (h1:N<=16384) (h2:N%16≠8):
 Calls Tryz.prog 182 #[.slice A n c] w fun e w'=>e= .returned (.tuple #[.agg #[.int .i64 0, .slice none 0 0, .slice none 0 0], .int .i64 3])/\Below w.heap.size w w':=by
 obtain⟨g,off,rfl,_⟩:=hr.2 (by omega);obtain⟨w1,hw1⟩:=nmE (w.alloc (.cells #[.int .i64 0, .slice none 0 0, .slice none 0 0] 59));have hb1:=abE hw1;have n1:=anE hw1;obtain⟨wd,hwd⟩:=nmE w1.drew;have hbd:=adE hwd;have nd:=(hbd.block _ (aaa n1)).trans n1;have hBd:=hb1.trans (hbd.mono hb1.size);have HBD:=hE0 hBd;have hR:=(hr.more hB).below hBd;have HR:=hE0 hR;have HRS:=hE0 ((hR.more hBd.size).sub 0 8 (by omega));rw[List.drop_zero,Nat.add_zero]at HRS;have HBG:=hE0 (abM wd);obtain⟨T,hT⟩:=nmE (adh imMarkB);rw[hm]at HRS;have HT:=hE0 hT;have gT:(T.toList !=T.toList)=false:=adf T;have HR0:=hE0 (hr.more hB);have HSU:=hE0 (fun V (hV:Below w.heap.size w V)=>aba V (some ⟨g,off,none⟩) n c w.heap.size b 0 24 ((hr.more hB).below hV) hV.size hnc hc hn (by omega) (by omega) true hys);have HNA:=hE0 (fun V (hV:Below w.heap.size w V)=>aaI (some ⟨g,off+8,none⟩) 8 (c-8) w.heap.size ((b.drop 8).take 8) V (((hr.more hB).sub 8 8 (by omega)).below hV) (Nat.le_refl _));have HNB:=hE0 (fun V (hV:Below w.heap.size w V)=>aaI (some ⟨g,off+16,none⟩) 8 (c-16) w.heap.size ((b.drop 16).take 8) V (((hr.more hB).sub 16 8 (by omega)).below hV) (Nat.le_refl _));have hNl:N<18446744073709551616:=by rw[<-hN];exact aaG _ (List.length_take_le _ _)
 have hKl:K<18446744073709551616:=by rw[<-hK];exact aaG _ (List.length_take_le _ _)
 unfold abH at hN;unfold abU at hK;rw[hN]at HNA;rw[hK]at HNB;have HW1:=hE0 hw1;have HWD:=hE0 hwd;have HND:=hE0 nd;have g1:decide (n<28)=false:=decide_eq_false (by omega);have g3:(8:Int)<=(c:Int):=by omega
 have g4:(16:Int)<=(c:Int):=by omega
 have g5:(24:Int)<=(c:Int):=by omega
 have g6:decide (N<184)=false:=decide_eq_false (by omega);have g6':decide ((N:Int)<(184:Int))=false:=decide_eq_false (by omega);have g7:decide (16384<N)=false:=decide_eq_false (by omega);have g7':decide ((16384:Int)<(N:Int))=false:=decide_eq_false (by omega);have g8:((N:Int)%16 !=8)=true:=by rw[bne_iff_ne];omega
 have g8':(N%16 !=8)=true:=by rw[bne_iff_ne];omega
 clear hr hw1 hb1 n1 hwd hbd nd hBd hR hT hys hN hK hm hB h2;go_enter Tryz.func182,Tryz.ntmps182
 go_wp2_with (first | (rw[HW1.out]) | fail)
 refine aad wd.heap.size [([0,1,2],3)] [4,5] [] (by kernel_rfl) (by kernel_rfl) (by kernel_rfl) (fun _ _ _ _ _ h=>h) ?_;rw[HWD.out];have q0:∀z:LaterB wd.heap.size wd,(convert 37 9 (.slice (some ⟨g,off,none⟩) 8 c)).run Tryz.prog z.val= .ok (.string T) z.val:=fun z=>by rw[<-HT.out];exact aaJ (HRS.out.below z.ext)
 refine tail_cons (l:= ?segA) ?hsegA ?_
 case hsegA=>simp only[pick,lE1,lE2,lE3];rfl
 repeat (go_big_quiet_step (fail))
 refine wpQuiet_nil ?_;clear q0;refine aas (vs:= #[]) Tryz.call122 rfl rfl rfl (R:=fun r w'=>∃A c,r= .slice A 8 c/\w'.ownsRow wd.heap.size 5 1 (.slice A 8 c) 8 (imMarkB.map bv)/\Below wd.heap.size wd w') (HBG.out.mono ?_) ?_
 · rintro e w' ⟨A,c,rfl,_,ho,hb⟩;exact⟨_,rfl,hb,A,c,rfl,ho,hb⟩
 rintro r w8 _ ⟨A8,c8,rfl,ho8,hb8⟩;have HR8:=hE0 (aak ho8);have HB8:=hE0 (HBD.out.trans (hb8.mono HBD.out.size));have HN8:=hE0 ((hb8.block _ (aaa HND.out)).trans HND.out);refine⟨w8.heap.size,hb8.size,?_⟩;clear ho8 hb8;simp only[Act.put,lE4,lE5,lE6];have q4:∀z:LaterB w8.heap.size w8,(convert 37 9 (.slice A8 8 c8)).run Tryz.prog z.val= .ok (.string T) z.val:=fun z=>by rw[<-HT.out];exact aaJ (HR8.out.below z.ext)
 refine aam (l:= ?lastB) (t:= []) ?hlastB ?htlastB ?_
 case hlastB=>simp only[pick,lE1,lE2,lE3];rfl
 case htlastB=>rfl
 repeat (go_big_quiet_step (fail))
 refine wpQuiet_nil ?_;clear q4;go_wp2_with fail
 refine(HSU.out w8 HB8.out).mono ?_;rintro e w9 ⟨rfl,hb9⟩;have HN9:=hE0 ((hb9.block _ (aaa HN8.out)).trans HN8.out);have HB9:=hE0 (HB8.out.trans (hb9.mono HB8.out.size));clear hb9;go_wp2_with fail
 refine(HNA.out w9 HB9.out).mono ?_;rintro e wq ⟨rfl,rfl⟩;go_wp2_with fail
 refine(HNB.out w9 HB9.out).mono ?_;rintro e wq ⟨rfl,rfl⟩;have n9:=HN9.out;have hl9:=aaa n9;obtain⟨f0,f1,f2⟩:=aay n9;obtain⟨z0,z1,z2⟩:=aac n9;have HM:=hE0 (aa5 n9 (.int .i64 0) (.slice none 0 0) (.slice none 0 0));have HF:=hE0 (((HB9.out.setCell (p:=⟨w.heap.size,0,none⟩) (Nat.le_refl _) (.int .i64 0)).setCell (p:=⟨w.heap.size,1,none⟩) (Nat.le_refl _) (.slice none 0 0)).setCell (p:=⟨w.heap.size,2,none⟩) (Nat.le_refl _) (.slice none 0 0));clear n9;go_wp2
 (try simp only[Exit.inBlock,Exit.then])
 refine abQ (g:=w.heap.size) (x:= .int .i64 3) Tryz.results182 ?_ ?_ ?_ HM.out ?_
 · rfl
 · rfl
 · rfl
 · exact⟨rfl,HF.out⟩
theorem arP (w:World) (A:Option Addr) (n c B:Nat) (b:List UInt8) (hr:Rd w B A n b) (hB:B<=w.heap.size) (hnc:n<=c) (hc:c<=9223372036854775807) (hn:n<=900000) (h28:28<=n) (hm:b.take 8=imMarkB) (hys:aaS b 0 24=true) (N K:Nat) (hN:abH b=N) (hK:abU b=K) (h0:184<=N) (h1:N<=16384) (h2:N%16=8) (h3:1024<K):
 Calls Tryz.prog 182 #[.slice A n c] w fun e w'=>e= .returned (.tuple #[.agg #[.int .i64 0, .slice none 0 0, .slice none 0 0], .int .i64 3])/\Below w.heap.size w w':=by
 obtain⟨g,off,rfl,_⟩:=hr.2 (by omega);obtain⟨w1,hw1⟩:=nmE (w.alloc (.cells #[.int .i64 0, .slice none 0 0, .slice none 0 0] 59));have hb1:=abE hw1;have n1:=anE hw1;obtain⟨wd,hwd⟩:=nmE w1.drew;have hbd:=adE hwd;have nd:=(hbd.block _ (aaa n1)).trans n1;have hBd:=hb1.trans (hbd.mono hb1.size);have HBD:=hE0 hBd;have hR:=(hr.more hB).below hBd;have HR:=hE0 hR;have HRS:=hE0 ((hR.more hBd.size).sub 0 8 (by omega));rw[List.drop_zero,Nat.add_zero]at HRS;have HBG:=hE0 (abM wd);obtain⟨T,hT⟩:=nmE (adh imMarkB);rw[hm]at HRS;have HT:=hE0 hT;have gT:(T.toList !=T.toList)=false:=adf T;have HR0:=hE0 (hr.more hB);have HSU:=hE0 (fun V (hV:Below w.heap.size w V)=>aba V (some ⟨g,off,none⟩) n c w.heap.size b 0 24 ((hr.more hB).below hV) hV.size hnc hc hn (by omega) (by omega) true hys);have HNA:=hE0 (fun V (hV:Below w.heap.size w V)=>aaI (some ⟨g,off+8,none⟩) 8 (c-8) w.heap.size ((b.drop 8).take 8) V (((hr.more hB).sub 8 8 (by omega)).below hV) (Nat.le_refl _));have HNB:=hE0 (fun V (hV:Below w.heap.size w V)=>aaI (some ⟨g,off+16,none⟩) 8 (c-16) w.heap.size ((b.drop 16).take 8) V (((hr.more hB).sub 16 8 (by omega)).below hV) (Nat.le_refl _));have hNl:N<18446744073709551616:=by rw[<-hN];exact aaG _ (List.length_take_le _ _)
 have hKl:K<18446744073709551616:=by rw[<-hK];exact aaG _ (List.length_take_le _ _)
 unfold abH at hN;unfold abU at hK;rw[hN]at HNA;rw[hK]at HNB;have HW1:=hE0 hw1;have HWD:=hE0 hwd;have HND:=hE0 nd;have g1:decide (n<28)=false:=decide_eq_false (by omega);have g3:(8:Int)<=(c:Int):=by omega
 have g4:(16:Int)<=(c:Int):=by omega
 have g5:(24:Int)<=(c:Int):=by omega
 have g6:decide (N<184)=false:=decide_eq_false (by omega);have g6':decide ((N:Int)<(184:Int))=false:=decide_eq_false (by omega);have g7:decide (16384<N)=false:=decide_eq_false (by omega);have g7':decide ((16384:Int)<(N:Int))=false:=decide_eq_false (by omega);have g8:((N:Int)%16 !=8)=false:=by rw[bne_eq_false_iff_eq];omega
 have g8':(N%16 !=8)=false:=by rw[bne_eq_false_iff_eq];omega
 have g9:decide (1024<K)=true:=decide_eq_true (by omega);have g9':decide ((1024:Int)<(K:Int))=true:=decide_eq_true (by omega);clear hr hw1 hb1 n1 hwd hbd nd hBd hR hT hys hN hK hm hB h2;go_enter Tryz.func182,Tryz.ntmps182
 go_wp2_with (first | (rw[HW1.out]) | fail)
 refine aad wd.heap.size [([0,1,2],3)] [4,5] [] (by kernel_rfl) (by kernel_rfl) (by kernel_rfl) (fun _ _ _ _ _ h=>h) ?_;rw[HWD.out];have q0:∀z:LaterB wd.heap.size wd,(convert 37 9 (.slice (some ⟨g,off,none⟩) 8 c)).run Tryz.prog z.val= .ok (.string T) z.val:=fun z=>by rw[<-HT.out];exact aaJ (HRS.out.below z.ext)
 refine tail_cons (l:= ?segA) ?hsegA ?_
 case hsegA=>simp only[pick,lE1,lE2,lE3];rfl
 repeat (go_big_quiet_step (fail))
 refine wpQuiet_nil ?_;clear q0;refine aas (vs:= #[]) Tryz.call122 rfl rfl rfl (R:=fun r w'=>∃A c,r= .slice A 8 c/\w'.ownsRow wd.heap.size 5 1 (.slice A 8 c) 8 (imMarkB.map bv)/\Below wd.heap.size wd w') (HBG.out.mono ?_) ?_
 · rintro e w' ⟨A,c,rfl,_,ho,hb⟩;exact⟨_,rfl,hb,A,c,rfl,ho,hb⟩
 rintro r w8 _ ⟨A8,c8,rfl,ho8,hb8⟩;have HR8:=hE0 (aak ho8);have HB8:=hE0 (HBD.out.trans (hb8.mono HBD.out.size));have HN8:=hE0 ((hb8.block _ (aaa HND.out)).trans HND.out);refine⟨w8.heap.size,hb8.size,?_⟩;clear ho8 hb8;simp only[Act.put,lE4,lE5,lE6];have q4:∀z:LaterB w8.heap.size w8,(convert 37 9 (.slice A8 8 c8)).run Tryz.prog z.val= .ok (.string T) z.val:=fun z=>by rw[<-HT.out];exact aaJ (HR8.out.below z.ext)
 refine aam (l:= ?lastB) (t:= []) ?hlastB ?htlastB ?_
 case hlastB=>simp only[pick,lE1,lE2,lE3];rfl
 case htlastB=>rfl
 repeat (go_big_quiet_step (fail))
 refine wpQuiet_nil ?_;clear q4;go_wp2_with fail
 refine(HSU.out w8 HB8.out).mono ?_;rintro e w9 ⟨rfl,hb9⟩;have HN9:=hE0 ((hb9.block _ (aaa HN8.out)).trans HN8.out);have HB9:=hE0 (HB8.out.trans (hb9.mono HB8.out.size));clear hb9;go_wp2_with fail
 refine(HNA.out w9 HB9.out).mono ?_;rintro e wq ⟨rfl,rfl⟩;go_wp2_with fail
 refine(HNB.out w9 HB9.out).mono ?_;rintro e wq ⟨rfl,rfl⟩;have n9:=HN9.out;have hl9:=aaa n9;obtain⟨f0,f1,f2⟩:=aay n9;obtain⟨z0,z1,z2⟩:=aac n9;have HM:=hE0 (aa5 n9 (.int .i64 0) (.slice none 0 0) (.slice none 0 0));have HF:=hE0 (((HB9.out.setCell (p:=⟨w.heap.size,0,none⟩) (Nat.le_refl _) (.int .i64 0)).setCell (p:=⟨w.heap.size,1,none⟩) (Nat.le_refl _) (.slice none 0 0)).setCell (p:=⟨w.heap.size,2,none⟩) (Nat.le_refl _) (.slice none 0 0));clear n9;go_wp2
 (try simp only[Exit.inBlock,Exit.then])
 refine abQ (g:=w.heap.size) (x:= .int .i64 3) Tryz.results182 ?_ ?_ ?_ HM.out ?_
 · rfl
 · rfl
 · rfl
 · exact⟨rfl,HF.out⟩
theorem arQ (w:World) (A:Option Addr) (n c B:Nat) (b:List UInt8) (hr:Rd w B A n b) (hB:B<=w.heap.size) (hnc:n<=c) (hc:c<=9223372036854775807) (hn:n<=900000) (h28:28<=n) (hm:b.take 8=imMarkB) (hys:aaS b 0 24=true) (N K:Nat) (hN:abH b=N) (hK:abU b=K) (h0:184<=N) (h1:N<=16384) (h2:N%16=8) (h3:K<=1024) (h4:n<32+8*K):
 Calls Tryz.prog 182 #[.slice A n c] w fun e w'=>e= .returned (.tuple #[.agg #[.int .i64 0, .slice none 0 0, .slice none 0 0], .int .i64 3])/\Below w.heap.size w w':=by
 obtain⟨g,off,rfl,_⟩:=hr.2 (by omega);obtain⟨w1,hw1⟩:=nmE (w.alloc (.cells #[.int .i64 0, .slice none 0 0, .slice none 0 0] 59));have hb1:=abE hw1;have n1:=anE hw1;obtain⟨wd,hwd⟩:=nmE w1.drew;have hbd:=adE hwd;have nd:=(hbd.block _ (aaa n1)).trans n1;have hBd:=hb1.trans (hbd.mono hb1.size);have HBD:=hE0 hBd;have hR:=(hr.more hB).below hBd;have HR:=hE0 hR;have HRS:=hE0 ((hR.more hBd.size).sub 0 8 (by omega));rw[List.drop_zero,Nat.add_zero]at HRS;have HBG:=hE0 (abM wd);obtain⟨T,hT⟩:=nmE (adh imMarkB);rw[hm]at HRS;have HT:=hE0 hT;have gT:(T.toList !=T.toList)=false:=adf T;have HR0:=hE0 (hr.more hB);have HSU:=hE0 (fun V (hV:Below w.heap.size w V)=>aba V (some ⟨g,off,none⟩) n c w.heap.size b 0 24 ((hr.more hB).below hV) hV.size hnc hc hn (by omega) (by omega) true hys);have HNA:=hE0 (fun V (hV:Below w.heap.size w V)=>aaI (some ⟨g,off+8,none⟩) 8 (c-8) w.heap.size ((b.drop 8).take 8) V (((hr.more hB).sub 8 8 (by omega)).below hV) (Nat.le_refl _));have HNB:=hE0 (fun V (hV:Below w.heap.size w V)=>aaI (some ⟨g,off+16,none⟩) 8 (c-16) w.heap.size ((b.drop 16).take 8) V (((hr.more hB).sub 16 8 (by omega)).below hV) (Nat.le_refl _));have hNl:N<18446744073709551616:=by rw[<-hN];exact aaG _ (List.length_take_le _ _)
 have hKl:K<18446744073709551616:=by rw[<-hK];exact aaG _ (List.length_take_le _ _)
 unfold abH at hN;unfold abU at hK;rw[hN]at HNA;rw[hK]at HNB;have HW1:=hE0 hw1;have HWD:=hE0 hwd;have HND:=hE0 nd;have g1:decide (n<28)=false:=decide_eq_false (by omega);have g3:(8:Int)<=(c:Int):=by omega
 have g4:(16:Int)<=(c:Int):=by omega
 have g5:(24:Int)<=(c:Int):=by omega
 have g6:decide (N<184)=false:=decide_eq_false (by omega);have g6':decide ((N:Int)<(184:Int))=false:=decide_eq_false (by omega);have g7:decide (16384<N)=false:=decide_eq_false (by omega);have g7':decide ((16384:Int)<(N:Int))=false:=decide_eq_false (by omega);have g8:((N:Int)%16 !=8)=false:=by rw[bne_eq_false_iff_eq];omega
 have g8':(N%16 !=8)=false:=by rw[bne_eq_false_iff_eq];omega
 have g9:decide (1024<K)=false:=decide_eq_false (by omega);have g9':decide ((1024:Int)<(K:Int))=false:=decide_eq_false (by omega);have gm:min (K:Int) 1024=(K:Int):=by omega
 have ga:decide (n<28+8*K+4)=true:=decide_eq_true (by omega);have ga':decide ((n:Int)<(28+8*K+4:Int))=true:=decide_eq_true (by omega);clear hr hw1 hb1 n1 hwd hbd nd hBd hR hT hys hN hK hm hB h2;go_enter Tryz.func182,Tryz.ntmps182
 go_wp2_with (first | (rw[HW1.out]) | fail)
 refine aad wd.heap.size [([0,1,2],3)] [4,5] [] (by kernel_rfl) (by kernel_rfl) (by kernel_rfl) (fun _ _ _ _ _ h=>h) ?_;rw[HWD.out];have q0:∀z:LaterB wd.heap.size wd,(convert 37 9 (.slice (some ⟨g,off,none⟩) 8 c)).run Tryz.prog z.val= .ok (.string T) z.val:=fun z=>by rw[<-HT.out];exact aaJ (HRS.out.below z.ext)
 refine tail_cons (l:= ?segA) ?hsegA ?_
 case hsegA=>simp only[pick,lE1,lE2,lE3];rfl
 repeat (go_big_quiet_step (fail))
 refine wpQuiet_nil ?_;clear q0;refine aas (vs:= #[]) Tryz.call122 rfl rfl rfl (R:=fun r w'=>∃A c,r= .slice A 8 c/\w'.ownsRow wd.heap.size 5 1 (.slice A 8 c) 8 (imMarkB.map bv)/\Below wd.heap.size wd w') (HBG.out.mono ?_) ?_
 · rintro e w' ⟨A,c,rfl,_,ho,hb⟩;exact⟨_,rfl,hb,A,c,rfl,ho,hb⟩
 rintro r w8 _ ⟨A8,c8,rfl,ho8,hb8⟩;have HR8:=hE0 (aak ho8);have HB8:=hE0 (HBD.out.trans (hb8.mono HBD.out.size));have HN8:=hE0 ((hb8.block _ (aaa HND.out)).trans HND.out);refine⟨w8.heap.size,hb8.size,?_⟩;clear ho8 hb8;simp only[Act.put,lE4,lE5,lE6];have q4:∀z:LaterB w8.heap.size w8,(convert 37 9 (.slice A8 8 c8)).run Tryz.prog z.val= .ok (.string T) z.val:=fun z=>by rw[<-HT.out];exact aaJ (HR8.out.below z.ext)
 refine aam (l:= ?lastB) (t:= []) ?hlastB ?htlastB ?_
 case hlastB=>simp only[pick,lE1,lE2,lE3];rfl
 case htlastB=>rfl
 repeat (go_big_quiet_step (fail))
 refine wpQuiet_nil ?_;clear q4;go_wp2_with fail
 refine(HSU.out w8 HB8.out).mono ?_;rintro e w9 ⟨rfl,hb9⟩;have HN9:=hE0 ((hb9.block _ (aaa HN8.out)).trans HN8.out);have HB9:=hE0 (HB8.out.trans (hb9.mono HB8.out.size));clear hb9;go_wp2_with fail
 refine(HNA.out w9 HB9.out).mono ?_;rintro e wq ⟨rfl,rfl⟩;go_wp2_with fail
 refine(HNB.out w9 HB9.out).mono ?_;rintro e wq ⟨rfl,rfl⟩;have n9:=HN9.out;have hl9:=aaa n9;obtain⟨f0,f1,f2⟩:=aay n9;obtain⟨z0,z1,z2⟩:=aac n9;have HM:=hE0 (aa5 n9 (.int .i64 0) (.slice none 0 0) (.slice none 0 0));have HF:=hE0 (((HB9.out.setCell (p:=⟨w.heap.size,0,none⟩) (Nat.le_refl _) (.int .i64 0)).setCell (p:=⟨w.heap.size,1,none⟩) (Nat.le_refl _) (.slice none 0 0)).setCell (p:=⟨w.heap.size,2,none⟩) (Nat.le_refl _) (.slice none 0 0));clear n9;go_wp2
 (try simp only[Exit.inBlock,Exit.then])
 refine abQ (g:=w.heap.size) (x:= .int .i64 3) Tryz.results182 ?_ ?_ ?_ HM.out ?_
 · rfl
 · rfl
 · rfl
 · exact⟨rfl,HF.out⟩
theorem aoa (w:World) (A:Option Addr) (n c B:Nat) (b:List UInt8) (hr:Rd w B A n b) (hB:B<=w.heap.size) (hnc:n<=c) (hc:c<=9223372036854775807) (hn:n<=900000) (h28:28<=n) (hm:b.take 8=imMarkB) (hys:aaS b 0 24=true) (N K:Nat) (hN:abH b=N) (hK:abU b=K) (h0:184<=N) (h1:N<=16384) (h2:N%16=8) (h3:K<=1024) (h4:32+8*K<=n) (hst:aaS b 28 (28+8*K)=false):
 Calls Tryz.prog 182 #[.slice A n c] w fun e w'=>e= .returned (.tuple #[.agg #[.int .i64 0, .slice none 0 0, .slice none 0 0], .int .i64 9])/\Below w.heap.size w w':=by
 obtain⟨g,off,rfl,_⟩:=hr.2 (by omega);obtain⟨w1,hw1⟩:=nmE (w.alloc (.cells #[.int .i64 0, .slice none 0 0, .slice none 0 0] 59));have hb1:=abE hw1;have n1:=anE hw1;obtain⟨wd,hwd⟩:=nmE w1.drew;have hbd:=adE hwd;have nd:=(hbd.block _ (aaa n1)).trans n1;have hBd:=hb1.trans (hbd.mono hb1.size);have HBD:=hE0 hBd;have hR:=(hr.more hB).below hBd;have HR:=hE0 hR;have HRS:=hE0 ((hR.more hBd.size).sub 0 8 (by omega));rw[List.drop_zero,Nat.add_zero]at HRS;have HBG:=hE0 (abM wd);obtain⟨T,hT⟩:=nmE (adh imMarkB);rw[hm]at HRS;have HT:=hE0 hT;have gT:(T.toList !=T.toList)=false:=adf T;have HR0:=hE0 (hr.more hB);have HSU:=hE0 (fun V (hV:Below w.heap.size w V)=>aba V (some ⟨g,off,none⟩) n c w.heap.size b 0 24 ((hr.more hB).below hV) hV.size hnc hc hn (by omega) (by omega) true hys);have HNA:=hE0 (fun V (hV:Below w.heap.size w V)=>aaI (some ⟨g,off+8,none⟩) 8 (c-8) w.heap.size ((b.drop 8).take 8) V (((hr.more hB).sub 8 8 (by omega)).below hV) (Nat.le_refl _));have HNB:=hE0 (fun V (hV:Below w.heap.size w V)=>aaI (some ⟨g,off+16,none⟩) 8 (c-16) w.heap.size ((b.drop 16).take 8) V (((hr.more hB).sub 16 8 (by omega)).below hV) (Nat.le_refl _));have hNl:N<18446744073709551616:=by rw[<-hN];exact aaG _ (List.length_take_le _ _)
 have hKl:K<18446744073709551616:=by rw[<-hK];exact aaG _ (List.length_take_le _ _)
 unfold abH at hN;unfold abU at hK;rw[hN]at HNA;rw[hK]at HNB;have HW1:=hE0 hw1;have HWD:=hE0 hwd;have HND:=hE0 nd;have g1:decide (n<28)=false:=decide_eq_false (by omega);have g3:(8:Int)<=(c:Int):=by omega
 have g4:(16:Int)<=(c:Int):=by omega
 have g5:(24:Int)<=(c:Int):=by omega
 have g6:decide (N<184)=false:=decide_eq_false (by omega);have g6':decide ((N:Int)<(184:Int))=false:=decide_eq_false (by omega);have g7:decide (16384<N)=false:=decide_eq_false (by omega);have g7':decide ((16384:Int)<(N:Int))=false:=decide_eq_false (by omega);have g8:((N:Int)%16 !=8)=false:=by rw[bne_eq_false_iff_eq];omega
 have g8':(N%16 !=8)=false:=by rw[bne_eq_false_iff_eq];omega
 have g9:decide (1024<K)=false:=decide_eq_false (by omega);have g9':decide ((1024:Int)<(K:Int))=false:=decide_eq_false (by omega);have gm:min (K:Int) 1024=(K:Int):=by omega
 have ga:decide (n<28+8*K+4)=false:=decide_eq_false (by omega);have ga':decide ((n:Int)<(28+8*K+4:Int))=false:=decide_eq_false (by omega);obtain⟨E,hE⟩:=nmE (28+8*K);have hEE:(28:Int)+8*(K:Int)=(E:Int):=by omega
 rw[hE]at ga;have HST:=hE0 (fun V (hV:Below w.heap.size w V)=>aba V (some ⟨g,off,none⟩) n c w.heap.size b 28 E ((hr.more hB).below hV) hV.size hnc hc hn (by omega) (by omega) false (by rw[<-hE];exact hst));clear hr hw1 hb1 n1 hwd hbd nd hBd hR hT hys hN hK hm hB h2 hst;go_enter Tryz.func182,Tryz.ntmps182
 go_wp2_with (first | (rw[HW1.out]) | fail)
 refine aad wd.heap.size [([0,1,2],3)] [4,5] [] (by kernel_rfl) (by kernel_rfl) (by kernel_rfl) (fun _ _ _ _ _ h=>h) ?_;rw[HWD.out];have q0:∀z:LaterB wd.heap.size wd,(convert 37 9 (.slice (some ⟨g,off,none⟩) 8 c)).run Tryz.prog z.val= .ok (.string T) z.val:=fun z=>by rw[<-HT.out];exact aaJ (HRS.out.below z.ext)
 refine tail_cons (l:= ?segA) ?hsegA ?_
 case hsegA=>simp only[pick,lE1,lE2,lE3];rfl
 repeat (go_big_quiet_step (fail))
 refine wpQuiet_nil ?_;clear q0;refine aas (vs:= #[]) Tryz.call122 rfl rfl rfl (R:=fun r w'=>∃A c,r= .slice A 8 c/\w'.ownsRow wd.heap.size 5 1 (.slice A 8 c) 8 (imMarkB.map bv)/\Below wd.heap.size wd w') (HBG.out.mono ?_) ?_
 · rintro e w' ⟨A,c,rfl,_,ho,hb⟩;exact⟨_,rfl,hb,A,c,rfl,ho,hb⟩
 rintro r w8 _ ⟨A8,c8,rfl,ho8,hb8⟩;have HR8:=hE0 (aak ho8);have HB8:=hE0 (HBD.out.trans (hb8.mono HBD.out.size));have HN8:=hE0 ((hb8.block _ (aaa HND.out)).trans HND.out);refine⟨w8.heap.size,hb8.size,?_⟩;clear ho8 hb8;simp only[Act.put,lE4,lE5,lE6];have q4:∀z:LaterB w8.heap.size w8,(convert 37 9 (.slice A8 8 c8)).run Tryz.prog z.val= .ok (.string T) z.val:=fun z=>by rw[<-HT.out];exact aaJ (HR8.out.below z.ext)
 refine aam (l:= ?lastB) (t:= []) ?hlastB ?htlastB ?_
 case hlastB=>simp only[pick,lE1,lE2,lE3];rfl
 case htlastB=>rfl
 repeat (go_big_quiet_step (fail))
 refine wpQuiet_nil ?_;clear q4;go_wp2_with fail
 refine(HSU.out w8 HB8.out).mono ?_;rintro e w9 ⟨rfl,hb9⟩;have HN9:=hE0 ((hb9.block _ (aaa HN8.out)).trans HN8.out);have HB9:=hE0 (HB8.out.trans (hb9.mono HB8.out.size));clear hb9;go_wp2_with fail
 refine(HNA.out w9 HB9.out).mono ?_;rintro e wq ⟨rfl,rfl⟩;go_wp2_with fail
 refine(HNB.out w9 HB9.out).mono ?_;rintro e wq ⟨rfl,rfl⟩;go_wp2_with fail
 refine(HST.out w9 HB9.out).mono ?_;rintro e w10 ⟨rfl,hb10⟩;have HN10:=hE0 ((hb10.block _ (aaa HN9.out)).trans HN9.out);have HB10:=hE0 (HB9.out.trans (hb10.mono HB9.out.size));clear hb10;have n9:=HN10.out;have hl9:=aaa n9;obtain⟨f0,f1,f2⟩:=aay n9;obtain⟨z0,z1,z2⟩:=aac n9;have HM:=hE0 (aa5 n9 (.int .i64 0) (.slice none 0 0) (.slice none 0 0));have HF:=hE0 (((HB10.out.setCell (p:=⟨w.heap.size,0,none⟩) (Nat.le_refl _) (.int .i64 0)).setCell (p:=⟨w.heap.size,1,none⟩) (Nat.le_refl _) (.slice none 0 0)).setCell (p:=⟨w.heap.size,2,none⟩) (Nat.le_refl _) (.slice none 0 0));clear n9;go_wp2
 (try simp only[Exit.inBlock,Exit.then])
 refine abQ (g:=w.heap.size) (x:= .int .i64 9) Tryz.results182 ?_ ?_ ?_ HM.out ?_
 · rfl
 · rfl
 · rfl
 · exact⟨rfl,HF.out⟩
def aeP:List Rk->List (List UInt8)
 | []=> []
 | x::l=>if x.u then List.replicate (x.s.toNat-16) 0::aeP l else aeP l
theorem agG (x:Rk):∀l:List Rk,aeP (l++ [x])=aeP l++(if x.u then [List.replicate (x.s.toNat-16) 0] else [])
 | []=>by cases h:x.u<;>simp[aeP,h]
 | y::l=>by cases h:y.u<;>simp[aeP,h,agG x l]
theorem afD (x:Rk):∀l:List Rk,aaK (l++ [x])=aaK l+(if x.u then x.s.toNat-16 else 0)
 | []=>by simp[aaK]
 | y::l=>by simp[aaK,afD x l,Nat.add_assoc]
theorem ajs:∀{l:List Rk},(∀x∈l,aa3 x.s=true)->datOk l (aeP l)=true
 | [],_=>rfl
 | x::l,h=>by
  have hx:=(aae _).1 (h x (by simp));have ih:=ajs (l:=l) fun y hy=>h y (by simp[hy]);unfold datOk aeP
  cases hu:x.u with
  | false=>simpa using ih
  | true=>
   simp only[if_true];rw[ih];simp;omega
theorem ain:∀(l:List Rk) (b:List UInt8),(ae8 l b).length=(aeP l).length
 | [],_=>rfl
 | x::l,b=>by
  unfold ae8 aeP
  cases hu:x.u with
  | false=>simpa using ain l b
  | true=>simpa using ain l (b.drop (x.s.toNat-16))
theorem akt:∀l:List Rk,(aeP l).length<=l.length
 | []=>Nat.le_refl _
 | x::l=>by
  have:=akt l;unfold aeP
  cases hu:x.u<;>simp<;>omega
theorem aio:∀{l:List Rk}{b:List UInt8}{j:Nat}{y:List UInt8},aaK l<=b.length->(ae8 l b)[j]?=some y->y=(b.drop ((ae8 l b).take j).flatten.length).take y.length/\(aeP l)[j]?=some (List.replicate y.length 0)/\((ae8 l b).take j).flatten.length+y.length<=aaK l
 | [],b,j,y,_,h=>by simp[ae8]at h
 | x::l,b,j,y,hl,h=>by
  unfold aaK at hl;unfold ae8 at h ⊢;unfold aeP aaK
  cases hu:x.u with
  | false=>
   rw[hu]at hl h;simp only[Bool.false_eq_true,if_false,Nat.zero_add]at hl h ⊢;exact aio hl h
  | true=>
   rw[hu]at hl h;simp only[if_true]at hl h ⊢
   cases j with
   | zero=>
    simp at h;subst h;have hln:(b.take (x.s.toNat-16)).length=x.s.toNat-16:=by rw[List.length_take];omega
    rw[hln];simp
   | succ j=>
    rw[List.getElem?_cons_succ]at h;have hd:aaK l<=(b.drop (x.s.toNat-16)).length:=by rw[List.length_drop];omega
    obtain⟨h1,h2,h3⟩:=aio hd h;have hln:(b.take (x.s.toNat-16)).length=x.s.toNat-16:=by rw[List.length_take];omega
    refine⟨?_,by rw[List.getElem?_cons_succ];exact h2,?_⟩
    · rw[List.take_succ_cons,List.flatten_cons,List.length_append,hln,<-List.drop_drop];exact h1
    · rw[List.take_succ_cons,List.flatten_cons,List.length_append,hln];omega
theorem agH:∀{l:List Rk}{b:List UInt8},aaK l<=b.length->(ae8 l b).flatten=b.take (aaK l)
 | [],b,_=>by simp[ae8,aaK]
 | x::l,b,hl=>by
  unfold aaK at hl;unfold ae8 aaK
  cases hu:x.u with
  | false=>
   rw[hu]at hl;simp only[Bool.false_eq_true,if_false,Nat.zero_add]at hl ⊢;exact agH hl
  | true=>
   rw[hu]at hl;simp only[if_true]at hl ⊢;rw[List.flatten_cons,agH (by rw[List.length_drop];omega),List.take_add]
section
variable {b:List UInt8} {n N K:Nat} {l:List Rk}
structure HeadOk (b:List UInt8) (n N K:Nat):Prop where
 hn:b.length=n
 h28:28<=n
 hm:b.take 8=imMarkB
 hs:aaS b 0 24=true
 hN:abH b=N
 hK:abU b=K
theorem HeadOk.bad (h:HeadOk b n N K) (hb:¬(184<=N/\N<=16384/\N%16=8/\K<=1024/\32+8*K<=n)):acO b=(3,0,[],[]):=by
 obtain⟨e1,e2,e3,e4,e5,e6⟩:=h;subst e5 e6;by_cases h1:ab3 (abH b:Int)=true/\abU b<=1024
 · have hh:acE b=0:=by
    unfold acE;rw[if_neg (by omega),if_neg (by simpa using e3),if_neg (by rw[e4];simp),if_neg (by rw[h1.1];simp),if_neg (by omega)]
   have:=(aaN _).1 h1.1;have hbl:abB b (abH b) (abU b)=(3,[]):=by
    unfold abB;rw[if_pos (by omega)]
   unfold acO;rw[if_neg (by rw[hh];simp),if_pos (by rw[hbl];simp),hbl]
 · have hh:acE b=3:=by
    unfold acE;rw[if_neg (by omega),if_neg (by simpa using e3),if_neg (by rw[e4];simp)];by_cases h2:ab3 (abH b:Int)=false
    · rw[if_pos h2]
    · rw[if_neg h2,if_pos]
      cases h3:ab3 (abH b:Int)with
      | false=>exact absurd h3 h2
      | true=>exact Nat.lt_of_not_le fun h4=>h1 ⟨h3,h4⟩
   unfold acO;rw[if_pos (by rw[hh];simp),hh]
structure aip (n N K:Nat):Prop where
 n0:184<=N
 n1:N<=16384
 n2:N%16=8
 n3:K<=1024
 n4:32+8*K<=n
theorem HeadOk.zero (h:HeadOk b n N K) (k:aip n N K):acE b=0:=by
 obtain⟨e1,e2,e3,e4,e5,e6⟩:=h;obtain⟨k0,k1,k2,k3,k4⟩:=k;subst e5 e6;unfold acE;rw[if_neg (by omega),if_neg (by simpa using e3),if_neg (by rw[e4];simp),if_neg,if_neg (by omega)];rw[(aaN _).2 (by omega)];simp
theorem HeadOk.tags (h:HeadOk b n N K) (k:aip n N K) (ht:aaS b 28 (28+8*K)=false):acO b=(9,0,[],[]):=by
 have hz:=h.zero k;obtain⟨e1,e2,e3,e4,e5,e6⟩:=h;have:=k.n4;subst e5 e6;have hbl:abB b (abH b) (abU b)=(9,[]):=by
  unfold abB;rw[if_neg (by omega),if_pos ht]
 unfold acO;rw[if_neg (by rw[hz];simp),if_pos (by rw[hbl];simp),hbl]
theorem HeadOk.blks (h:HeadOk b n N K) (k:aip n N K) (ht:aaS b 28 (28+8*K)=true):abB b (abH b) (abU b)=aq2 N (aaQ (b.drop 28) K 184):=by
 obtain⟨e1,e2,e3,e4,e5,e6⟩:=h;have:=k.n4;subst e5 e6;unfold abB;rw[if_neg (by omega),if_neg (by rw[ht];simp)]
theorem HeadOk.none (h:HeadOk b n N K) (k:aip n N K) (ht:aaS b 28 (28+8*K)=true) (hb:aaQ (b.drop 28) K 184=Option.none):acO b=(3,0,[],[]):=by
 have hz:=h.zero k;have hbl:=h.blks k ht;rw[hb]at hbl;have hbl2:abB b (abH b) (abU b)=(3,[]):=hbl;unfold acO;rw[if_neg (by rw[hz];simp),if_pos (by rw[hbl2];simp),hbl2]
theorem HeadOk.rowBad (h:HeadOk b n N K) (k:aip n N K) (ht:aaS b 28 (28+8*K)=true) (hb:aaQ (b.drop 28) K 184=some l) (hr:abe (N:Int) 184 false l=false):acO b=(3,0,[],[]):=by
 have hz:=h.zero k;have hbl:=h.blks k ht;rw[hb]at hbl;have hbl2:abB b (abH b) (abU b)=(3,[]):=by
  rw[hbl];unfold aq2;dsimp only;rw[if_pos hr]
 unfold acO;rw[if_neg (by rw[hz];simp),if_pos (by rw[hbl2];simp),hbl2]
theorem HeadOk.row (h:HeadOk b n N K) (k:aip n N K) (ht:aaS b 28 (28+8*K)=true) (hb:aaQ (b.drop 28) K 184=some l) (hr:abe (N:Int) 184 false l=true):acO b=if (adV b l).1≠0 then ((adV b l).1,0,[],[]) else (0,N,l,(adV b l).2):=by
 have hz:=h.zero k;have hbl:=h.blks k ht;rw[hb]at hbl;have hbl2:abB b (abH b) (abU b)=(0,l):=by
  rw[hbl];unfold aq2;dsimp only;rw[if_neg (by rw[hr];simp)]
 unfold acO;rw[if_neg (by rw[hz];simp),if_neg (by rw[hbl2];simp),hbl2,h.hN]
theorem apY (h:b.length=n) (hl:l.length=K) (hn:n≠32+8*K+aaK l+8):adV b l=(3,[]):=by
 unfold adV;rw[hl,if_pos (by omega)]
theorem apZ (h:b.length=n) (hl:l.length=K) (hn:n=32+8*K+aaK l+8) (y1 y2:Bool) (h1:aaS b (32+8*K) (32+8*K+aaK l)=y1) (h2:aaS b 0 (32+8*K+aaK l+4)=y2) (hy:y1=false\/y2=false):adV b l=(9,[]):=by
 unfold adV;rw[hl,if_neg (by omega),h1,h2];rcases hy with rfl | rfl
 · rw[if_pos rfl]
 · cases y1
   · rw[if_pos rfl]
   · rw[if_neg (by simp),if_pos rfl]
theorem aob (h:b.length=n) (hl:l.length=K) (hn:n=32+8*K+aaK l+8) (h1:aaS b (32+8*K) (32+8*K+aaK l)=true) (h2:aaS b 0 (32+8*K+aaK l+4)=true):adV b l=(0,ae8 l (b.drop (32+8*K))):=by
 unfold adV;rw[hl,if_neg (by omega),h1,h2,if_neg (by simp),if_neg (by simp)]
end
def GotN (w:World) (G:Nat × Nat × List Rk × List (List UInt8)) (e:Ending) (w':World):Prop:=
 ∃A1 A2 c1 c2,e= .returned (.tuple #[.agg #[.int .i64 (G.2.1:Int), .slice A1 G.2.2.1.length c1, .slice A2 G.2.2.2.length c2], .int .i64 (G.1:Int)])/\RkRd w' w'.heap.size A1 G.2.2.1/\DtRd w' w'.heap.size A2 G.2.2.2/\(∀a,A2=some a->w.heap.size<=a.block)/\Below w.heap.size w w'
theorem GotN.err{w w':World}{k:Nat}{e:Ending}(he:e= .returned (.tuple #[.agg #[.int .i64 0, .slice none 0 0, .slice none 0 0], .int .i64 (k:Int)])) (hb:Below w.heap.size w w'):GotN w (k,0,[],[]) e w':=
 ⟨none,none,0,0,he,fun h=>absurd h (by simp),fun h=>absurd h (by simp),fun _ h=>(by cases h),hb⟩
theorem aoc (w:World) (A:Option Addr) (n c B:Nat) (b:List UInt8) (hr:Rd w B A n b) (hB:B<=w.heap.size) (hnc:n<=c) (hc:c<=9223372036854775807) (hn:n<=900000) (h28:28<=n) (hm:b.take 8=imMarkB) (hys:aaS b 0 24=true) (N K:Nat) (hN:abH b=N) (hK:abU b=K) (h0:184<=N) (h1:N<=16384) (h2:N%16=8) (h3:K<=1024) (h4:32+8*K<=n) (hst:aaS b 28 (28+8*K)=true) (G:Nat × Nat × List Rk × List (List UInt8)) (hG:acO b=G):
 Calls Tryz.prog 182 #[.slice A n c] w fun e w'=>GotN w G e w':=by
 have HGG:=hE0 hG;clear hG;obtain⟨g,off,rfl,_⟩:=hr.2 (by omega);obtain⟨w1,hw1⟩:=nmE (w.alloc (.cells #[.int .i64 0, .slice none 0 0, .slice none 0 0] 59));have hb1:=abE hw1;have n1:=anE hw1;obtain⟨wd,hwd⟩:=nmE w1.drew;have hbd:=adE hwd;have nd:=(hbd.block _ (aaa n1)).trans n1;have hBd:=hb1.trans (hbd.mono hb1.size);have HBD:=hE0 hBd;have hR:=(hr.more hB).below hBd;have HR:=hE0 hR;have HRS:=hE0 ((hR.more hBd.size).sub 0 8 (by omega));rw[List.drop_zero,Nat.add_zero]at HRS;have HBG:=hE0 (abM wd);obtain⟨T,hT⟩:=nmE (adh imMarkB);rw[hm]at HRS;have HT:=hE0 hT;have gT:(T.toList !=T.toList)=false:=adf T;have HR0:=hE0 (hr.more hB);have HSU:=hE0 (fun V (hV:Below w.heap.size w V)=>aba V (some ⟨g,off,none⟩) n c w.heap.size b 0 24 ((hr.more hB).below hV) hV.size hnc hc hn (by omega) (by omega) true hys);have HNA:=hE0 (fun V (hV:Below w.heap.size w V)=>aaI (some ⟨g,off+8,none⟩) 8 (c-8) w.heap.size ((b.drop 8).take 8) V (((hr.more hB).sub 8 8 (by omega)).below hV) (Nat.le_refl _));have HNB:=hE0 (fun V (hV:Below w.heap.size w V)=>aaI (some ⟨g,off+16,none⟩) 8 (c-16) w.heap.size ((b.drop 16).take 8) V (((hr.more hB).sub 16 8 (by omega)).below hV) (Nat.le_refl _));have hNl:N<18446744073709551616:=by rw[<-hN];exact aaG _ (List.length_take_le _ _)
 have hKl:K<18446744073709551616:=by rw[<-hK];exact aaG _ (List.length_take_le _ _)
 have hN0:=hN;have hK0:=hK;unfold abH at hN;unfold abU at hK;rw[hN]at HNA;rw[hK]at HNB;have HW1:=hE0 hw1;have HWD:=hE0 hwd;have HND:=hE0 nd;have g1:decide (n<28)=false:=decide_eq_false (by omega);have g3:(8:Int)<=(c:Int):=by omega
 have g4:(16:Int)<=(c:Int):=by omega
 have g5:(24:Int)<=(c:Int):=by omega
 have g6:decide (N<184)=false:=decide_eq_false (by omega);have g6':decide ((N:Int)<(184:Int))=false:=decide_eq_false (by omega);have g7:decide (16384<N)=false:=decide_eq_false (by omega);have g7':decide ((16384:Int)<(N:Int))=false:=decide_eq_false (by omega);have g8:((N:Int)%16 !=8)=false:=by rw[bne_eq_false_iff_eq];omega
 have g8':(N%16 !=8)=false:=by rw[bne_eq_false_iff_eq];omega
 have g9:decide (1024<K)=false:=decide_eq_false (by omega);have g9':decide ((1024:Int)<(K:Int))=false:=decide_eq_false (by omega);have gm:min (K:Int) 1024=(K:Int):=by omega
 have ga:decide (n<28+8*K+4)=false:=decide_eq_false (by omega);have ga':decide ((n:Int)<(28+8*K+4:Int))=false:=decide_eq_false (by omega);obtain⟨E,hE⟩:=nmE (28+8*K);have hEE:(28:Int)+8*(K:Int)=(E:Int):=by omega
 rw[hE]at ga hst;have hEb:E<=10000:=by omega
 have hEn:E+4<=n:=by omega
 have HK3:=hE0 h3;have HHO:Hid (HeadOk b n N K):=(show HeadOk b n N K by exact⟨hr.1,h28,hm,hys,hN0,hK0⟩);have HNO:Hid (aip n N K):=(show aip n N K by exact⟨h0,h1,h2,h3,h4⟩);have HET:=hE0 hE;have HSTT:=hE0 (show aaS b 28 (28+8*K)=true by rw[hE];exact hst);have HST:=hE0 (fun V (hV:Below w.heap.size w V)=>aba V (some ⟨g,off,none⟩) n c w.heap.size b 28 E ((hr.more hB).below hV) hV.size hnc hc hn (by omega) (by omega) true hst);have HSANY:=hE0 (fun V (hV:Below w.heap.size w V) i j (hij:i<=j) (hj:j+4<=n) y (hy:aaS b i j=y)=>aba V (some ⟨g,off,none⟩) n c w.heap.size b i j ((hr.more hB).below hV) hV.size hnc hc hn hij hj y hy);have HNUM:=hE0 (fun V (hV:Below w.heap.size w V) p (hp:p+8<=n)=>aaI (some ⟨g,off+p,none⟩) 8 (c-p) w.heap.size ((b.drop p).take 8) V (((hr.more hB).sub p 8 (by omega)).below hV) (Nat.le_refl _));have HRR:=hE0 (fun V (hV:Below w.heap.size w V) p m (hp:p+m<=n)=>((hr.more hB).below hV).sub p m hp);have HGB:=hE0 (show g<w.heap.size by obtain⟨g',o',e',hg',_⟩:=hr.2 (by omega);injection e' with e';injection e' with e1 _ _;omega);clear hr hw1 hb1 n1 hwd hbd nd hBd hR hT hys hN hK hm hB h2 h3 h4 h28 hst hN0 hK0 hE;go_enter Tryz.func182,Tryz.ntmps182
 go_wp2_with (first | (rw[HW1.out]) | fail)
 refine aad wd.heap.size [([0,1,2],3)] [4,5] [] (by kernel_rfl) (by kernel_rfl) (by kernel_rfl) (fun _ _ _ _ _ h=>h) ?_;rw[HWD.out];have q0:∀z:LaterB wd.heap.size wd,(convert 37 9 (.slice (some ⟨g,off,none⟩) 8 c)).run Tryz.prog z.val= .ok (.string T) z.val:=fun z=>by rw[<-HT.out];exact aaJ (HRS.out.below z.ext)
 refine tail_cons (l:= ?segA) ?hsegA ?_
 case hsegA=>simp only[pick,lE1,lE2,lE3];rfl
 repeat (go_big_quiet_step (fail))
 refine wpQuiet_nil ?_;clear q0;refine aas (vs:= #[]) Tryz.call122 rfl rfl rfl (R:=fun r w'=>∃A c,r= .slice A 8 c/\w'.ownsRow wd.heap.size 5 1 (.slice A 8 c) 8 (imMarkB.map bv)/\Below wd.heap.size wd w') (HBG.out.mono ?_) ?_
 · rintro e w' ⟨A,c,rfl,_,ho,hb⟩;exact⟨_,rfl,hb,A,c,rfl,ho,hb⟩
 rintro r w8 _ ⟨A8,c8,rfl,ho8,hb8⟩;have HR8:=hE0 (aak ho8);have HB8:=hE0 (HBD.out.trans (hb8.mono HBD.out.size));have HN8:=hE0 ((hb8.block _ (aaa HND.out)).trans HND.out);refine⟨w8.heap.size,hb8.size,?_⟩;clear ho8 hb8;simp only[Act.put,lE4,lE5,lE6];have q4:∀z:LaterB w8.heap.size w8,(convert 37 9 (.slice A8 8 c8)).run Tryz.prog z.val= .ok (.string T) z.val:=fun z=>by rw[<-HT.out];exact aaJ (HR8.out.below z.ext)
 refine aam (l:= ?lastB) (t:= []) ?hlastB ?htlastB ?_
 case hlastB=>simp only[pick,lE1,lE2,lE3];rfl
 case htlastB=>rfl
 repeat (go_big_quiet_step (fail))
 refine wpQuiet_nil ?_;clear q4;go_wp2_with fail
 refine(HSU.out w8 HB8.out).mono ?_;rintro e w9 ⟨rfl,hb9⟩;have HN9:=hE0 ((hb9.block _ (aaa HN8.out)).trans HN8.out);have HB9:=hE0 (HB8.out.trans (hb9.mono HB8.out.size));clear hb9;go_wp2_with fail
 refine(HNA.out w9 HB9.out).mono ?_;rintro e wq ⟨rfl,rfl⟩;go_wp2_with fail
 refine(HNB.out w9 HB9.out).mono ?_;rintro e wq ⟨rfl,rfl⟩;go_wp2_with fail
 refine(HST.out w9 HB9.out).mono ?_;rintro e w10 ⟨rfl,hb10⟩;have HN10:=hE0 ((hb10.block _ (aaa HN9.out)).trans HN9.out);have HB10:=hE0 (HB9.out.trans (hb10.mono HB9.out.size));clear hb10;obtain⟨w11,hw11⟩:=nmE (w10.alloc (.cells #[.int .i64 (N:Int), .slice none 0 0, .slice none 0 0] 59));have hb11:=abE hw11;have n11:=anE hw11;have HW11:=hE0 hw11;have HIM0:Hid (ImB w10.heap.size w10.heap.size (N:Int) none 0 [] none 0 [] [] w11):=⟨n11,World.ownsRow_nil _ _ _ _,World.ownsRow_nil _ _ _ _,fun i y h=>by simp at h,Nat.le_refl _,fun x hx=>by simp at hx⟩;have HB11:=hE0 hb11;obtain⟨i0,hi,hz0,hz1,hz2⟩:=info_parts ajp;clear hw11 hb11 n11 HST HW1 HWD HND HN9 HN8 HR8 HRS HBG HSU HNA HNB HR HR0 HBD;go_wp2_with (first | (rw[HW11.out]) | fail)
 go_loopw [10,11,12] (fun o t i wr=>∃(j z q p:Nat) (l:List Rk) (A1:Option Addr) (c1:Nat) (A2:Option Addr) (c2:Nat) (xs:List Value),o= .int .i64 (z:Int)/\t= .int .i64 (q:Int)/\i= .int .i64 (p:Int)/\p=28+8*j/\j<=K/\l.length=j/\z=184+(l.map (·.s.toNat)).sum/\z<=184+20000*j/\q=aaK l/\q<=20000*j/\aaQ (b.drop 28) j 184=some l/\ImB w10.heap.size w10.heap.size (N:Int) A1 c1 l A2 c2 (aeP l) xs wr/\(∀x∈l,aa3 x.s=true)/\Below w10.heap.size w10 wr) (fun _ _ i _=>E-(intOf i).toNat)
 case atStart=>exact⟨0,184,0,28,[],none,0,none,0,[],rfl,rfl,rfl,rfl,Nat.zero_le _,rfl,rfl,by omega,rfl,by omega,rfl,HIM0.out,fun x hx=>by simp at hx,HB11.out⟩
 case round=>
  obtain⟨j,z,q,p,l,A1,c1,A2,c2,xs,rfl,rfl,rfl,hp,hj,hlj,hz,hzb,hq,hqb,hbk,him,hszs,hb⟩:=hrel;have HP:=hE0 hp;have hpb:p<=10000:=by omega
  have hzb2:z<=30000000:=by omega
  have hqb2:q<=30000000:=by omega
  by_cases hlt:p<E
  · have hjK:j<K:=by have:=HET.out;omega
    have hN':=HNUM.out wr (HB10.out.trans (hb.mono HB10.out.size)) p (by omega);have hv:abC ((b.drop p).take 8)<18446744073709551616:=aaG _ (List.length_take_le _ _);have hsn:=aeJ hbk;rw[List.drop_drop,show 28+8*j=p from hp.symm]at hsn;obtain⟨v,hvv⟩:=nmE (abC ((b.drop p).take 8));rw[hvv]at hN' hv hsn;have hU:=aj6 wr v hv;obtain⟨un,hun⟩:=nmE (adT v);rw[hun]at hU hsn;have HNN:=hE0 hN';have HU:=hE0 hU;have hg3:(p:Int)+8<=(c:Int):=by omega
    have hg4:(p:Int)<(c:Int):=by omega
    have hv2:=hv;clear hN' hU hvv hp
    cases un with
    | none=>
     have HE0:Hid (acO b=(3,0,[],[])):=HHO.out.none HNO.out HSTT.out (by
      have h:=agE (j:=K-(j+1)) hsn;rw[show j+1+(K-(j+1))=K from by omega]at h;exact h)
     have HNr:=hE0 ((hb.block _ (aaa HN10.out)).trans HN10.out);have HBr:=hE0 (HB10.out.trans (hb.mono HB10.out.size));unfold ann at HU;clear hsn hbk him hszs hb hz hq hlj hun;go_wp2_with fail
     refine HNN.out.mono ?_;rintro e wq ⟨rfl,rfl⟩;go_wp2_with fail
     refine HU.out.mono ?_;rintro e wq ⟨rfl,rfl⟩;have n9:=HNr.out;have hl9:=aaa n9;obtain⟨f0,f1,f2⟩:=aay n9;obtain⟨z0,z1,z2⟩:=aac n9;have HM:=hE0 (aa5 n9 (.int .i64 0) (.slice none 0 0) (.slice none 0 0));have HF:=hE0 (((HBr.out.setCell (p:=⟨w.heap.size,0,none⟩) (Nat.le_refl _) (.int .i64 0)).setCell (p:=⟨w.heap.size,1,none⟩) (Nat.le_refl _) (.slice none 0 0)).setCell (p:=⟨w.heap.size,2,none⟩) (Nat.le_refl _) (.slice none 0 0));clear n9;go_wp2
     (try simp only[Exit.inBlock,Exit.then])
     refine abQ (g:=w.heap.size) (x:= .int .i64 3) Tryz.results182 ?_ ?_ ?_ HM.out ?_
     · rfl
     · rfl
     · rfl
     · rw[<-HGG.out,HE0.out];exact GotN.err rfl HF.out
    | some x=>
     obtain⟨s,u⟩:=x;have hsz1:=(adi hun).1;have hs3:=(aae _).1 hsz1;have hsn2:=hsn;dsimp only at hsn2;rw[<-hz]at hsn2;obtain⟨w2,hw2⟩:=nmE (wr.alloc (.cells #[.int .i64 (z:Int), .int .i64 (s:Int), .bool u] 132));have hb2:=abE hw2;have n2:=anE hw2;have him2:=him.stay hb2;have hBB:=hb.trans (hb2.mono hb.size);have HNEW:Hid (∀j u',[Value.int .i64 (z:Int), .int .i64 (s:Int), .bool u][j]?=some u'->w2.cell? ((⟨wr.heap.size,0,none⟩:Addr).add j)=some u'):=fun j u' hu'=>by
      have e:(⟨wr.heap.size,0,none⟩:Addr).add j=⟨wr.heap.size,j,none⟩:=by unfold Addr.add;split<;>simp_all
      rw[e,cell_of_row w2 _ j _ _ (0,0) n2];simpa using hu'
     have HONE:Hid (∀u'∈ [Value.int .i64 (z:Int), .int .i64 (s:Int), .bool u],u'.oneCell'=true):=fun u' hu'=>by
      simp at hu';rcases hu' with rfl | rfl | rfl<;>rfl
     have HRUN:=hE0 (fun V:World=>ahA V (z:Int) (s:Int) u);have HW2:=hE0 hw2;have HIM2:=hE0 him2;have HB2:=hE0 hBB;have hB2:w10.heap.size<=w2.heap.size:=hBB.size;have hlb:l.length<=2000:=by omega
     obtain⟨d0,d1,d2⟩:=aac him.obj;have hlm:=him.lt;have hlm2:=him2.lt;have HSNN:=hE0 hsn2;have HSZ:Hid (∀x∈l++ [(⟨(z:Int),(s:Int),u⟩:Rk)],aa3 x.s=true):=fun x hx=>by
      rcases List.mem_append.1 hx with hx | hx
      · exact hszs x hx
      · simp at hx;subst hx;exact hsz1
     have HZ:Hid (((z+s:Nat))=184+((l++ [(⟨(z:Int),(s:Int),u⟩:Rk)]).map (·.s.toNat)).sum):=(show _=_ by
      simp[hz,Nat.add_assoc])
     have HQQ:=hE0 hq;have HLJ:=hE0 hlj;unfold ann at HU;clear hw2 hb2 n2 him2 hBB hsn hsn2 hbk him hszs hb hz hq hlj hun hsz1
     cases u with
     | false=>
      have HH:Hid (q=aaK (l++ [(⟨(z:Int),(s:Int),false⟩:Rk)])):=(show _=_ by rw[afD];simpa using HQQ.out);have HZZ:Hid (aeP (l++ [(⟨(z:Int),(s:Int),false⟩:Rk)])=aeP l):=(show _=_ by rw[agG];simp);go_wp2_with fail
      refine HNN.out.mono ?_;rintro e wq ⟨rfl,rfl⟩;go_wp2_with fail
      refine HU.out.mono ?_;rintro e wq ⟨rfl,rfl⟩;go_wp2_with (first
       | (rw[HRUN.out])
       | (rw[HW2.out])
       | (at_builtin;go_must (refine wpList_append_own _ rfl _ _ 56 rfl w10.heap.size 132 i0 _ 3 24 Tryz.underlying56 hi hz0 hz1 hz2 rfl (by decide) _ l.length (ac4 l) rfl HIM2.out.rl ⟨wr.heap.size,0,none⟩ 1 1 [.int .i64 (z:Int), .int .i64 (s:Int), .bool false] rfl rfl HNEW.out HONE.out (by unfold maxLen;omega) (by omega) hB2 ?_);intro x8 w8 own8 gr8 at8
          obtain⟨A1',c1',rfl,hg8,him8,hb8⟩:=HIM2.out.pushB (x:=⟨(z:Int),(s:Int),false⟩) (by rw[afQ];exact own8) gr8 (by dsimp only;omega) HB2.out (Nat.le_refl _) hB2;have e8:=hg8.trans HIM2.out.obj;obtain⟨c80,c81,c82⟩:=aac e8;obtain⟨t80,t81,t82⟩:=aay e8;have hl8:=aaa e8;have HIM8:=hE0 him8;have HB8x:=hE0 hb8;clear own8 gr8 at8 hg8 him8 hb8 e8)
       | fail)
      go_roundw
      case rel=>
       refine⟨j+1,z+s,q,p+8,l++ [⟨(z:Int),(s:Int),false⟩],A1',c1',A2,c2,xs,by go_num,by go_num,by go_num,by have:=HP.out;omega,by omega,by rw[List.length_append,HLJ.out];rfl,HZ.out,by omega,HH.out,by omega,HSNN.out,?_,HSZ.out,HB8x.out⟩;rw[HZZ.out];exact HIM8.out
      case measure=>simp only[intOf];omega
     | true=>
      go_wp2_with fail
      refine HNN.out.mono ?_;rintro e wq ⟨rfl,rfl⟩;go_wp2_with fail
      refine HU.out.mono ?_;rintro e wq ⟨rfl,rfl⟩;go_wp2_with (first
       | (rw[HRUN.out])
       | (rw[HW2.out])
       | (at_builtin;go_must (refine wpList_append_own _ rfl _ _ 56 rfl w10.heap.size 132 i0 _ 3 24 Tryz.underlying56 hi hz0 hz1 hz2 rfl (by decide) _ l.length (ac4 l) rfl HIM2.out.rl ⟨wr.heap.size,0,none⟩ 1 1 [.int .i64 (z:Int), .int .i64 (s:Int), .bool true] rfl rfl HNEW.out HONE.out (by unfold maxLen;omega) (by omega) hB2 ?_);intro x8 w8 own8 gr8 at8
          obtain⟨A1',c1',rfl,hg8,him8,hb8⟩:=HIM2.out.pushB (x:=⟨(z:Int),(s:Int),true⟩) (by rw[afQ];exact own8) gr8 (by dsimp only;omega) HB2.out (Nat.le_refl _) hB2;have e8:=hg8.trans HIM2.out.obj;obtain⟨c80,c81,c82⟩:=aac e8;obtain⟨t80,t81,t82⟩:=aay e8;have hl8:=aaa e8;have HIM8:=hE0 him8;have HB8x:=hE0 hb8;clear own8 gr8 at8 hg8 him8 hb8 e8)
       | fail)
      obtain⟨wS,hwS⟩:=nmE (w8.setCell ⟨w10.heap.size,1,none⟩ (.slice A1' (l.length+1) c1'));rw[hwS]at HIM8 HB8x ⊢;obtain⟨wD,hwD⟩:=nmE wS.drew;have hbD:=adE hwD;have himD:=HIM8.out.stay hbD;have hBD:=HB8x.out.trans (hbD.mono HB8x.out.size);obtain⟨f0,f1,f2⟩:=aac himD.obj;have hlD:=himD.lt;have HWDD:=hE0 hwD;obtain⟨y,hy⟩:=nmE (List.replicate (s-16) (0:UInt8));have hyl:y.length=s-16:=by rw[<-hy];simp
      have hs16:(s:Int)-16=(y.length:Int):=by omega
      have hyb:y.length<=20000:=by omega
      have hmk:=apU y.length (by omega) y (by rw[hyl];exact hy) wD;obtain⟨wE,hwE⟩:=nmE (wD.alloc (.cells (rowB y) 5));rw[hwE]at hmk;have hbE:=abE hwE;have owE:wE.ownsRow 0 5 1 (.slice (some ⟨wD.heap.size,0,none⟩) y.length y.length) y.length (y.map bv):=by rw[<-hwE];exact World.ownsRow_lit wD (rowB y) y.length (Nat.zero_le _) (by unfold maxLen;omega) (by simp[rowB])
      have himE:=himD.stay hbE;have hBE:=hBD.trans (hbE.mono hBD.size);obtain⟨wF,hwF⟩:=nmE (wE.alloc (.cells #[.slice (some ⟨wD.heap.size,0,none⟩) y.length y.length] 37));have hro:=ad9 wE (some ⟨wD.heap.size,0,none⟩) y.length y.length;rw[hwF]at hro;have hbF:=abE hwF;have nF:=anE hwF;have himF:=himE.stay hbF;have owF:=aaO owE hbF (abl owE);have hBF:=hBE.trans (hbF.mono hBE.size);have HIMF:=hE0 himF;have HBF:=hE0 hBF;have HOWF:=hE0 owF;have HZZ:Hid (aeP (l++ [(⟨(z:Int),(s:Int),true⟩:Rk)])=aeP l++ [y]):=(show _=_ by rw[agG,<-hy];simp);have HH:Hid (q+(s-16)=aaK (l++ [(⟨(z:Int),(s:Int),true⟩:Rk)])):=(show _=_ by rw[afD,HQQ.out];simp);have HYL:=hE0 hyl;have hzl:(aeP l).length<=2000:=by have:=akt l;omega
      have HNF:Hid (∀j u,[Value.slice (some ⟨wD.heap.size,0,none⟩) y.length y.length][j]?=some u->wF.cell? ((⟨wE.heap.size,0,none⟩:Addr).add j)=some u):=fun j u hu=>by
       have e:(⟨wE.heap.size,0,none⟩:Addr).add j=⟨wE.heap.size,j,none⟩:=by unfold Addr.add;split<;>simp_all
       rw[e,cell_of_row wF _ j _ _ (0,0) nF];simpa using hu
      have HOF:Hid (∀u∈ [Value.slice (some ⟨wD.heap.size,0,none⟩) y.length y.length],u.oneCell'=true):=fun u hu=>by
       simp at hu;subst hu;rfl
      have hBFs:w10.heap.size<=wF.heap.size:=hBF.size;obtain⟨j0,ji,jz0,jz1,jz2⟩:=info_parts ajh;clear hwS hwD hbD himD hBD hwE owE himE hBE hwF nF himF owF hBF HIM8 HB8x HIM2 HB2 HNEW HONE hyl hy;clear c80 c81 c82 t80 t81 t82 hl8 d0 d1 d2;refine aad wD.heap.size [([0,1,2,3],4),([],5)] [] [6,7,8] (by kernel_rfl) (by kernel_rfl) (by kernel_rfl) (fun _ _ _ _ _ h=>h) ?_;rw[HWDD.out];have q2:=tfE f2 hlD;refine tail_cons (l:= ?segC) ?hsegC ?_
      case hsegC=>simp only[pick,lE1,lE2,lE3];rfl
      repeat (go_big_quiet_step (fail))
      refine wpQuiet_nil ?_;clear q2;refine aag (some 124) (w1:=wE) (v:= .slice (some ⟨wD.heap.size,0,none⟩) y.length y.length) rfl rfl rfl ?rv1 hbE ⟨wE.heap.size,hbE.size,?_⟩
      case rv1=>exact apV rfl rfl rfl hmk
      simp only[Act.put,lE4,lE5,lE6];refine tail_cons (l:= []) rfl (wpQuiet_nil ?_);refine aag (some 125) (w1:=wF) (v:= .slice (some ⟨wE.heap.size,0,none⟩) 1 1) rfl rfl rfl ?rv2 hbF ⟨wF.heap.size,hbF.size,?_⟩
      case rv2=>exact aah rfl rfl hro
      simp only[Act.put,lE4,lE5,lE6];refine aam (l:= ?lastC) (t:= ?tailC) ?hlastC ?htailC ?_
      case hlastC=>rfl
      case htailC=>simp only[pick,lE1,lE2,lE3];rfl
      refine wpQuiet_nil ?_;refine wpList_append_own _ rfl (.tmp 121) (.tmp 125) 57 rfl w10.heap.size 37 j0 _ 1 24 Tryz.underlying57 ji jz0 jz1 jz2 rfl (by decide) (.slice A2 (aeP l).length c2) (aeP l).length xs rfl HIMF.out.rd ⟨wE.heap.size,0,none⟩ 1 1 [.slice (some ⟨wD.heap.size,0,none⟩) y.length y.length] rfl rfl HNF.out HOF.out (by unfold maxLen;omega) (by omega) hBFs ?_;intro x8 wG own8 gr8 _;obtain⟨A2',c2',rfl,hg8,him8,hb8⟩:=HIMF.out.pushD (by omega) HOWF.out own8 gr8 HBF.out (Nat.le_refl _) hBFs;have e8:=hg8.trans HIMF.out.obj;obtain⟨c80,c81,c82⟩:=aac e8;obtain⟨t80,t81,t82⟩:=aay e8;have hl8:=aaa e8;have HIM9:=hE0 him8;have HB9x:=hE0 hb8;clear own8 gr8 hg8 him8 hb8 e8 hmk hro hbE hbF f0 f1 f2 hlD HIMF HBF HOWF HNF HOF;go_wp2
      go_roundw
      case rel=>
       refine⟨j+1,z+s,q+(s-16),p+8,l++ [⟨(z:Int),(s:Int),true⟩],A1',c1',A2',c2',xs++ [.slice (some ⟨wD.heap.size,0,none⟩) y.length y.length],by go_num,by go_num,by go_num,by have:=HP.out;omega,by omega,by rw[List.length_append,HLJ.out];rfl,HZ.out,by omega,HH.out,by omega,HSNN.out,?_,HSZ.out,HB9x.out⟩;rw[HZZ.out];exact HIM9.out
      case measure=>simp only[intOf];omega
  · have hpE:p=E:=by have:=HET.out;omega
    have hlK:l.length=K:=by have:=HET.out;omega
    have hjK:j=K:=by have:=HET.out;omega
    obtain⟨yr,hyr⟩:=nmE (abe (N:Int) 184 false l);have hmy:acG (N:Int) l (aeP l)=yr:=by
     unfold acG;rw[(aaN (N:Int)).2 (by have:=HNO.out.n0;have:=HNO.out.n1;have:=HNO.out.n2;omega),hyr,ajs hszs]
     cases yr<;>rfl
    have hzl:(aeP l).length<=2000:=by have:=akt l;omega
    obtain⟨dl,hdl⟩:=nmE ((aeP l).length);obtain⟨ll,hll⟩:=nmE l.length;have hM:=alk wr (N:Int) (by omega) A1 A2 c1 c2 l (aeP l) him.rkrd him.dtrd (by omega) (by omega) yr hmy;unfold imV at hM;have hbk2:aaQ (b.drop 28) K 184=some l:=by rw[<-hjK];exact hbk
    have ho:=him.obj;rw[hll,hdl]at hM ho;obtain⟨d0,d1,d2⟩:=aac ho;have hlm:=aaa ho;have HMM:=hE0 hM;have HBK:=hE0 hbk2;have HSZS:=hE0 hszs;have HLK:=hE0 hlK;have HQQ:=hE0 hq;have HIM:=hE0 him;have HB:=hE0 hb;have HDL:=hE0 hdl;have HLL:=hE0 hll;rw[hdl]at hzl;clear hM ho hbk hbk2 him hszs hb hz hq hlj hlK hdl hll hmy hjK HB11 HIM0 HW11
    cases yr with
    | false=>
     have HE0:Hid (acO b=(3,0,[],[])):=HHO.out.rowBad HNO.out HSTT.out HBK.out hyr;clear hyr hpE;go_wp2_with fail
     refine HMM.out.mono ?_;rintro e wm ⟨rfl,hbm⟩;have HNr:=hE0 ((hbm.block _ (Nat.lt_of_lt_of_le (aaa HN10.out) HB.out.size)).trans ((HB.out.block _ (aaa HN10.out)).trans HN10.out));have HBr:=hE0 (HB10.out.trans ((HB.out.trans (hbm.mono HB.out.size)).mono HB10.out.size));clear hbm d0 d1 d2 hlm;have n9:=HNr.out;have hl9:=aaa n9;obtain⟨f0,f1,f2⟩:=aay n9;obtain⟨z0,z1,z2⟩:=aac n9;have HM:=hE0 (aa5 n9 (.int .i64 0) (.slice none 0 0) (.slice none 0 0));have HF:=hE0 (((HBr.out.setCell (p:=⟨w.heap.size,0,none⟩) (Nat.le_refl _) (.int .i64 0)).setCell (p:=⟨w.heap.size,1,none⟩) (Nat.le_refl _) (.slice none 0 0)).setCell (p:=⟨w.heap.size,2,none⟩) (Nat.le_refl _) (.slice none 0 0));clear n9;go_wp2
     (try simp only[Exit.inBlock,Exit.then])
     refine abQ (g:=w.heap.size) (x:= .int .i64 3) Tryz.results182 ?_ ?_ ?_ HM.out ?_
     · rfl
     · rfl
     · rfl
     · rw[<-HGG.out,HE0.out];exact GotN.err rfl HF.out
    | true=>
     have HROW:Hid (acO b=if (adV b l).1≠0 then ((adV b l).1,0,[],[]) else (0,N,l,(adV b l).2)):=HHO.out.row HNO.out HSTT.out HBK.out hyr;clear hyr hpE;by_cases hlen:n=E+4+q+8
     · obtain⟨T2,hT2⟩:=nmE (E+4+q);obtain⟨M,hMM⟩:=nmE (T2+4);have hi1:(E:Int)+4+(q:Int)=(T2:Int):=by omega
       have hi2:(n:Int)-4=(M:Int):=by omega
       have gl:((n:Int) !=(T2:Int)+8)=false:=by rw[bne_eq_false_iff_eq];omega
       obtain⟨y1,hy1⟩:=nmE (aaS b (E+4) T2);obtain⟨y2,hy2⟩:=nmE (aaS b 0 M);have HS1:=hE0 (fun V hV=>HSANY.out V hV (E+4) T2 (by omega) (by omega) y1 hy1);have HS2:=hE0 (fun V hV=>HSANY.out V hV 0 M (by omega) (by omega) y2 hy2);rw[show((E+4:Nat):Int)=(E:Int)+4 from by omega]at HS1;have HDG:Hid (adV b l=if y1=false\/y2=false then (9,[]) else (0,ae8 l (b.drop (E+4)))):=(show _=_ by
        have e1:=HET.out;have e2:E+4=32+8*K:=by omega
        have e3:T2=32+8*K+aaK l:=by have:=HQQ.out;omega
        have e4:M=32+8*K+aaK l+4:=by omega
        have e5:n=32+8*K+aaK l+8:=by have:=HQQ.out;omega
        rw[e2,e3]at hy1;rw[e4]at hy2;by_cases hb:y1=false\/y2=false
        · rw[if_pos hb];exact apZ HHO.out.hn HLK.out e5 y1 y2 hy1 hy2 hb
        · rw[if_neg hb,e2];obtain rfl:y1=true:=by cases y1 with | true=>rfl | false=>exact absurd (.inl rfl) hb
          obtain rfl:y2=true:=by cases y2 with | true=>rfl | false=>exact absurd (.inr rfl) hb
          exact aob HHO.out.hn HLK.out e5 hy1 hy2)
       have hTn:T2+8<=n:=by omega
       have hMn:M<=n:=by omega
       have HT2:=hE0 hT2;have hET2:E+4<=T2:=by omega
       clear hy1 hy2 hlen hT2 hMM;by_cases hbad:y1=false\/y2=false
       · have HE0:Hid (acO b=(9,0,[],[])):=(show _=_ by rw[HROW.out,HDG.out,if_pos hbad];rfl);clear HDG HROW;rcases Bool.eq_false_or_eq_true y1 with e1 | e1
         · obtain rfl:y2=false:=hbad.resolve_left (by rw[e1];simp);subst e1;clear hbad;go_wp2_with fail
           refine HMM.out.mono ?_;rintro e wm ⟨rfl,hbm⟩;have HBm:=hE0 (HB.out.trans (hbm.mono HB.out.size));have HCm:=hE0 (HB10.out.trans (HBm.out.mono HB10.out.size));clear hbm d0 d1 d2 hlm;go_wp2_with fail
           refine(HS1.out wm HCm.out).mono ?_;rintro e wn ⟨rfl,hbn⟩;have HBn:=hE0 (HBm.out.trans (hbn.mono HBm.out.size));have HCn:=hE0 (HB10.out.trans (HBn.out.mono HB10.out.size));clear hbn;go_wp2_with fail
           refine(HS2.out wn HCn.out).mono ?_;rintro e wo ⟨rfl,hbo⟩;have HBo:=hE0 (HBn.out.trans (hbo.mono HBn.out.size));have HBr:=hE0 (HB10.out.trans (HBo.out.mono HB10.out.size));have HNr:=hE0 ((HBo.out.block _ (aaa HN10.out)).trans HN10.out);clear hbo;have n9:=HNr.out;have hl9:=aaa n9;obtain⟨f0,f1,f2⟩:=aay n9;obtain⟨z0,z1,z2⟩:=aac n9;have HM:=hE0 (aa5 n9 (.int .i64 0) (.slice none 0 0) (.slice none 0 0));have HF:=hE0 (((HBr.out.setCell (p:=⟨w.heap.size,0,none⟩) (Nat.le_refl _) (.int .i64 0)).setCell (p:=⟨w.heap.size,1,none⟩) (Nat.le_refl _) (.slice none 0 0)).setCell (p:=⟨w.heap.size,2,none⟩) (Nat.le_refl _) (.slice none 0 0));clear n9;go_wp2
           (try simp only[Exit.inBlock,Exit.then])
           refine abQ (g:=w.heap.size) (x:= .int .i64 9) Tryz.results182 ?_ ?_ ?_ HM.out ?_
           · rfl
           · rfl
           · rfl
           · rw[<-HGG.out,HE0.out];exact GotN.err rfl HF.out
         · subst e1;clear hbad
           cases y2 with
           | false=>
            go_wp2_with fail
            refine HMM.out.mono ?_;rintro e wm ⟨rfl,hbm⟩;have HBm:=hE0 (HB.out.trans (hbm.mono HB.out.size));have HCm:=hE0 (HB10.out.trans (HBm.out.mono HB10.out.size));clear hbm d0 d1 d2 hlm;go_wp2_with fail
            refine(HS1.out wm HCm.out).mono ?_;rintro e wn ⟨rfl,hbn⟩;have HBn:=hE0 (HBm.out.trans (hbn.mono HBm.out.size));have HCn:=hE0 (HB10.out.trans (HBn.out.mono HB10.out.size));clear hbn;go_wp2_with fail
            refine(HS2.out wn HCn.out).mono ?_;rintro e wo ⟨rfl,hbo⟩;have HBo:=hE0 (HBn.out.trans (hbo.mono HBn.out.size));have HBr:=hE0 (HB10.out.trans (HBo.out.mono HB10.out.size));have HNr:=hE0 ((HBo.out.block _ (aaa HN10.out)).trans HN10.out);clear hbo;have n9:=HNr.out;have hl9:=aaa n9;obtain⟨f0,f1,f2⟩:=aay n9;obtain⟨z0,z1,z2⟩:=aac n9;have HM:=hE0 (aa5 n9 (.int .i64 0) (.slice none 0 0) (.slice none 0 0));have HF:=hE0 (((HBr.out.setCell (p:=⟨w.heap.size,0,none⟩) (Nat.le_refl _) (.int .i64 0)).setCell (p:=⟨w.heap.size,1,none⟩) (Nat.le_refl _) (.slice none 0 0)).setCell (p:=⟨w.heap.size,2,none⟩) (Nat.le_refl _) (.slice none 0 0));clear n9;go_wp2
            (try simp only[Exit.inBlock,Exit.then])
            refine abQ (g:=w.heap.size) (x:= .int .i64 9) Tryz.results182 ?_ ?_ ?_ HM.out ?_
            · rfl
            · rfl
            · rfl
            · rw[<-HGG.out,HE0.out];exact GotN.err rfl HF.out
           | true=>
            go_wp2_with fail
            refine HMM.out.mono ?_;rintro e wm ⟨rfl,hbm⟩;have HBm:=hE0 (HB.out.trans (hbm.mono HB.out.size));have HCm:=hE0 (HB10.out.trans (HBm.out.mono HB10.out.size));clear hbm d0 d1 d2 hlm;go_wp2_with fail
            refine(HS1.out wm HCm.out).mono ?_;rintro e wn ⟨rfl,hbn⟩;have HBn:=hE0 (HBm.out.trans (hbn.mono HBm.out.size));have HCn:=hE0 (HB10.out.trans (HBn.out.mono HB10.out.size));clear hbn;go_wp2_with fail
            refine(HS2.out wn HCn.out).mono ?_;rintro e wo ⟨rfl,hbo⟩;have HBo:=hE0 (HBn.out.trans (hbo.mono HBn.out.size));have HBr:=hE0 (HB10.out.trans (HBo.out.mono HB10.out.size));have HNr:=hE0 ((HBo.out.block _ (aaa HN10.out)).trans HN10.out);clear hbo;have n9:=HNr.out;have hl9:=aaa n9;obtain⟨f0,f1,f2⟩:=aay n9;obtain⟨z0,z1,z2⟩:=aac n9;have HM:=hE0 (aa5 n9 (.int .i64 0) (.slice none 0 0) (.slice none 0 0));have HF:=hE0 (((HBr.out.setCell (p:=⟨w.heap.size,0,none⟩) (Nat.le_refl _) (.int .i64 0)).setCell (p:=⟨w.heap.size,1,none⟩) (Nat.le_refl _) (.slice none 0 0)).setCell (p:=⟨w.heap.size,2,none⟩) (Nat.le_refl _) (.slice none 0 0));clear n9;go_wp2
            (try simp only[Exit.inBlock,Exit.then])
            refine abQ (g:=w.heap.size) (x:= .int .i64 9) Tryz.results182 ?_ ?_ ?_ HM.out ?_
            · rfl
            · rfl
            · rfl
            · rw[<-HGG.out,HE0.out];exact GotN.err rfl HF.out
       · obtain rfl:y1=true:=by cases y1 with | true=>rfl | false=>exact absurd (.inl rfl) hbad
         obtain rfl:y2=true:=by cases y2 with | true=>rfl | false=>exact absurd (.inr rfl) hbad
         rw[if_neg hbad]at HDG;have HE0:Hid (acO b=(0,N,l,ae8 l (b.drop (E+4)))):=(show _=_ by rw[HROW.out,HDG.out];rfl);clear HDG HROW hbad;go_wp2_with fail
         refine HMM.out.mono ?_;rintro e wm ⟨rfl,hbm⟩;have HIMm:=hE0 (HIM.out.stay hbm);have HBm:=hE0 (HB.out.trans (hbm.mono HB.out.size));have HCm:=hE0 (HB10.out.trans (HBm.out.mono HB10.out.size));clear hbm d0 d1 d2 hlm;go_wp2_with fail
         refine(HS1.out wm HCm.out).mono ?_;rintro e wn ⟨rfl,hbn⟩;have HIMn:=hE0 (HIMm.out.stay hbn);have HBn:=hE0 (HBm.out.trans (hbn.mono HBm.out.size));have HCn:=hE0 (HB10.out.trans (HBn.out.mono HB10.out.size));clear hbn;go_wp2_with fail
         refine(HS2.out wn HCn.out).mono ?_;rintro e wo ⟨rfl,hbo⟩;have HIMo:=hE0 (HIMn.out.stay hbo);have HBo:=hE0 (HBn.out.trans (hbo.mono HBn.out.size));clear hbo HIMn HIMm HBm HCm HBn HCn HS1 HS2 HMM HIM HB HSANY HNUM;go_wp2_with fail
         obtain⟨F,hF⟩:=nmE (ae8 l (b.drop (E+4)));have hFl:F.length=dl:=by rw[<-hF,ain,HDL.out]
         have hheld:aaK l<=(b.drop (E+4)).length:=by rw[List.length_drop,HHO.out.hn];have:=HQQ.out;have:=HT2.out;omega
         have HCUT:=hE0 (fun(i:Nat) (y:List UInt8) (h:F[i]?=some y)=>aio (l:=l) (b:=b.drop (E+4)) (j:=i) (y:=y) hheld (by rw[hF];exact h));rw[hF]at HCUT HE0;have HFL:=hE0 hFl;have HQL:Hid (E+4+aaK l=T2):=(show _=_ by rw[<-HQQ.out];exact HT2.out);clear hF hFl hheld;go_loopw [19,20] (fun o t W=>∃(i p:Nat) (d:List (List UInt8)) (xs:List Value),o= .int .i64 (p:Int)/\t= .int .i64 (i:Int)/\i<=dl/\p=E+4+(F.take i).flatten.length/\p<=T2/\d=F.take i++(aeP l).drop i/\d.length=dl/\ImB w10.heap.size w10.heap.size (N:Int) A1 c1 l A2 c2 d xs W/\Below w10.heap.size w10 W) (fun _ t _=>dl-(intOf t).toNat)
         case atStart=>exact⟨0,E+4,aeP l,xs,by go_num,rfl,Nat.zero_le _,by simp,by omega,by simp,HDL.out,HIMo.out,HBo.out⟩
         case round=>
          obtain⟨i,p2,d,xs2,rfl,rfl,hi',hp2,hpT,hd,hdl2,him,hb⟩:=hrel;have ho:=him.obj;rw[HLL.out,hdl2]at ho;obtain⟨d0,d1,d2⟩:=aac ho;have hlm:=aaa ho;by_cases hlt:i<dl
          · obtain⟨y,hy⟩:∃y,F[i]?=some y:=⟨F[i]'(by rw[HFL.out];exact hlt),List.getElem?_eq_getElem _⟩;obtain⟨k1,k2,k3⟩:=HCUT.out i y hy;have hdi:d[i]?=some (List.replicate y.length 0):=by
             rw[hd,List.getElem?_append_right (by rw[List.length_take];omega),List.length_take,List.getElem?_drop,show i+(i-min i F.length)=i from by rw[HFL.out];omega];exact k2
            obtain⟨hyl,A',k',hx,_⟩:=him.dt i _ hdi;obtain⟨qb,rfl,hql,hqc⟩:=him.row (by omega);have hcell:=hqc i _ (by omega) hx;rw[List.length_replicate]at hcell hyl;have hpy:p2+y.length<=T2:=by have:=HQL.out;omega
            have hRY:=HRR.out wr (HB10.out.trans (hb.mono HB10.out.size)) p2 y.length (by omega);have hye:(b.drop p2).take y.length=y:=by
             rw[hp2,<-List.drop_drop];exact k1.symm
            rw[hye]at hRY;have hset:d.set i y=F.take (i+1)++(aeP l).drop (i+1):=by
             rw[hd,acC k2,agv hy,List.append_assoc];rw[List.set_append_right _ _ (by rw[List.length_take];omega)];rw[List.length_take,show i-min i F.length=0 from by rw[HFL.out];omega];rfl
            have hp3:p2+y.length=E+4+(F.take (i+1)).flatten.length:=by rw[ace hy,List.length_append];omega
            obtain⟨wD,hwD⟩:=nmE wr.drew;have hbD:=adE hwD;have himD:=him.stay hbD;have hBD:=hb.trans (hbD.mono hb.size);have hRD:=hRY.below ((hbD).mono (HB10.out.trans (hb.mono HB10.out.size)).size);have hoD:=himD.obj;rw[HLL.out,hdl2]at hoD;obtain⟨f0,f1,f2⟩:=aac hoD;have hlD:=himD.lt;have HWDD:=hE0 hwD;obtain⟨wE,hwE⟩:=nmE (wD.alloc (.cells #[] 5));have hro:=afB wD;rw[hwE]at hro;have hbE:=abE hwE;have owE:wE.ownsRow wD.heap.size 5 1 (.slice (some ⟨wD.heap.size,0,none⟩) 0 0) 0 (([]:List UInt8).map bv):=by rw[<-hwE];exact World.ownsRow_lit wD _ 0 (Nat.le_refl _) (by unfold maxLen;omega) rfl
            have hRE:=hRD.below (hbE.mono (by have:=(HB10.out.trans (hBD.mono HB10.out.size)).size;omega));have HIMD:=hE0 himD;have HBDD:=hE0 hBD;have HOWE:=hE0 owE;have HRE:=hE0 hRE;have HSET:=hE0 hset;have HP3:=hE0 hp3;have HDL2:=hE0 hdl2;have hpb2:p2+y.length<=900000:=by omega
            have hyb:y.length<=100000:=hyl;have hs1:(p2:Int)+(y.length:Int)<=(c:Int):=by omega
            have hs2:(p2:Int)<(c:Int):=by omega
            obtain⟨j0,ji,jz0,jz1,jz2⟩:=info_parts aca;clear hwD hbD himD hBD hRD hoD hwE owE hRE hset hp3 hdl2 hd hdi k1 k2 k3 hy hye hRY hx hqc him hb ho hp2 hyl;go_wp2_with fail
            refine aad wD.heap.size [([0,1,2,4,5,6,7,8,9],3),([],10)] [11] [12] (by kernel_rfl) (by kernel_rfl) (by kernel_rfl) (fun _ _ _ _ _ h=>h) ?_;rw[HWDD.out];have q2:=tfE f2 hlD;have s2:0<=(p2:Int)+(y.length:Int):=by omega
            have s3:((p2:Int)+(y.length:Int)).toNat=p2+y.length:=by omega
            have s4:IntKind.i64.wrap ((p2:Int)+(y.length:Int))=(p2:Int)+(y.length:Int):=by rw[IntKind.wrap_i64];omega
            refine tail_cons (l:= ?segD) ?hsegD ?_
            case hsegD=>simp only[pick,lE1,lE2,lE3];rfl
            repeat (go_big_quiet_step (fail))
            refine wpQuiet_nil ?_;clear q2 s2 s3 s4;refine aag (some 181) (w1:=wE) (v:= .slice (some ⟨wD.heap.size,0,none⟩) 0 0) rfl rfl rfl ?rv3 hbE ⟨wD.heap.size,Nat.le_refl _,?_⟩
            case rv3=>exact aah rfl rfl hro
            simp only[Act.put,lE4,lE5,lE6];refine tail_cons (l:= []) rfl (wpQuiet_nil ?_);refine ajo (some 188) (.tmp 181) (.tmp 187) 37 5 rfl rfl rfl rfl Tryz.underlying37 aca (.slice (some ⟨wD.heap.size,0,none⟩) 0 0) 0 [] rfl HOWE.out hbE.size w.heap.size ⟨g,off+p2,none⟩ y.length (c-p2) y rfl HRE.out (by omega) ?_;intro x8 w8 own8 hb8;obtain⟨A8,c8,rfl,_⟩:=aaU own8;have own8':w8.ownsRow 0 5 1 (.slice A8 y.length c8) y.length (y.map bv):=aaY (by simpa using own8) (Nat.zero_le _);have hbE8:=hbE.trans hb8;have him8:=HIMD.out.stay hbE8;obtain⟨q',e',⟨u8,k0⟩,k1,hqg,him9,hb9⟩:=him8.setD (j:=i) (by rw[HDL2.out];exact hlt) hyb own8' (HBDD.out.trans (hbE8.mono HBDD.out.size)) (Nat.le_refl _);injection e' with e';injection e' with e1 _ _;subst e1;rw[HSET.out]at him9;have hl8:=Nat.lt_of_lt_of_le hlD hbE8.size;have HIM9:=hE0 him9;have HB9x:=hE0 hb9;refine⟨wD.heap.size,Nat.le_refl _,?_⟩;have hzero:(0:Nat)+y.length=y.length:=Nat.zero_add _;rw[hzero];clear own8 own8' hb8 hbE8 him8 him9 hb9 hro hbE f0 f1 f2 hlD hqg hzero;simp only[Act.put,lE4,lE5,lE6];refine aam (l:= ?aa7) (t:= ?tailD) ?hlastD ?htailD ?_
            case hlastD=>simp only[pick,lE1,lE2,lE3];rfl
            case htailD=>simp only[pick,lE1,lE2,lE3];rfl
            repeat (go_big_quiet_step (fail))
            refine wpQuiet_nil ?_;go_wp2
            go_roundw
            case rel=>exact⟨i+1,p2+y.length,F.take (i+1)++(aeP l).drop (i+1),_,by go_num,by go_num,by omega,HP3.out,hpy,rfl,by rw[<-HSET.out,List.length_set];exact HDL2.out,HIM9.out,HB9x.out⟩
            case measure=>simp only[intOf];omega
          · have hid:i=dl:=by omega
            have hdF:d=F:=by
             rw[hd,hid,List.take_of_length_le (by rw[HFL.out];omega),List.drop_eq_nil_of_le (by rw[HDL.out];omega),List.append_nil]
            subst hdF;have HNr:=(hb.block _ (aaa HN10.out)).trans HN10.out;have HBr:=HB10.out.trans (hb.mono HB10.out.size);have hl9:=aaa HNr;obtain⟨t0,t1,t2⟩:=aay HNr;obtain⟨z0,z1,z2⟩:=aac HNr;have HM:=hE0 (aa5 HNr (.int .i64 (N:Int)) (.slice A1 ll c1) (.slice A2 dl c2));have HF:=hE0 (((HBr.setCell (p:=⟨w.heap.size,0,none⟩) (Nat.le_refl _) (.int .i64 (N:Int))).setCell (p:=⟨w.heap.size,1,none⟩) (Nat.le_refl _) (.slice A1 ll c1)).setCell (p:=⟨w.heap.size,2,none⟩) (Nat.le_refl _) (.slice A2 dl c2));have HLAID:=hE0 (him.laid (aaa HN10.out) HNr (.int .i64 (N:Int)) (.slice A1 ll c1) (.slice A2 dl c2));have HFL2:=hE0 hdl2;have HA2:Hid (∀a,A2=some a->w.heap.size<=a.block):=(show ∀a,_->_ from fun a e=>Nat.le_trans HB10.out.size (abS him.rd a.block (by rw[e];rfl)));clear HNr HBr him hb ho hd hdl2 hp2;go_wp2
            (try simp only[Exit.inBlock,Exit.then])
            refine abQ (g:=w.heap.size) (x:= .int .i64 0) Tryz.results182 ?_ ?_ ?_ HM.out ?_
            · rfl
            · rfl
            · rfl
            · rw[<-HGG.out,HE0.out];exact⟨A1,A2,c1,c2,by dsimp only;rw[HLL.out,HFL2.out];rfl,HLAID.out.1,HLAID.out.2,HA2.out,HF.out⟩
     · have gl:((n:Int) !=(E:Int)+4+(q:Int)+8)=true:=by rw[bne_iff_ne];omega
       have HE0:Hid (acO b=(3,0,[],[])):=(show _=_ by
        have e1:=HET.out;rw[HROW.out,apY HHO.out.hn HLK.out (by have:=HQQ.out;omega)];rfl)
       clear hlen HROW;go_wp2_with fail
       refine HMM.out.mono ?_;rintro e wm ⟨rfl,hbm⟩;have HNr:=hE0 ((hbm.block _ (Nat.lt_of_lt_of_le (aaa HN10.out) HB.out.size)).trans ((HB.out.block _ (aaa HN10.out)).trans HN10.out));have HBr:=hE0 (HB10.out.trans ((HB.out.trans (hbm.mono HB.out.size)).mono HB10.out.size));clear hbm d0 d1 d2 hlm;have n9:=HNr.out;have hl9:=aaa n9;obtain⟨f0,f1,f2⟩:=aay n9;obtain⟨z0,z1,z2⟩:=aac n9;have HM:=hE0 (aa5 n9 (.int .i64 0) (.slice none 0 0) (.slice none 0 0));have HF:=hE0 (((HBr.out.setCell (p:=⟨w.heap.size,0,none⟩) (Nat.le_refl _) (.int .i64 0)).setCell (p:=⟨w.heap.size,1,none⟩) (Nat.le_refl _) (.slice none 0 0)).setCell (p:=⟨w.heap.size,2,none⟩) (Nat.le_refl _) (.slice none 0 0));clear n9;go_wp2
       (try simp only[Exit.inBlock,Exit.then])
       refine abQ (g:=w.heap.size) (x:= .int .i64 3) Tryz.results182 ?_ ?_ ?_ HM.out ?_
       · rfl
       · rfl
       · rfl
       · rw[<-HGG.out,HE0.out];exact GotN.err rfl HF.out
end Go.Proofs.YthnfclimjmmckaaGreatDoor
