/- Texts of mine, joined. -/
import Derived.Test.YtncadccbepjekaaGreatDoorP14
import Derived.Test.YtncadccbepjekaaGreatDoorP15
import Derived.Test.YtncadccbepjekaaGreatDoorP16
set_option maxRecDepth 100000
set_option maxHeartbeats 2000000
namespace Go.Proofs.YtncadccbepjekaaGreatDoor
open Go.RowKit
def auK (x:Nat × List Rk) (A:Option Addr):Value:=if x.1=0 then .tuple #[.slice A x.2.length x.2.length, .nilIface] else .tuple #[.slice none 0 0, .iface 130 (.int .i64 (x.1:Int))]
theorem ar4{w:World}{g i k:Nat}{cs:Array Value}{t:TypeId}(hg:w.heap[g]?=some (.cells cs t (0,0))) (hs:cs.size=3*k) (hi:i<k):
 (∃y,w.cell? ⟨g,i*3,none⟩=some y)/\(∃y,w.cell? ⟨g,i*3+1,none⟩=some y)/\(∃y,w.cell? ⟨g,i*3+2,none⟩=some y)/\
 w.frozen? ⟨g,i*3,none⟩=false/\w.frozen? ⟨g,i*3+1,none⟩=false/\w.frozen? ⟨g,i*3+2,none⟩=false:=
 ⟨⟨_,(cell_of_row _ _ _ _ _ _ hg).trans (Array.getElem?_eq_getElem (by omega))⟩,⟨_,(cell_of_row _ _ _ _ _ _ hg).trans (Array.getElem?_eq_getElem (by omega))⟩,⟨_,(cell_of_row _ _ _ _ _ _ hg).trans (Array.getElem?_eq_getElem (by omega))⟩,
  frozen_of_row w g _ _ _ hg,frozen_of_row w g _ _ _ hg,frozen_of_row w g _ _ _ hg⟩
theorem apU{w:World}{g i:Nat}{cs:Array Value}{t:TypeId}(hg:w.heap[g]?=some (.cells cs t (0,0))) (x0 x1 x2:Value):
 (((w.setCell ⟨g,i*3,none⟩ x0).setCell ⟨g,i*3+1,none⟩ x1).setCell ⟨g,i*3+2,none⟩ x2).heap[g]?=some (.cells (((cs.setIfInBounds (i*3) x0).setIfInBounds (i*3+1) x1).setIfInBounds (i*3+2) x2) t (0,0)):=by
 have h1:=heap_setCell_same w g (i*3) _ _ x0 hg;have h2:=heap_setCell_same _ g (i*3+1) _ _ x1 h1;exact heap_setCell_same _ g (i*3+2) _ _ x2 h2
theorem akl (w:World) (A:Option Addr) (n c B N k:Nat) (b:List UInt8) (hr:Rd w B A n b) (hBw:B<=w.heap.size) (hnc:n<=c) (hc:c<=9223372036854775807) (hn:n<=900000) (hN:ab0 (N:Int)=true) (hk:k<=1024):
 Calls Tryz.prog 276 #[.slice A n c, .int .i64 (N:Int), .int .i64 (k:Int)] w fun e w'=>∃A2,e= .returned (auK (abD b N k) A2)/\RkRd w' w'.heap.size A2 (abD b N k).2/\Below w.heap.size w w':=by
 have hbl:b.length=n:=hr.1;have HT:=hE0 (fun W (j:Nat) (hj:j<=1024)=>aiX W j (by omega));have hT:=(HT.out w k hk);obtain⟨E,hE⟩:=nmE (28+k*8);rw[hE]at hT;have hEb:E<=10000:=by omega
 unfold abD;rw[hbl,show 32+8*k=E+4 from by omega,show 28+8*k=E from by omega];by_cases h1:n<E+4
 · rw[if_pos h1];have g1:decide (n<E+4)=true:=decide_eq_true h1;have g1':decide ((n:Int)<(E:Int)+4)=true:=decide_eq_true (by omega);clear HT hr hbl hE;go_enter Tryz.func276,Tryz.ntmps276
   go_wp2_with fail
   refine hT.mono ?_;rintro e w2 ⟨rfl,rfl⟩;go_wp2
   go_ret2
   exact⟨none,rfl,fun h=>absurd h (by simp),Below.refl _ _⟩
 rw[if_neg h1];have g1:decide (n<E+4)=false:=decide_eq_false h1;have g1':decide ((n:Int)<(E:Int)+4)=false:=decide_eq_false (by omega);obtain⟨sy,hsy⟩:∃y,abw b 28 E=y:=⟨_,rfl⟩;have HS:=hE0 (act w A n c B b 28 E hr hnc hc hn (by omega) (by omega) sy hsy);rw[hsy]
 cases sy with
 | false=>
  rw[if_pos rfl];clear HT hr hbl hE hsy;go_enter Tryz.func276,Tryz.ntmps276
  go_wp2_with fail
  refine hT.mono ?_;rintro e w2 ⟨rfl,rfl⟩;go_wp2_with fail
  refine HS.out.mono ?_;rintro e w2 ⟨rfl,rfl⟩;go_wp2
  go_ret2
  exact⟨none,rfl,fun h=>absurd h (by simp),Below.refl _ _⟩
 | true=>
  rw[if_neg (by simp)];obtain⟨r,hres⟩:=nmE (atQ N (aaR (b.drop 28) k 184));rw[hres];have HRES:=hE0 hres;clear hres;obtain⟨cs0,hs0,hmk⟩:=atP w k hk;obtain⟨w1,hw1⟩:=nmE (w.alloc (.cells cs0 112));have hb1:=abE hw1;have n1:=anE hw1;have HR:=hE0 ((hr.more hBw));have HN1:=hE0 n1;have HB1:=hE0 hb1;have HW1:=hE0 hw1;have HS0:=hE0 hs0;obtain⟨h184,h16,_⟩:=(aaV (N:Int)).1 hN;have HEE:=hE0 hE;clear hr hbl hsy hw1 hb1 n1 hN hE;go_enter Tryz.func276,Tryz.ntmps276
  go_wp2_with fail
  refine hT.mono ?_;rintro e w2 ⟨rfl,rfl⟩;go_wp2_with fail
  refine HS.out.mono ?_;rintro e w2 ⟨rfl,rfl⟩;go_wp2_with (first | (rw[HW1.out]) | fail)
  go_loopw [10,34] (fun o t wr=>∃(j:Nat) (l:List Rk) (cs:Array Value) (z:Nat),o= .int .i64 (z:Int)/\t= .int .i64 (j:Int)/\j<=k/\z=184+(l.map (·.s.toNat)).sum/\z<=184+20000*j/\aaR (b.drop 28) j 184=some l/\wr.heap[w.heap.size]?=some (.cells cs 112 (0,0))/\cs.size=3*k/\RkC cs l/\Below w.heap.size w wr) (fun _ t _=>k-(intOf t).toNat)
  case atStart=>exact⟨0,[],cs0,184,rfl,rfl,Nat.zero_le _,rfl,by omega,rfl,HN1.out,HS0.out,fun j x hx=>by simp at hx,HB1.out⟩
  case round=>
   obtain⟨j,l,cs,z,rfl,rfl,hj,hz,hzb,hbk,hg,hsz,hrk,hb⟩:=hrel;have hll:=afy hbk;by_cases hlt:j<k
   · have hT2:=HT.out wr j (by omega);obtain⟨p,hp⟩:=nmE (28+j*8);rw[hp]at hT2;have hG:=adS A n c w.heap.size b p wr (HR.out.below hb) hnc (by omega) (by have:=HEE.out;omega);have hv:ab2 ((b.drop p).take 8)<18446744073709551616:=adO _ (List.length_take_le _ _);have hsn:=agK hbk;rw[List.drop_drop,show 28+8*j=p from by omega]at hsn;obtain⟨v,hvv⟩:=nmE (ab2 ((b.drop p).take 8));rw[hvv]at hG hv hsn;have hU:=abm (w:=wr) v hv;obtain⟨un,hun⟩:=nmE (adM v);rw[hun]at hU hsn;have HG:=hE0 hG;have HU:=hE0 hU;have HT2:=hE0 hT2;have HSN:=hE0 hsn;have HB:=hE0 hb;have hp2:p<=10000:=by omega
     clear hG hU hT2 hsn hb hvv hv
     cases un with
     | none=>
      have HE0:Hid (aaR (b.drop 28) k 184=none):=(show _=none by
       have h:=alx (j:=k-(j+1)) HSN.out;rw[show j+1+(k-(j+1))=k from by omega]at h;exact h)
      have HR3:Hid (r=(3,[])):=(show _=_ by rw[<-HRES.out,HE0.out];rfl);clear HSN hbk hg hsz hrk hz hll hun hp;unfold ao3 at HU;go_wp2_with fail
      refine HT2.out.mono ?_;rintro e w2 ⟨rfl,rfl⟩;go_wp2_with fail
      refine HG.out.mono ?_;rintro e w2 ⟨rfl,rfl⟩;go_wp2_with fail
      refine HU.out.mono ?_;rintro e w2 ⟨rfl,rfl⟩;go_wp2
      go_ret2
      exact⟨none,by rw[HR3.out];rfl,by rw[HR3.out];exact fun h=>absurd h (by simp),HB.out⟩
     | some x=>
      obtain⟨s,u⟩:=x;have hs3:=(aab _).1 (ac5 hun).1;have hsn:=HSN.out;dsimp only at hsn;rw[<-hz]at hsn;have HRK:=hE0 (hrk.snoc hsz (by omega) (z:Int) (s:Int) u (by omega) (by omega));have HGG:=hE0 (apU (i:=j) hg (.int .i64 (z:Int)) (.int .i64 (s:Int)) (.bool u));obtain⟨⟨y0,c0⟩,⟨y1,c1⟩,⟨y2,c2⟩,f0,f1,f2⟩:=ar4 hg hsz hlt;rw[hll]at HRK;have HZ:Hid (((z+s:Nat))=184+((l++ [(⟨(z:Int),(s:Int),u⟩:Rk)]).map (·.s.toNat)).sum):=(show _=_ by
       simp[hz,Nat.add_assoc])
      have HSNN:=hE0 hsn;have HSZ:=hE0 hsz;have hgl:=aaa hg;have HBS:=hE0 (((HB.out.setCell (p:=⟨w.heap.size,j*3,none⟩) (Nat.le_refl _) (.int .i64 (z:Int))).setCell (p:=⟨w.heap.size,j*3+1,none⟩) (Nat.le_refl _) (.int .i64 (s:Int))).setCell (p:=⟨w.heap.size,j*3+2,none⟩) (Nat.le_refl _) (.bool u));clear HSN hbk hg hsz hrk hz hll hun hsn hp;unfold ao3 at HU;go_wp2_with fail
      refine HT2.out.mono ?_;rintro e w2 ⟨rfl,rfl⟩;go_wp2_with fail
      refine HG.out.mono ?_;rintro e w2 ⟨rfl,rfl⟩;go_wp2_with fail
      refine HU.out.mono ?_;rintro e w2 ⟨rfl,rfl⟩;go_wp2
      go_roundw
      case rel=>exact⟨j+1,_,_,z+s,by go_num,by go_num,by omega,HZ.out,by omega,HSNN.out,HGG.out,by simp[HSZ.out],HRK.out,HBS.out⟩
      case measure=>simp only[intOf];omega
   · have e:j=k:=by omega
     subst e;have hrd:=hrk.rd hg;have HRD:=hE0 hrd;obtain⟨y,hy⟩:=nmE (abh (N:Int) 184 false l);have HROW:=hE0 (ajZ wr (some ⟨w.heap.size,0,none⟩) j l hrd (by omega) (N:Int) ⟨h184,h16⟩ y hy);rw[hll]at HROW;have HB:=hE0 hb;have hres:=HRES.out;rw[hbk]at hres;unfold atQ at hres;dsimp only at hres;rw[hy]at hres;have HR3:=hE0 hres;clear hres;have HLL:=hE0 hll;clear hrd hy hb hbk hrk hg hsz hz hll
     cases y with
     | false=>
      go_wp2_with fail
      refine HROW.out.mono ?_;rintro e w3 ⟨rfl,hb3⟩;have HF:=hE0 (HB.out.trans (hb3.mono HB.out.size));clear hb3;go_wp2
      go_ret2
      have e:r=(3,[]):=by rw[<-HR3.out];rfl
      exact⟨none,by rw[e];rfl,by rw[e];exact fun h=>absurd h (by simp),HF.out⟩
     | true=>
      go_wp2_with fail
      refine HROW.out.mono ?_;rintro e w3 ⟨rfl,hb3⟩;have HF:=hE0 (HB.out.trans (hb3.mono HB.out.size));have HRF:=hE0 ((HRD.out.below hb3).more hb3.size);clear hb3;go_wp2
      go_ret2
      have e:r=(0,l):=by rw[<-HR3.out];rfl
      exact⟨some ⟨w.heap.size,0,none⟩,by rw[e];unfold auK;rw[if_pos rfl];dsimp only;rw[HLL.out];rfl,by rw[e];exact HRF.out,HF.out⟩
def avd (x:Nat × List (List UInt8)) (A:Option Addr) (c:Nat):Value:=if x.1=0 then .tuple #[.slice A x.2.length c, .nilIface] else .tuple #[.slice none 0 0, .iface 130 (.int .i64 (x.1:Int))]
theorem ai3:∀{l:List Rk},(∀x∈l,aaG x.s=true)->aaP l<=20000*l.length
 | [],_=>Nat.le_refl _
 | x::l,h=>by
  have h1:=ai3 fun y hy=>h y (List.mem_cons_of_mem _ hy);have h2:=(aab _).1 (h x List.mem_cons_self);unfold aaP;rw[List.length_cons];split<;>omega
theorem amL{s:Int}(h:aaG s=true):∃q:Nat,s=((q+16:Nat):Int)/\s.toNat-16=q/\q<=20000:=by
 have h2:=(aab _).1 h;exact⟨s.toNat-16,by omega,rfl,by omega⟩
theorem agT{P:Prop}(h:P:=by
 obtain⟨b2,o,rfl,hbb,hcl⟩:=HL.out (by rw[HM.out];omega);obtain⟨p0,p1,p2,hxo,hxs⟩:=hcl j x hx;have r0:=(hb.cell (p:=⟨b2,o+j*3,none⟩) hbb).trans p0;have r1:=(hb.cell (p:=⟨b2,o+j*3+1,none⟩) hbb).trans p1;have r2:=(hb.cell (p:=⟨b2,o+j*3+2,none⟩) hbb).trans p2;have hsx:=HSZ.out x (List.mem_of_getElem? hx);rw[aeG hx]at hz;unfold aaP at hz;obtain⟨xo,xs,xu⟩:=x;dsimp only at p0 p1 p2 r0 r1 r2 hz hxo hxs hsx;obtain⟨q,hq1,hq2,hq3⟩:=amL hsx;have hxb:16<=xs/\xs<=20016:=by omega
 rw[hq2]at hz;obtain⟨w4,hw4⟩:=nmE (wr.alloc (.cells #[.int .i64 xo, .int .i64 xs, .bool xu] 112));have hb4:Below w.heap.size w w4:=by rw[<-hw4];exact hb.alloc hb.size _
 have n4:=anE hw4;obtain⟨d0,d1,d2⟩:=aam n4;have hl4:=aaa n4;have HHELD:=hE0 (ael w4 xo xs xu hsx);have HW4:=hE0 hw4;have HB4:=hE0 hb4;have HZ:=hE0 hz;clear hx hb p0 p1 p2 hb4 n4 hw4 hcl hz
 cases xu with
 | false=>
  have HF:Hid (z+aaP (l.drop (j+1))=T):=(show _=T by have:=HZ.out;simpa using this);clear hq1 hq2;go_wp2_with (first | (rw[HW4.out]) | fail)
  go_roundw
  case rel=>exact⟨j+1,z,rfl,by go_num,by omega,HF.out,HB4.out⟩
  case measure=>simp only[intOf];omega
 | true=>
  have HF:Hid (z+q+aaP (l.drop (j+1))=T):=(show _=T by have:=HZ.out;rw[if_pos rfl]at this;omega);have HQ:=hE0 hq1;clear hq1 hq2;go_wp2_with (first | (rw[HW4.out]) | fail)
  refine HHELD.out.mono ?_;rintro e w5 ⟨rfl,hb5⟩;have HB5:=hE0 (HB4.out.trans (hb5.mono HB4.out.size));clear hb5;go_wp2_with fail
  go_roundw
  case rel=>exact⟨j+1,z+q,by have:=HQ.out;go_num,by go_num,by omega,HF.out,HB5.out⟩
  case measure=>simp only[intOf];omega
 ):P:=h
theorem anR (w:World) (A A2:Option Addr) (n c B k2:Nat) (b:List UInt8) (l:List Rk) (hr:Rd w B A n b) (hnc:n<=c) (hc:c<=9223372036854775807) (hn:n<=900000) (hl:RkRd w w.heap.size A2 l) (hBw:B<=w.heap.size) (hll:l.length<=1024) (hs:∀x∈l,aaG x.s=true) (hbad:(aeN b l).1≠0):
 Calls Tryz.prog 277 #[.slice A n c, .slice A2 l.length k2] w fun e w'=>e= .returned (avd (aeN b l) none 0)/\(aeN b l).2= []/\Below w.heap.size w w':=by
 have hbl:b.length=n:=hr.1;have hh:=ai3 hs;obtain⟨D,hD⟩:=nmE (aeN b l);rw[hD]at hbad ⊢;unfold aeN at hD;rw[hbl]at hD;obtain⟨m,hm⟩:=nmE l.length;rw[hm]at hll hh hD ⊢;obtain⟨E,hE⟩:=nmE (28+m*8);obtain⟨T,hT⟩:=nmE (E+4+aaP l);have hTE:E+4<=T:=by omega
 rw[show 32+8*m=E+4 from by omega,hT]at hD;have HT:=aiX w m (by omega);rw[hE]at HT;have HTT:=hE0 HT;have HR:=hE0 (hr.more hBw);have HL:=hE0 hl;have HSZ:=hE0 hs;have HM:=hE0 hm;have HTL:=hE0 hT;have hEb:E<=10000:=by omega
 have hTb:T<=30000000:=by omega
 have HDD:=hE0 hD;clear hr hl hs hm hT HT hD hE hh hbl;go_enter Tryz.func277,Tryz.ntmps277
 go_wp2_with fail
 refine HTT.out.mono ?_;rintro e w2 ⟨rfl,rfl⟩;go_wp2_with fail
 go_loopw [7,20] (fun o t wr=>∃(j z:Nat),o= .int .i64 (z:Int)/\t= .int .i64 (j:Int)/\j<=m/\z+aaP (l.drop j)=T/\Below w.heap.size w wr) (fun _ t _=>m-(intOf t).toNat)
 case atStart=>exact⟨0,E+4,by go_num,rfl,Nat.zero_le _,HTL.out,Below.refl _ _⟩
 case round=>
  obtain⟨j,z,rfl,rfl,hj,hz,hb⟩:=hrel;have hzT:z<=T:=by omega
  by_cases hlt:j<m
  · obtain⟨x,hx⟩:∃x,l[j]?=some x:=⟨l[j]'(by rw[HM.out];exact hlt),List.getElem?_eq_getElem _⟩;exact agT
  · have hd:l.drop j= []:=List.drop_eq_nil_of_le (by rw[HM.out];omega);rw[hd]at hz;have hz2:z=T:=hz;subst hz2;have HB:=hE0 hb;have hR:=HR.out.below hb;have hDD:=HDD.out;clear hb hz hd;by_cases h1:n≠z+8
    · rw[if_pos h1]at hDD;have g1:((n:Int) !=(z:Int)+8)=true:=by rw[bne_iff_ne];omega
      have HD3:=hE0 hDD;clear hDD hR;go_wp2
      go_ret2
      exact⟨by rw[<-HD3.out];rfl,by rw[<-HD3.out],HB.out⟩
    · rw[if_neg h1]at hDD;have h1':n=z+8:=Decidable.byContradiction h1;have g1:((n:Int) !=(z:Int)+8)=false:=by rw[bne_eq_false_iff_eq];omega
      obtain⟨y1,hy1⟩:∃y,abw b (E+4) z=y:=⟨_,rfl⟩;obtain⟨y2,hy2⟩:∃y,abw b 0 (z+4)=y:=⟨_,rfl⟩;rw[hy1,hy2]at hDD;have HS1:=hE0 (act wr A n c w.heap.size b (E+4) z hR hnc hc hn (by omega) (by omega) y1 hy1);have HS2:=hE0 (act wr A n c w.heap.size b 0 (z+4) hR hnc hc hn (by omega) (by omega) y2 hy2);rw[show((E+4:Nat):Int)=(E:Int)+4 from by omega]at HS1;rw[show((z+4:Nat):Int)=(z:Int)+4 from by omega]at HS2;have HD3:=hE0 hDD;clear hDD hR hy1 hy2 h1 h1'
      cases y1 with
      | false=>
       go_wp2_with fail
       refine HS1.out.mono ?_;rintro e w5 ⟨rfl,rfl⟩;go_wp2
       go_ret2
       exact⟨by rw[<-HD3.out];rfl,by rw[<-HD3.out];rfl,HB.out⟩
      | true=>
       cases y2 with
       | false=>
        go_wp2_with fail
        refine HS1.out.mono ?_;rintro e w5 ⟨rfl,rfl⟩;go_wp2_with fail
        refine HS2.out.mono ?_;rintro e w5 ⟨rfl,rfl⟩;go_wp2
        go_ret2
        exact⟨by rw[<-HD3.out];rfl,by rw[<-HD3.out];rfl,HB.out⟩
       | true=>
        exact absurd (by rw[<-HD3.out];rfl) hbad
theorem apV (w:World) (A A2:Option Addr) (n c B k2:Nat) (b:List UInt8) (l:List Rk) (hr:Rd w B A n b) (hnc:n<=c) (hc:c<=9223372036854775807) (hn:n<=900000) (hl:RkRd w w.heap.size A2 l) (hBw:B<=w.heap.size) (hll:l.length<=1024) (hs:∀x∈l,aaG x.s=true) (hbad:(aeN b l).1=0):
 Calls Tryz.prog 277 #[.slice A n c, .slice A2 l.length k2] w fun e w'=>∃A3 c3,e= .returned (avd (aeN b l) A3 c3)/\(∃xs,w'.ownsRow w.heap.size 37 1 (.slice A3 (aeN b l).2.length c3) (aeN b l).2.length xs/\DtO w' (aeN b l).2 xs)/\Below w.heap.size w w':=by
 have hbl:b.length=n:=hr.1;have hh:=ai3 hs;obtain⟨D,hD⟩:=nmE (aeN b l);rw[hD]at hbad ⊢;unfold aeN at hD;rw[hbl]at hD;obtain⟨m,hm⟩:=nmE l.length;rw[hm]at hll hh hD ⊢;obtain⟨E,hE⟩:=nmE (28+m*8);obtain⟨T,hT⟩:=nmE (E+4+aaP l);have hTE:E+4<=T:=by omega
 rw[show 32+8*m=E+4 from by omega,hT]at hD;have HT:=aiX w m (by omega);rw[hE]at HT;have HTT:=hE0 HT;have HR:=hE0 (hr.more hBw);have HL:=hE0 hl;have HSZ:=hE0 hs;have HM:=hE0 hm;have HTL:=hE0 hT;have hEb:E<=10000:=by omega
 have hTb:T<=30000000:=by omega
 have HDD:=hE0 hD;clear hr hl hs hm hT HT hD hE hh hbl;go_enter Tryz.func277,Tryz.ntmps277
 go_wp2_with fail
 refine HTT.out.mono ?_;rintro e w2 ⟨rfl,rfl⟩;go_wp2_with fail
 go_loopw [7,20] (fun o t wr=>∃(j z:Nat),o= .int .i64 (z:Int)/\t= .int .i64 (j:Int)/\j<=m/\z+aaP (l.drop j)=T/\Below w.heap.size w wr) (fun _ t _=>m-(intOf t).toNat)
 case atStart=>exact⟨0,E+4,by go_num,rfl,Nat.zero_le _,HTL.out,Below.refl _ _⟩
 case round=>
  obtain⟨j,z,rfl,rfl,hj,hz,hb⟩:=hrel;have hzT:z<=T:=by omega
  by_cases hlt:j<m
  · obtain⟨x,hx⟩:∃x,l[j]?=some x:=⟨l[j]'(by rw[HM.out];exact hlt),List.getElem?_eq_getElem _⟩;exact agT
  · have hd:l.drop j= []:=List.drop_eq_nil_of_le (by rw[HM.out];omega);rw[hd]at hz;have hz2:z=T:=hz;subst hz2;have HB:=hE0 hb;have hR:=HR.out.below hb;have hDD:=HDD.out;clear hb hz hd;have h1:n=z+8:=by
     refine Decidable.byContradiction fun h=> ?_;rw[if_pos h]at hDD;rw[<-hDD]at hbad;exact absurd hbad (by decide)
    rw[if_neg (fun h=>h h1)]at hDD;have g1:((n:Int) !=(z:Int)+8)=false:=by rw[bne_eq_false_iff_eq];omega
    have hy1:abw b (E+4) z=true:=by
     cases h:abw b (E+4) z with
     | true=>rfl
     | false=>
      rw[h,if_pos rfl]at hDD;rw[<-hDD]at hbad;exact absurd hbad (by decide)
    rw[if_neg (by rw[hy1];simp)]at hDD;have hy2:abw b 0 (z+4)=true:=by
     cases h:abw b 0 (z+4)with
     | true=>rfl
     | false=>
      rw[h,if_pos rfl]at hDD;rw[<-hDD]at hbad;exact absurd hbad (by decide)
    rw[if_neg (by rw[hy2];simp)]at hDD;have HS1:=hE0 (act wr A n c w.heap.size b (E+4) z hR hnc hc hn (by omega) (by omega) true hy1);have HS2:=hE0 (act wr A n c w.heap.size b 0 (z+4) hR hnc hc hn (by omega) (by omega) true hy2);rw[show((E+4:Nat):Int)=(E:Int)+4 from by omega]at HS1;rw[show((z+4:Nat):Int)=(z:Int)+4 from by omega]at HS2;obtain⟨F,hF⟩:=nmE (af9 l (b.drop (E+4)));rw[hF]at hDD;have HD3:=hE0 hDD;have HFF:=hE0 hF;have HTL2:=hE0 HTL.out;have hzn:z+8<=n:=by omega
    have hEz:E+4<=z:=hTE;obtain⟨g,off,rfl,hgB,_⟩:=HR.out.2 (by omega);clear hDD hR hy1 hy2 h1 hbad HTL hF;go_wp2_with fail
    refine HS1.out.mono ?_;rintro e w5 ⟨rfl,rfl⟩;go_wp2_with fail
    refine HS2.out.mono ?_;rintro e w5 ⟨rfl,rfl⟩;go_wp2_with fail
    have HBr:=HB;clear HB HS1 HS2 HTT;go_loopw [6,10,52] (fun o v t W=>∃(j p:Nat) (d:List (List UInt8)) (xs:List Value) (A3:Option Addr) (c3:Nat),o= .int .i64 (p:Int)/\v= .slice A3 d.length c3/\t= .int .i64 (j:Int)/\j<=m/\E+4<=p/\p+aaP (l.drop j)=z/\d++af9 (l.drop j) (b.drop p)=F/\W.ownsRow w.heap.size 37 1 (.slice A3 d.length c3) d.length xs/\DtO W d xs/\d.length<=j/\Below w.heap.size w W) (fun _ _ t _=>m-(intOf t).toNat)
    case atStart=>exact⟨0,E+4,[],[],none,0,by go_num,rfl,rfl,Nat.zero_le _,Nat.le_refl _,HTL2.out,HFF.out,World.ownsRow_nil _ _ _ _,fun i y h=>by simp at h,Nat.le_refl _,HBr.out⟩
    case round=>
     obtain⟨j,p,d,xs,A3,c3,rfl,rfl,rfl,hj,hp,hpz,hcut,hown,hdo,hdl,hb⟩:=hrel;by_cases hlt:j<m
     · obtain⟨x,hx⟩:∃x,l[j]?=some x:=⟨l[j]'(by rw[HM.out];exact hlt),List.getElem?_eq_getElem _⟩;obtain⟨b2,o,rfl,hbb,hcl⟩:=HL.out (by rw[HM.out];omega);obtain⟨p0,p1,p2,hxo,hxs⟩:=hcl j x hx;have r0:=(hb.cell (p:=⟨b2,o+j*3,none⟩) hbb).trans p0;have r1:=(hb.cell (p:=⟨b2,o+j*3+1,none⟩) hbb).trans p1;have r2:=(hb.cell (p:=⟨b2,o+j*3+2,none⟩) hbb).trans p2;have hsx:=HSZ.out x (List.mem_of_getElem? hx);rw[aeG hx]at hpz hcut;unfold aaP at hpz;unfold af9 at hcut;obtain⟨xo,xs',xu⟩:=x;dsimp only at p0 p1 p2 r0 r1 r2 hpz hxo hxs hsx hcut;obtain⟨q,hq1,hq2,hq3⟩:=amL hsx;have hxb:16<=xs'/\xs'<=20016:=by omega
       rw[hq2]at hpz hcut;obtain⟨w4,hw4⟩:=nmE (wr.alloc (.cells #[.int .i64 xo, .int .i64 xs', .bool xu] 112));have hb04:=abE hw4;have hb4:Below w.heap.size w w4:=hb.trans (hb04.mono hb.size);have n4:=anE hw4;obtain⟨d0,d1,d2⟩:=aam n4;have hl4:=aaa n4;have hown4:=ab8 hown hb04 (acT hown);have hdo4:DtO w4 d xs:=by rw[<-hw4];exact hdo.grown (World.grownBy_alloc wr _ none) (fun k h=>by cases h)
       have HW4:=hE0 hw4;have HN4:=hE0 n4;have HB4:=hE0 hb4;have HO4:=hE0 hown4;have HD4:=hE0 hdo4;clear hx hb p0 p1 p2 hb4 hb04 n4 hw4 hcl hown hdo hown4 hdo4
       cases xu with
       | false=>
        have HF:Hid (p+aaP (l.drop (j+1))=z):=(show _=z by simpa using hpz);have HC:Hid (d++af9 (l.drop (j+1)) (b.drop p)=F):=(show _=_ by simpa using hcut);clear hq1 hq2 hpz hcut;go_wp2_with (first | (rw[HW4.out]) | fail)
        go_roundw
        case rel=>exact⟨j+1,p,d,xs,A3,c3,rfl,rfl,by go_num,by omega,hp,HF.out,HC.out,HO4.out,HD4.out,by omega,HB4.out⟩
        case measure=>simp only[intOf];omega
       | true=>
        rw[if_pos rfl]at hpz hcut;have hpq:p+q<=z:=by omega
        have HF:Hid (p+q+aaP (l.drop (j+1))=z):=(show _=z by omega);have HC:Hid ((d++ [(b.drop p).take q])++af9 (l.drop (j+1)) (b.drop (p+q))=F):=(show _=_ by
         rw[<-hcut,List.append_assoc,List.drop_drop];rfl)
        have hyl:((b.drop p).take q).length=q:=(HR.out.sub p q (by omega)).1;obtain⟨y,hy⟩:=nmE ((b.drop p).take q);rw[hy]at HC hyl;have HHELD:=hE0 (fun(V:World)=>ael V xo xs' true hsx);rw[show xs'-16=(q:Int) from by omega]at HHELD;have hcl:∀V:World,Below w.heap.size w V->Calls Tryz.prog 92 #[.slice (some ⟨g,off+p,none⟩) q (c-p)] V fun e w'=>aoK y V e w':=fun V hV=>by
         have h:=HR.out.sub p q (by omega);rw[hy]at h;have h2:=abU (some ⟨g,off+p,none⟩) (c-p) w.heap.size y V (by rw[hyl];exact h.below hV) hV.size (fun e=>by cases e) (by omega);rw[hyl]at h2;exact h2
        have HCL:=hE0 hcl;have HYL:=hE0 hyl;have hg1:(p:Int)<(c:Int):=by omega
        have hg2:(p:Int)+(q:Int)<=(c:Int):=by omega
        obtain⟨i0,hi,hz0,hz1,hz2⟩:=info_parts apC;clear hq1 hq2 hpz hcut hy hcl hyl;go_wp2_with (first | (rw[HW4.out]) | fail)
        refine(HHELD.out w4).mono ?_;rintro e w5 ⟨rfl,hb5⟩;have HN5:=hE0 ((hb5.block _ (aaa HN4.out)).trans HN4.out);have HB5:=hE0 (HB4.out.trans (hb5.mono HB4.out.size));have HO5:=hE0 (ab8 HO4.out hb5 (acT HO4.out));have HD5:=hE0 (HD4.out.stay hb5);clear hb5 d0 d1 d2 hl4;go_wp2_with fail
        refine(HCL.out w5 HB5.out).mono ?_;rintro e w6 ⟨A6,k6,rfl,ho6,hb6⟩;rw[HYL.out]at ho6 ⊢;have hO6:=ab8 HO5.out hb6 (acT HO5.out);have hD6:=HD5.out.stay hb6;have n6:=(hb6.block _ (aaa HN5.out)).trans HN5.out;have hB6:=HB5.out.trans (hb6.mono HB5.out.size);obtain⟨w7,hw7⟩:=nmE (w6.alloc (.cells #[.slice A6 q k6] 37));have hb7:=abE hw7;have n7:=anE hw7;have m7:=(hb7.block _ (aaa n6)).trans n6;have hO7:=ab8 hO6 hb7 (acT hO6);have hD7:=hD6.stay hb7;have ho7:=ab8 ho6 hb7 (acT ho6);have hB7:=hB6.trans (hb7.mono hB6.size);have hlx:xs.length=d.length:=by have:=hO7.1;omega
        have hrow:=apB hO7;have HRUN:=hE0 (fun V:World=>akc V A6 q k6);have HW7:=hE0 hw7;have HNEW:Hid (∀j u,[Value.slice A6 q k6][j]?=some u->w7.cell? ((⟨w6.heap.size,0,none⟩:Addr).add j)=some u):=fun j u hu=>by
         have e:(⟨w6.heap.size,0,none⟩:Addr).add j=⟨w6.heap.size,j,none⟩:=by unfold Addr.add;split<;>simp_all
         rw[e,cell_of_row w7 _ j _ _ (0,0) n7];simpa using hu
        have HONE:Hid (∀u∈ [Value.slice A6 q k6],u.oneCell'=true):=fun u hu=>by
         simp at hu;rcases hu with rfl;rfl
        have hB7s:w.heap.size<=w7.heap.size:=hB7.size;have HO7:=hE0 hO7;have HD7:=hE0 hD7;have Ho7:=hE0 ho7;have HB7:=hE0 hB7;have HN7:=hE0 m7;have HROW:=hE0 hrow;have HLX:=hE0 hlx;have HGE:=hE0 (akb hO7);have hdb:d.length<=2000:=by omega
        have hne:∀k,(Value.slice A3 d.length c3).ownBlock=some k->k≠wr.heap.size:=fun k hk e=>by
         obtain⟨cs,fz,h⟩:=hrow k hk;rw[e,m7]at h;injection h with h;injection h with _ h _;exact absurd h (by decide)
        have HNE:=hE0 hne;have hl7:=aaa m7;clear ho6 hb6 hO6 hD6 n6 hB6 hw7 hb7 n7 m7 hO7 hD7 ho7 hB7 hlx hrow hne HCL;go_wp2_with (first
         | (rw[HRUN.out])
         | (rw[HW7.out])
         | (at_builtin;go_must (refine wpList_append_own _ rfl _ _ 57 rfl w.heap.size 37 i0 _ 1 24 Tryz.underlying57 hi hz0 hz1 hz2 rfl (by decide) _ d.length xs rfl HO7.out ⟨w6.heap.size,0,none⟩ 1 1 [.slice A6 q k6] rfl rfl HNEW.out HONE.out (by unfold maxLen;omega) (by omega) hB7s ?_);intro x8 w8 own8 gr8 at8
            have gr8':w7.grownBy w8 (Value.slice A3 d.length c3).ownBlock:=gr8;have e8:=(gr8'.block _ hl7 (fun e=>HNE.out _ e.symm rfl)).trans HN7.out;obtain⟨c80,c81,c82⟩:=aam e8;have hl8:=aaa e8;have HB8:Hid (Below w.heap.size w w8):=HB7.out.grown gr8' hB7s (fun k hk=>HGE.out k hk);have OWN8:Hid (w8.ownsRow w.heap.size 37 1 x8 (d.length+1) (xs++ [.slice A6 q k6])):=own8;have Ho8:Hid (w8.ownsRow w5.heap.size 5 1 (.slice A6 q k6) q (y.map bv)):=acR Ho7.out gr8' (fun k hk hrk=>by obtain⟨cs,fz,h⟩:=HROW.out k hrk;exact acB Ho7.out hk h (by decide));have HD8:Hid (DtO w8 d xs):=HD7.out.grown gr8' (fun k hk=>by obtain⟨cs,fz,h⟩:=HROW.out k hk;exact⟨cs,_,fz,by decide,h⟩);clear own8 gr8 gr8' at8 e8)
         | fail)
        refine(HHELD.out w8).mono ?_;rintro e w9 ⟨rfl,hb9⟩;obtain⟨A8,c8,rfl,_⟩:=aeM OWN8.out;have HO9:=hE0 (ab8 OWN8.out hb9 (acT OWN8.out));have Ho9:=adx (ab8 Ho8.out hb9 (acT Ho8.out)) (Nat.zero_le _);have HD9:=HD8.out.stay hb9;have HB9:=hE0 (HB8.out.trans (hb9.mono HB8.out.size));have HDS:Hid (DtO w9 (d++ [y]) (xs++ [.slice A6 q k6])):=(show DtO _ _ _ by
         have e:=HYL.out;subst e;exact HD9.snoc HLX.out (by omega) Ho9)
        clear Ho9 HD9 hb9;go_wp2_with fail
        go_roundw
        case rel=>exact⟨j+1,p+q,d++ [y],_,A8,c8,by go_num,by rw[List.length_append,List.length_singleton],by go_num,by omega,by omega,HF.out,HC.out,by rw[List.length_append,List.length_singleton];exact HO9.out,HDS.out,by rw[List.length_append,List.length_singleton];omega,HB9.out⟩
        case measure=>simp only[intOf];omega
     · have hd:l.drop j= []:=List.drop_eq_nil_of_le (by rw[HM.out];omega);rw[hd]at hcut;have hcut2:d=F:=by
        have:af9 [] (b.drop p)= []:=by unfold af9;rfl
        rw[this,List.append_nil]at hcut;exact hcut
       have HE:Hid (D=(0,d)):=(show D=(0,d) by rw[<-HD3.out,hcut2]);have HRD:=hE0 (And.intro hown hdo);have HBF:=hE0 hb;clear hcut hcut2 hd hown hdo hb;go_wp2
       go_ret2
       exact⟨A3,c3,by rw[HE.out];rfl,by rw[HE.out];exact⟨xs,HRD.out⟩,HBF.out⟩
theorem akm (bs:List UInt8) (o v e k:Nat) (h1:o+8<=e) (h2:e+8<=bs.length):alc (alc bs e k) o v=alc (alc bs o v) e k:=by
 have hv:=aag 8 v;have hk:=aag 8 k;unfold alc lay;rw[hv,hk];refine List.ext_getElem? fun i=> ?_;simp only[List.getElem?_append,List.length_append,List.length_take,List.length_drop,List.getElem?_take,List.getElem?_drop,hv,hk];repeat' split
 all_goals first | rfl | omega | (congr 1;omega) | skip
theorem Became.trans{t:TypeId}{g base cap c':Nat}{A A':Option Addr}{b1 b2:List UInt8}{w w1 w2:World}(h:Ar w1 t g base cap A' c' b1) (ht:Tch (foot g A) w w1) (hA:A'=A\/∀a,A'=some a->w.heap.size<=a.block) (k:Became t g base cap A' b2 w1 w2):Became t g base cap A b2 w w2:=by
 obtain⟨A2,c2,k1,k2,k3⟩:=k;refine⟨A2,c2,k1,ht.trans k2 (fun i hi hf=> ?_),?_⟩
 · rcases hf with rfl | ⟨a,e,rfl⟩
   · exact .inl rfl
   · rcases hA with hA | hA
     · exact .inr ⟨a,hA▸e,rfl⟩
     · exact absurd (hA a e) (by omega)
 · rcases k3 with k3 | k3
   · rcases hA with hA | hA
     · exact .inl (k3.trans hA)
     · exact .inr fun a ha=>hA a (k3▸ha)
   · exact .inr fun a ha=>Nat.le_trans ht.size (k3 a ha)
section
variable {w:World} {g base cap c:Nat} {A:Option Addr} {bs:List UInt8}
theorem av0 (w:World) (g:Nat) (o s:Int) (hs: -9223372036854775808<=s/\s<=9223372036854775807) (u:Bool) (m:Nat) (hm:acf s u=m) (h0:m=0):
 Calls Tryz.prog 217 #[.pointer (some ⟨g,0,none⟩), .agg #[.int .i64 o, .int .i64 s, .bool u]] w fun e w'=>e= .returned (aav false 1)/\Below w.heap.size w w':=by
 obtain⟨w1,hw1⟩:=nmE (w.alloc (.cells #[.int .i64 o, .int .i64 s, .bool u] 112));have hb1:=abE hw1;have hn1:=anE hw1;have HP:=hE0 (ac9 w1 s u (by omega) m hm);have HW1:=hE0 hw1;have HB1:=hE0 hb1;have HN1:=hE0 hn1;subst h0;clear hm hw1 hb1 hn1;go_enter Tryz.func217,Tryz.ntmps217
 obtain⟨⟨c0,c1,c2⟩,f0,f1,f2⟩:=aad HN1.out;go_wp2_with fail
 rw[HW1.out];go_wp2_with fail
 with_reducible refine HP.out.mono ?_
 rintro e w2 ⟨rfl,rfl⟩;go_wp2
 go_ret
 exact⟨rfl,HB1.out⟩
theorem av1 (w:World) (g:Nat) (o:Int) (ho: -9223372036854775808<=o/\o<=9223372036854775807) (s:Int) (hs: -9223372036854775808<=s/\s<=9223372036854775807) (u:Bool) (m:Nat) (hm:acf s u=m) (h0:m≠0) (hc:plc o=false):
 Calls Tryz.prog 217 #[.pointer (some ⟨g,0,none⟩), .agg #[.int .i64 o, .int .i64 s, .bool u]] w fun e w'=>e= .returned (aav false 1)/\Below w.heap.size w w':=by
 obtain⟨w1,hw1⟩:=nmE (w.alloc (.cells #[.int .i64 o, .int .i64 s, .bool u] 112));have hb1:=abE hw1;have hn1:=anE hw1;have HP:=hE0 (ac9 w1 s u (by omega) m hm);have HC:=hE0 (abn w1 o ho false hc);have hm0:((m:Int)==0)=false:=by rw[beq_eq_false_iff_ne];omega
 have HW1:=hE0 hw1;have HB1:=hE0 hb1;have HN1:=hE0 hn1;clear hm hw1 hb1 hn1 h0 hc;go_enter Tryz.func217,Tryz.ntmps217
 obtain⟨⟨c0,c1,c2⟩,f0,f1,f2⟩:=aad HN1.out;go_wp2_with fail
 rw[HW1.out];go_wp2_with fail
 with_reducible refine HP.out.mono ?_
 rintro e w2 ⟨rfl,rfl⟩;go_wp2_with fail
 with_reducible refine HC.out.mono ?_
 rintro e w2 ⟨rfl,rfl⟩;go_wp2
 go_ret
 exact⟨rfl,HB1.out⟩
theorem av2 (h:Ar w 195 g base cap A c bs) (hb:base<=4611686018427387904) (hl:bs.length<=16384) (o:Int) (ho: -9223372036854775808<=o/\o<=9223372036854775807) (s:Int) (hs: -9223372036854775808<=s/\s<=9223372036854775807) (u:Bool) (m:Nat) (hm:acf s u=m) (hm2:m<18446744073709551616) (h0:m≠0) (hc:plc o=true) (hss:32<=s/\s<=16384) (hlt:(bs.length:Int)<o+s):
 Calls Tryz.prog 217 #[.pointer (some ⟨g,0,none⟩), .agg #[.int .i64 o, .int .i64 s, .bool u]] w fun e w'=>e= .returned (aav false 1)/\Below w.heap.size w w':=by
 obtain⟨w1,hw1⟩:=nmE (w.alloc (.cells #[.int .i64 o, .int .i64 s, .bool u] 112));have hb1:=abE hw1;have hn1:=anE hw1;have h1:=h.below hb1;have HP:=hE0 (ac9 w1 s u (by omega) m hm);have HC:=hE0 (abn w1 o ho true hc);have hm0:((m:Int)==0)=false:=by rw[beq_eq_false_iff_ne];omega
 have hpl:=(agL o).1 hc;obtain⟨z,hz⟩:=nmE (wrap64 (wrap64 (o+s)-8));have hzb: -9223372036854775808<=z/\z<=9223372036854775807/\(z<0\/(bs.length:Int)<z+8):=by rw[<-hz];unfold wrap64;omega
 have HZ:=hE0 hz;have HA:=hE0 (aaA h1 z);have HS:=hE0 (ank h1 (by omega) (adr base z) m (as2 _ _) hm2 (apF base hb z (by omega) bs.length 8 (by omega) (by omega) hzb.2.2));have HW1:=hE0 hw1;have HB1:=hE0 hb1;have HN1:=hE0 hn1;clear hm hw1 hb1 hn1 h0 hc h1 h hz hpl;go_enter Tryz.func217,Tryz.ntmps217
 obtain⟨⟨c0,c1,c2⟩,f0,f1,f2⟩:=aad HN1.out;go_wp2_with fail
 rw[HW1.out];go_wp2_with fail
 with_reducible refine HP.out.mono ?_
 rintro e w2 ⟨rfl,rfl⟩;go_wp2_with fail
 with_reducible refine HC.out.mono ?_
 rintro e w2 ⟨rfl,rfl⟩;go_wp2_with fail
 rw[HZ.out]
 with_reducible refine HA.out.mono ?_
 rintro e w2 ⟨rfl,rfl⟩;go_wp2_with fail
 with_reducible refine HS.out.mono ?_
 rintro e w2 ⟨rfl,hb2⟩;have HB2:=hE0 (HB1.out.trans (hb2.mono HB1.out.size));clear hb2;go_wp2
 go_ret
 exact⟨rfl,HB2.out⟩
theorem av3 (h:Ar w 195 g base cap A c bs) (hb:base<=4611686018427387904) (hl:bs.length<=16384) (o s:Nat) (u:Bool) (m:Nat) (hm:acf (s:Int) u=m) (hm2:m<18446744073709551616) (h0:m≠0) (hc:plc (o:Int)=true) (hss:32<=s/\s<=16384) (hle:o+s<=bs.length):
 Calls Tryz.prog 217 #[.pointer (some ⟨g,0,none⟩), .agg #[.int .i64 (o:Int), .int .i64 (s:Int), .bool u]] w fun e w'=>e= .returned (aav true 1)/\Became 195 g base cap A (alc (alc bs o m) (o+s-8) m) w w':=by
 obtain⟨w1,hw1⟩:=nmE (w.alloc (.cells #[.int .i64 (o:Int), .int .i64 (s:Int), .bool u] 112));have hb1:=abE hw1;have hn1:=anE hw1;have h1:=h.below hb1;have HP:=hE0 (ac9 w1 (s:Int) u (by omega) m hm);have HC:=hE0 (abn w1 (o:Int) (by omega) true hc);have hm0:((m:Int)==0)=false:=by rw[beq_eq_false_iff_ne];omega
 have hgl:∀k,foot g A k->k<w.heap.size:=fun k hk=>h.foot_lt hk;have HA:=hE0 (aaA h1 ((o:Int)+(s:Int)-8));have e1:adr base ((o:Int)+(s:Int)-8)=base+(o+s-8):=by rw[show(o:Int)+(s:Int)-8=((o+s-8:Nat):Int) by omega];exact aiZ base hb _ (by omega)
 obtain⟨x1,hx1⟩:∃x1:Nat,base+(o+s-8)=x1:=⟨_,rfl⟩;obtain⟨x2,hx2⟩:∃x2:Nat,base+o=x2:=⟨_,rfl⟩;rw[e1,hx1]at HA;have HS:=hE0 (afq h1 (by omega) x1 (o+s-8) m (by omega) hm2 (by omega) (by omega) (by omega));have HW1:=hE0 hw1;have HB1:=hE0 hb1;have HN1:=hE0 hn1;have HSW:=hE0 (akm bs o m (o+s-8) m (by omega) (by omega));have HGL:=hE0 hgl;have HX2:=hE0 hx2;have HBB:=hE0 hb;clear hm hw1 hb1 hn1 h0 hc h1 h e1 hgl hx1;go_enter Tryz.func217,Tryz.ntmps217
 obtain⟨⟨c0,c1,c2⟩,f0,f1,f2⟩:=aad HN1.out;go_wp2_with fail
 rw[HW1.out];go_wp2_with fail
 with_reducible refine HP.out.mono ?_
 rintro e w2 ⟨rfl,rfl⟩;go_wp2_with fail
 with_reducible refine HC.out.mono ?_
 rintro e w2 ⟨rfl,rfl⟩;go_wp2_with fail
 with_reducible refine HA.out.mono ?_
 rintro e w2 ⟨rfl,rfl⟩;go_wp2_with fail
 with_reducible refine HS.out.mono ?_
 rintro e w2 ⟨rfl,A2,c2,a2,t2,k2⟩;have hn2:=(t2.block _ (aae HN1.out) (fun hf=>absurd (HGL.out _ hf) (by omega))).trans HN1.out;obtain⟨⟨d0,d1,d2⟩,_⟩:=aad hn2;have HA2:=hE0 (aaA a2 (o:Int));rw[aiZ base HBB.out o (by omega),HX2.out]at HA2;have HS2:=hE0 (afq a2 (by rw[acg _ _ _ (by rw[aag];omega)];omega) x2 o m (by omega) hm2 (by omega) (by omega) (by rw[acg _ _ _ (by rw[aag];omega)];omega));have HAR:=hE0 a2;have HT:=hE0 t2;have HK:=hE0 k2;clear a2 t2 k2 hn2;go_wp2_with fail
 with_reducible refine HA2.out.mono ?_
 rintro e w3 ⟨rfl,rfl⟩;go_wp2_with fail
 with_reducible refine HS2.out.mono ?_
 rintro e w3 ⟨rfl,hbe⟩;have hbe2:=(Became.trans HAR.out HT.out HK.out hbe).after HB1.out;have hbe3:Became 195 g base cap A (alc (alc bs o m) (o+s-8) m) w w3:=by rw[<-HSW.out];exact hbe2
 have HE:=hE0 hbe3;clear hbe hbe2 hbe3;go_wp2
 go_ret
 exact⟨rfl,HE.out⟩
end
theorem av4:awo:=by
 intro w g base cap c A bs o s u y h hb hl ho hs hy;subst hy
 cases hz:aaG s with
 | false=>
  have e:aek bs o s u=none:=by unfold aek;rw[if_neg (fun h=>by rw[hz]at h;cases h.1)]
  rw[e];exact av0 w g o s hs u _ rfl (by simp[acf,hz])
 | true=>
  have hss:=(aab _).1 hz;have hm0:acf s u≠0:=by
   simp only[acf,hz,if_true];omega
  have hm2:acf s u<18446744073709551616:=by have:=afX s u;omega
  cases hc:plc o with
  | false=>
   have e:aek bs o s u=none:=by
    unfold aek;rw[if_neg];rintro⟨_,h2⟩;have:=(aa5 _ _ _).1 h2;rw[(agL o).2 (by omega)]at hc
    cases hc
   rw[e];exact av1 w g o ho s hs u _ rfl hm0 hc
  | true=>
   have hp:=(agL o).1 hc;by_cases hle:o+s<=bs.length
   · obtain⟨p,rfl⟩:∃p:Nat,o=(p:Int):=⟨o.toNat,by omega⟩;obtain⟨q,rfl⟩:∃q:Nat,s=(q:Int):=⟨s.toNat,by omega⟩;have e:aek bs (p:Int) (q:Int) u=some (alc (alc bs p (acf (q:Int) u)) (p+q-8) (acf (q:Int) u)):=by
      unfold aek;rw[if_pos ⟨hz,(aa5 _ _ _).2 (by omega)⟩,Int.toNat_natCast,show((p:Int)+(q:Int)-8).toNat=p+q-8 by omega]
     rw[e];exact av3 h hb hl p q u _ rfl hm2 hm0 hc (by omega) (by omega)
   · have e:aek bs o s u=none:=by
      unfold aek;rw[if_neg];rintro⟨_,h2⟩;have:=(aa5 _ _ _).1 h2;omega
     rw[e];exact av2 h hb hl o ho s hs u _ rfl hm2 hm0 hc (by omega) (by omega)
theorem atX{a b:Int}(h:a=b):Ending.returned (.int .u64 a)= .returned (.int .u64 b):=by rw[h]
theorem agU{t:TypeId}{g base cap:Nat}{A:Option Addr}{b1 b2:List UInt8}{w w1:World}{F:Nat}{args:Array Value}{r:Ending}(h:Became t g base cap A b1 w w1)
 (hc:∀A' c',Ar w1 t g base cap A' c' b1->Calls Tryz.prog F args w1 fun e w2=>e=r/\Became t g base cap A' b2 w1 w2):Calls Tryz.prog F args w1 fun e w2=>e=r/\Became t g base cap A b2 w w2:=by
 obtain⟨A',c',a,tc,k⟩:=h;refine(hc A' c' a).mono ?_;rintro e w2 ⟨h1,h2⟩;exact⟨h1,Became.trans a tc k h2⟩
section
variable {w:World} {g base cap c:Nat} {A:Option Addr} {bs:List UInt8}
theorem aai (h:Ar w 195 g base cap A c bs) (hb:base<=4611686018427387904) (hl:bs.length<=16384) (o:Int) (p:Nat) (hp:o=(p:Int)) (ho:p+8<=bs.length) (v:Nat) (hv:aaf bs p=v):
 Calls Tryz.prog 164 #[.pointer (some ⟨g,0,none⟩), .int .i64 o] w fun e w'=>e= .returned (.int .u64 (v:Int))/\w=w':=by
 subst hp;have HA:=hE0 (acj h);have hwd:=abR h hb hl (p:Int) (by omega) (some v) (by unfold word?;rw[if_pos (by omega),Int.toNat_natCast,hv]);dsimp only[wdV]at hwd;rw[aiZ base hb p (by omega),show((base+p:Nat):Int)=(base:Int)+(p:Int) by omega]at hwd;have HW:=hE0 hwd;have hp2:p<=16384:=by omega
 clear hwd h hv ho hl;go_enter Tryz.func164,Tryz.ntmps164
 go_wp2_with fail
 with_reducible refine HA.out.mono ?_
 rintro e w1 ⟨rfl,rfl⟩;go_wp2_with fail
 refine HW.out.mono ?_;rintro e w1 ⟨rfl,rfl⟩;go_wp2
 go_ret
 exact⟨rfl,rfl⟩
theorem ai4 (h:Ar w 195 g base cap A c bs) (hb:base<=4611686018427387904) (hl:bs.length<=16384) (o:Int) (p:Nat) (hp:o=(p:Int)) (ho:p+8<=bs.length) (v:Nat) (hv:v<18446744073709551616):
 Calls Tryz.prog 228 #[.pointer (some ⟨g,0,none⟩), .int .i64 o, .int .u64 (v:Int)] w fun e w'=>e= .returned (.tuple #[])/\Became 195 g base cap A (lyN bs p v) w w':=by
 subst hp;have HA:=hE0 (acj h);have hwd:=afq h (by omega) (base+p) p v (by omega) hv (by omega) (by omega) ho;rw[show lay bs p (aaJ 8 v)=lyN bs p v from aiO bs p v,show((base+p:Nat):Int)=(base:Int)+(p:Int) by omega]at hwd;have HW:=hE0 hwd;have hp2:p<=16384:=by omega
 clear hwd h ho hl;go_enter Tryz.func228,Tryz.ntmps228
 go_wp2_with fail
 with_reducible refine HA.out.mono ?_
 rintro e w1 ⟨rfl,rfl⟩;go_wp2_with fail
 refine HW.out.mono ?_;rintro e w1 ⟨rfl,hbe⟩;have HB:=hE0 hbe;clear hbe;go_wp2
 go_end0
 exact⟨rfl,HB.out⟩
theorem aaI (w:World) (k:Nat) (hk:k<22):
 Calls Tryz.prog 165 #[.int .i64 (k:Int)] w fun e w'=>e= .returned (.int .i64 (8+8*(k:Int)))/\w=w':=by
 go_enter Tryz.func165,Tryz.ntmps165
 go_wp2
 go_ret
 exact⟨rfl,rfl⟩
theorem ai5 (w:World) (k:Nat) (hk:k<22):
 Calls Tryz.prog 223 #[.int .i64 (k:Int)] w fun e w'=>e= .returned (.int .u64 ((2^k:Nat):Int))/\w=w':=by
 have HP:=hE0 (alb k hk);go_enter Tryz.func223,Tryz.ntmps223
 go_wp2
 go_ret
 refine⟨atX ?_,rfl⟩;have hq:=HP.out;have e:(2:Int)^k=((2^k:Nat):Int):=by rw[Int.natCast_pow];rfl
 rw[IntKind.wrap_u64,e];clear e HP;generalize 2^k=q at hq;omega
end
section
variable {w w1:World} {g base cap c:Nat} {A:Option Addr} {bs b1:List UInt8}
theorem abu (h:Ar w 195 g base cap A c bs) (hb:Below w.heap.size w w1):Became 195 g base cap A bs w w1:=⟨A,c,h.below hb,Tch.of_below hb, .inl rfl⟩
theorem aaT (h:Became 195 g base cap A b1 w w1) (hb:base<=4611686018427387904) (hl:b1.length<=16384) (o:Int) (p:Nat) (hp:o=(p:Int)) (ho:p+8<=b1.length) (v:Nat) (hv:v<18446744073709551616):
 Calls Tryz.prog 228 #[.pointer (some ⟨g,0,none⟩), .int .i64 o, .int .u64 (v:Int)] w1 fun e w2=>e= .returned (.tuple #[])/\Became 195 g base cap A (lyN b1 p v) w w2:=
 agU h fun _ _ a=>ai4 a hb hl o p hp ho v hv
theorem ah9 (h:Became 195 g base cap A b1 w w1) (hb:base<=4611686018427387904) (hl:b1.length<=16384) (o:Int) (p:Nat) (hp:o=(p:Int)) (ho:p+8<=b1.length) (v:Nat) (hv:aaf b1 p=v):
 Calls Tryz.prog 164 #[.pointer (some ⟨g,0,none⟩), .int .i64 o] w1 fun e w2=>e= .returned (.int .u64 (v:Int))/\w1=w2:=by
 obtain⟨_,_,a,_,_⟩:=h;exact aai a hb hl o p hp ho v hv
theorem akn (h:Ar w 195 g base cap A c bs) (hb:base<=4611686018427387904) (n:Nat) (hn:bs.length=n) (hl:n<=16384) (hl2:184<=n) (k:Nat) (hk:k<22):
 Calls Tryz.prog 229 #[.pointer (some ⟨g,0,none⟩), .int .i64 (k:Int), .int .u64 0] w fun e w'=>e= .returned (.tuple #[])/\Became 195 g base cap A (abJ (lyN bs (8+8*k) 0) k) w w':=by
 obtain⟨b1,hb1⟩:=nmE (lyN bs (8+8*k) 0);have hbl:b1.length=n:=by rw[<-hb1,aah _ _ _ (by omega)];exact hn
 have hw1:aaf b1 (8+8*k)=0:=by rw[<-hb1];exact abC _ _ _ (by omega) (by omega)
 obtain⟨v0,hv0⟩:=nmE (aaf b1 0);have hvl:v0<18446744073709551616:=by rw[<-hv0];exact aan _ _
 obtain⟨m,hm⟩:=nmE (2^k);have hml:m<=2097152:=by rw[<-hm];exact alb k hk
 obtain⟨x,hx⟩:=nmE (aeZ v0 k false);have hxl:x<18446744073709551616:=by rw[<-hx];exact aiM v0 k hk hvl false
 have hand:bits .andNot .u64 (v0:Int) (m:Int)=(x:Int):=by rw[<-hm,<-hx];exact ahN v0 k hvl hk
 have hmk:abJ b1 k=lyN b1 0 x:=by rw[amu b1 k (by omega),hw1,hv0];simpa using congrArg (lyN b1 0) hx
 have HS1:=ai4 h hb (by omega) (8+8*(k:Int)) (8+8*k) (by omega) (by omega) 0 (by omega);rw[hb1]at HS1 ⊢;rw[hmk];have HS1:=hE0 HS1;have HF:=hE0 (aaI w k hk);have HT:=fun W=>ai5 W k hk;rw[hm]at HT;have HT:=hE0 HT;have HN:=hE0 (fun W (hB:Became 195 g base cap A b1 w W)=>ah9 hB hb (by omega) 0 0 rfl (by omega) v0 hv0);have HS2:=hE0 (fun W (hB:Became 195 g base cap A b1 w W)=>aaT hB hb (by omega) 0 0 rfl (by omega) x hxl);clear h hb1 hw1 hv0 hm hx hmk hn hbl;go_enter Tryz.func229,Tryz.ntmps229
 go_wp2_with fail
 with_reducible refine HF.out.mono ?_
 rintro e w2 ⟨rfl,rfl⟩;go_wp2_with fail
 refine HS1.out.mono ?_;rintro e w2 ⟨rfl,be1⟩;have B1:=hE0 be1;clear be1;go_wp2_with fail
 refine(HN.out _ B1.out).mono ?_;rintro e w3 ⟨rfl,rfl⟩;go_wp2_with fail
 with_reducible refine(HT.out _).mono ?_
 rintro e w3 ⟨rfl,rfl⟩;go_wp2_with fail
 refine(HS2.out _ B1.out).mono ?_;rintro e w3 ⟨rfl,be2⟩;have B2:=hE0 be2;clear be2;go_wp2
 go_end0
 exact⟨rfl,B2.out⟩
theorem ai6 (h:Ar w 195 g base cap A c bs) (hb:base<=4611686018427387904) (n:Nat) (hn:bs.length=n) (hl:n<=16384) (hl2:184<=n) (k:Nat) (hk:k<22) (v:Nat) (hv:v<18446744073709551616) (hv0:v≠0):
 Calls Tryz.prog 229 #[.pointer (some ⟨g,0,none⟩), .int .i64 (k:Int), .int .u64 (v:Int)] w fun e w'=>e= .returned (.tuple #[])/\Became 195 g base cap A (abJ (lyN bs (8+8*k) v) k) w w':=by
 obtain⟨b1,hb1⟩:=nmE (lyN bs (8+8*k) v);have hbl:b1.length=n:=by rw[<-hb1,aah _ _ _ (by omega)];exact hn
 have hw1:aaf b1 (8+8*k)=v:=by rw[<-hb1];exact abC _ _ _ (by omega) (by omega)
 obtain⟨v1,hv1⟩:=nmE (aaf b1 0);have hvl:v1<18446744073709551616:=by rw[<-hv1];exact aan _ _
 obtain⟨m,hm⟩:=nmE (2^k);have hml:m<=2097152:=by rw[<-hm];exact alb k hk
 obtain⟨x,hx⟩:=nmE (aeZ v1 k false);obtain⟨y,hy⟩:=nmE (aeZ v1 k true);have hxl:x<18446744073709551616:=by rw[<-hx];exact aiM v1 k hk hvl false
 have hyl:y<18446744073709551616:=by rw[<-hy];exact aiM v1 k hk hvl true
 have hand:bits .andNot .u64 (v1:Int) (m:Int)=(x:Int):=by rw[<-hm,<-hx];exact ahN v1 k hvl hk
 have hor:bits .or .u64 (x:Int) (m:Int)=(y:Int):=by
  rw[<-hy,arw,hx,<-hm];exact auN x k hxl hk (by rw[<-hx];exact aoW v1 k)
 have hmk:abJ b1 k=lyN b1 0 y:=by rw[amu b1 k (by omega),hw1,hv1,decide_eq_true hv0,hy]
 have hne:((v:Int) !=0)=true:=by rw[bne_iff_ne];omega
 have HS1:=ai4 h hb (by omega) (8+8*(k:Int)) (8+8*k) (by omega) (by omega) v hv;rw[hb1]at HS1 ⊢;rw[hmk];have HS1:=hE0 HS1;have HF:=hE0 (aaI w k hk);have HT:=fun W=>ai5 W k hk;rw[hm]at HT;have HT:=hE0 HT;have HN:=hE0 (fun W (hB:Became 195 g base cap A b1 w W)=>ah9 hB hb (by omega) 0 0 rfl (by omega) v1 hv1);have HS2:=hE0 (fun W (hB:Became 195 g base cap A b1 w W)=>aaT hB hb (by omega) 0 0 rfl (by omega) y hyl);clear h hb1 hw1 hv1 hm hx hy hmk hn hbl;go_enter Tryz.func229,Tryz.ntmps229
 go_wp2_with fail
 with_reducible refine HF.out.mono ?_
 rintro e w2 ⟨rfl,rfl⟩;go_wp2_with fail
 refine HS1.out.mono ?_;rintro e w2 ⟨rfl,be1⟩;have B1:=hE0 be1;clear be1;go_wp2_with fail
 refine(HN.out _ B1.out).mono ?_;rintro e w3 ⟨rfl,rfl⟩;go_wp2_with fail
 with_reducible refine(HT.out _).mono ?_
 rintro e w3 ⟨rfl,rfl⟩;go_wp2_with fail
 with_reducible refine(HT.out _).mono ?_
 rintro e w3 ⟨rfl,rfl⟩;go_wp2_with fail
 refine(HS2.out _ B1.out).mono ?_;rintro e w3 ⟨rfl,be2⟩;have B2:=hE0 be2;clear be2;go_wp2
 go_end0
 exact⟨rfl,B2.out⟩
theorem abi (h:Became 195 g base cap A b1 w w1) (hb:base<=4611686018427387904) (n:Nat) (hn:b1.length=n) (hl:n<=16384) (hl2:184<=n) (k:Nat) (hk:k<22) (v:Nat) (hv:v<18446744073709551616):
 Calls Tryz.prog 229 #[.pointer (some ⟨g,0,none⟩), .int .i64 (k:Int), .int .u64 (v:Int)] w1 fun e w2=>e= .returned (.tuple #[])/\Became 195 g base cap A (abJ (lyN b1 (8+8*k) v) k) w w2:=by
 refine agU h fun _ _ a=> ?_;by_cases h0:v=0
 · subst h0;exact akn a hb n hn hl hl2 k hk
 · exact ai6 a hb n hn hl hl2 k hk v hv h0
end
end Go.Proofs.YtncadccbepjekaaGreatDoor
