/- Texts of mine, joined. -/
import Derived.Test.YtncadccbepjekaaGreatDoorU35
import Derived.Test.YtncadccbepjekaaGreatDoorU37
import Derived.Test.YtncadccbepjekaaGreatDoorU39
set_option maxRecDepth 100000
set_option maxHeartbeats 2000000
namespace Go.Proofs.YtncadccbepjekaaGreatDoor
open Go.RowKit
section
variable {w:World} {g base cap c:Nat} {A:Option Addr} {bs:List UInt8} {H:Hp} {xo xs s i:Nat}
theorem amg (h:Ar w 195 g base cap A c bs) (hbase:base<=4611686018427387904) (hcap:cap<=16384) (hc:H.cap=cap) (hR:Rt bs H) (hs:aaB (s:Int)=true) (hi:aaY H.blks (xo:Int)=some i) (hx:aam H.blks i=⟨xo,xs,true⟩) (hlt:xs<s):
 Calls Tryz.prog 193 #[.pointer (some ⟨g,0,none⟩), .agg #[.int .i64 (xo:Int), .int .i64 (xs:Int), .bool true], .int .i64 (s:Int)] w fun e w'=>RezTold g base cap A bs H (xo:Int) (H.resize (xo:Int) s) w e w':=by
 obtain⟨i1,i2,i3⟩:=aeP hi;obtain⟨m1,m2⟩:=ae9 i1;obtain⟨A1,p,n,B1,eA,eB,hN⟩:=alv (H.blks.take i) (H.blks.drop (i+1));rw[hx]at m1;have hb:H.blks=(A1++p.toList)++⟨xo,xs,true⟩::(n.toList++B1):=by rw[<-eA,<-eB];exact m1
 have hlen:(A1++p.toList).length=i:=by rw[<-eA];exact m2
 obtain⟨z,hz⟩:=nmE ((n.map Bk.size).getD 0);obtain⟨_,_,w3,_⟩:=ai8 hb hN.nf hN.nu;rw[hlen,hz]at w3;have hlE:=hR.lenE;have hle:=hR.len;have er:H.resize (xo:Int) s=if s<=xs+z then ((xo,0),(H.widen i).cut i s) else if afT H i s=true then ((xo,0),(H.widen i).size i s) else amd H (xo:Int) s:=by
  unfold Hp.resize;rw[hi];dsimp only;rw[hx,w3];dsimp only;rw[if_neg (by omega)];rfl
 rw[er];by_cases h1:s<=xs+z
 · rw[if_pos h1];have k:=ame h hbase hcap hc hR hb hN hz hs h1;rw[hlen]at k;refine k.mono ?_;rintro e w' ⟨rfl,out,k1,k2,k3⟩;exact RezTold.yes k1 k2 k3 (k3.moved rfl)
 · rw[if_neg h1];by_cases h2:xo+(xs+z)=bs.length
   · by_cases h3:bs.length+(s-(xs+z))<=cap
     · have hg:afT H i s=true:=by
        unfold afT;rw[hx,w3,hlE,Bool.and_eq_true,decide_eq_true_eq,decide_eq_true_eq];exact⟨h2,by omega⟩
       rw[if_pos hg];have k:=ajp h hbase hcap hc hR hb hN hz hs (by omega) h2 h3;rw[hlen]at k;refine k.mono ?_;rintro e w' ⟨rfl,out,k1,k2,k3⟩;exact RezTold.yes k1 k2 k3 (k3.moved rfl)
     · have hg:¬afT H i s=true:=by
        unfold afT;rw[hx,w3,hlE,Bool.and_eq_true,decide_eq_true_eq,decide_eq_true_eq];rintro⟨_,h4⟩;omega
       rw[if_neg hg];exact ahN h hbase hcap hc hR hb hN hz hs (by omega) hi hx h2 (by omega)
   · have hg:¬afT H i s=true:=by
      unfold afT;rw[hx,w3,hlE,Bool.and_eq_true,decide_eq_true_eq,decide_eq_true_eq];rintro⟨h4,_⟩;exact h2 h4
     rw[if_neg hg];exact ahM h hbase hcap hc hR hb hN hz hs (by omega) hi hx h2
end
theorem auh:atZ:=by
 intro w g base cap c A bs H o s h hbase hcap hc hR ho hsr;have hT:=ava w g base cap c A bs H o s h hbase hcap hc hR ho hsr;constructor
 · intro hs;have HT:=hE0 (hT.1 hs);dsimp only[aat]at HT ⊢;clear hT hs h hR;go_enter Tryz.func129,Tryz.ntmps129
   go_wp2_with fail
   refine HT.out.mono ?_;rintro e w1 ⟨rfl,hb1⟩;have HB1:=hE0 hb1;have HI:=hE0 (avz w1);clear hb1 HT;go_wp2_with fail
   refine HI.out.mono ?_;rintro e w2 ⟨rfl,rfl⟩;clear HI;go_wp2
   go_ret2
   exact⟨rfl,HB1.out⟩
 · intro hs;have hq:=(aab _).1 hs;obtain⟨n,rfl⟩:∃n:Nat,s=(n:Int):=⟨s.toNat,by omega⟩;rw[Int.toNat_natCast];have hT:=hT.2 hs;rw[Int.toNat_natCast]at hT;have HUK:=hE0 (fun w1 (hB:Below w.heap.size w w1)=>asg w1 g base cap c A bs H o (h.below hB) hbase hcap hc hR ho)
   cases hi:aaY H.blks o with
   | none=>
    have e1:H.trimO o n=none:=by unfold Hp.trimO;rw[hi]
    have e2:H.resize o n=((0,3),H):=by unfold Hp.resize;rw[hi]
    rw[e1]at hT;rw[e2];rw[hi]at HUK;dsimp only[ac1,aaA,bkV,Bk.val,Option.isSome,aat,Option.map]at HUK hT;have HT:=hE0 hT;clear hT hs h hR e1 e2 hi;go_enter Tryz.func129,Tryz.ntmps129
    go_wp2_with fail
    refine HT.out.mono ?_;rintro e w1 ⟨rfl,hb1⟩;have HB1:=hE0 hb1;have HI:=hE0 (auG w1);have HU:=hE0 (HUK.out w1 hb1);clear hb1 HT HUK;go_wp2_with fail
    refine HI.out.mono ?_;rintro e w2 ⟨rfl,rfl⟩;clear HI;go_wp2_with fail
    refine HU.out.mono ?_;rintro e w3 ⟨rfl,hb3⟩;have hb3':=HB1.out.trans (hb3.mono HB1.out.size);have HB3:=hE0 (hb3'.alloc hb3'.size (.cells #[.int .i64 0, .int .i64 0, .bool false] 112));clear hb3 hb3' HU HB1;go_wp2
    go_ret2
    exact RezTold.no (by decide) HB3.out
   | some i=>
    obtain⟨i1,i2,i3⟩:=aeP hi;obtain⟨x,hx⟩:=nmE (aam H.blks i);obtain⟨xo,xs,xu⟩:=x;rw[hx]at i2 i3;dsimp only at i2 i3;subst i3;subst i2;have hxb:=(hR.bound (by omega)).2 _ (List.mem_of_getElem? (aas i1));rw[hx]at hxb;dsimp only at hxb;have hbl:=(hR.bound (by omega)).1;by_cases hle:n<=xs
    · have e1:H.trimO (xo:Int) n=some (H.cut i n):=by
       unfold Hp.trimO;rw[hi];dsimp only;rw[hx];dsimp only;rw[if_neg (by omega)]
      have e2:H.resize (xo:Int) n=((xo,0),H.cut i n):=by
       unfold Hp.resize;rw[hi];dsimp only;rw[hx];dsimp only;rw[if_pos hle]
      rw[e1]at hT;rw[e2];dsimp only[ac1,aat]at hT;have HT:=hE0 hT;clear hT hs h hR e1 e2 hi HUK;go_enter Tryz.func129,Tryz.ntmps129
      go_wp2_with fail
      refine HT.out.mono ?_;rintro e w1 ⟨rfl,out,hB,hR1,hH1⟩;have HF:=hE0 (RezTold.yes (o:=(xo:Int)) hB hR1 hH1 (hH1.moved rfl));clear hB hR1 hH1 HT;go_wp2
      go_ret2
      exact HF.out
    · have e1:H.trimO (xo:Int) n=none:=by
       unfold Hp.trimO;rw[hi];dsimp only;rw[hx];dsimp only;rw[if_pos (by omega)]
      have HE:=hE0 (fun w1 (hB:Below w.heap.size w w1)=>amg (h.below hB) hbase hcap hc hR hs hi hx (by omega));obtain⟨rr,hrr⟩:=nmE (H.resize (xo:Int) n);rw[hrr]at HE ⊢;rw[e1]at hT;rw[hi,Option.map_some,hx]at HUK;dsimp only[ac1,aaA,bkV,Bk.val,Option.isSome,aat]at HUK hT;have HT:=hE0 hT;clear hT hs h hR e1 hi hrr;go_enter Tryz.func129,Tryz.ntmps129
      go_wp2_with fail
      refine HT.out.mono ?_;rintro e w1 ⟨rfl,hb1⟩;have HB1:=hE0 hb1;have HI:=hE0 (auG w1);have HU:=hE0 (HUK.out w1 hb1);clear hb1 HT HUK;go_wp2_with fail
      refine HI.out.mono ?_;rintro e w2 ⟨rfl,rfl⟩;clear HI;go_wp2_with fail
      refine HU.out.mono ?_;rintro e w3 ⟨rfl,hb3⟩;have hb3':=HB1.out.trans (hb3.mono HB1.out.size);obtain⟨w4,hw4⟩:=nmE (w3.alloc (.cells #[.int .i64 (xo:Int), .int .i64 (xs:Int), .bool true] 112));have hb4:Below w.heap.size w w4:=by rw[<-hw4];exact hb3'.alloc hb3'.size _
      have n4:=anE hw4;have HE4:=hE0 (HE.out w4 hb4);have HB4:=hE0 hb4;have HW4:=hE0 hw4;obtain⟨⟨d0,d1,d2⟩,_⟩:=aad n4;have hlt4:=aac n4;clear hb3 hb3' HU HB1 HE hb4 hw4 n4;go_wp2_with (first | (rw[HW4.out]) | fail)
      refine HE4.out.mono ?_;clear d0 d1 d2 hlt4;rintro e w5 hT;obtain⟨v,x,rfl⟩:=hT.shape;have HT:=hE0 (hT.after HB4.out);clear hT HE4 HB4;go_wp2
      go_ret2
      exact HT.out
section
variable {w w':World} {q g base cap c:Nat} {A:Option Addr} {bs out:List UInt8} {H H':Hp}
theorem Hp.Ok.one_ (h:H.Ok):H.One:=fun a b x y ha hb e=>by
 have hpw:=List.pairwise_iff_getElem.1 (aeD _ _ _ h.tl);have e1:H.blks[a]'(abi ha)=x:=by have:=List.getElem?_eq_getElem (abi ha);rw[ha]at this;exact(Option.some.inj this).symm
 have e2:H.blks[b]'(abi hb)=y:=by have:=List.getElem?_eq_getElem (abi hb);rw[hb]at this;exact(Option.some.inj this).symm
 rcases Nat.lt_trichotomy a b with h' | h' | h'
 · exact absurd (by rw[e1,e2];exact e) (hpw a b (abi ha) (abi hb) h')
 · exact h'
 · exact absurd (by rw[e1,e2];exact e.symm) (hpw b a (abi hb) (abi ha) h')
def aqQ (out:List UInt8) (o s f:Nat) (v:UInt8):List UInt8:=if f<s-16 then lay out (o+8+f) (List.replicate (s-16-f) v) else out
theorem RtD.rezFill (h:RtD bs H) (hc:H.cap<=16384){s xo xs i0:Nat}(hs:aaB (s:Int)=true) (hat:H.At i0 ⟨xo,xs,true⟩ (H.ds.getD i0 acI)) (he:(H.resize (xo:Int) s).1.2=0) (h1:Rt out (H.resize (xo:Int) s).2) (hh:Held H bs (H.resize (xo:Int) s).2 out) (hm:ai6 H bs (xo:Int) (H.resize (xo:Int) s).2 out (H.resize (xo:Int) s).1.1) (v:UInt8):
 ∃i y,atB ((H.resize (xo:Int) s).1.1:Int) (H.resize (xo:Int) s).2.blks=some i/\(H.resize (xo:Int) s).2.blks[i]?=some y/\y.off=(H.resize (xo:Int) s).1.1/\s<=y.size/\y.off+y.size<=out.length/\RtD (aqQ out y.off y.size (xs-16) v) ((H.resize (xo:Int) s).2.fill i v):=by
 have hok:=h.rt.ok hc h.dl;obtain⟨i,y,j,x0,d,e1,e2,e3,e4,e5,e6,e7,e8,e9,e10,e11,e12⟩:=h.resized hok (hok.take hc hs).one_ hs he h1 hh hm v;obtain rfl:j=i0:=h.rt.one _ _ _ _ e7.1 hat.1 (by dsimp only;omega);obtain rfl:x0=⟨xo,xs,true⟩:=Option.some.inj (e7.1.symm.trans hat.1);dsimp only at e10;have ss:=(aab _).1 hs;refine⟨i,y,e1,e2,e3,e5,e6,?_⟩;unfold aqQ;split
 · rename_i hf;have hll:(List.replicate (y.size-16-(xs-16)) v).length=y.size-16-(xs-16):=List.length_replicate;refine e12 _ (aed (x:=y) _ _ (by omega) (by omega) (by omega)) (fun k hk=> ?_);rw[amK _ _ _ _ hk];by_cases hkd:k<d.2.length
   · rw[alP out _ _ (by omega) _ (by omega),e11 k hkd (by omega),List.getElem?_eq_getElem hkd,List.getD_eq_getElem?_getD,List.getElem?_eq_getElem hkd];rfl
   · have e:=aie out (y.off+8+(xs-16)) (List.replicate (y.size-16-(xs-16)) v) (by omega) (k-(xs-16)) (by omega);rw[show y.off+8+(xs-16)+(k-(xs-16))=y.off+8+k by omega]at e;rw[e,List.getElem?_replicate,if_pos (by omega),List.getD_eq_getElem?_getD,List.getElem?_eq_none (by omega)];rfl
 · rename_i hf;refine e12 _ (an3 _ _) (fun k hk=> ?_);rw[amK _ _ _ _ hk,e11 k (by omega) (by omega),List.getD_eq_getElem?_getD,List.getElem?_eq_getElem (show k<d.2.length by omega)];rfl
theorem akQ{p n:Nat}(hh:H.handleB p=none):H.realloc p n=((0,4),H):=by unfold Hp.realloc;rw[hh]
theorem akR{p n i:Nat}(hh:H.handleB p=some i) (hs:acU n=none):H.realloc p n=((0,5),H):=by unfold Hp.realloc;rw[hh];dsimp only;rw[hs]
theorem amh{p n i s:Nat}(hh:H.handleB p=some i) (hs:acU n=some s) (he:(H.resize ((p:Int)-8) s).1.2≠0):H.realloc p n=((0,(H.resize ((p:Int)-8) s).1.2),H):=by
 unfold Hp.realloc;rw[hh];dsimp only;rw[hs];dsimp only;rw[if_neg he,(agR H _ s he).2.1]
theorem aoq{p n i j s:Nat}(hh:H.handleB p=some i) (hs:acU n=some s) (he:(H.resize ((p:Int)-8) s).1.2=0) (hj:atB ((H.resize ((p:Int)-8) s).1.1:Int) (H.resize ((p:Int)-8) s).2.blks=some j):H.realloc p n=(((H.resize ((p:Int)-8) s).1.1+8,0),(H.resize ((p:Int)-8) s).2.fill j 165):=by
 unfold Hp.realloc;rw[hh];dsimp only;rw[hs];dsimp only;rw[if_pos he,hj]
theorem aqR (ho:w.heap[q]?=some (.cells #[.pointer (some ⟨g,0,none⟩)] 132 (0,0))) (ha:Ar w 195 g base cap A c bs) (hbase:base<=4611686018427387904) (hl:bs.length<=16384) (o s f p:Nat) (v:UInt8){u:Bool}(hg:aa6 bs (o:Int)=some ⟨o,s,u⟩) (hs:16<=s) (hos:o+s<=bs.length) (hp:o+8=p):
 Calls Tryz.prog 130 #[.pointer (some ⟨q,0,none⟩), .int .i64 (o:Int), .int .u64 (f:Int), .int .u8 (v.toNat:Int)] w fun e w'=>e= .returned (.int .u64 (p:Int))/\Became 195 g base cap A (aqQ bs o s f v) w w':=by
 unfold aqQ;by_cases hf:f<s-16
 · rw[if_pos hf,hp];exact akH ho ha hbase hl o s f p v hg hs hos hf hp
 · rw[if_neg hf];refine(asl ho ha hbase hl o s f p v hg hs hos (by omega) hp).mono ?_;rintro e w2 ⟨rfl,hb⟩;exact⟨rfl,abu ha hb⟩
theorem ajs (h:PH w q g base cap A c bs H) (p n:Nat) (hp:p<18446744073709551616) (hn:n<18446744073709551616):
 Calls Tryz.prog 68 #[.pointer (some ⟨q,0,none⟩), .int .u64 (p:Int), .int .u64 (n:Int)] w fun e w'=>ahj g base cap A (H.realloc p n) w e w':=by
 have hF:=adk h p hp;have HND:=hE0 (fun W=>auD W n hn)
 cases hh:H.handleB p with
 | none=>
  rw[hh]at hF;dsimp only[bkV,aat,Option.map,Option.isSome]at hF;have HF:=hE0 hF;have HE:=hE0 (akQ (n:=n) hh);have H0:=hE0 h;clear h hF hh HND;go_enter Tryz.func68,Tryz.ntmps68
  go_wp2_with fail
  refine HF.out.mono ?_;rintro e w2 ⟨rfl,hb⟩;have HT:=hE0 (H0.out.stay (hb.alloc hb.size (.cells #[.int .i64 0, .int .i64 0, .bool false] 112)));clear hb HF H0;go_wp2
  go_ret2
  rw[HE.out];exact⟨rfl,HT.out⟩
 | some i=>
  obtain⟨xo,xs,hbk,hpx,h184,h32,hle,hi,hat,hd,h16,hu⟩:=h.blk hh;have hl:=h.len;rw[hh]at hF;dsimp only[Option.map]at hF;rw[hbk]at hF;dsimp only[bkV,Bk.val,aat,Option.isSome]at hF;have HF:=hE0 hF
  cases hs:acU n with
  | none=>
   have HE:=hE0 (akR hh hs);rw[hs]at HND;dsimp only[anu]at HND;have H0:=hE0 h;clear h hF hh hbk hpx hat hd hu hi hs;go_enter Tryz.func68,Tryz.ntmps68
   go_wp2_with fail
   refine HF.out.mono ?_;rintro e w2 ⟨rfl,hb⟩;obtain⟨w3,hw3⟩:=nmE (w2.alloc (.cells #[.int .i64 (xo:Int), .int .i64 (xs:Int), .bool true] 112));have HB3:Hid (Below w.heap.size w w3):=(show Below _ _ _ by rw[<-hw3];exact hb.alloc hb.size _);have HW3:=hE0 hw3;clear hb HF hw3;go_wp2_with (first | (rw[HW3.out]) | fail)
   refine(HND.out w3).mono ?_;rintro e w4 ⟨rfl,hb4⟩;have HT:=hE0 (H0.out.stay (HB3.out.trans (hb4.mono HB3.out.size)));clear hb4 HB3 H0 HND;go_wp2
   go_ret2
   rw[HE.out];exact⟨rfl,HT.out⟩
  | some s=>
   have hsz:=ad8 hs;have hss:=(aab _).1 hsz;rw[hs]at HND;dsimp only[anu]at HND;have hp8:(p:Int)-8=(xo:Int):=by omega
   have hK:∀w1,Below w.heap.size w w1->Calls Tryz.prog 129 #[.pointer (some ⟨g,0,none⟩), .int .i64 (xo:Int), .int .i64 (s:Int)] w1 fun e w'=>RezTold g base cap A bs H (xo:Int) (H.resize (xo:Int) s) w1 e w':=fun w1 hb=>by
    have:=(auh w1 g base cap c A bs H (xo:Int) (s:Int) (h.ar.below hb) h.b62 h.c16 h.cp h.rd.rt ⟨by omega,by omega⟩ ⟨by omega,by omega⟩).2 hsz;rw[Int.toNat_natCast]at this;exact this
   by_cases herr:(H.resize (xo:Int) s).1.2=0
   · have hRF:=fun out h1 hh2 hm=>h.rd.rezFill (out:=out) (by rw[h.cp];exact h.c16) hsz hat herr h1 hh2 hm 165;have hRO:=fun j hj=>aoq (j:=j) hh hs (by rw[hp8];exact herr) (by rw[hp8];exact hj);rw[hp8]at hRO;have hcap2:(H.resize (xo:Int) s).2.cap=cap:=resize_cap.trans h.cp;have hK2:∀w1,Below w.heap.size w w1->Calls Tryz.prog 129 #[.pointer (some ⟨g,0,none⟩), .int .i64 (xo:Int), .int .i64 (s:Int)] w1 fun e w'=>e= .returned (.tuple #[.int .i64 ((H.resize (xo:Int) s).1.1:Int), .nilIface])/\∃out,Became 195 g base cap A out w1 w'/\Rt out (H.resize (xo:Int) s).2/\Held H bs (H.resize (xo:Int) s).2 out/\ai6 H bs (xo:Int) (H.resize (xo:Int) s).2 out (H.resize (xo:Int) s).1.1:=fun w1 hb=>(hK w1 hb).mono fun e w2 hr=>hr.1 herr;obtain⟨r,hr⟩:=nmE (H.resize (xo:Int) s);rw[hr]at hRF hRO hK2 hcap2;obtain⟨⟨ro,re⟩,H2⟩:=r;dsimp only at hRF hRO hK2 hcap2;have HRF:=hE0 hRF;have HRO:=hE0 hRO;have HC2:=hE0 hcap2;have HK:=hE0 hK2;have H0:=hE0 h;have HUS:=hE0 (fun W=>abS W (xo:Int) xs true (by omega) h16);obtain⟨f,hf⟩:=nmE (xs-16);rw[hf]at HUS HRF;have hf14:f<=16384:=by omega
     clear h hF hh hbk hpx hat hd hu hi hs hRF hRO hcap2 hK hK2 herr hr hp8 hsz hf;go_enter Tryz.func68,Tryz.ntmps68
     go_wp2_with fail
     refine HF.out.mono ?_;rintro e w2 ⟨rfl,hb⟩;obtain⟨w3,hw3⟩:=nmE (w2.alloc (.cells #[.int .i64 (xo:Int), .int .i64 (xs:Int), .bool true] 112));have n3:=anE hw3;have HB3:Hid (Below w.heap.size w w3):=(show Below _ _ _ by rw[<-hw3];exact hb.alloc hb.size _);have HW3:=hE0 hw3;have HN3:=hE0 n3;clear hb HF hw3 n3;go_wp2_with (first | (rw[HW3.out]) | fail)
     refine(HND.out w3).mono ?_;rintro e w4 ⟨rfl,hb4⟩;have hb4':=HB3.out.trans (hb4.mono HB3.out.size);obtain⟨wd,hwd⟩:=nmE w4.drew;have hbd:Below w.heap.size w wd:=by rw[<-hwd];exact hb4'.drew
     have n4:wd.heap[w2.heap.size]?=some (.cells #[.int .i64 (xo:Int), .int .i64 (xs:Int), .bool true] 112 (0,0)):=by rw[<-hwd];exact Loc.below hb4 _ _ HN3.out
     have hp4:=H0.out.below hbd;have k0:=hp4.c0;have hlq:=hp4.lt;have hnq:=hp4.ap;have hnb:=ajf hp4.ar n4;obtain⟨⟨d0,d1,d2⟩,_⟩:=aad n4;have hlt4:=aac n4;have HK4:=hE0 (HK.out wd hbd);have HBD:=hE0 hbd;have HWD:=hE0 hwd;have HN4:=hE0 n4;have HP4:=hE0 hp4;have HNB:=hE0 hnb;have HNQ:=hE0 hnq;clear hb4 hb4' hwd hbd hp4 HK HND HN3 HW3 HB3 n4 hnb hnq;go_wp2_with fail
     refine aa0 (foot g A) [([0,1,2,3,4,5,6],7)] [8,9,10,11,12] [] (by kernel_rfl) (by kernel_rfl) (by kernel_rfl) (fun _ _ _ _ _ h=>h) ?_;rw[HWD.out];have q0:∀z:LaterS (foot g A) wd,z.val.cell? ⟨q,0,none⟩=some (.pointer (some ⟨g,0,none⟩)):=fun z=>z.ext.cell k0 HNQ.out;have q1:∀z:LaterS (foot g A) wd,z.val.cell? ⟨w2.heap.size,0,none⟩=some (.int .i64 (xo:Int)):=fun z=>z.ext.cell d0 HNB.out;refine abF (l:= ?seg1) ?hseg1 ?_
     case hseg1=>simp only[pick,lE1,lE2,lE3];rfl
     repeat (go_big_quiet_step (fail))
     refine wpQuiet_nil ?_;clear q0 q1 k0 d0 d1 d2;refine abO (vs:= #[.pointer (some ⟨g,0,none⟩), .int .i64 (xo:Int), .int .i64 (s:Int)]) Tryz.call129 rfl rfl rfl (R:=fun r w'=>r= .tuple #[.int .i64 (ro:Int), .nilIface]/\∃out,Became 195 g base cap A out wd w'/\Rt out H2/\Held H bs H2 out/\ai6 H bs (xo:Int) H2 out ro) (HK4.out.mono ?_) ?_
     · rintro e w' ⟨rfl,out,hB,hR⟩;have hB':=hB;obtain⟨_,_,_,ht,_⟩:=hB';exact⟨_,rfl,ht,rfl,out,hB,hR⟩
     rintro r w5 _ ⟨rfl,out,hbe,hr1,hh1,hm1⟩;obtain⟨j,y,hj,hy,hyo,hys,hyl,hrd⟩:=HRF.out out hr1 hh1 hm1;obtain⟨A5,c5,a5,t5,m5⟩:=hbe;have n5:=(t5.block _ hlt4 HNB.out).trans HN4.out;have ho5:=(t5.block q HP4.out.lt HNQ.out).trans HP4.out.obj;have hout:out.length<=16384:=(hr1.bound (by rw[HC2.out];exact H0.out.c16)).1;have hgb:=asY hr1 (by rw[HC2.out];exact H0.out.c16) (List.mem_of_getElem? hy);have HTR:=hE0 (fun w6 (hb6:Below w5.heap.size w5 w6) (b4:List UInt8) w7 (k:Became 195 g base cap A5 b4 w6 w7)=>(Became.trans a5 t5 m5 (k.after hb6)).after HBD.out);obtain⟨yo,ys,yu⟩:=y;dsimp only at hyo hys hyl hrd hgb;subst hyo;have hyo14:yo<=16384:=by omega
     obtain⟨p2,hp2⟩:=nmE (yo+8);have HFI:=hE0 (fun w6 (hb6:Below w5.heap.size w5 w6)=>aqR (w:=w6) ((hb6.block q (aae ho5)).trans ho5) (a5.below hb6) H0.out.b62 hout yo ys f p2 165 hgb (by omega) (by omega) hp2);have HRD:=hE0 hrd;have hgi:=HRO.out j hj;rw[hp2]at hgi;have HGI:=hE0 hgi;obtain⟨⟨d0,d1,d2⟩,_⟩:=aad n5;have hlt5:=aac n5;refine⟨foot g A,fun _ _ h=>h,?_⟩;refine acX (l:= ?la4) (t:= []) ?hla4 ?htl4 ?_
     case hla4=>simp only[pick,lE1,lE2,lE3];rfl
     case htl4=>rfl
     simp only[Act.put,lE4,lE5,lE6];repeat (go_big_quiet_step (fail))
     refine wpQuiet_nil ?_;clear hgi hp2 hr1 hh1 hm1 hj hy hrd hgb t5 m5 a5 n5 ho5 HRF HRO HK4 HN4 HP4;go_wp2_with fail
     refine(HUS.out w5).mono ?_;rintro e w6 ⟨rfl,hb6⟩;have HF6:Hid (Calls Tryz.prog 130 #[.pointer (some ⟨q,0,none⟩), .int .i64 (yo:Int), .int .u64 (f:Int), .int .u8 165] w6 fun e w'=>e= .returned (.int .u64 (p2:Int))/\Became 195 g base cap A5 (aqQ out yo ys f 165) w6 w'):=HFI.out w6 hb6;have HT6:=hE0 (HTR.out w6 hb6);clear hb6 d0 d1 d2 hlt5 HFI HTR;go_wp2_with fail
     refine HF6.out.mono ?_;rintro e w7 ⟨rfl,hb7⟩;have HT:=hE0 (HT6.out _ w7 hb7);clear hb7 HF6 HT6;go_wp2
     go_ret2
     rw[HGI.out];exact⟨rfl,_,HT.out,HRD.out⟩
   · have hRB:=amh hh hs (by rw[hp8];exact herr);rw[hp8]at hRB;have hz:=(agR H _ s herr).2.2;have hK2:∀w1,Below w.heap.size w w1->Calls Tryz.prog 129 #[.pointer (some ⟨g,0,none⟩), .int .i64 (xo:Int), .int .i64 (s:Int)] w1 fun e w'=>e= .returned (.tuple #[.int .i64 0, .iface 130 (.int .i64 (H.resize (xo:Int) s).1.2)])/\Below w1.heap.size w1 w':=fun w1 hb=>(hK w1 hb).mono fun e w2 hr=>hr.2 herr;obtain⟨ek,hek⟩:=nmE ((H.resize (xo:Int) s).1.2);rw[hek]at hRB hz hK2;have HRB:=hE0 hRB;have HK:=hE0 hK2;have H0:=hE0 h;have HEN:Hid (ak1 ek= .iface 130 (.int .i64 ek)):=(show ak1 ek=_ by rcases hz with rfl | rfl<;>rfl);clear h hF hh hbk hpx hat hd hu hi hs hK hK2 herr hek hp8 hsz hRB hz;go_enter Tryz.func68,Tryz.ntmps68
     go_wp2_with fail
     refine HF.out.mono ?_;rintro e w2 ⟨rfl,hb⟩;obtain⟨w3,hw3⟩:=nmE (w2.alloc (.cells #[.int .i64 (xo:Int), .int .i64 (xs:Int), .bool true] 112));have n3:=anE hw3;have HB3:Hid (Below w.heap.size w w3):=(show Below _ _ _ by rw[<-hw3];exact hb.alloc hb.size _);have HW3:=hE0 hw3;have HN3:=hE0 n3;clear hb HF hw3 n3;go_wp2_with (first | (rw[HW3.out]) | fail)
     refine(HND.out w3).mono ?_;rintro e w4 ⟨rfl,hb4⟩;have hb4':=HB3.out.trans (hb4.mono HB3.out.size);obtain⟨wd,hwd⟩:=nmE w4.drew;have hbd:Below w.heap.size w wd:=by rw[<-hwd];exact hb4'.drew
     have n4:wd.heap[w2.heap.size]?=some (.cells #[.int .i64 (xo:Int), .int .i64 (xs:Int), .bool true] 112 (0,0)):=by rw[<-hwd];exact Loc.below hb4 _ _ HN3.out
     have hp4:=H0.out.below hbd;have k0:=hp4.c0;have hnq:=hp4.ap;have hnb:=ajf hp4.ar n4;obtain⟨⟨d0,d1,d2⟩,_⟩:=aad n4;have HK4:=hE0 (HK.out wd hbd);have HBD:=hE0 hbd;have HWD:=hE0 hwd;have HNB:=hE0 hnb;have HNQ:=hE0 hnq;clear hb4 hb4' hwd hbd hp4 HK HND HN3 HW3 HB3 n4 hnb hnq;go_wp2_with fail
     refine aa0 (foot g A) [([0,1,2,3,4,5,6],7)] [8,9,10,11,12] [] (by kernel_rfl) (by kernel_rfl) (by kernel_rfl) (fun _ _ _ _ _ h=>h) ?_;rw[HWD.out];have q0:∀z:LaterS (foot g A) wd,z.val.cell? ⟨q,0,none⟩=some (.pointer (some ⟨g,0,none⟩)):=fun z=>z.ext.cell k0 HNQ.out;have q1:∀z:LaterS (foot g A) wd,z.val.cell? ⟨w2.heap.size,0,none⟩=some (.int .i64 (xo:Int)):=fun z=>z.ext.cell d0 HNB.out;refine abF (l:= ?seg2) ?hseg2 ?_
     case hseg2=>simp only[pick,lE1,lE2,lE3];rfl
     repeat (go_big_quiet_step (fail))
     refine wpQuiet_nil ?_;clear q0 q1 k0 d0 d1 d2;refine abO (vs:= #[.pointer (some ⟨g,0,none⟩), .int .i64 (xo:Int), .int .i64 (s:Int)]) Tryz.call129 rfl rfl rfl (R:=fun r w'=>r= .tuple #[.int .i64 0, .iface 130 (.int .i64 ek)]/\Below wd.heap.size wd w') (HK4.out.mono ?_) ?_
     · rintro e w' ⟨rfl,hb⟩;exact⟨_,rfl,Tch.of_below hb,rfl,hb⟩
     rintro r w5 _ ⟨rfl,hb5⟩;have HT:=hE0 (H0.out.stay (HBD.out.trans (hb5.mono HBD.out.size)));refine⟨foot g A,fun _ _ h=>h,?_⟩;refine acX (l:= ?la5) (t:= []) ?hla5 ?htl5 ?_
     case hla5=>simp only[pick,lE1,lE2,lE3];rfl
     case htl5=>rfl
     simp only[Act.put,lE4,lE5,lE6];repeat (go_big_quiet_step (fail))
     refine wpQuiet_nil ?_;clear hb5 HK4 H0;go_wp2
     go_ret2
     rw[HRB.out];exact⟨by rw[HEN.out];rfl,HT.out⟩
end
end Go.Proofs.YtncadccbepjekaaGreatDoor
