/- Texts of mine, joined. -/
import Derived.Test.YtncadccbepjekaaGreatDoorU20
import Derived.Test.YtncadccbepjekaaGreatDoorU22
import Derived.Test.YtncadccbepjekaaGreatDoorU24
import Derived.Test.YtncadccbepjekaaGreatDoorU25
set_option maxRecDepth 100000
set_option maxHeartbeats 2000000
namespace Go.Proofs.YtncadccbepjekaaGreatDoor
open Go.RowKit
def acC (b:List UInt8):Bool:=decide (b.length=512)&&decide (aoF (slG b) (slN b) (slS b)=b)
def ahL (b:List UInt8) (v:Nat):Nat:=if acC b=true then v else 0
theorem al1 (b:List UInt8) (v:Nat) (y:Bool) (h:acC b= !y):(if y=true then (0:Int) else (v:Int))=((ahL b v:Nat):Int):=by
 unfold ahL;rw[h]
 cases y<;>rfl
theorem afG (b:List UInt8) (v:Nat) (h:acC b=false):(0:Int)=((ahL b v:Nat):Int):=by
 unfold ahL;rw[h];rfl
theorem aqu{b:List UInt8}(h:b.length=512):decide (aoF (slG b) (slN b) (slS b)≠b)= !acC b:=by
 unfold acC;rw[decide_eq_true h,Bool.true_and];by_cases e:aoF (slG b) (slN b) (slS b)=b
 · rw[decide_eq_true e,decide_eq_false (fun k=>k e)];rfl
 · rw[decide_eq_false e,decide_eq_true e];rfl
theorem aqv (w:World) (A:Option Addr) (n c:Nat) (b:List UInt8) (hr:Rd w w.heap.size A n b) (hnc:n<=c):
 Calls Tryz.prog 205 #[.slice A n c] w fun e w'=>e= .returned (.tuple #[.agg #[.int .u64 (ahL b (slG b):Int), .int .u64 (ahL b (slN b):Int), .int .u32 (ahL b (slS b):Int)], .bool (acC b)])/\Below w.heap.size w w':=by
 by_cases hn:n=512
 · subst hn;refine(aqa w A c b hr hnc _ _ _ rfl rfl rfl _ (aqu hr.1)).mono ?_;rintro e w' ⟨rfl,hb⟩;refine⟨?_,hb⟩;rw[al1 b _ _ (Bool.not_not _).symm,al1 b _ _ (Bool.not_not _).symm,al1 b _ _ (Bool.not_not _).symm,Bool.not_not]
 · refine(ap9 w A n c hn).mono ?_;rintro e w' ⟨rfl,hb⟩;have h:acC b=false:=by unfold acC;rw[decide_eq_false (by rw[hr.1];exact hn)];rfl
   refine⟨?_,hb⟩;rw[<-afG b _ h,<-afG b _ h,<-afG b _ h,h]
theorem aqw{g n s:Nat}(hy:akZ g n=true) (hs:s<4294967296):acC (abx g n s)=true/\ahL (abx g n s) (slG (abx g n s))=g/\ahL (abx g n s) (slN (abx g n s))=n/\ahL (abx g n s) (slS (abx g n s))=s:=by
 have h:=hy;unfold akZ at h;simp only[Bool.and_eq_true,decide_eq_true_eq]at h;obtain⟨e1,e2,e3⟩:=aqf (g:=g) (n:=n) (s:=s) (by omega) (by omega) hs;have hr:acC (abx g n s)=true:=by
  unfold acC;rw[e1,e2,e3,decide_eq_true (acQ g n s),Bool.true_and];unfold aoF;rw[if_pos hy,decide_eq_true rfl]
 unfold ahL;rw[if_pos hr,if_pos hr,if_pos hr];exact⟨hr,e1,e2,e3⟩
theorem ahb:acC (List.replicate 512 0)=false:=by
 have e:slG (List.replicate 512 0)=0:=by unfold slG;rw[List.drop_replicate,List.take_replicate];rfl
 have hk:∀n,¬akZ 0 n=true:=fun n h=>by unfold akZ at h;cases h
 unfold acC aoF;rw[e,if_neg (hk _)];rw[decide_eq_false (fun h: []=List.replicate 512 (0:UInt8)=>by have:=congrArg List.length h;rw[List.length_replicate]at this;cases this),Bool.and_false]
theorem ajg{b:List UInt8}(h:acC b=true):aoF (slG b) (slN b) (slS b)=b/\ahL b (slG b)=slG b/\ahL b (slN b)=slN b/\ahL b (slS b)=slS b:=by
 unfold ahL;rw[if_pos h,if_pos h,if_pos h];unfold acC at h;rw[Bool.and_eq_true]at h;exact⟨of_decide_eq_true h.2,rfl,rfl,rfl⟩
theorem au7 (b:List UInt8):slS b<4294967296:=by
 have h:=agv ((b.drop 24).take 4);have e:((b.drop 24).take 4).length<=4:=by rw[List.length_take];omega
 have:(256:Nat)^((b.drop 24).take 4).length<=256^4:=Nat.pow_le_pow_right (by omega) e;unfold slS;omega
theorem findC:avF:=by
 intro w g base cap c A bs s h hb hl hs
 cases hz:aaB s
 · have hv:akg bs s= .tuple #[.int .i64 0,aat false 1]:=by unfold akg;rw[if_neg (by rw[hz];simp)]
   have hc:aaq s= -1:=by simp[aaq,hz]
   rw[hv];have hC:=ajX w s hs;rw[hc]at hC;have HC:=hE0 hC;clear hz hv hc hC h hb;go_enter Tryz.func233,Tryz.ntmps233
   go_wp2_with fail
   with_reducible refine HC.out.mono ?_
   rintro e w1 ⟨rfl,hb1⟩;have HB:=hE0 hb1;clear hb1;go_wp2
   go_ret2
   exact⟨rfl,HB.out⟩
 · obtain⟨k0,hk0,hk22⟩:∃k0:Nat,aaq s=(k0:Int)/\k0<22:=by
    have h1:=acy s;have h2:¬aaq s<0:=by rw[ahO];simp[hz]
    exact⟨(aaq s).toNat,by omega,by omega⟩
   obtain⟨x,hx⟩:=nmE (ahC bs s (22-k0) k0);have hv:akg bs s= .tuple #[.int .i64 ((x.getD 0:Nat):Int),aat x.isSome 3]:=by
    unfold akg aoZ;rw[if_pos hz,hk0,Int.toNat_natCast,hx]
   rw[hv];have hC:=ajX w s hs;rw[hk0]at hC;have HC:=hE0 hC;have HX:=hE0 hx;have HAR:=hE0 h;have HBASE:=hE0 hb;obtain⟨B0,hB0⟩:=nmE w.heap.size;have HB0:=hE0 hB0;clear hz hv hk0 hC h hx hB0 hb;go_enter Tryz.func233,Tryz.ntmps233
   go_wp2_with fail
   with_reducible refine HC.out.mono ?_
   rintro e w1 ⟨rfl,hb1⟩;have HB1:=hE0 hb1;clear hb1 HC;go_wp2
   go_loopw [7] (fun t wr=>∃d k:Nat,t= .int .i64 (d:Int)/\d+k=22/\x=ahC bs s k d/\Below B0 w wr) (fun t _=>22-(intOf t).toNat)
   case atStart=>exact⟨k0,22-k0,rfl,by omega,HX.out.symm,by rw[<-HB0.out];exact HB1.out⟩
   case round=>
    obtain⟨d,k,rfl,hdk,hxf,hb2⟩:=hrel;have hBw:B0<=wr.heap.size:=by have:=hb2.size;have:=HB0.out;omega
    by_cases hd22:d<22
    · obtain⟨k,rfl⟩:∃k',k=k'+1:=⟨k-1,by omega⟩;have har:Ar wr 195 g base cap A c bs:=HAR.out.below (by rw[HB0.out];exact hb2)
      cases ha:afn bs d with
      | none=>
       obtain rfl:x=none:=by rw[hxf];simp[ahC,ha]
       have hA:=avu wr g base cap c A bs d _ har HBASE.out hl hd22 ha;dsimp only[afd,Option.isSome,Option.getD,aat]at hA;have HA:=hE0 hA;have HB:=hE0 hb2;clear hA hb2 hxf har HX ha HAR;go_wp2_with fail
       with_reducible refine HA.out.mono ?_
       rintro e w2 ⟨A',c',rfl,_,hb3⟩;have HB2:=hE0 (HB.out.trans (hb3.mono hBw));clear hb3;go_wp2
       go_ret2
       exact⟨rfl,by rw[HB0.out];exact HB2.out⟩
      | some l=>
       have hA:=avu wr g base cap c A bs d _ har HBASE.out hl hd22 ha;dsimp only[afd,Option.isSome,Option.getD,aat]at hA;have hxf':x=(match l.find? (fun o=>decide (s<=(szB bs o:Int)))with
        | some o=>some o
        | none=>ahC bs s k (d+1)):=by
        rw[hxf];conv=>lhs;unfold ahC
        rw[ha]<;>rfl
       have hmem:∀o∈l,184<=o/\o<=20000/\∃x,aa6 bs (o:Int)=some x:=fun o ho=>by
        have hm:=acL ha o ho;obtain⟨h1,x,h2⟩:=aeG hm;have:=(aaM hm);exact⟨by omega,h1,x,h2⟩
       have HF:=hE0 (fun(W:World) (hB:Below wr.heap.size wr W) (A2:Option Addr) (c2 B1:Nat) (ho:W.ownsRow B1 3 1 (.slice A2 l.length c2) l.length (l.map iV))=>aoa (har.below hB) HBASE.out hl A2 c2 B1 l ho (fun o ho=>(hmem o ho).2) s);have HA:=hE0 hA;have HB:=hE0 hb2;have HXF:=hE0 hxf';have HMEM:=hE0 hmem;clear hA hb2 hxf hxf' har HX ha hmem HAR
       cases hfd:l.find? (fun o=>decide (s<=(szB bs o:Int)))with
       | some o=>
        obtain rfl:x=some o:=by rw[HXF.out,hfd]
        obtain⟨o184,o20,_⟩:=HMEM.out o (List.mem_of_find?_eq_some hfd);have ho0:((o:Int) !=0)=true:=by rw[bne_iff_ne];omega
        have HF2:=hE0 (fun W hB A2 c2 B1 ho=>HF.out W hB A2 c2 B1 ho o (by rw[hfd];rfl));clear HF HXF hfd HMEM;go_wp2_with fail
        with_reducible refine HA.out.mono ?_
        rintro e w2 ⟨A2,c2,rfl,ho2,hb3⟩;have HFF:=hE0 (HF2.out w2 hb3 A2 c2 _ ho2);have HB2:=hE0 (HB.out.trans (hb3.mono hBw));have hs2:=hb3.size;clear hb3 ho2 HA HF2;go_wp2_with fail
        with_reducible refine HFF.out.mono ?_
        rintro e w3 ⟨rfl,hb4⟩;have HB3:=hE0 (HB2.out.trans (hb4.mono (by omega)));clear hb4 HFF;go_wp2
        go_ret2
        exact⟨rfl,by rw[HB0.out];exact HB3.out⟩
       | none=>
        have hx2:x=ahC bs s k (d+1):=by rw[HXF.out,hfd]
        have HF2:=hE0 (fun W hB A2 c2 B1 ho=>HF.out W hB A2 c2 B1 ho 0 (by rw[hfd];rfl));have HX2:=hE0 hx2;clear HF HXF hfd HMEM hx2;go_wp2_with fail
        with_reducible refine HA.out.mono ?_
        rintro e w2 ⟨A2,c2,rfl,ho2,hb3⟩;have HFF:Hid (Calls Tryz.prog 269 #[.pointer (some ⟨g,0,none⟩), .slice A2 l.length c2, .int .i64 s] w2 fun e w'=>e= .returned (.int .i64 0)/\Below w2.heap.size w2 w'):=HF2.out w2 hb3 A2 c2 _ ho2;have HB2:=hE0 (HB.out.trans (hb3.mono hBw));have hs2:=hb3.size;clear hb3 ho2 HA HF2;go_wp2_with fail
        with_reducible refine HFF.out.mono ?_
        rintro e w3 ⟨rfl,hb4⟩;have HB3:=hE0 (HB2.out.trans (hb4.mono (by omega)));clear hb4 HFF;go_wp2
        go_roundw
        case rel=>exact⟨d+1,k,by go_num,by omega,HX2.out,HB3.out⟩
        case measure=>simp only[intOf];omega
    · obtain⟨rfl,rfl⟩:d=22/\k=0:=by omega
      obtain rfl:x=some 0:=by rw[hxf];rfl
      have HB:=hE0 hb2;clear hxf hb2 HX;go_wp2
      go_ret2
      exact⟨rfl,by rw[HB0.out];exact HB.out⟩
theorem am0{out:List UInt8}(h:184<=out.length) (x:Bk):(af3 out x).length=out.length:=by
 unfold af3;split
 · rfl
 · exact asc h _
theorem am1:∀(l:List Bk){out:List UInt8},184<=out.length->(l.foldl af3 out).length=out.length
 | [],_,_=>rfl
 | x::r,out,h=>by
  rw[List.foldl_cons,am1 r (by rw[am0 h];exact h),am0 h]
theorem ajh{S:Nat->Prop}{w w':World}(h:Tch S w w'){b j:Nat}{v:Value}(hc:w.cell? ⟨b,j,none⟩=some v) (hb:b<w.heap.size) (hn:¬S b):w'.cell? ⟨b,j,none⟩=some v:=
 (World.cell?_of_block (w:=w) (a:=⟨b,j,none⟩) (h.block b hb hn)).trans hc
theorem am2:arR:=by
 intro w g base cap c A bs y h hb hl hy
 cases hw:abG bs with
 | none=>
  obtain rfl:none=y:=by rw[<-hy];unfold abz;rw[hw];rfl
  have hW:=alR w g base cap c A bs _ h hb hl hw;dsimp only[ac0,Option.isSome,Option.getD,aat]at hW;dsimp only[aoE,aat];have HW:=hE0 hW;clear hW hw hy h hb;go_enter Tryz.func109,Tryz.ntmps109
  go_wp2_with fail
  with_reducible refine HW.out.mono ?_
  rintro e w2 ⟨A',c',rfl,_,hb2⟩;have HB2:=hE0 hb2;clear hb2;go_wp2
  go_ret
  exact⟨rfl,HB2.out⟩
 | some l=>
  obtain⟨h184,hmem⟩:=apF hw;obtain⟨z,hz⟩:=nmE (List.replicate 184 (0:UInt8)++bs.drop 184);have hzl:z.length=bs.length:=by rw[<-hz,List.length_append,List.length_replicate,List.length_drop];omega
  obtain rfl:some (l.foldl af3 z)=y:=by rw[<-hy,<-hz];unfold abz;rw[hw];rfl
  have hW:=alR w g base cap c A bs _ h hb hl hw;dsimp only[ac0,Option.isSome,Option.getD,aat]at hW;dsimp only[aoE,aat];have HCL:=hE0 (fun(W:World) (hB:Below w.heap.size w W)=>an8 (h.below hB) hb hl h184 z hz);have HW:=hE0 hW;have HMEM:=hE0 hmem;have HAR:=hE0 h;have HBASE:=hE0 hb;have HZL:=hE0 hzl;obtain⟨B0,hB0⟩:=nmE w.heap.size;have HB0:=hE0 hB0;clear hW hw hy h hb hz hmem hzl hB0;go_enter Tryz.func109,Tryz.ntmps109
  go_wp2_with fail
  with_reducible refine HW.out.mono ?_
  rintro e w2 ⟨A2,c2,rfl,ho2,hb2⟩;have hcl:l.length<=c2/\c2<=9223372036854775807:=by
   rcases ho2.2 with⟨h',h0⟩ | ⟨_,_,_,h',_,_,h1,h2,_⟩
   · injection h' with _ _ e;rw[h0,e];omega
   · injection h' with _ _ e;unfold maxLen at h2;omega
  have HO2:=hE0 ho2;have HB2:=hE0 hb2;have HAR2:=hE0 (HAR.out.below hb2);have HCL2:=hE0 (HCL.out w2 hb2);clear hb2 ho2 HW HCL;go_wp2_with fail
  refine HCL2.out.mono ?_;rintro e w3 ⟨rfl,hbe⟩;have HBE:=hE0 hbe;clear hbe HCL2;go_wp2
  go_loopw [19] (fun t wr=>∃j:Nat,t= .int .i64 (j:Int)/\j<=l.length/\Became 195 g base cap A ((l.take j).foldl af3 z) w2 wr) (fun t _=>l.length-(intOf t).toNat)
  case atStart=>exact⟨0,rfl,Nat.zero_le _,HBE.out⟩
  case round=>
   obtain⟨j,rfl,hj,hbe⟩:=hrel;by_cases hlt:j<l.length
   · obtain⟨x,hx⟩:∃x,l[j]?=some x:=⟨l[j],List.getElem?_eq_getElem hlt⟩;obtain⟨b,o,rfl,hbb,hc⟩:=apG HO2.out rfl (by omega);have hbB:B0<=b:=by have:=(HO2.out.lt b rfl).1;have:=HB0.out;omega
     have hnf:¬foot g A b:=fun hf=>by
      have h1:b<w.heap.size:=HAR.out.foot_lt hf;have:=HB0.out;omega
     obtain⟨p0,p1,p2⟩:=hc j x hx;have hg:=HMEM.out x (List.mem_of_getElem? hx);obtain⟨_,_,_,q3,_⟩:=aaw hg;obtain⟨out,hout⟩:=nmE ((l.take j).foldl af3 z);have hol:out.length=bs.length:=by rw[<-hout,am1 _ (by have:=HZL.out;omega)];exact HZL.out
     have hnext:(l.take (j+1)).foldl af3 z=af3 out x:=by
      rw[List.take_add_one,hx,List.foldl_append,hout];rfl
     rw[hout]at hbe;have htc:Tch (foot g A) w2 wr:=by obtain⟨_,_,_,t,_⟩:=hbe;exact t
     have r0:=ajh htc p0 hbb hnf;have r1:=ajh htc p1 hbb hnf;have r2:=ajh htc p2 hbb hnf;obtain⟨xo,xs,xu⟩:=x;dsimp only at p0 p1 p2 q3 r0 r1 r2;have hq:=(aab _).1 (aaw hg).2.2.2.2.1;dsimp only at hq;obtain⟨w4,hw4⟩:=nmE (wr.alloc (.cells #[.int .i64 (xo:Int), .int .i64 (xs:Int), .bool xu] 112));have hb4:=abE hw4;have n4:=anE hw4;obtain⟨⟨d0,d1,d2⟩,_⟩:=aad n4;have HBE4:=hE0 (aaz hbe hb4);have HW4:=hE0 hw4;have HP:=hE0 (an9 HBE4.out HBASE.out (by rw[hol];exact hl) (xo:Int) (by omega))
     cases xu with
     | true=>
      have HN:Hid ((l.take (j+1)).foldl af3 z=out):=hnext;clear hnext hx hc hbe hout htc hg p0 p1 p2 hb4 n4 HP hw4 HAR HAR2;go_wp2_with (first | (rw[HW4.out]) | fail)
      go_roundw
      case rel=>exact⟨j+1,by go_num,by omega,by rw[HN.out];exact HBE4.out⟩
      case measure=>simp only[intOf];omega
     | false=>
      have HN:Hid ((l.take (j+1)).foldl af3 z=(ahS out (xo:Int)).getD out):=hnext;clear hnext hx hc hbe hout htc hg p0 p1 p2 hb4 n4 hw4 HAR HAR2;go_wp2_with (first | (rw[HW4.out]) | fail)
      refine HP.out.mono ?_;rintro e w5 ⟨⟨v,rfl⟩,hbe5⟩;have HBE5:=hE0 hbe5;clear hbe5 HP;go_wp2
      go_roundw
      case rel=>exact⟨j+1,by go_num,by omega,by rw[HN.out];exact HBE5.out⟩
      case measure=>simp only[intOf];omega
   · obtain hjl:j=l.length:=by omega
     rw[hjl,List.take_length]at hbe;have HF:=hE0 (hbe.after HB2.out);clear hbe hjl;go_wp2
     go_ret
     exact⟨rfl,HF.out⟩
def aef (cap:Nat):Hp:=⟨cap,[],[],fun _=> []⟩
theorem atY{z:List UInt8}(hz:List.replicate 184 (0:UInt8)=z) (cap:Nat) (hc:184<=cap):Rt z ⟨cap,[],[],fun _=> []⟩:=by
 have hl:z.length=184:=by rw[<-hz];exact List.length_replicate
 have hw0:∀p,p+8<=184->p%8=0->aaf z p=0:=fun p hp _=>by
  have:=adv [] 184 p hp;rw[List.append_nil,hz]at this;exact this
 have hwk:abG z=some []:=adb (by rw[hl];rfl) (fun x hx=>by cases hx);have hli:Lists z [] (fun _=> []):=aft (by omega) (by omega) ⟨fun x hx=>(by cases hx),fun x hx=>(by cases hx)⟩ hw0;refine⟨hwk,fun c hc=>hli.all hc (Nat.zero_le _),?_,by show z.length<=cap;omega⟩;have e:aa2 []=fun _=> []:=rfl;rw[afP hwk (by rw[e];exact hli) (by rw[hw0 0 (by omega) rfl];omega)];rfl
theorem ase{z:List UInt8}(hz:List.replicate 184 (0:UInt8)=z) (cap:Nat) (hc:184<=cap):RtD z (aef cap):=
 ⟨atY hz cap hc,rfl,fun j x d ha=>by have h:=ha.1;cases h⟩
theorem afH (H:Hp) (hs:∀x∈H.blks,aaB (x.size:Int)=true) (c:Nat):∀j,j<=H.blks.length->(agP H j).lists c=aa2 (H.blks.take j) c
 | 0,_=>by rw[List.take_zero];rfl
 | j+1,hj=>by
  have ih:=afH H hs c j (by omega);have hx:=aas (l:=H.blks) (i:=j) (by omega);obtain⟨x,hxe⟩:=nmE (aam H.blks j);rw[hxe]at hx;obtain⟨k,hk,hk22⟩:=abq (hs x (List.mem_of_getElem? hx));have ht:H.blks.take (j+1)=H.blks.take j++ [x]:=by rw[List.take_add_one,hx];rfl
  rw[ht,aem];unfold agP;rw[hxe]
  cases hu:x.used with
  | true=>rw[if_pos rfl,if_neg (by intro h;cases h.1)];exact ih
  | false=>
   rw[if_neg (by decide)];show aga (agP H j).lists (ae0 (aam (agP H j).blks j)) ((aam (agP H j).blks j).off::(agP H j).lists (ae0 (aam (agP H j).blks j))) c=_;rw[(acr H j).1,hxe];have hcl:ae0 x=k:=by unfold ae0;rw[hk];rfl
   rw[hcl];unfold aga;by_cases e:c=k
   · subst e;rw[if_pos rfl,if_pos ⟨rfl,hk⟩,ih]
   · rw[if_neg e,if_neg (by intro h;apply e;have:=h.2;rw[hk]at this;omega)];exact ih
theorem aji:∀(l:List Bk) (o e:Nat),abA o l e->o+l.length*32<=e
 | [],o,e,h=>by simp[abA]at h;simp;omega
 | x::r,o,e,h=>by
  obtain⟨h1,h2,h3⟩:=h;have:=aji r _ e h3;have q:=(aab _).1 h2;rw[List.length_cons];omega
theorem am3{l:List Bk}{e:Nat}(h:abA 184 l e) (he:e<=16384):l.length<=512:=by
 have:=aji _ _ _ h;omega
theorem Rt.rebuilt{bs:List UInt8}{H:Hp}(h:Rt bs H) (hcap:H.cap<=16384):∃out,abz bs=some out/\Rt out H.rebuild:=by
 obtain⟨out,e,h1,h2,h3,_,h5⟩:=ad1 h.walk (Nat.le_trans h.len hcap);obtain⟨e1,_,e3⟩:=acr H H.blks.length;have ht:=(aaj h.walk).2.1;have hsz:∀x∈H.blks,aaB (x.size:Int)=true:=fun x hx=>((aak _ _ _ ht).2 x hx).2.2.1;refine⟨out,e,by unfold Hp.rebuild;rw[e1];exact h3,fun c hc=> ?_,by rw[h5];exact h.nfree.2.1,by unfold Hp.rebuild;rw[e3,h2];exact h.len⟩;have hl:=afH H hsz c H.blks.length (Nat.le_refl _);rw[List.take_length]at hl;show afn out c=some ((agP H H.blks.length).lists c);rw[hl];refine h1.all hc (Nat.le_trans (aeY _ _) ?_);have:=am3 ht (Nat.le_trans h.len hcap);omega
def awh (bs:List UInt8) (l:List Bk):List Dt:=l.map fun x=>(.slice none 0 0,(bs.drop (x.off+8)).take (x.size-16))
theorem au8{bs:List UInt8}{cap:Nat}(hk:abY bs=true) (hl:bs.length<=cap):∃H:Hp,RtD bs H/\H.cap=cap:=by
 have hk':=hk;unfold abY at hk
 cases hw:abG bs with
 | none=>rw[hw]at hk;cases hk
 | some l=>
  rw[hw]at hk;simp only[Bool.and_eq_true]at hk;have ht:=(aaj hw).2.1;refine⟨⟨cap,l,awh bs l,fun c=>(afn bs c).getD []⟩,⟨⟨hw,fun c hc=> ?_,hk',hl⟩,List.length_map _,fun j x d ha _=> ?_⟩,rfl⟩
  · obtain⟨al,h1,_⟩:=aeZ 22 0 _ hk.2.2 c (Nat.zero_le _) (by omega);show afn bs c=some ((afn bs c).getD []);rw[h1];rfl
  · obtain⟨h1,h2⟩:=ha;have h1:l[j]?=some x:=h1;have h2:(l.map fun x=>((.slice none 0 0,(bs.drop (x.off+8)).take (x.size-16)):Dt))[j]?=some d:=h2;rw[List.getElem?_map,h1]at h2;injection h2 with h2;subst h2;have hm:=(aak _ _ _ ht).2 x (List.mem_of_getElem? h1);have hq:=(aab _).1 hm.2.2.1;refine⟨?_,fun k hk=> ?_⟩
    · dsimp only;rw[List.length_take,List.length_drop];omega
    · dsimp only at hk ⊢;rw[List.length_take]at hk;rw[List.getElem?_take_of_lt (by omega),List.getElem?_drop]
def RezTold (g base cap:Nat) (A:Option Addr) (bs:List UInt8) (H:Hp) (o:Int) (r:(Nat × Int) × Hp) (w:World) (e:Ending) (w':World):Prop:=
 (r.1.2=0->e= .returned (.tuple #[.int .i64 (r.1.1:Int),aat true 0])/\∃out,Became 195 g base cap A out w w'/\Rt out r.2/\Held H bs r.2 out/\ai6 H bs o r.2 out r.1.1)/\
 (r.1.2≠0->e= .returned (.tuple #[.int .i64 0,aat false r.1.2])/\Below w.heap.size w w')
def atZ:Prop:=∀(w:World) (g base cap c:Nat) (A:Option Addr) (bs:List UInt8) (H:Hp) (o s:Int),Ar w 195 g base cap A c bs->base<=4611686018427387904->cap<=16384->H.cap=cap->Rt bs H->(-9223372036854775808<=o/\o<=9223372036854775807)->(-9223372036854775808<=s/\s<=9223372036854775807)->
 (aaB s=false->Calls Tryz.prog 129 #[.pointer (some ⟨g,0,none⟩), .int .i64 o, .int .i64 s] w fun e w'=>e= .returned (.tuple #[.int .i64 0,aat false 1])/\Below w.heap.size w w')/\
 (aaB s=true->Calls Tryz.prog 129 #[.pointer (some ⟨g,0,none⟩), .int .i64 o, .int .i64 s] w fun e w'=>RezTold g base cap A bs H o (H.resize o s.toNat) w e w')
theorem asS{n:Nat}:∀(l:List Bk) (o:Nat) (u:Bool),abA o l n->af5 u l=true->abh (n:Int) (o:Int) (!u) (l.map toR)=true
 | [],o,u,h,_=>by
  have h:o=n:=h;subst h;simp[abh]
 | x::r,o,u,⟨h1,h2,h3⟩,hn=>by
  unfold af5 at hn;rw[Bool.and_eq_true]at hn;have ih:=asS r (o+x.size) x.used h3 hn.2;have hle:=(aak r _ _ h3).1;rw[List.map_cons,abh];simp only[Bool.and_eq_true];refine⟨by unfold toR;rw[h1];simp,h2,decide_eq_true ?_,?_,ih⟩
  · show(x.size:Int)<=(n:Int)-(o:Int);omega
  · show(!(!u&& !x.used))=true;have:=hn.1
    cases u<;>cases hx:x.used<;>simp_all
theorem asT{bs:List UInt8}:∀l:List Bk,(∀x∈l,x.off+x.size<=bs.length/\32<=x.size)->datOk (l.map toR) (ofD bs l)=true
 | [],_=>rfl
 | x::r,h=>by
  have ih:=asT r fun y hy=>h y (List.mem_cons_of_mem _ hy);obtain⟨h1,h2⟩:=h x (List.mem_cons_self ..);rw[List.map_cons,datOk.eq_def,ofD];dsimp only
  cases hu:x.used with
  | false=>rw[if_neg (by unfold toR;rw[hu];exact Bool.false_ne_true),if_neg Bool.false_ne_true];exact ih
  | true=>
   rw[if_pos (by unfold toR;exact hu),if_pos rfl];dsimp only;rw[Bool.and_eq_true];refine⟨?_,ih⟩;rw[beq_iff_eq,List.length_take,List.length_drop];show((min (x.size-16) (bs.length-(x.off+8)):Nat):Int)=(x.size:Int)-16;omega
theorem am4:∀(l:List Bk) (o e:Nat),abA o l e->∃k,e=o+16*k
 | [],o,e,h=>⟨0,by have h:o=e:=h;omega⟩
 | x::r,o,e,⟨_,h2,h3⟩=>by
  obtain⟨k,hk⟩:=am4 r _ _ h3;have hs:=(aab _).1 h2;exact⟨x.size/16+k,by omega⟩
theorem aeg{bs:List UInt8}{l:List Bk}(hw:abG bs=some l) (hl:bs.length<=16384) (hn:aex l=true):adR (bs.length:Int) (l.map toR) (ofD bs l)=true:=by
 obtain⟨h1,ht,_⟩:=aaj hw;obtain⟨k,hk⟩:=am4 _ _ _ ht;unfold adR;rw[abf]at hn;simp only[Bool.and_eq_true];refine⟨(aaT _).2 ⟨by omega,by omega,by omega⟩,asS l 184 true ht hn,asT l fun x hx=> ?_⟩;obtain⟨_,a,b,_⟩:=(aak _ _ _ ht).2 x hx;have:=(aab _).1 b;exact⟨a,by omega⟩
theorem am5{bs:List UInt8}:∀(L:List Bk) (ds:List Dt),ds.length=L.length->(∀(j:Nat) (x:Bk) (d:Dt),L[j]?=some x->ds[j]?=some d->x.used=true->d.2.length+16=x.size/\∀k,k<d.2.length->bs[x.off+8+k]?=d.2[k]?)->ofD bs L=auY L ds
 | [],[],_,_=>rfl
 | x::L,d::ds,hl,h=>by
  have ih:=am5 L ds (by simpa using hl) fun j x d hx hd=>h (j+1) x d hx hd;rw[ofD,auY,ih]
  cases hu:x.used with
  | false=>rfl
  | true=>
   obtain⟨h1,h2⟩:=h 0 x d rfl rfl hu;have e:(bs.drop (x.off+8)).take (x.size-16)=d.2:=by
    refine List.ext_getElem? fun k=> ?_;rw[List.getElem?_take];split
    · rw[List.getElem?_drop];exact h2 k (by omega)
    · rw[List.getElem?_eq_none (by omega)]
   rw[if_pos rfl,if_pos rfl,e]
theorem am6{bs:List UInt8}{H:Hp}(h:RtD bs H):ofD bs H.blks=auY H.blks H.ds:=
 am5 _ _ h.dl fun j x d hx hd hu=>h.ho j x d ⟨hx,hd⟩ hu
theorem at0{mid out:List UInt8}{L:List Bk}{ds:List Dt}{cap:Nat}(hw:abG mid=some L) (hm:mid.length<=16384) (ho:abz mid=some out) (hc:abY out=true) (hle:out.length<=cap) (hds:ds.length=L.length):
 Rt out (⟨cap,L,ds,fun _=> []⟩:Hp).rebuild/\(⟨cap,L,ds,fun _=> []⟩:Hp).rebuild.cap=cap/\(⟨cap,L,ds,fun _=> []⟩:Hp).rebuild.Dl:=by
 obtain⟨H,hH⟩:∃H:Hp,(⟨cap,L,ds,fun _=> []⟩:Hp)=H:=⟨_,rfl⟩;have hb:H.blks=L:=by rw[<-hH]
 have hcp:H.cap=cap:=by rw[<-hH]
 have hd:H.ds.length=H.blks.length:=by rw[<-hH];exact hds
 rw[hH];rw[<-hb]at hw;obtain⟨out',e,h1,h2,h3,_,h5⟩:=ad1 hw hm;rw[ho]at e;injection e with e;subst e;obtain⟨e1,e2,e3⟩:=acr H H.blks.length;have ht:=(aaj hw).2.1;have hsz:∀x∈H.blks,aaB (x.size:Int)=true:=fun x hx=>((aak _ _ _ ht).2 x hx).2.2.1;refine⟨⟨by unfold Hp.rebuild;rw[e1];exact h3,fun c hc=> ?_,hc,by unfold Hp.rebuild;rw[e3,hcp];exact hle⟩,by unfold Hp.rebuild;rw[e3,hcp],?_⟩
 · have hl:=afH H hsz c H.blks.length (Nat.le_refl _);rw[List.take_length]at hl;show afn out c=some ((agP H H.blks.length).lists c);rw[hl];refine h1.all hc (Nat.le_trans (aeY _ _) ?_);have:=am3 ht hm;omega
 · unfold Hp.rebuild Hp.Dl;rw[e1,e2];exact hd
end Go.Proofs.YtncadccbepjekaaGreatDoor
