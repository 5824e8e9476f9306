/- Texts of mine, joined. -/
import Derived.RegionTactic
import Derived.ChangeAlike
import Derived.BigRegion
import Derived.Test.YtncadccbepjekaaGreatDoorU32
import Derived.Test.YtncadccbepjekaaGreatDoorU35
set_option maxRecDepth 100000
set_option maxHeartbeats 2000000
namespace Go.Proofs.YtncadccbepjekaaGreatDoor
open Go.RowKit
def Hp.readP (H:Hp) (p a n:Nat):List UInt8 × Int:=match H.handleB p with
 | none=>([],4)
 | some i=>if (H.ds.getD i acI).2.length<a+n then ([],2) else (((H.ds.getD i acI).2.drop a).take n,0)
def Hp.writeP (H:Hp) (p a:Nat) (b:List UInt8):Int × Hp:=match H.handleB p with
 | none=>(4,H)
 | some i=>if (H.ds.getD i acI).2.length<a+b.length then (2,H) else (0,H.dset i ((H.ds.getD i acI).1,lay (H.ds.getD i acI).2 a b))
def PBytes (r:List UInt8 × Int) (w:World) (e:Ending) (w':World):Prop:=
 ∃A' c',e= .returned (.tuple #[.slice A' r.1.length c',ak1 r.2])/\w'.ownsRow w.heap.size 5 1 (.slice A' r.1.length c') r.1.length (r.1.map bv)/\Below w.heap.size w w'
section
variable {w w':World} {q g base cap c:Nat} {A:Option Addr} {bs out:List UInt8} {H H':Hp}
theorem PBytes.none_{k:Int}(hb:Below w.heap.size w w'):PBytes ([],k) w (.returned (.tuple #[.slice none 0 0,ak1 k])) w':=⟨none,0,rfl,World.ownsRow_nil _ _ _ _,hb⟩
theorem akP{w:World}{B B' n:Nat}{t:TypeId}{v:Value}{l:List Value}(h:w.ownsRow B t 1 v n l) (hB:B'<=B):w.ownsRow B' t 1 v n l:=
 ⟨h.1,h.2.imp id fun⟨g',cap',cur,a,b,c⟩=>⟨g',cap',cur,a,Nat.le_trans hB b,c⟩⟩
theorem PH.part (h:PH w q g base cap A c bs H){i xo xs a n:Nat}(hat:H.At i ⟨xo,xs,true⟩ (H.ds.getD i acI)) (hf:a+n<=(H.ds.getD i acI).2.length):(bs.drop (xo+8+a)).take n=((H.ds.getD i acI).2.drop a).take n:=by
 obtain⟨h1,h2⟩:=h.rd.ho i _ _ hat rfl;refine List.ext_getElem? fun k=> ?_;by_cases hk:k<n
 · rw[List.getElem?_take_of_lt hk,List.getElem?_take_of_lt hk,List.getElem?_drop,List.getElem?_drop];have:=h2 (a+k) (by omega);dsimp only at this;rw[<-this];congr 1;omega
 · rw[List.getElem?_eq_none (by rw[List.length_take];omega),List.getElem?_eq_none (by rw[List.length_take];omega)]
theorem aqN (h:PH w q g base cap A c bs H) (p a n:Nat) (hp:p<18446744073709551616) (ha:a<18446744073709551616) (hn:n<18446744073709551616):
 Calls Tryz.prog 69 #[.pointer (some ⟨q,0,none⟩), .int .u64 (p:Int), .int .u64 (a:Int), .int .u64 (n:Int)] w fun e w'=>PBytes (H.readP p a n) w e w':=by
 unfold Hp.readP
 cases hh:H.handleB p with
 | none=>
  dsimp only;have HF:=hE0 (ahh h p a n hp hh);clear h hh;go_enter Tryz.func69,Tryz.ntmps69
  go_wp2_with fail
  refine HF.out.mono ?_;rintro e w2 ⟨rfl,hb⟩;have HT:=hE0 hb;clear hb HF;go_wp2
  go_ret2
  exact PBytes.none_ HT.out
 | some i=>
  dsimp only;obtain⟨L,hL⟩:=nmE ((H.ds.getD i acI).2.length);by_cases hf:L<a+n
  · rw[if_pos (by omega)];have HF:=hE0 (aiu h p a n hp ha hn hh hL hf);clear h hh hL;go_enter Tryz.func69,Tryz.ntmps69
    go_wp2_with fail
    refine HF.out.mono ?_;rintro e w2 ⟨rfl,hb⟩;have HT:=hE0 hb;clear hb HF;go_wp2
    go_ret2
    exact PBytes.none_ HT.out
  · rw[if_neg (by omega)];obtain⟨xo,xs,hbk,hpx,h184,h32,hle,hi,hat,hd,h16,hu⟩:=h.blk hh;have hl:=h.len;have hpart:=h.part (a:=a) (n:=n) hat (by omega);obtain⟨x,hx⟩:=nmE (base+p+a);have HF:=hE0 (akG h p a n hp hn hh hL (by omega) hx);have hb62:=h.b62;obtain⟨ys,hys⟩:=nmE (((H.ds.getD i acI).2.drop a).take n);have HLD:∀W,Below w.heap.size w W->Calls Tryz.prog 96 #[.pointer (some ⟨g,0,none⟩), .int .u64 (x:Int), .int .u64 (n:Int)] W fun e w'=>arm ys W e w':=fun W hb=>by
     have:=ala (h.ar.below hb) (by omega) x n (xo+8+a) (by omega) (by omega) (by omega) (by omega);rw[hpart,hys]at this;exact this
    rw[hys];have HLD:=hE0 HLD;have H0:=hE0 h;clear h hh hL hf hbk hpx hat hd hu hi hpart hys hx hl h184 h32 hle h16 hb62;go_enter Tryz.func69,Tryz.ntmps69
    go_wp2_with fail
    refine HF.out.mono ?_;rintro e w2 ⟨rfl,hb⟩;have k0:=(H0.out.below hb).c0;have hlq:=(H0.out.below hb).lt;have HL2:=hE0 (HLD.out w2 hb);have HB:=hE0 hb;clear hb HF H0 HLD;go_wp2_with fail
    refine HL2.out.mono ?_;rintro e w3 ⟨A',c',rfl,ho,hb3⟩;have HT:Hid (PBytes (ys,0) w (.returned (.tuple #[.slice A' ys.length c',ak1 0])) w3):=⟨A',c',rfl,akP ho HB.out.size,HB.out.trans (hb3.mono HB.out.size)⟩;clear ho hb3 HL2 HB k0;go_wp2
    go_ret2
    exact HT.out
theorem aon (h:PH w q g base cap A c bs H) (p a:Nat) (b:List UInt8) (B:Option Addr) (k:Nat) (hr:Rd w w.heap.size B b.length b) (hp:p<18446744073709551616) (ha:a<18446744073709551616) (hbl:b.length<=1000000):
 Calls Tryz.prog 70 #[.pointer (some ⟨q,0,none⟩), .int .u64 (p:Int), .int .u64 (a:Int), .slice B b.length k] w fun e w'=>e= .returned (ak1 (H.writeP p a b).1)/\PTurn g base cap A (H.writeP p a b).2 w w':=by
 unfold Hp.writeP
 cases hh:H.handleB p with
 | none=>
  dsimp only;have hF:=ahh h p a b.length hp hh;obtain⟨n,hn⟩:=nmE b.length;rw[hn]at hF hbl ⊢;have HF:=hE0 hF;have H0:=hE0 h;clear h hh hr hF;go_enter Tryz.func70,Tryz.ntmps70
  go_wp2_with fail
  refine HF.out.mono ?_;rintro e w2 ⟨rfl,hb⟩;have HT:=hE0 (H0.out.stay hb);clear hb HF H0;go_wp2
  go_ret
  exact⟨rfl,HT.out⟩
 | some i=>
  dsimp only;obtain⟨L,hL⟩:=nmE ((H.ds.getD i acI).2.length);by_cases hf:L<a+b.length
  · rw[if_pos (by omega)];have hF:=aiu h p a b.length hp ha (by omega) hh hL hf;obtain⟨n,hn⟩:=nmE b.length;rw[hn]at hF hbl ⊢;have HF:=hE0 hF;have H0:=hE0 h;clear h hh hr hF hL;go_enter Tryz.func70,Tryz.ntmps70
    go_wp2_with fail
    refine HF.out.mono ?_;rintro e w2 ⟨rfl,hb⟩;have HT:=hE0 (H0.out.stay hb);clear hb HF H0;go_wp2
    go_ret
    exact⟨rfl,HT.out⟩
  · rw[if_neg (by omega)];obtain⟨xo,xs,hbk,hpx,h184,h32,hle,hi,hat,hd,h16,hu⟩:=h.blk hh;have hl:=h.len;obtain⟨x,hx⟩:=nmE (base+p+a);have hF:=akG h p a b.length hp (by omega) hh hL (by omega) hx;have hb62:=h.b62;have HWR:=hE0 (h.rd.wrote hat rfl (H.ds.getD i acI).1 a b (by omega));have HST:∀W,Below w.heap.size w W->Calls Tryz.prog 132 #[.pointer (some ⟨g,0,none⟩), .int .u64 (x:Int), .slice B b.length k] W fun e w'=>e= .returned .nilIface/\Became 195 g base cap A (lay bs (xo+8+a) b) W w':=fun W hb=>
     aiI (h.ar.below hb) (by omega) x (xo+8+a) B k b w.heap.size (hr.below hb) (by omega) (by omega) (by omega) (by omega)
    obtain⟨n,hn⟩:=nmE b.length;rw[hn]at hF hbl HST ⊢;have HST:=hE0 HST;have HF:=hE0 hF;have H0:=hE0 h;clear h hh hL hf hbk hpx hat hd hu hi hx hl h184 h32 hle h16 hb62 hr hF hn;go_enter Tryz.func70,Tryz.ntmps70
    go_wp2_with fail
    refine HF.out.mono ?_;rintro e w2 ⟨rfl,hb⟩;have k0:=(H0.out.below hb).c0;have hlq:=(H0.out.below hb).lt;have HL2:=hE0 (HST.out w2 hb);have HB:=hE0 hb;clear hb HF H0 HST;go_wp2_with fail
    refine HL2.out.mono ?_;rintro e w3 ⟨rfl,hbe⟩;have HT:Hid (PTurn g base cap A (H.dset i ((H.ds.getD i acI).1,lay (H.ds.getD i acI).2 a b)) w w3):=⟨_,hbe.after HB.out,HWR.out⟩;clear hbe HL2 HB HWR k0;go_wp2
    go_ret
    exact⟨rfl,HT.out⟩
end
theorem amf (w:World) (g base cap c:Nat) (A:Option Addr) (bs:List UInt8) (l:List Bk) (har:Ar w 195 g base cap A c bs) (hbase:base<=4611686018427387904) (hl:bs.length<=16384) (hck:abY bs=true) (hwk:abG bs=some l):
 Calls Tryz.prog 58 #[.pointer (some ⟨g,0,none⟩)] w fun e w'=>∃A1 A2 c1 c2,e= .returned (.tuple #[.agg #[.int .i64 (bs.length:Int), .slice A1 l.length c1, .slice A2 (ofD bs l).length c2], .nilIface])/\RkRd w' w'.heap.size A1 (l.map toR)/\DtRd w' w'.heap.size A2 (ofD bs l)/\Below w.heap.size w w':=by
 obtain⟨hin,hll32,hmem⟩:=ar0 hwk hl;obtain⟨F,hF⟩:=nmE (ofD bs l);rw[hF];obtain⟨w1,hw1⟩:=nmE (w.alloc (.cells #[.int .i64 0, .slice none 0 0, .slice none 0 0] 107));have hb1:=abE hw1;have n1:=anE hw1;have HAR1:=hE0 (har.below hb1);have HC:=hE0 (asV w1 g base cap c A bs true HAR1.out hbase hl hck);dsimp only[aat]at HC;have HWK:=hE0 (fun W (h:Ar W 195 g base cap A c bs)=>alR W g base cap c A bs (some l) h hbase hl hwk);have HW1:=hE0 hw1;have HB1:=hE0 hb1;have HN1:=hE0 n1;have HMEM:=hE0 hmem;have HIN:=hE0 hin;have HFF:=hE0 hF;obtain⟨n,hn⟩:=nmE bs.length;rw[hn]at hl hll32;rw[hn];have HNN:=hE0 hn;obtain⟨m,hm⟩:=nmE l.length;rw[hm]at hll32 ⊢;have HMM:=hE0 hm;have HLL:Hid ((l.map toR).length=m):=(show _=_ by rw[List.length_map];exact hm);clear har hck hw1 hb1 n1 hwk hmem hin hF hn hm;go_enter Tryz.func58,Tryz.ntmps58
 go_wp2_with (first | (rw[HW1.out]) | fail)
 refine HC.out.mono ?_;rintro e w2 ⟨rfl,hb2⟩;have har2:=HAR1.out.below hb2;have hlen:=abL har2;rw[HNN.out]at hlen;have HLEN:=hE0 hlen;have HAR2:=hE0 har2;have HN2:=hE0 ((hb2.block _ (aaa HN1.out)).trans HN1.out);have HB2:=hE0 (HB1.out.trans (hb2.mono HB1.out.size));obtain⟨w3,hw3⟩:=nmE (w2.alloc (.cells #[.int .i64 (n:Int), .slice none 0 0, .slice none 0 0] 107));have hb3:=abE hw3;have n3:=anE hw3;have hwk3:=HWK.out w3 (har2.below hb3);unfold ac0 at hwk3;dsimp only[aat,Option.isSome,Option.getD]at hwk3;have HWK3:=hE0 hwk3;have HW3:=hE0 hw3;have HB3:=hE0 hb3;have HN3:=hE0 n3;clear hb2 har2 hlen hw3 hb3 n3 hwk3 HWK HC HAR1;go_wp2_with fail
 refine HLEN.out.mono ?_;rintro e wq ⟨rfl,rfl⟩;go_wp2_with (first | (rw[HW3.out]) | fail)
 refine HWK3.out.mono ?_;rintro e w4 ⟨A1,c1,rfl,own4,hb4⟩;rw[HMM.out];have n4:=(hb4.block _ (aaa HN3.out)).trans HN3.out;have hl4:=aaa n4;obtain⟨f0,f1,f2⟩:=acP n4;obtain⟨z0,z1,z2⟩:=aal n4;obtain⟨w5,hw5⟩:=nmE (w4.setCell ⟨w2.heap.size,1,none⟩ (.slice A1 m c1));have hg5:w4.grownBy w5 (some w2.heap.size):=by rw[<-hw5];exact act w4 w2.heap.size 1 _
 have n5:w5.heap[w2.heap.size]?=some (.cells #[.int .i64 (n:Int), .slice A1 m c1, .slice none 0 0] 107 (0,0)):=by rw[<-hw5];exact heap_setCell_same w4 w2.heap.size 1 _ _ _ n4
 have hb5:Below w2.heap.size w2 w5:=by rw[<-hw5];exact(HB3.out.trans (hb4.mono HB3.out.size)).setCell (p:=⟨w2.heap.size,1,none⟩) (Nat.le_refl _) _
 have own5:w5.ownsRow w2.heap.size 112 3 (.slice A1 (l.map toR).length c1) (l.map toR).length (afc (l.map toR)):=by
  rw[HLL.out,<-apY];rw[HMM.out]at own4;exact acY (acO own4 hg5 fun k hk hrk=>by injection hrk with hrk;subst hrk;exact adB own4 hk n4 (by decide)) HB3.out.size
 have HIM5:Hid (ImP w2.heap.size w2.heap.size (n:Int) A1 c1 (l.map toR) none 0 [] [] w5):=⟨by rw[HLL.out];exact n5,own5,World.ownsRow_nil _ _ _ _,fun i y h=>by simp at h,Nat.le_refl _,HIN.out⟩;have HB5:=hE0 hb5;have hRW:=own5;obtain⟨d0,d1,d2⟩:=aal n5;have hl5:=aaa n5;have HW5:=hE0 hw5;clear own4 hb4 n4 hw5 hg5 n5 hb5 own5 hRW;go_wp2_with (first | (rw[HW5.out]) | fail)
 clear f0 f1 f2 z0 z1 z2 d0 d1 d2 hl4 hl5;obtain⟨j0,ji,jz0,jz1,jz2⟩:=info_parts apD;go_loopw [26] (fun t W=>∃(j:Nat) (A2:Option Addr) (c2:Nat) (d:List (List UInt8)) (xs:List Value),t= .int .i64 (j:Int)/\j<=m/\ImP w2.heap.size w2.heap.size (n:Int) A1 c1 (l.map toR) A2 c2 d xs W/\d++ofD bs (l.drop j)=F/\d.length<=j/\Below w2.heap.size w2 W) (fun t _=>m-(intOf t).toNat)
 case atStart=>exact⟨0,none,0,[],[],rfl,Nat.zero_le _,HIM5.out,HFF.out,Nat.le_refl _,HB5.out⟩
 case round=>
  obtain⟨j,A2,c2,d,xs,rfl,hj,him,hdf,hdl,hb⟩:=hrel;have ho:=him.obj;rw[HLL.out]at ho;obtain⟨d0,d1,d2⟩:=aal ho;have hlm:=aaa ho;by_cases hlt:j<m
  · obtain⟨x,hx⟩:∃x,l[j]?=some x:=⟨l[j]'(by rw[HMM.out];exact hlt),List.getElem?_eq_getElem _⟩;obtain⟨m1,m2,m3⟩:=HMEM.out x (List.mem_of_getElem? hx);have m4:=(aab _).1 m3;rw[HNN.out]at m2;obtain⟨b2,o,rfl,hbb,hcl⟩:=him.rkrd (by rw[HLL.out];omega);obtain⟨r0,r1,r2,_,_⟩:=hcl j (toR x) (by rw[List.getElem?_map,hx];rfl);rw[aeE hx]at hdf;unfold ofD at hdf;obtain⟨xo,xz,xu⟩:=x;dsimp only[toR]at r0 r1 r2 hdf m1 m2 m3 m4;obtain⟨w4',hw4⟩:∃w4,wr.alloc (.cells #[.int .i64 (xo:Int), .int .i64 (xz:Int), .bool xu] 112)=w4:=⟨_,rfl⟩;have hb04:Below wr.heap.size wr w4':=by rw[<-hw4];exact(Below.refl _ _).alloc (Nat.le_refl _) _
    have n4:=anE hw4;have HIM4:=hE0 (him.stay hb04);have HB4:=hE0 (hb.trans (hb04.mono hb.size));have HW4:=hE0 hw4;have HN4:=hE0 n4;obtain⟨e0,e1,e2⟩:=aal n4;have hl4:=aaa n4;have HDF:=hE0 hdf;clear hx hcl hb04 hw4 n4 hdf him hb ho
    cases xu with
    | false=>
     have HF2:Hid (d++ofD bs (l.drop (j+1))=F):=(show _=_ by simpa using HDF.out);go_wp2_with (first | (rw[HW4.out]) | fail)
     go_roundw
     case rel=>exact⟨j+1,A2,c2,d,xs,by go_num,by omega,HIM4.out,HF2.out,by omega,HB4.out⟩
     case measure=>simp only[intOf];omega
    | true=>
     obtain⟨q,hq⟩:∃q,xz=q+16:=⟨xz-16,by omega⟩;have har4:=HAR2.out.below HB4.out;obtain⟨y,hy⟩:=nmE ((bs.drop (xo+8)).take q);have hyl:y.length=q:=by rw[<-hy,List.length_take,List.length_drop,HNN.out];omega
     have hyb:y.length<=100000:=by omega
     have HF2:Hid ((d++ [y])++ofD bs (l.drop (j+1))=F):=(show _=_ by
      have:=HDF.out;rw[if_pos rfl,show xz-16=q from by omega,hy]at this;rw[List.append_assoc];exact this)
     obtain⟨wd,hwd⟩:=nmE w4'.drew;have hbd:Below w4'.heap.size w4' wd:=by rw[<-hwd];exact(Below.refl _ _).drew
     have hard:=har4.below hbd;have HBASE:=hE0 (ab4 hard);have HHELD:=hE0 (aen wd (xo:Int) (xz:Int) true m3);rw[show(xz:Int)-16=(q:Int) from by omega]at HHELD;obtain⟨ad,had⟩:=nmE (base+xo+8);have HLOAD:=hE0 (fun W (h:Ar W 195 g base cap A c bs)=>ala h (by rw[HNN.out];omega) ad q (xo+8) (by omega) (by omega) (by omega) (by rw[HNN.out];omega));rw[hy]at HLOAD;have HARD:=hE0 hard;have hbd4:=HB4.out.trans (hbd.mono HB4.out.size);have HBD:=hE0 hbd4;have HIMD:=hE0 (HIM4.out.stay hbd);have hnd:=(hbd.block _ (aaa HN4.out)).trans HN4.out;obtain⟨g0,g1,g2⟩:=aal hnd;have lgd:=aaa hnd;have HWD:=hE0 hwd;have HYL:=hE0 hyl;obtain⟨bx,hbx⟩:=nmE (base+xo);have i3:(base:Int)+(xo:Int)=(bx:Int):=by omega
     have i1:(bx:Int)+8=(ad:Int):=by omega
     have i2:ad<18446744073709551616:=by omega
     have hqb:q<=20000:=by omega
     have i4:bx<18446744073709551616:=by omega
     clear hbd har4 hard hbd4 hnd hwd hy hyl had hq hbx;go_wp2_with (first | (rw[HW4.out]) | fail)
     refine aar wd.heap.size [([0,1,3,4,5,8],2),([6,7],9),([10],11)] [12,13,14,15,16] [] (by kernel_rfl) (by kernel_rfl) (by kernel_rfl) (fun _ _ _ _ _ h=>h) ?_;rw[HWD.out];have q0:=tfE g0 lgd;have q1:=tfE g1 lgd;have q2:=tfE g2 lgd;refine tail_cons (l:= ?segA) ?hsegA ?_
     case hsegA=>simp only[pick,lE1,lE2,lE3];rfl
     repeat (go_big_quiet_step (fail))
     refine wpQuiet_nil ?_;clear q0 q1 q2;refine aau (vs:= #[.pointer (some ⟨g,0,none⟩)]) Tryz.call56 rfl rfl rfl (R:=fun r w'=>r= .int .u64 (base:Int)/\w'=wd) (HBASE.out.mono ?_) wd.heap.size (Nat.le_refl _) ?_
     · rintro e w' ⟨rfl,rfl⟩;exact⟨_,rfl,Below.refl _ _,rfl,rfl⟩
     rintro r w' _ ⟨rfl,rfl⟩;simp only[Act.put,lE4,lE5,lE6];refine tail_cons (l:= ?segB) ?hsegB ?_
     case hsegB=>simp only[pick,lE1,lE2,lE3];rfl
     repeat (go_big_quiet_step (fail))
     refine wpQuiet_nil ?_;refine abD (vs:= #[.agg #[.int .i64 (xo:Int), .int .i64 (xz:Int), .bool true]]) Tryz.call117 rfl rfl rfl (R:=fun r w''=>r= .int .i64 (q:Int)/\Below w'.heap.size w' w'') (HHELD.out.mono ?_) ?_
     · rintro e w'' ⟨rfl,hb⟩;exact⟨_,rfl,hb,rfl,hb⟩
     rintro r w5 _ ⟨rfl,hb5⟩;refine⟨w5.heap.size,hb5.size,?_⟩;simp only[Act.put,lE4,lE5,lE6];have HIM5:=hE0 (HIMD.out.stay hb5);have HB5:=hE0 (HBD.out.trans (hb5.mono HBD.out.size));have hlo:=HLOAD.out w5 (HARD.out.below hb5);unfold arm at hlo;rw[HYL.out]at hlo;clear hb5;refine tail_cons (l:= ?segC) ?hsegC ?_
     case hsegC=>simp only[pick,lE1,lE2,lE3];rfl
     repeat (go_big_quiet_step (fail))
     refine wpQuiet_nil ?_;refine abD (vs:= #[.pointer (some ⟨g,0,none⟩), .int .u64 (ad:Int), .int .u64 (q:Int)]) Tryz.call96 rfl rfl rfl (R:=fun r w''=>∃A' c',r= .tuple #[.slice A' q c', .nilIface]/\w''.ownsRow w5.heap.size 5 1 (.slice A' q c') q (y.map bv)/\Below w5.heap.size w5 w'') (hlo.mono ?_) ?_
     · rintro e w'' ⟨A',c',rfl,ho,hb⟩;exact⟨_,rfl,hb,A',c',rfl,ho,hb⟩
     rintro r w6 _ ⟨A6,k6,rfl,ho6,hb6⟩;refine⟨w6.heap.size,hb6.size,?_⟩;simp only[Act.put,lE4,lE5,lE6];have him6:=HIM5.out.stay hb6;have hB6:=HB5.out.trans (hb6.mono HB5.out.size);obtain⟨w7,hw7⟩:=nmE (w6.alloc (.cells #[.slice A6 q k6] 37));have hb7:=abE hw7;have n7:=anE hw7;have HIM7:=hE0 (him6.stay hb7);have HB7:=hE0 (hB6.trans (hb7.mono hB6.size));have ho7:=acY (ab7 ho6 hb7 (aba ho6)) (Nat.zero_le _);rw[<-HYL.out]at ho7;have Ho7:=hE0 ho7;have hB7s:w2.heap.size<=w7.heap.size:=HB7.out.size;have HRUN:=hE0 (fun V:World=>akb V A6 q k6);have HW7:=hE0 hw7;have HNEW:Hid (∀j u,[Value.slice A6 q k6][j]?=some u->w7.cell? ((⟨w6.heap.size,0,none⟩:Addr).add j)=some u):=fun j u hu=>by
      have e:(⟨w6.heap.size,0,none⟩:Addr).add j=⟨w6.heap.size,j,none⟩:=by unfold Addr.add;split<;>simp_all
      rw[e,cell_of_row w7 _ j _ _ (0,0) n7];simpa using hu
     have HONE:Hid (∀u∈ [Value.slice A6 q k6],u.oneCell'=true):=fun u hu=>by
      simp at hu;subst hu;rfl
     have hdb:d.length<=2000:=by omega
     have ho6':=him6.obj;rw[HLL.out]at ho6';obtain⟨v0,v1,v2⟩:=aal ho6';have hl6:=aaa ho6';clear hlo ho6 hb6 him6 hB6 hw7 hb7 n7 ho7 ho6' d0 d1 d2 hlm e0 e1 e2 hl4 g0 g1 g2 lgd;refine aaO (l:= ?lastA) (t:= []) ?hlastA rfl ?_
     case hlastA=>simp only[pick,lE1,lE2,lE3];rfl
     repeat (go_big_quiet_step (fail))
     refine wpQuiet_nil ?_;go_wp2_with (first
      | (rw[HRUN.out])
      | (rw[HW7.out])
      | (at_builtin;go_must (refine wpList_append_own _ rfl _ _ 57 rfl w2.heap.size 37 j0 _ 1 24 Tryz.underlying57 ji jz0 jz1 jz2 rfl (by decide) _ d.length xs rfl HIM7.out.rd ⟨w6.heap.size,0,none⟩ 1 1 [.slice A6 q k6] rfl rfl HNEW.out HONE.out (by unfold maxLen;omega) (by omega) hB7s ?_);intro x8 w8 own8 gr8 at8
         obtain⟨A2',c2',rfl,hg8,him8,hb8⟩:=HIM7.out.pushD (y:=y) hyb Ho7.out (by rw[HYL.out];exact own8) gr8 HB7.out (Nat.le_refl _) hB7s;have e8:=hg8.trans HIM7.out.obj;rw[HLL.out]at e8;obtain⟨c80,c81,c82⟩:=aal e8;obtain⟨t80,t81,t82⟩:=acP e8;have hl8:=aaa e8;have HIM8:=hE0 him8;have HB8x:=hE0 hb8;clear own8 gr8 at8 hg8 him8 hb8 e8)
      | fail)
     go_roundw
     case rel=>exact⟨j+1,A2',c2',d++ [y],_,by go_num,by omega,HIM8.out,HF2.out,by rw[List.length_append,List.length_singleton];omega,HB8x.out⟩
     case measure=>simp only[intOf];omega
  · have hd0:l.drop j= []:=List.drop_eq_nil_of_le (by rw[HMM.out];omega);rw[hd0]at hdf;have hdF:d=F:=by rw[<-hdf];unfold ofD;rw[List.append_nil]
    subst hdF;have hN9:=(hb.block _ (aaa HN2.out)).trans HN2.out;have hB9:=HB2.out.trans (hb.mono HB2.out.size);have hl9:=aaa hN9;obtain⟨t0,t1,t2⟩:=acP hN9;obtain⟨z0,z1,z2⟩:=aal hN9;obtain⟨dl,hdl2⟩:=nmE d.length;rw[hdl2]at ho;clear d0 d1 d2;obtain⟨d0,d1,d2⟩:=aal ho;have HM:=hE0 (aff hN9 (.int .i64 (n:Int)) (.slice A1 m c1) (.slice A2 dl c2));have HF:=hE0 (((hB9.setCell (p:=⟨w.heap.size,0,none⟩) (Nat.le_refl _) (.int .i64 (n:Int))).setCell (p:=⟨w.heap.size,1,none⟩) (Nat.le_refl _) (.slice A1 m c1)).setCell (p:=⟨w.heap.size,2,none⟩) (Nat.le_refl _) (.slice A2 dl c2));have HLAID:=hE0 (him.laid (aaa HN2.out) hN9 (.int .i64 (n:Int)) (.slice A1 m c1) (.slice A2 dl c2));have HDL:=hE0 hdl2;clear hN9 hB9 him hb ho hdl2 hdf hd0;go_wp2
    (try simp only[Exit.inBlock,Exit.then])
    refine aki (g:=w.heap.size) (x:= .nilIface) Tryz.results58 ?_ ?_ ?_ HM.out ?_
    · rfl
    · rfl
    · rfl
    · exact⟨A1,A2,c1,c2,by rw[HDL.out],HLAID.out.1,HLAID.out.2,HF.out⟩
theorem avW (x:Bk):toB (toR x)=x:=by
 unfold toB toR;simp
theorem as0 (l:List Bk):(l.map toR).map toB=l:=by
 rw[List.map_map];exact(List.map_congr_left fun x _=>avW x).trans (List.map_id l)
theorem aqO{out:List UInt8}{H:Hp}(h:RtD out H){s:Nat}(hb:H.blks= [⟨184,s,true⟩]) (hc:H.cap<=16384):out.length=184+s/\adR ((184+s:Nat):Int) (H.blks.map toR) (ofD out H.blks)=true/\(aaH out.length (H.blks.map toR) (ofD out H.blks)).length<=48+s:=by
 have hl:=h.rt.lenE;have hle:=h.rt.bound hc;rw[hb]at hl;have hl:out.length=184+s:=by
  rw[<-hl];unfold lenB;simp[abc]
 have hm:=aeg h.rt.walk hle.1 h.rt.nfree.2.1;refine⟨hl,by rw[<-hl];exact hm,?_⟩;unfold adR at hm;simp only[Bool.and_eq_true]at hm;have hf:=agq hm.2.1 hm.2.2;rw[afD,List.length_map,hb];rw[hb]at hf;simp only[List.length_cons,List.length_nil];omega
end Go.Proofs.YtncadccbepjekaaGreatDoor
