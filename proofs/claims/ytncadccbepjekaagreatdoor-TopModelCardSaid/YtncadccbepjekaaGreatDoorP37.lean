/- Texts of mine, joined. -/
import Derived.Test.YtncadccbepjekaaGreatDoorP33
import Derived.Test.YtncadccbepjekaaGreatDoorP34
set_option maxRecDepth 100000
set_option maxHeartbeats 2000000
namespace Go.Proofs.YtncadccbepjekaaGreatDoor
open Go.RowKit
def aju (k:Int):Value:=if k=0 then .nilIface else .iface 130 (.int .i64 k)
theorem avo:aju 1= .iface 130 (.int .i64 1):=rfl
def PTurn (g base cap:Nat) (A:Option Addr) (H':Hp) (w w':World):Prop:=∃out,Became 195 g base cap A out w w'/\RtD out H'
def aha (g base cap:Nat) (A:Option Addr) (r:(Nat × Int) × Hp) (w:World) (e:Ending) (w':World):Prop:=
 e= .returned (.tuple #[.int .u64 (r.1.1:Int),aju r.1.2])/\PTurn g base cap A r.2 w w'
def Hp.freeP (H:Hp) (p:Nat):Int × Hp:=match H.handleB p with
 | none=>(4,H)
 | some i=>(0,H.give i)
section
variable {w w':World} {q g base cap c:Nat} {A:Option Addr} {bs out:List UInt8} {H H':Hp}
theorem PH.stay (h:PH w q g base cap A c bs H) (hb:Below w.heap.size w w'):PTurn g base cap A H w w':=⟨bs,abu h.ar hb,h.rd⟩
theorem PTurn.ph (h:PH w q g base cap A c bs H) (ht:PTurn g base cap A H' w w') (hc:H'.cap=cap):∃A' c' out,PH w' q g base cap A' c' out H'/\Tch (foot g A) w w'/\(A'=A\/∀a,A'=some a->w.heap.size<=a.block):=by
 obtain⟨out,hb,hr⟩:=ht;obtain⟨A',c',h1,h2,h3⟩:=h.became hb hr hc;exact⟨A',c',out,h1,h2,h3⟩
theorem atb{H:Hp}(h:Rt bs H) (hc:H.cap<=16384){y:Bk}(hy:y∈H.blks):aa8 bs (y.off:Int)=some y:=(h.md hc).ls.st.at_ _ hy
theorem asx{n:Nat}{x:UInt8}(hs:acn n=none):H.get n x=((0,5),H):=by unfold Hp.get;rw[hs]
theorem asy{n s:Nat}{x:UInt8}(hs:acn n=some s) (ht:(H.take s).1=none):H.get n x=((0,5),H):=by unfold Hp.get;rw[hs];dsimp only;rw[ht]
theorem asz{n s o i:Nat}{x:UInt8}(hs:acn n=some s) (ht:(H.take s).1=some o) (hi:atB (o:Int) (H.take s).2.blks=some i):H.get n x=((o+8,0),((H.take s).2.wipe i).fill i x):=by unfold Hp.get;rw[hs];dsimp only;rw[ht];dsimp only;rw[hi]
theorem asA (h:PH w q g base cap A c bs H) (n:Nat) (hn:n<18446744073709551616) (v:UInt8) (hT:∀s w1,acn n=some s->Below w.heap.size w w1->Calls Tryz.prog 188 #[.pointer (some ⟨g,0,none⟩), .int .i64 (s:Int)] w1 fun e w'=>ab7 g base cap A bs H (H.take s) w1 e w')
 (hG:∀s o out,acn n=some s->(H.take s).1=some o->Rt out (H.take s).2->Held H bs (H.take s).2 out->∃i y,atB (o:Int) (H.take s).2.blks=some i/\(H.take s).2.blks[i]?=some y/\y.off=o/\y.used=true/\s<=y.size/\y.off+y.size<=out.length/\RtD (lay out (o+8) (List.replicate (y.size-16) v)) (((H.take s).2.wipe i).fill i v)):
 Calls Tryz.prog 124 #[.pointer (some ⟨q,0,none⟩), .int .u64 (n:Int), .int .u8 (v.toNat:Int)] w fun e w'=>aha g base cap A (H.get n v) w e w':=by
 have hN:=auV w n hn
 cases hs:acn n with
 | none=>
  rw[hs]at hN;dsimp only[ans]at hN;have HN:=hE0 hN;have HG:=hE0 (asx (H:=H) (x:=v) hs);have H0:=hE0 h;clear h hN hs hT hG;go_enter Tryz.func124,Tryz.ntmps124
  go_wp2_with fail
  refine HN.out.mono ?_;rintro e w2 ⟨rfl,hb⟩;have HT:=hE0 (H0.out.stay hb);clear hb HN H0;go_wp2
  go_ret2
  rw[HG.out];exact⟨rfl,HT.out⟩
 | some s=>
  have hsz:=ac3 hs;have hss:=(aab _).1 hsz;rw[hs]at hN;dsimp only[ans]at hN;have HN:=hE0 hN;have hK:∀w1,Below w.heap.size w w1->Calls Tryz.prog 188 #[.pointer (some ⟨g,0,none⟩), .int .i64 (s:Int)] w1 fun e w'=>ab7 g base cap A bs H (H.take s) w1 e w':=fun w1 hb=>hT s w1 hs hb;clear hT
  cases ht:(H.take s).1 with
  | none=>
   unfold ab7 at hK;rw[ht]at hK;dsimp only[aav]at hK;have HK:=hE0 hK;have HG:=hE0 (asy (H:=H) (x:=v) hs ht);have H0:=hE0 h;have k0:∀w1,Below w.heap.size w w1->w1.cell? ⟨q,0,none⟩=some (.pointer (some ⟨g,0,none⟩)):=fun w1 hb=>(h.below hb).c0;have K0:=hE0 k0;have hlq:=h.lt;clear h hN hs hK ht k0 hsz hG;go_enter Tryz.func124,Tryz.ntmps124
   go_wp2_with fail
   refine HN.out.mono ?_;rintro e w2 ⟨rfl,hb⟩;have k2:=K0.out w2 hb;have hlq2:=Nat.lt_of_lt_of_le hlq hb.size;have HK2:=hE0 (HK.out w2 hb);have HB2:=hE0 hb;clear hb HN HK K0;go_wp2_with fail
   refine HK2.out.mono ?_;rintro e w3 ⟨rfl,hb3⟩;have HT:=hE0 (H0.out.stay (HB2.out.trans (hb3.mono HB2.out.size)));clear hb3 H0 HB2 HK2 k2;go_wp2
   go_ret2
   rw[HG.out];exact⟨rfl,HT.out⟩
  | some o=>
   unfold ab7 at hK;rw[ht]at hK;dsimp only[aav]at hK;have hcap2:(H.take s).2.cap=cap:=take_cap.trans h.cp;have hGOT:=fun out h1 hh=>hG s o out hs ht h1 hh;have HGS:=hE0 (fun i hi=>asz (H:=H) (x:=v) (i:=i) hs ht hi);obtain⟨H1,hH1⟩:=nmE ((H.take s).2);rw[hH1]at hK hGOT hcap2 HGS;have HGOT:=hE0 hGOT;have HK:=hE0 hK;have H0:=hE0 h;have k0:∀w1,Below w.heap.size w w1->w1.cell? ⟨q,0,none⟩=some (.pointer (some ⟨g,0,none⟩)):=fun w1 hb=>(h.below hb).c0;have K0:=hE0 k0;have hlq:=h.lt;have HC2:=hE0 hcap2;clear h hN hs hK ht k0 hH1 hGOT hcap2 hsz hG;go_enter Tryz.func124,Tryz.ntmps124
   go_wp2_with fail
   refine HN.out.mono ?_;rintro e w2 ⟨rfl,hb⟩;have k2:=K0.out w2 hb;have hlq2:=Nat.lt_of_lt_of_le hlq hb.size;have HK2:=hE0 (HK.out w2 hb);have HB2:=hE0 hb;clear hb HN HK K0;go_wp2_with fail
   refine HK2.out.mono ?_;rintro e w3 ⟨rfl,out,hbe,hr1,hh1⟩;obtain⟨i,y,hi,hy,hyo,hyu,hys,hyl,hrd⟩:=HGOT.out out hr1 hh1;obtain⟨A3,c3,a3,t3,m3⟩:=hbe.after HB2.out;have ho3:=(t3.block q H0.out.lt H0.out.ap).trans H0.out.obj;have hout:out.length<=16384:=(hr1.bound (by rw[HC2.out];exact H0.out.c16)).1;have hgb:=atb hr1 (by rw[HC2.out];exact H0.out.c16) (List.mem_of_getElem? hy);obtain⟨yo,ys,yu⟩:=y;dsimp only at hyo hyu hys hyl hrd hgb;subst hyo;have hf:=akF ho3 a3 H0.out.b62 hout yo ys 0 (yo+8) v hgb (by omega) (by omega) (by omega) rfl;rw[Nat.add_zero,Nat.sub_zero,show((0:Nat):Int)=0 from rfl]at hf;have HF:=hE0 hf;have HRD:=hE0 hrd;have HGI:=hE0 (HGS.out i hi);have HTR:=hE0 (fun b4 w4 (k:Became 195 g base cap A3 b4 w3 w4)=>Became.trans a3 t3 m3 k);clear hbe hr1 hh1 hi hy hyu hyl hrd a3 t3 m3 ho3 hgb hf HGOT HGS HK2 HB2 k2 hlq2;go_wp2_with fail
   refine HF.out.mono ?_;rintro e w4 ⟨rfl,hb4⟩;have HT:=hE0 (HTR.out _ _ hb4);clear hb4 HF HTR;go_wp2
   go_ret2
   rw[HGI.out];exact⟨rfl,_,HT.out,HRD.out⟩
theorem akJ (h:PH w q g base cap A c bs H) (n:Nat) (hn:n<18446744073709551616) (v:UInt8):
 Calls Tryz.prog 124 #[.pointer (some ⟨q,0,none⟩), .int .u64 (n:Int), .int .u8 (v.toNat:Int)] w fun e w'=>aha g base cap A (H.get n v) w e w':=
 asA h n hn v (fun s w1 hsn hb=>by
  have hsz:=ac3 hsn;have:=(auj w1 g base cap c A bs H (s:Int) (h.ar.below hb) h.b62 h.c16 h.cp h.rd.rt ⟨by have:=(aab _).1 hsz;omega,by have:=(aab _).1 hsz;omega⟩).2 hsz;rw[Int.toNat_natCast]at this;exact this) fun s o out hsn ht h1 hh=>h.rd.got (ac3 hsn) ht h1 hh v
theorem aoe (n:Nat) (hK:Calls Tryz.prog 124 #[.pointer (some ⟨q,0,none⟩), .int .u64 (n:Int), .int .u8 165] w fun e w'=>aha g base cap A (H.get n 165) w e w'):
 Calls Tryz.prog 61 #[.pointer (some ⟨q,0,none⟩), .int .u64 (n:Int)] w fun e w'=>aha g base cap A (H.get n 165) w e w':=by
 have HK:=hE0 hK;clear hK;go_enter Tryz.func61,Tryz.ntmps61
 go_wp2_with fail
 refine HK.out.mono ?_;rintro e w2 ⟨rfl,ht⟩;have HT:=hE0 ht;clear ht HK;go_wp2
 go_ret2
 exact⟨rfl,HT.out⟩
theorem al6 (h:PH w q g base cap A c bs H) (n:Nat) (hn:n<18446744073709551616):
 Calls Tryz.prog 61 #[.pointer (some ⟨q,0,none⟩), .int .u64 (n:Int)] w fun e w'=>aha g base cap A (H.get n 165) w e w':=
 aoe n (akJ h n hn 165)
theorem aqE (h:PH w q g base cap A c bs H) (p:Nat) (hp:p<18446744073709551616):
 Calls Tryz.prog 67 #[.pointer (some ⟨q,0,none⟩), .int .u64 (p:Int)] w fun e w'=>e= .returned (aju (H.freeP p).1)/\PTurn g base cap A (H.freeP p).2 w w':=by
 unfold Hp.freeP;have hF:=adi h p hp
 cases hh:H.handleB p with
 | none=>
  rw[hh]at hF;dsimp only[bkV,aav,Option.map,Option.isSome]at hF;have HF:=hE0 hF;have H0:=hE0 h;clear h hF hh;go_enter Tryz.func67,Tryz.ntmps67
  go_wp2_with fail
  refine HF.out.mono ?_;rintro e w2 ⟨rfl,hb⟩;have HT:=hE0 (H0.out.stay (hb.alloc hb.size (.cells #[.int .i64 0, .int .i64 0, .bool false] 112)));clear hb HF H0;go_wp2
  go_ret
  exact⟨rfl,HT.out⟩
 | some i=>
  obtain⟨xo,xs,hbk,hpx,h184,h32,hle,hi,hat,hd,h16,hu⟩:=h.blk hh;rw[hh]at hF;dsimp only[Option.map]at hF;rw[hbk]at hF;dsimp only[bkV,Bk.val,aav,Option.isSome]at hF;have hg:H.giveO (xo:Int)=some (H.give i):=by unfold Hp.giveO;rw[hu];rfl
  have hl:=h.len;have hK:∀w1,Below w.heap.size w w1->Calls Tryz.prog 127 #[.pointer (some ⟨g,0,none⟩), .int .i64 (xo:Int)] w1 fun e w'=>ac0 3 g base cap A bs H (some (H.give i)) w1 e w':=fun w1 hb=>by
   have:=avl w1 g base cap c A bs H (xo:Int) (h.ar.below hb) h.b62 h.c16 h.cp h.rd.rt ⟨by omega,by omega⟩;rw[hg]at this;exact this
  dsimp only[ac0,aav]at hK;have HFR:=hE0 (fun out h' hh=>h.rd.freed (i:=i) (out:=out) hi h' hh);have HK:=hE0 hK;have HF:=hE0 hF;have H0:=hE0 h;clear h hF hh hK hbk hpx hat hd hu hi hg;go_enter Tryz.func67,Tryz.ntmps67
  go_wp2_with fail
  refine HF.out.mono ?_;rintro e w2 ⟨rfl,hb⟩;obtain⟨w3,hw3⟩:=nmE (w2.alloc (.cells #[.int .i64 (xo:Int), .int .i64 (xs:Int), .bool true] 112));obtain⟨wd,hwd⟩:=nmE w3.drew;have n3:wd.heap[w2.heap.size]?=some (.cells #[.int .i64 (xo:Int), .int .i64 (xs:Int), .bool true] 112 (0,0)):=by rw[<-hwd,<-hw3];exact heap_alloc_new w2 _
  have hbd:Below w.heap.size w wd:=by rw[<-hwd,<-hw3];exact(hb.alloc hb.size _).drew
  have k0:=(H0.out.below hbd).c0;have hlq:=(H0.out.below hbd).lt;obtain⟨⟨d0,d1,d2⟩,_⟩:=aad n3;have hlt3:=aac n3;have HK3:=hE0 (HK.out wd hbd);have HBD:=hE0 hbd;have HW3:=hE0 hw3;have HWD:=hE0 hwd;clear hb HF hw3 n3 hwd hbd HK;go_wp2_with (first | (rw[HW3.out]) | fail)
  refine aao wd.heap.size [] [0,1,2,3,4,5] [6,7] (by kernel_rfl) (by kernel_rfl) (by kernel_rfl) (fun _ _ _ _ _ h=>h) ?_;rw[HWD.out];have q0:=tfE k0 hlq;have q1:=tfE d0 hlt3;refine aaH (l:= ?la2) (t:= ?tl2) ?hla2 ?htl2 ?_
  case hla2=>simp only[pick,lE1,lE2,lE3];rfl
  case htl2=>simp only[pick,lE1,lE2,lE3];rfl
  repeat (go_big_quiet_step (fail))
  refine wpQuiet_nil ?_;clear q0 q1 k0 d0 d1 d2;go_wp2_with fail
  refine HK3.out.mono ?_;rintro e w4 ⟨rfl,out,hbe,hr,hh⟩;have HT:Hid (PTurn g base cap A (H.give i) w w4):=⟨out,hbe.after HBD.out,HFR.out out hr hh⟩;clear hbe hr hh HK3 HFR;go_wp2
  go_ret
  exact⟨rfl,HT.out⟩
end
def Hp.readP (H:Hp) (p a n:Nat):List UInt8 × Int:=match H.handleB p with
 | none=>([],4)
 | some i=>if (H.ds.getD i acc).2.length<a+n then ([],2) else (((H.ds.getD i acc).2.drop a).take n,0)
def Hp.writeP (H:Hp) (p a:Nat) (b:List UInt8):Int × Hp:=match H.handleB p with
 | none=>(4,H)
 | some i=>if (H.ds.getD i acc).2.length<a+b.length then (2,H) else (0,H.dset i ((H.ds.getD i acc).1,lay (H.ds.getD i acc).2 a b))
def PBytes (r:List UInt8 × Int) (w:World) (e:Ending) (w':World):Prop:=
 ∃A' c',e= .returned (.tuple #[.slice A' r.1.length c',aju r.2])/\w'.ownsRow w.heap.size 5 1 (.slice A' r.1.length c') r.1.length (r.1.map bv)/\Below w.heap.size w w'
section
variable {w w':World} {q g base cap c:Nat} {A:Option Addr} {bs out:List UInt8} {H H':Hp}
theorem PBytes.none_{k:Int}(hb:Below w.heap.size w w'):PBytes ([],k) w (.returned (.tuple #[.slice none 0 0,aju k])) w':=⟨none,0,rfl,World.ownsRow_nil _ _ _ _,hb⟩
theorem akK{w:World}{B B' n:Nat}{t:TypeId}{v:Value}{l:List Value}(h:w.ownsRow B t 1 v n l) (hB:B'<=B):w.ownsRow B' t 1 v n l:=
 ⟨h.1,h.2.imp id fun⟨g',cap',cur,a,b,c⟩=>⟨g',cap',cur,a,Nat.le_trans hB b,c⟩⟩
theorem PH.part (h:PH w q g base cap A c bs H){i xo xs a n:Nat}(hat:H.At i ⟨xo,xs,true⟩ (H.ds.getD i acc)) (hf:a+n<=(H.ds.getD i acc).2.length):(bs.drop (xo+8+a)).take n=((H.ds.getD i acc).2.drop a).take n:=by
 obtain⟨h1,h2⟩:=h.rd.ho i _ _ hat rfl;refine List.ext_getElem? fun k=> ?_;by_cases hk:k<n
 · rw[List.getElem?_take_of_lt hk,List.getElem?_take_of_lt hk,List.getElem?_drop,List.getElem?_drop];have:=h2 (a+k) (by omega);dsimp only at this;rw[<-this];congr 1;omega
 · rw[List.getElem?_eq_none (by rw[List.length_take];omega),List.getElem?_eq_none (by rw[List.length_take];omega)]
theorem aqF (h:PH w q g base cap A c bs H) (p a n:Nat) (hp:p<18446744073709551616) (ha:a<18446744073709551616) (hn:n<18446744073709551616):
 Calls Tryz.prog 69 #[.pointer (some ⟨q,0,none⟩), .int .u64 (p:Int), .int .u64 (a:Int), .int .u64 (n:Int)] w fun e w'=>PBytes (H.readP p a n) w e w':=by
 unfold Hp.readP
 cases hh:H.handleB p with
 | none=>
  dsimp only;have HF:=hE0 (ag7 h p a n hp hh);clear h hh;go_enter Tryz.func69,Tryz.ntmps69
  go_wp2_with fail
  refine HF.out.mono ?_;rintro e w2 ⟨rfl,hb⟩;have HT:=hE0 hb;clear hb HF;go_wp2
  go_ret2
  exact PBytes.none_ HT.out
 | some i=>
  dsimp only;obtain⟨L,hL⟩:=nmE ((H.ds.getD i acc).2.length);by_cases hf:L<a+n
  · rw[if_pos (by omega)];have HF:=hE0 (ail h p a n hp ha hn hh hL hf);clear h hh hL;go_enter Tryz.func69,Tryz.ntmps69
    go_wp2_with fail
    refine HF.out.mono ?_;rintro e w2 ⟨rfl,hb⟩;have HT:=hE0 hb;clear hb HF;go_wp2
    go_ret2
    exact PBytes.none_ HT.out
  · rw[if_neg (by omega)];obtain⟨xo,xs,hbk,hpx,h184,h32,hle,hi,hat,hd,h16,hu⟩:=h.blk hh;have hl:=h.len;have hpart:=h.part (a:=a) (n:=n) hat (by omega);obtain⟨x,hx⟩:=nmE (base+p+a);have HF:=hE0 (akE h p a n hp hn hh hL (by omega) hx);have hb62:=h.b62;obtain⟨ys,hys⟩:=nmE (((H.ds.getD i acc).2.drop a).take n);have HLD:∀W,Below w.heap.size w W->Calls Tryz.prog 96 #[.pointer (some ⟨g,0,none⟩), .int .u64 (x:Int), .int .u64 (n:Int)] W fun e w'=>arr ys W e w':=fun W hb=>by
     have:=aoM (h.ar.below hb) (by omega) x n (xo+8+a) (by omega) (by omega) (by omega) (by omega);rw[hpart,hys]at this;exact this
    rw[hys];have HLD:=hE0 HLD;have H0:=hE0 h;clear h hh hL hf hbk hpx hat hd hu hi hpart hys hx hl h184 h32 hle h16 hb62;go_enter Tryz.func69,Tryz.ntmps69
    go_wp2_with fail
    refine HF.out.mono ?_;rintro e w2 ⟨rfl,hb⟩;have k0:=(H0.out.below hb).c0;have hlq:=(H0.out.below hb).lt;have HL2:=hE0 (HLD.out w2 hb);have HB:=hE0 hb;clear hb HF H0 HLD;go_wp2_with fail
    refine HL2.out.mono ?_;rintro e w3 ⟨A',c',rfl,ho,hb3⟩;have HT:Hid (PBytes (ys,0) w (.returned (.tuple #[.slice A' ys.length c',aju 0])) w3):=⟨A',c',rfl,akK ho HB.out.size,HB.out.trans (hb3.mono HB.out.size)⟩;clear ho hb3 HL2 HB k0;go_wp2
    go_ret2
    exact HT.out
theorem aof (h:PH w q g base cap A c bs H) (p a:Nat) (b:List UInt8) (B:Option Addr) (k:Nat) (hr:Rd w w.heap.size B b.length b) (hp:p<18446744073709551616) (ha:a<18446744073709551616) (hbl:b.length<=1000000):
 Calls Tryz.prog 70 #[.pointer (some ⟨q,0,none⟩), .int .u64 (p:Int), .int .u64 (a:Int), .slice B b.length k] w fun e w'=>e= .returned (aju (H.writeP p a b).1)/\PTurn g base cap A (H.writeP p a b).2 w w':=by
 unfold Hp.writeP
 cases hh:H.handleB p with
 | none=>
  dsimp only;have hF:=ag7 h p a b.length hp hh;obtain⟨n,hn⟩:=nmE b.length;rw[hn]at hF hbl ⊢;have HF:=hE0 hF;have H0:=hE0 h;clear h hh hr hF;go_enter Tryz.func70,Tryz.ntmps70
  go_wp2_with fail
  refine HF.out.mono ?_;rintro e w2 ⟨rfl,hb⟩;have HT:=hE0 (H0.out.stay hb);clear hb HF H0;go_wp2
  go_ret
  exact⟨rfl,HT.out⟩
 | some i=>
  dsimp only;obtain⟨L,hL⟩:=nmE ((H.ds.getD i acc).2.length);by_cases hf:L<a+b.length
  · rw[if_pos (by omega)];have hF:=ail h p a b.length hp ha (by omega) hh hL hf;obtain⟨n,hn⟩:=nmE b.length;rw[hn]at hF hbl ⊢;have HF:=hE0 hF;have H0:=hE0 h;clear h hh hr hF hL;go_enter Tryz.func70,Tryz.ntmps70
    go_wp2_with fail
    refine HF.out.mono ?_;rintro e w2 ⟨rfl,hb⟩;have HT:=hE0 (H0.out.stay hb);clear hb HF H0;go_wp2
    go_ret
    exact⟨rfl,HT.out⟩
  · rw[if_neg (by omega)];obtain⟨xo,xs,hbk,hpx,h184,h32,hle,hi,hat,hd,h16,hu⟩:=h.blk hh;have hl:=h.len;obtain⟨x,hx⟩:=nmE (base+p+a);have hF:=akE h p a b.length hp (by omega) hh hL (by omega) hx;have hb62:=h.b62;have HWR:=hE0 (h.rd.wrote hat rfl (H.ds.getD i acc).1 a b (by omega));have HST:∀W,Below w.heap.size w W->Calls Tryz.prog 132 #[.pointer (some ⟨g,0,none⟩), .int .u64 (x:Int), .slice B b.length k] W fun e w'=>e= .returned .nilIface/\Became 195 g base cap A (lay bs (xo+8+a) b) W w':=fun W hb=>
     aiE (h.ar.below hb) (by omega) x (xo+8+a) B k b w.heap.size (hr.below hb) (by omega) (by omega) (by omega) (by omega)
    obtain⟨n,hn⟩:=nmE b.length;rw[hn]at hF hbl HST ⊢;have HST:=hE0 HST;have HF:=hE0 hF;have H0:=hE0 h;clear h hh hL hf hbk hpx hat hd hu hi hx hl h184 h32 hle h16 hb62 hr hF hn;go_enter Tryz.func70,Tryz.ntmps70
    go_wp2_with fail
    refine HF.out.mono ?_;rintro e w2 ⟨rfl,hb⟩;have k0:=(H0.out.below hb).c0;have hlq:=(H0.out.below hb).lt;have HL2:=hE0 (HST.out w2 hb);have HB:=hE0 hb;clear hb HF H0 HST;go_wp2_with fail
    refine HL2.out.mono ?_;rintro e w3 ⟨rfl,hbe⟩;have HT:Hid (PTurn g base cap A (H.dset i ((H.ds.getD i acc).1,lay (H.ds.getD i acc).2 a b)) w w3):=⟨_,hbe.after HB.out,HWR.out⟩;clear hbe HL2 HB HWR k0;go_wp2
    go_ret
    exact⟨rfl,HT.out⟩
end
end Go.Proofs.YtncadccbepjekaaGreatDoor
