/- Texts of mine, joined. -/
import Derived.Deep.DeepMust
import Derived.Deep.Cut
import Derived.Great.BuildSlice
import Derived.Test.YtncadccbepjekaaGreatDoorL2
set_option maxRecDepth 100000
set_option maxHeartbeats 8000000
namespace Go.Proofs.YtncadccbepjekaaGreatDoor
open Go.RowKit
theorem ao8 (n:Int):((auG n:Nat):Int)=n%18446744073709551616:=by unfold auG;omega
theorem ae3 (w:World) (n:Int) (hn: -9223372036854775808<=n/\n<=9223372036854775807) (A1 A2:Option Addr) (k1 k2:Nat) (l:List Rk) (d:List (List UInt8)) (hr:RkRd w w.heap.size A1 l) (hd:DtRd w w.heap.size A2 d) (hl:l.length<=1000000) (hdl:d.length<=1000000) (y:Bool) (hy:aew n l d=y):
 Calls Tryz.prog 118 #[imV n A1 l.length k1 A2 d.length k2] w fun e w'=>e= .returned (.bool y)/\Below w.heap.size w w':=by
 unfold imV;obtain⟨w1,hw1⟩:=nmE (w.alloc (.cells #[.int .i64 n, .slice A1 l.length k1, .slice A2 d.length k2] 107));have hb1:=abE hw1;have n1:=anE hw1;obtain⟨d0,d1,d2⟩:=aam n1;have hl1:=aaa n1;have HLEN:Hid (∀W,Calls Tryz.prog 178 #[.int .u64 (n%18446744073709551616)] W fun e w'=>e= .returned (.bool (ab0 n))/\W=w'):=fun W=>by
  have h:=agy W (auG n) (by unfold auG;omega) (ab0 n) (ao6 n hn);rw[ao8]at h;exact h
 have HB1:=hE0 hb1;have HR:=hE0 hr;have HD:=hE0 hd;have HY:=hE0 hy;obtain⟨ll,hll⟩:=nmE l.length;obtain⟨dl,hdll⟩:=nmE d.length;have HROW:Hid (ab0 n=true->Calls Tryz.prog 179 #[.slice A1 ll k1, .int .i64 n] w1 fun e w'=>e= .returned (.bool (abh n 184 false l))/\Below w1.heap.size w1 w'):=fun hk=>by
  have h3:=(aaV n).1 hk;have:=ajY w1 A1 k1 l ((hr.below hb1).more hb1.size) hl n ⟨h3.1,h3.2.1⟩ _ rfl;rw[hll]at this;exact this
 have HDAT:Hid (∀W,Below w.heap.size w W->abh n 184 false l=true->Calls Tryz.prog 180 #[.slice A2 dl k2, .slice A1 ll k1] W fun e w'=>e= .returned (.bool (datOk l d))/\Below W.heap.size W w'):=fun W hW hk=>by
  have:=ao7 W A1 A2 k1 k2 l d ((hr.below hW).more hW.size) ((hd.below hW).more hW.size) hl hdl (ae1 hk) _ rfl;rw[hll,hdll]at this;exact this
 rw[hll]at d1;rw[hdll]at d2;rw[hll,hdll];rw[hll,hdll]at hw1 n1;have HN1:=hE0 n1;have HW1:=hE0 hw1;clear hw1 hb1 n1 hr hd hy hll hdll
 cases hlo:ab0 n with
 | false=>
  have HF:Hid (false=y):=(show false=y by rw[<-HY.out];unfold aew;rw[hlo];rfl);rw[hlo]at HLEN;clear hlo;go_enter Tryz.func118,Tryz.ntmps118
  go_wp2_with (first | (rw[HW1.out]) | fail)
  refine(HLEN.out _).mono ?_;rintro e w2 ⟨rfl,rfl⟩;go_wp2
  go_ret
  exact⟨abj HF.out,HB1.out⟩
 | true=>
  have HROW2:=hE0 (HROW.out hlo);rw[hlo]at HLEN
  cases hro:abh n 184 false l with
  | false=>
   have HF:Hid (false=y):=(show false=y by rw[<-HY.out];unfold aew;rw[hlo,hro];rfl);rw[hro]at HROW2;clear hlo hro;go_enter Tryz.func118,Tryz.ntmps118
   go_wp2_with (first | (rw[HW1.out]) | fail)
   refine(HLEN.out _).mono ?_;rintro e w2 ⟨rfl,rfl⟩;go_wp2_with fail
   refine HROW2.out.mono ?_;rintro e w2 ⟨rfl,hb2⟩;have HF2:=hE0 (HB1.out.trans (hb2.mono HB1.out.size));clear hb2;go_wp2
   go_ret
   exact⟨abj HF.out,HF2.out⟩
  | true=>
   have HDAT2:=hE0 (fun W hW=>HDAT.out W hW hro);have HF:Hid (datOk l d=y):=(show datOk l d=y by rw[<-HY.out];unfold aew;rw[hlo,hro];rfl);rw[hro]at HROW2;clear hlo hro;go_enter Tryz.func118,Tryz.ntmps118
   go_wp2_with (first | (rw[HW1.out]) | fail)
   refine(HLEN.out _).mono ?_;rintro e w2 ⟨rfl,rfl⟩;go_wp2_with fail
   refine HROW2.out.mono ?_;rintro e w2 ⟨rfl,hb2⟩;have hb02:=HB1.out.trans (hb2.mono HB1.out.size);have HD3:=hE0 (HDAT2.out w2 hb02);have n2:=(hb2.block _ (aaa HN1.out)).trans HN1.out;obtain⟨e0,e1,e2⟩:=aam n2;have hl2:=aaa n2;have HF2:=hE0 hb02;clear hb2 hb02 n2;go_wp2_with fail
   refine HD3.out.mono ?_;rintro e w3 ⟨rfl,hb3⟩;have HF3:=hE0 (HF2.out.trans (hb3.mono HF2.out.size));clear hb3;go_wp2
   go_ret
   exact⟨abj HF.out,HF3.out⟩
theorem afv:(Tryz.prog.info? 5).map (fun i=>(i.zero,i.size,i.bytes))=some (some (.int .u8 0),1,1):=by kernel_rfl
theorem arB{w:World}{B n c:Nat}{A:Option Addr}{xs:List Value}{t:TypeId}(h:w.ownsRow B t 1 (.slice A n c) n xs) (hn:0<n):w.ownsRow B t 1 (.slice A 0 c) 0 []:=by
 rcases h.2 with⟨_,h0⟩ | ⟨g,cap,cur,hv,hg,hh,hnc,hcm,hcs,ht⟩
 · omega
 · injection hv with e1 e2 e3;subst e1 e3;exact⟨rfl, .inr ⟨g,c,cur,rfl,hg,hh,Nat.zero_le _,hcm,hcs,by simp⟩⟩
theorem ao9 (w:World) (n:Nat) (hn:n<=1000000):
 Calls Tryz.prog 181 #[.slice none 0 0, .int .i64 (n:Int)] w fun e w'=>∃A c,e= .returned (.slice A 0 c)/\w'.ownsRow w.heap.size 5 1 (.slice A 0 c) 0 (([]:List UInt8).map bv)/\Below w.heap.size w w':=by
 by_cases h0:n=0
 · subst h0;go_enter Tryz.func181,Tryz.ntmps181
   go_wp2
   go_ret
   exact⟨none,0,rfl,World.ownsRow_nil _ _ _ _,Below.refl _ _⟩
 · obtain⟨A',c',w2,hr,hown,hgr,_⟩:=adH (P:=Tryz.prog) w 37 3 37 5 .i64 Tryz.underlying37 Tryz.underlying3 afv w.heap.size none 0 [] (World.ownsRow_nil _ _ _ _) n (by simp;omega) (Nat.le_refl _);simp only[List.length_nil,Nat.zero_add]at hr hown;have hfin:w2.ownsRow w.heap.size 5 1 (.slice A' 0 c') 0 (([]:List UInt8).map bv):=arB hown (by omega);have hbel:Below w.heap.size w w2:=(Below.refl _ _).grown hgr (Nat.le_refl _) (fun k hk=>by cases hk);have hnc:n<=c':=by
    rcases hown.2 with⟨_,h'⟩ | ⟨g,cap,cur,hv,_,_,h',_⟩
    · omega
    · injection hv with _ _ e3;subst e3;exact h'
   have hA:∃g,A'=some ⟨g,0,none⟩:=by
    rcases hown.2 with⟨_,h'⟩ | ⟨g,cap,cur,hv,_⟩
    · omega
    · injection hv with e1 _ _;exact⟨g,e1⟩
   obtain⟨g,rfl⟩:=hA;have h1:decide (0<n)=true:=decide_eq_true (by omega);have HR:=hE0 hr;have HF:=hE0 hfin;have HB:=hE0 hbel;clear hr hfin hbel hown hgr h0;go_enter Tryz.func181,Tryz.ntmps181
   go_wp2_with (at_builtin;refine Lib.wpList_append_run _ rfl (.tmp 20) (.tmp 21) 37 3 rfl _ _ rfl rfl _ _ HR.out ?_)
   go_ret
   exact⟨some ⟨g,0,none⟩,c',rfl,HF.out,HB.out⟩
theorem ae4 (d:List (List UInt8)) (j:Nat):(d.take j).flatten.length<=d.flatten.length:=by
 have h:=congrArg (fun l:List (List UInt8)=>l.flatten.length) (List.take_append_drop j d);simp only[List.flatten_append,List.length_append]at h;omega
theorem afw (w:World) (A:Option Addr) (k:Nat) (d:List (List UInt8)) (hd:DtRd w w.heap.size A d) (hl:d.length<=1000) (hs:d.flatten.length<=1000000):
 Calls Tryz.prog 119 #[.slice A d.length k] w fun e w'=>∃v,e= .returned v/\w'.ownsRow w.heap.size 5 1 v d.flatten.length (d.flatten.map bv)/\Below w.heap.size w w':=by
 have HD:=hE0 hd;have HS:=hE0 (fun j=>Nat.le_trans (ae4 d j) hs);have HGR:=hE0 (ao9 w d.flatten.length hs);obtain⟨m,hm⟩:=nmE d.length;rw[hm]at hl ⊢;have HM:=hE0 hm;obtain⟨sz,hsz⟩:=nmE d.flatten.length;rw[hsz]at HGR hs ⊢;have HSZ:=hE0 hsz;clear hd hm hsz;go_enter Tryz.func119,Tryz.ntmps119
 go_wp2
 go_loopw [3,11] (fun v t wr=>∃(j s:Nat),t= .int .i64 (j:Int)/\v= .int .i64 (s:Int)/\j<=m/\s=(d.take j).flatten.length/\w=wr) (fun _ t _=>m-(intOf t).toNat)
 case atStart=>exact⟨0,0,rfl,rfl,Nat.zero_le _,rfl,rfl⟩
 case round=>
  obtain⟨j,s,rfl,rfl,hj,hss,rfl⟩:=hrel;by_cases hlt:j<m
  · obtain⟨y,hy⟩:∃y,d[j]?=some y:=⟨d[j]'(by rw[HM.out];exact hlt),List.getElem?_eq_getElem _⟩;obtain⟨b,o,rfl,hb,hc⟩:=HD.out (by rw[HM.out];omega);obtain⟨A',k',c0,_⟩:=hc j y hy;obtain⟨n,hn⟩:=nmE y.length;rw[hn]at c0;have hs1:=HS.out (j+1);rw[ada hy,List.length_append,hn,<-hss]at hs1;have HN:Hid (s+n=(d.take (j+1)).flatten.length):=(show _=_ by rw[ada hy,List.length_append,hn,<-hss]);have h0:decide ((s:Int)+(n:Int)<0)=false:=decide_eq_false (by omega);clear hc hy hn hss;go_wp2
    go_roundw
    case rel=>exact⟨j+1,s+n,by go_num,by go_num,by omega,HN.out,trivial⟩
    case measure=>simp only[intOf];omega
  · have e:s=sz:=by rw[hss,List.take_of_length_le (by rw[HM.out];omega),HSZ.out]
    subst e;clear hss;go_wp2_with fail
    refine HGR.out.mono ?_;rintro e w2 ⟨A2,c2,rfl,hown2,hb2⟩;have HO2:=hE0 hown2;have HB2:=hE0 hb2;clear hown2 hb2 HGR;go_wp2
    go_loopw [6,27] (fun v t wr=>∃(j:Nat),t= .int .i64 (j:Int)/\j<=m/\wr.ownsRow w.heap.size 5 1 v (d.take j).flatten.length ((d.take j).flatten.map bv)/\Below w.heap.size w wr) (fun _ t _=>m-(intOf t).toNat)
    case atStart=>exact⟨0,rfl,Nat.zero_le _,HO2.out,HB2.out⟩
    case round=>
     obtain⟨i,rfl,hi,hown,hb⟩:=hrel;by_cases hlt2:i<m
     · obtain⟨y,hy⟩:∃y,d[i]?=some y:=⟨d[i]'(by rw[HM.out];exact hlt2),List.getElem?_eq_getElem _⟩;obtain⟨b,o,rfl,hbb,hc⟩:=HD.out (by rw[HM.out];omega);obtain⟨A',k',c0,hrd,_,_,hA⟩:=hc i y hy;have c1:=(hb.cell (p:=⟨b,o+i,none⟩) hbb).trans c0;have hs1:=HS.out (i+1);rw[ada hy,List.length_append]at hs1;have HFL:=hE0 (ada hy);have HRD:=hE0 ((hrd.below hb).more hb.size);obtain⟨n,hn⟩:=nmE y.length;have HYN:=hE0 hn;obtain⟨q,hq⟩:=nmE ((d.take i).flatten.length);rw[hq]at hown hs1;have HQ:=hE0 hq;rw[hn]at c0 c1 hs1 HRD;have HO:=hE0 hown;have HB:=hE0 hb;clear hc hy hn hown hb hrd hq;go_wp2_with (first
        | (at_builtin;go_must (refine aco rfl (.tmp 31) (.tmp 32) 37 5 rfl Tryz.underlying37 afv w.heap.size _ q (d.take i).flatten rfl HO.out _ A' n k' y rfl HRD.out hA (by omega) HB.out.size ?_);intro x4 w4 own4 hb4 _
           have HX4:Hid (w4.ownsRow w.heap.size 5 1 x4 (q+n) (((d.take i).flatten++y).map bv)/\Below w.heap.size w w4):=⟨own4,HB.out.trans hb4⟩;clear own4 hb4)
        | fail)
       go_roundw
       case rel=>
        refine⟨i+1,by go_num,by omega,?_,HX4.out.2⟩;rw[HFL.out,List.length_append,HQ.out,HYN.out];exact HX4.out.1
       case measure=>simp only[intOf];omega
     · have e:d.take i=d:=List.take_of_length_le (by rw[HM.out];omega);rw[e,HSZ.out]at hown;have HO:=hE0 hown;have HB:=hE0 hb;clear hown hb e;go_wp2
       go_ret
       exact⟨_,rfl,HO.out,HB.out⟩
theorem agz{P:Prop}(h:P:=by
 clear hown hrd hdl hs hfin HSUM;go_enter Tryz.func121,Tryz.ntmps121
 go_wp2_with fail
 refine HS.out.mono ?_;rintro e w2 ⟨rfl,rfl⟩;go_wp2_with fail
 refine HP4.out.mono ?_;rintro e w2 ⟨rfl,hf,hb⟩;have HRD:Hid (Rd w2 w2.heap.size (some ⟨w.heap.size,0,none⟩) 4 (aaJ 4 s)):=(show Rd _ _ _ _ _ by
  have:=hf.reads;rw[aag]at this;exact this)
 have HO2:=hE0 (acL HOWN.out hb);have HB2:=hE0 hb;have HBS:=hE0 (Nat.le_trans hB hb.size);clear hf hb;go_wp2_with (first
  | (at_builtin;go_must (refine aco rfl (.tmp 5) (.tmp 10) 37 5 rfl Tryz.underlying37 afv B _ n b rfl HO2.out _ (some ⟨w.heap.size,0,none⟩) 4 4 (aaJ 4 s) rfl HRD.out (fun e=>by cases e) (by omega) HBS.out ?_);intro x4 w4 own4 hb4 _
     have HX4:Hid (w4.ownsRow B 5 1 x4 (n+4) ((b++aaJ 4 s).map bv)/\Below B w w4):=⟨own4,(HB2.out.mono hB).trans hb4⟩;clear own4 hb4)
  | fail)
 go_ret
 exact⟨_,rfl,HFIN.out▸HX4.out.1,HX4.out.2⟩
 ):P:=h
theorem af5 (w:World) (B:Nat) (v:Value) (b:List UInt8) (n j:Nat) (hn:b.length=n) (hown:w.ownsRow B 5 1 v n (b.map bv)) (hB:B<=w.heap.size) (hj:j<=n) (hn0:0<n) (hl:n<=900000):
 Calls Tryz.prog 121 #[v, .int .i64 (j:Int)] w fun e w'=>∃v',e= .returned v'/\w'.ownsRow B 5 1 v' (n+4) ((af3 b j).map bv)/\Below B w w':=by
 obtain⟨g,c,rfl,hnc,hrd⟩:=ahD hown hn0;have hcm:c<=9223372036854775807:=by
  rcases hown.2 with⟨_,h'⟩ | ⟨g,cap,cur,hv,_,_,_,h',_⟩
  · omega
  · injection hv with _ _ e3;subst e3;unfold maxLen at h';exact h'
 have hdl:(b.drop j).length=n-j:=by rw[List.length_drop,hn]
 obtain⟨s,hs⟩:=nmE (abZ 0 (b.drop j));have hs32:s<4294967296:=by rw[<-hs];exact aeh _ _
 have hfin:b++aaJ 4 s=af3 b j:=by unfold af3 ahO;rw[hs]
 have HP4:=hE0 (aiA s w hs32);have HOWN:=hE0 hown;have HFIN:=hE0 hfin;have HSUM:Hid (∀A2 c2,Rd w w.heap.size A2 (n-j) (b.drop j)->Calls Tryz.prog 146 #[.slice A2 (n-j) c2] w fun e w'=>e= .returned (.int .u32 (s:Int))/\w=w'):=fun A2 c2 h=>by
  have:=agq A2 (n-j) c2 _ _ w h (by omega);rw[hs]at this;exact this
 by_cases hjc:j<c
 · have HR:Hid (Rd w w.heap.size (some ⟨g,j,none⟩) (n-j) (b.drop j)):=(show Rd _ _ _ _ _ by
    have h:=hrd.sub j (n-j) (by omega);rw[List.take_of_length_le (by rw[hdl];exact Nat.le_refl _),Nat.zero_add]at h;exact h)
   have HS:=hE0 (HSUM.out _ (c-j) HR.out);have h1:(j:Int)<(c:Int):=by omega
   exact agz
 · obtain rfl:n=j:=by omega
   obtain rfl:n=c:=by omega
   have HR:Hid (Rd w w.heap.size (some ⟨g,0,none⟩) (n-n) (b.drop n)):=(show Rd _ _ _ _ _ by
    have:b.drop n= []:=List.eq_nil_of_length_eq_zero (by rw[hdl];omega);rw[this,Nat.sub_self];exact Rd.nil_)
   have HS:=hE0 (HSUM.out _ (n-n) HR.out);rw[Nat.sub_self]at HS;exact agz
theorem ab7{w w':World}{B' base n size:Nat}{t:TypeId}{v:Value}{xs:List Value}(h:w.ownsRow base t size v n xs) (hb:Below B' w w') (hlt:∀k,v.ownBlock=some k->k<B'):w'.ownsRow base t size v n xs:=by
 refine⟨h.1,?_⟩;rcases h.2 with h2 | ⟨g,cap,cur,hv,hg,hh,r⟩
 · exact .inl h2
 · exact .inr ⟨g,cap,cur,hv,hg,(hb.block g (hlt g (by rw[hv];rfl))).trans hh,r⟩
theorem acO{w w':World}{base n size:Nat}{t:TypeId}{v:Value}{xs:List Value}{r:Option Nat}(h:w.ownsRow base t size v n xs) (hg:w.grownBy w' r) (hne:∀k,v.ownBlock=some k->r≠some k):w'.ownsRow base t size v n xs:=by
 refine⟨h.1,?_⟩;rcases h.2 with h2 | ⟨g,cap,cur,hv,hb,hh,q⟩
 · exact .inl h2
 · have hk:v.ownBlock=some g:=by rw[hv];rfl
   refine .inr ⟨g,cap,cur,hv,hb,?_,q⟩;obtain⟨_,_,_,_,h5⟩:=hg;exact(h5 g (h.lt g hk).2 (fun e=>hne g hk e.symm)).trans hh
theorem adu{w:World}{base base' n size:Nat}{t:TypeId}{v:Value}{xs:List Value}(h:w.ownsRow base t size v n xs) (hb:base'<=base):w.ownsRow base' t size v n xs:=by
 refine⟨h.1,?_⟩;rcases h.2 with h2 | ⟨g,cap,cur,hv,hg,r⟩
 · exact .inl h2
 · exact .inr ⟨g,cap,cur,hv,Nat.le_trans hb hg,r⟩
theorem aeG{w:World}{base n size:Nat}{t:TypeId}{v:Value}{xs:List Value}(h:w.ownsRow base t size v n xs):∃A c,v= .slice A n c/\(A=none->c=0):=by
 rcases h.2 with⟨rfl,h0⟩ | ⟨g,cap,cur,rfl,_⟩
 · exact⟨none,0,by rw[h0],fun _=>rfl⟩
 · exact⟨_,cap,rfl,fun e=>by cases e⟩
theorem acP{w:World}{base n c:Nat}{A:Option Addr}{bs:List UInt8}(h:w.ownsRow base 5 1 (.slice A n c) n (bs.map bv)):Rd w w.heap.size A n bs:=by
 obtain⟨A',c',e,_,hr⟩:=aix h;injection e with e1 _ _;subst e1;exact hr
theorem ans (n:Nat) (l:List Rk) (d:List (List UInt8)):ahP n l++d.flatten++ahO d.flatten=akV n l d:=by
 unfold akV af3;rw[List.drop_left' rfl]
theorem ant (n:Nat) (l:List Rk) (d:List (List UInt8)):akV n l d++ahO (akV n l d)=aaZ n l d:=by unfold aaZ af3;rw[List.drop_zero]
theorem amx (n:Nat) (l:List Rk) (d:List (List UInt8)):(akV n l d).length=36+8*l.length+d.flatten.length:=by
 rw[<-ans,List.length_append,List.length_append,adt,ab6];omega
theorem ahQ (n:Nat) (l:List Rk) (d:List (List UInt8)):(aaZ n l d).length=40+8*l.length+d.flatten.length:=by
 rw[<-ant,List.length_append,amx,ab6];omega
theorem arC (l:List Rk) (j:Nat):(acA (l.take j)).length<=8*l.length:=by rw[adZ,List.length_take];omega
section
variable {P:Program}
theorem ajZ (v:World) (t e:TypeId) (g:Nat) (C:Array Value) (n c:Nat) (ht:P.underlying t=some (.slice e)) (he:P.underlying e=some (.int .u8)) (hg:v.heap[g]?=some (.cells C e (0,0))):
 ∃v',(convert t t (.slice (some ⟨g,0,none⟩) n c)).run P v= .ok (.slice (some ⟨g,0,none⟩) n c) v'/\v'.heap[g]?=some (.cells C e (C.size,C.size+1))/\v'.heap.size=v.heap.size/\(∀k,k≠g->v'.heap[k]?=v.heap[k]?)/\∀B,B<=g->Below B v v':=by
 have hsh:v.shape? g=some (e,C.size):=by
  unfold World.shape?;rw[hg]
 refine⟨v.freeze ⟨g,C.size,none⟩ 1,?_,?_,?_,fun k hk=> ?_,fun B hB=> ?_⟩
 · simp[convert,run_underlying ht,run_underlying he,markStringish,hsh]
 · unfold World.freeze;rw[if_neg (by decide)];show(v.heap.modify g _)[g]?=_;rw[Array.getElem?_modify,if_pos rfl,hg];rfl
 · unfold World.freeze;rw[if_neg (by decide)];simp
 · unfold World.freeze;rw[if_neg (by decide)];show(v.heap.modify g _)[k]?=_;rw[Array.getElem?_modify,if_neg (fun e=>hk e.symm)]
 · unfold World.freeze;rw[if_neg (by decide)];refine⟨rfl,rfl,rfl,by simp,fun k hk=> ?_⟩;show(v.heap.modify g _)[k]?=_;rw[Array.getElem?_modify,if_neg (by omega)]
theorem amy{o:Oper}{a:Act}{w w1:World}{f t:TypeId}{x:Operand}{V V':Value}(ho:o.op= .convert f t x) (hx:a.eval x=V) (h:(convert f t V).run P w= .ok V' w1):(execOp a.eval o).run P w= .ok (.value V') w1:=by
 unfold execOp;simp only[ho];rw[hx,Sem.run_bind,h];rfl
end
theorem acs{w:World}{g:Nat}{t:TypeId}{fz:Nat × Nat}{bs:List UInt8}(h:w.heap[g]?=some (.cells (acb bs) t fz)):Rd w w.heap.size (some ⟨g,0,none⟩) bs.length bs:=by
 have hlt:g<w.heap.size:=by
  rcases Nat.lt_or_ge g w.heap.size with h' | h'
  · exact h'
  · rw[Array.getElem?_eq_none h']at h;cases h
 refine⟨rfl,fun _=>⟨g,0,rfl,hlt,fun j u hu=> ?_⟩⟩;rw[Nat.zero_add,cell_of_row w g j _ _ fz h];unfold acb;simp[hu];rfl
theorem af6{w:World}{g:Nat}{cs:Array Value}{t:TypeId}{fz:Nat × Nat}(h:w.heap[g]?=some (.cells cs t fz)):g<w.heap.size:=by
 rcases Nat.lt_or_ge g w.heap.size with h' | h'
 · exact h'
 · rw[Array.getElem?_eq_none h']at h;cases h
theorem arD (w:World):(Instr.buildSlice 37 8 #[(0, .int .u8 67),(1, .int .u8 78),(2, .int .u8 84),(3, .int .u8 76),(4, .int .u8 1),(5, .int .u8 0),(6, .int .u8 0),(7, .int .u8 0)]).run Tryz.prog w= .ok (.slice (some ⟨w.heap.size,0,none⟩) 8 8) (w.alloc (.cells (acb imMarkB) 5)):=by
 have e:acb imMarkB= #[.int .u8 67, .int .u8 78, .int .u8 84, .int .u8 76, .int .u8 1, .int .u8 0, .int .u8 0, .int .u8 0]:=by rfl
 rw[e];simp[go_sem]
theorem apa (w:World) (A B C:Option Addr) (a b c d e f:Nat):(Instr.buildSlice 57 3 #[(0, .slice A a b),(1, .slice B c d),(2, .slice C e f)]).run Tryz.prog w= .ok (.slice (some ⟨w.heap.size,0,none⟩) 3 3) (w.alloc (.cells #[.slice A a b, .slice B c d, .slice C e f] 37)):=by
 simp[go_sem]
theorem arE{w:World}{g:Nat}{A B C:Option Addr}{a b c:Nat}{x y z:List UInt8}(hg:w.heap[g]?=some (.cells #[.slice A x.length a, .slice B y.length b, .slice C z.length c] 37 (0,0)))
 (hx:Rd w w.heap.size A x.length x) (hy:Rd w w.heap.size B y.length y) (hz:Rd w w.heap.size C z.length z) (ha:x.length<=a/\(A=none->a=0)) (hb:y.length<=b/\(B=none->b=0)) (hc:z.length<=c/\(C=none->c=0)) (hl:x.length<=maxLen/\y.length<=maxLen/\z.length<=maxLen):
 DtRd w w.heap.size (some ⟨g,0,none⟩) [x,y,z]:=fun _=>by
 obtain⟨c0,c1,c2⟩:=aam hg;refine⟨g,0,rfl,aaa hg,fun j u hu=> ?_⟩;match j,hu with
 | 0,hu=>injection hu with hu;subst hu;exact⟨A,a,c0,hx,hl.1,ha⟩
 | 1,hu=>injection hu with hu;subst hu;exact⟨B,b,c1,hy,hl.2.1,hb⟩
 | 2,hu=>injection hu with hu;subst hu;exact⟨C,c,c2,hz,hl.2.2,hc⟩
 | j+3,hu=>cases hu
theorem anu (n ll:Nat) (w8:World) (r a b c:Nat) (n8:w8.heap[r]?=some (.cells #[.slice (some ⟨a,0,none⟩) 8 8, .slice (some ⟨b,0,none⟩) 8 8, .slice (some ⟨c,0,none⟩) 8 8] 37 (0,0)))
 (h1:Rd w8 w8.heap.size (some ⟨a,0,none⟩) imMarkB.length imMarkB) (h2:Rd w8 w8.heap.size (some ⟨b,0,none⟩) (aaJ 8 n).length (aaJ 8 n)) (h3:Rd w8 w8.heap.size (some ⟨c,0,none⟩) (aaJ 8 ll).length (aaJ 8 ll)):
 Calls Tryz.prog 119 #[.slice (some ⟨r,0,none⟩) 3 3] w8 fun e w'=>∃v,e= .returned v/\w'.ownsRow w8.heap.size 5 1 v 24 ((aex n ll).map bv)/\Below w8.heap.size w8 w':=by
 have hd8:DtRd w8 w8.heap.size (some ⟨r,0,none⟩) [imMarkB,aaJ 8 n,aaJ 8 ll]:=by
  refine arE (a:=8) (b:=8) (c:=8) (A:=some ⟨a,0,none⟩) (B:=some ⟨b,0,none⟩) (C:=some ⟨c,0,none⟩) ?_ h1 h2 h3 ⟨Nat.le_refl _,fun e=>by cases e⟩ ⟨by rw[aag];exact Nat.le_refl _,fun e=>by cases e⟩ ⟨by rw[aag];exact Nat.le_refl _,fun e=>by cases e⟩ ⟨by unfold maxLen imMarkB;simp,by rw[aag];unfold maxLen;omega,by rw[aag];unfold maxLen;omega⟩;rw[aag,aag];exact n8
 have hc8:=afw w8 (some ⟨r,0,none⟩) 3 [imMarkB,aaJ 8 n,aaJ 8 ll] hd8 (by simp) (by simp[imMarkB,aag]);have e8:([imMarkB,aaJ 8 n,aaJ 8 ll]:List (List UInt8)).flatten=aex n ll:=by unfold aex;simp
 rw[e8,ae2]at hc8;exact hc8
def imR (B n ll:Nat) (i:Nat) (D:Nat->Prop) (v:Value) (w:World):Prop:=match i with
 | 0=>¬D 1->∃r,v= .slice (some ⟨r,0,none⟩) 8 8/\B<=r/\w.heap[r]?=some (.cells (acb imMarkB) 5 (0,0))
 | 1=>∃r,v= .slice (some ⟨r,0,none⟩) 8 8/\Rd w w.heap.size (some ⟨r,0,none⟩) imMarkB.length imMarkB
 | 5=>∃r,v= .slice (some ⟨r,0,none⟩) 8 8/\Rd w w.heap.size (some ⟨r,0,none⟩) (aaJ 8 n).length (aaJ 8 n)
 | 10=>∃r,v= .slice (some ⟨r,0,none⟩) 8 8/\Rd w w.heap.size (some ⟨r,0,none⟩) (aaJ 8 ll).length (aaJ 8 ll)
 | 11=>D 1/\∃r a b c,v= .slice (some ⟨r,0,none⟩) 3 3/\w.heap[r]?=some (.cells #[.slice (some ⟨a,0,none⟩) 8 8, .slice (some ⟨b,0,none⟩) 8 8, .slice (some ⟨c,0,none⟩) 8 8] 37 (0,0))/\
  Rd w w.heap.size (some ⟨a,0,none⟩) imMarkB.length imMarkB/\Rd w w.heap.size (some ⟨b,0,none⟩) (aaJ 8 n).length (aaJ 8 n)/\Rd w w.heap.size (some ⟨c,0,none⟩) (aaJ 8 ll).length (aaJ 8 ll)
 | 12=>D 11/\w.ownsRow B 5 1 v 24 ((aex n ll).map bv)
 | _=>True
def imI:List Nat:= [0,1,5,10,11,12]
def awn (i:Nat):List Nat:=match i with
 | 1=> [0]
 | 10=> [5]
 | 11=> [1,5,10]
 | 12=> [11]
 | _=> []
theorem arF{B n ll:Nat}{D D':Nat->Prop}{v:Value}{w w':World}(hD:∀k,D k->D' k) (hb:Below w.heap.size w w'){i:Nat}(hi:i∈imI) (h:imR B n ll i D v w):imR B n ll i D' v w':=by
 have k:∀{A:Option Addr} {m:Nat} {bs:List UInt8},Rd w w.heap.size A m bs->Rd w' w'.heap.size A m bs:=fun h=>(h.below hb).more hb.size;unfold imI at hi;simp only[List.mem_cons,List.not_mem_nil,or_false]at hi;rcases hi with rfl | rfl | rfl | rfl | rfl | rfl
 · exact fun h1=>(h fun x=>h1 (hD 1 x)).imp fun r h=>⟨h.1,h.2.1,(hb.block _ (af6 h.2.2)).trans h.2.2⟩
 · exact h.imp fun r h=>⟨h.1,k h.2⟩
 · exact h.imp fun r h=>⟨h.1,k h.2⟩
 · exact h.imp fun r h=>⟨h.1,k h.2⟩
 · obtain⟨h0,r,a,b,c,h1,h2,h3,h4,h5⟩:=h;exact⟨hD 1 h0,r,a,b,c,h1,(hb.block _ (af6 h2)).trans h2,k h3,k h4,k h5⟩
 · exact⟨hD 11 h.1,acL h.2 hb⟩
theorem arG (w:World) (n:Nat) (hn:n<9223372036854775808) (A1 A2:Option Addr) (k1 k2:Nat) (l:List Rk) (d:List (List UInt8)) (hr:RkRd w w.heap.size A1 l) (hd:DtRd w w.heap.size A2 d) (hl:l.length<=1000) (hdl:d.length<=1000) (hfl:d.flatten.length<=100000) (hm:aew (n:Int) l d=true):
 Calls Tryz.prog 59 #[imV (n:Int) A1 l.length k1 A2 d.length k2] w fun e w'=>∃A c,e= .returned (.tuple #[.slice A (aaZ n l d).length c, .nilIface])/\w'.ownsRow w.heap.size 5 1 (.slice A (aaZ n l d).length c) (aaZ n l d).length ((aaZ n l d).map bv)/\Below w.heap.size w w':=by
 rw[ahQ];have HPT:=hE0 (fun j=>arC l j);have HFT:=hE0 (fun j=>Nat.le_trans (ae4 d j) hfl);have HTL:=hE0 (adZ l);obtain⟨fl,hfl'⟩:∃fl,d.flatten.length=fl:=⟨_,rfl⟩;rw[hfl']at hfl;rw[hfl'];have HFL:=hE0 hfl';have HAL:=hE0 (af4 n l.length);have HTTL:=hE0 (adt n l);have HDL2:=hE0 (amx n l d);obtain⟨w1,hw1⟩:=nmE (w.alloc (.cells #[.int .i64 (n:Int), .slice A1 l.length k1, .slice A2 d.length k2] 107));have hb1:=abE hw1;have n1:=anE hw1;have HM:=hE0 (ae3 w1 (n:Int) (by omega) A1 A2 k1 k2 l d ((hr.below hb1).more hb1.size) ((hd.below hb1).more hb1.size) (by omega) (by omega) _ hm);unfold imV at HM ⊢;obtain⟨ll,hll⟩:=nmE l.length;obtain⟨dl,hdll⟩:=nmE d.length;have HLL:=hE0 hll;have HDLL:=hE0 hdll;have HPTE:Hid (af3 (alf n ll++acA l) 28=ahP n l):=(show _=_ by rw[<-hll];rfl);obtain⟨T,hT⟩:=nmE ((ahP n l).length);have HTL2:=hE0 hT;have HPDE:Hid (af3 (ahP n l++d.flatten) T=akV n l d):=(show _=_ by rw[<-hT];rfl);have HTE:Hid (28+8*ll+4=T):=(show _=_ by rw[<-hT,adt,hll];omega);rw[hll]at hl HPT HTL HAL HTTL HDL2;rw[hfl']at HDL2;rw[hdll]at hdl;rw[hll,hdll]at n1 hw1 HM;rw[hll,hdll];obtain⟨d0,d1,d2⟩:=aam n1;have hl1:=aaa n1;have HB1:=hE0 hb1;have HW1:=hE0 hw1;have HR:=hE0 ((hr.below hb1).more hb1.size);have HD:=hE0 ((hd.below hb1).more hb1.size);have HN1:=hE0 n1;clear hw1 hb1 n1 hr hd hll hdll hfl' hm;go_enter Tryz.func59,Tryz.ntmps59
 go_wp2_with (first | (rw[HW1.out]) | fail)
 refine HM.out.mono ?_;rintro e w2 ⟨rfl,hb2⟩;obtain⟨wd,hwd⟩:=nmE w2.drew;have hbd:Below w1.heap.size w1 wd:=by rw[<-hwd];exact hb2.drew
 have nd:=(hbd.block _ (aaa HN1.out)).trans HN1.out;obtain⟨c0,c1,c2⟩:=aam nd;have hld:=aaa nd;have HBD:=hE0 hbd;have HWD:=hE0 hwd;have HND:=hE0 nd;have HPUT:=hE0 (fun W v (hv:v<18446744073709551616)=>ago v W hv);clear hb2 hwd hbd nd d0 d1 d2 HM;go_wp2_with fail
 go_cut [4] from 10 (fun b wx=>wx.ownsRow wd.heap.size 5 1 b 24 ((aex n ll).map bv)/\Below wd.heap.size wd wx)
 case first=>
  refine aaD wd.heap.size (.two [2,3,4,6,7,8,9] 0 (.two [] 1 (.one [] 5 (.one [] 10 (.one [] 11 (.one [] 12 (.fin [13]))))) 5 (.two [] 1 (.one [] 10 (.one [] 11 (.one [] 12 (.fin [13])))) 10 (.one [] 1 (.one [] 11 (.one [] 12 (.fin [13])))))) 5 (.two [] 0 (.two [] 1 (.one [] 10 (.one [] 11 (.one [] 12 (.fin [13])))) 10 (.one [] 1 (.one [] 11 (.one [] 12 (.fin [13]))))) 10 (.one [] 0 (.one [] 1 (.one [] 11 (.one [] 12 (.fin [13]))))))) [] (by kernel_rfl) (by kernel_rfl) (by kernel_rfl) (fun _ _ _ _ _ h=>h) ?_;rw[HWD.out];have q0:=tfE c0 hld;have q1:=tfE c1 hld;refine abL (l:= ?segA) ?hsegA ?_
  case hsegA=>simp only[pick,lE1,lE2,lE3];rfl
  repeat (go_big_quiet_step (fail))
  refine wpQuiet_nil ?_;clear q0 q1;refine amo (PT.any_inv (I:=imI) (d:=fun i=>14+i) (dp:=awn) (Inv:=fun D f w=>∀j,D j->imR wd.heap.size n ll j D (f j) w) (w0:=wd) (last:= [13]) (fun i _ j _ e=>Nat.add_left_cancel (show 14+i=14+j from e)) (fun i hi=>amn fun dn f W hn hI hdp hR hb=> ?_) (fun f W hI hb=> ?_) _ [] (fun _=>undef) wd (by kernel_rfl) (fun _ h=>by cases h) (fun _ h=>by cases h) (Below.refl _ _))
  · have hk:∀w',Below W.heap.size W w'->∀j∈dn,imR wd.heap.size n ll j (fun j=>j=i\/j∈dn) (f j) w':=fun w' b j hj=>arF (fun k h=> .inr h) b (hI j hj) (hR j hj);generalize hX:abg (fun i=>14+i) f dn _=X;have ev:∀j∈dn,j<13->X.eval (.tmp (14+j))=f j:=fun j hj h13=>by
     rw[<-hX];exact ahG (d:=fun i=>14+i) (I:=imI) (fun i _ j _ e=>Nat.add_left_cancel (show 14+i=14+j from e)) hI hj _ (by show 14+j<_;simp;omega)
    have old:=fun(t:Nat) (ht:∀i∈imI,14+i≠t)=>ajF (d:=fun i=>14+i) (f:=f) (l:=dn) (t:=t) fun i hi=>ht i (hI i hi);unfold imI at hi;simp only[List.mem_cons,List.not_mem_nil,or_false]at hi;rcases hi with rfl | rfl | rfl | rfl | rfl | rfl
    · have hb1:Below W.heap.size W (W.alloc (.cells (acb imMarkB) 5)):=(Below.refl _ _).alloc (Nat.le_refl _) _;exact aas (some 14) (w1:=W.alloc (.cells (acb imMarkB) 5)) (v:= .slice (some ⟨W.heap.size,0,none⟩) 8 8) rfl rfl rfl (aaQ rfl rfl (arD W)) (hb1.mono hb.size) ⟨wd.heap.size,Nat.le_refl _,_,rfl,fun _=>⟨W.heap.size,rfl,hb.size,heap_alloc_new W _⟩,hk _ hb1⟩
    · have h0:=hdp 0 (by decide);obtain⟨r,e,hr,hg⟩:=hR 0 h0 hn;obtain⟨v',hrun,fm,sz,kp,bl⟩:=ajZ (P:=Tryz.prog) W 37 5 r (acb imMarkB) 8 8 Tryz.underlying37 Tryz.underlying5 hg;have k:∀{A:Option Addr} {m:Nat} {bs:List UInt8},Rd W W.heap.size A m bs->Rd v' v'.heap.size A m bs:=fun h=>by
       rw[sz];refine h.keep fun p _=> ?_;by_cases ep:p.block=r
       · obtain⟨pb,po,ps⟩:=p;dsimp only at ep;subst ep;simp[World.cell?,hg,fm]
       · exact World.cell?_of_block (kp _ ep)
      refine aas (some 15) rfl rfl rfl (amy rfl ((ev 0 h0 (by omega)).trans e) hrun) (bl wd.heap.size hr) ⟨wd.heap.size,Nat.le_refl _,_,rfl,⟨r,rfl,acs fm⟩,fun j hj=> ?_⟩;have hj2:=hI j hj;unfold imI at hj2;simp only[List.mem_cons,List.not_mem_nil,or_false]at hj2;rcases hj2 with rfl | rfl | rfl | rfl | rfl | rfl
      · exact fun h=>absurd (.inl rfl) h
      · exact absurd hj hn
      · exact(hR 5 hj).imp fun r h=>⟨h.1,k h.2⟩
      · exact(hR 10 hj).imp fun r h=>⟨h.1,k h.2⟩
      · exact absurd (hR 11 hj).1 hn
      · exact absurd (hR 11 (hR 12 hj).1).1 hn
    · refine aar (vs:= #[.int .u64 (n:Int)]) Tryz.call120 rfl rfl (congrArg (fun x=> [x]) (by rw[<-hX];exact old 18 (by decide) _)) (R:=fun r w'=>(∃x,r= .slice (some ⟨x,0,none⟩) 8 8/\Rd w' w'.heap.size (some ⟨x,0,none⟩) (aaJ 8 n).length (aaJ 8 n))/\Below W.heap.size W w') ((HPUT.out W n (by omega)).mono ?_) wd.heap.size (Nat.le_refl _) ?_
      · rintro e w' ⟨rfl,hf,hb'⟩;exact⟨_,rfl,hb'.mono hb.size,⟨_,rfl,acs hf⟩,hb'⟩
      · rintro r w' _ ⟨hx,hb'⟩;exact⟨_,rfl,hx,hk _ hb'⟩
    · refine aar (vs:= #[.int .u64 (ll:Int)]) Tryz.call120 rfl rfl (congrArg (fun x=> [x]) (by rw[<-hX];exact old 23 (by decide) _)) (R:=fun r w'=>(∃x,r= .slice (some ⟨x,0,none⟩) 8 8/\Rd w' w'.heap.size (some ⟨x,0,none⟩) (aaJ 8 ll).length (aaJ 8 ll))/\Below W.heap.size W w') ((HPUT.out W ll (by omega)).mono ?_) wd.heap.size (Nat.le_refl _) ?_
      · rintro e w' ⟨rfl,hf,hb'⟩;exact⟨_,rfl,hb'.mono hb.size,⟨_,rfl,acs hf⟩,hb'⟩
      · rintro r w' _ ⟨hx,hb'⟩;exact⟨_,rfl,hx,hk _ hb'⟩
    · have h1:=hdp 1 (by decide);have h5:=hdp 5 (by decide);have h10:=hdp 10 (by decide);obtain⟨a,ea,ra⟩:=hR 1 h1;obtain⟨b,eb,rb⟩:=hR 5 h5;obtain⟨c,ec,rc⟩:=hR 10 h10;obtain⟨w8,hw8⟩:=nmE (W.alloc (.cells #[.slice (some ⟨a,0,none⟩) 8 8, .slice (some ⟨b,0,none⟩) 8 8, .slice (some ⟨c,0,none⟩) 8 8] 37));have hb8:=abE hw8;have n8:=anE hw8;have k:∀{A:Option Addr} {m:Nat} {bs:List UInt8},Rd W W.heap.size A m bs->Rd w8 w8.heap.size A m bs:=fun h=>(h.below hb8).more hb8.size;have x1:X.eval (.tmp 15)=_:=(ev 1 h1 (by omega)).trans ea;have x5:X.eval (.tmp 19)=_:=(ev 5 h5 (by omega)).trans eb;have x10:X.eval (.tmp 24)=_:=(ev 10 h10 (by omega)).trans ec;refine aas (some 25) (w1:=w8) (v:= .slice (some ⟨W.heap.size,0,none⟩) 3 3) rfl rfl rfl (by rw[<-hw8];exact aaQ rfl (by simp only[List.map_cons,List.map_nil];rw[x1,x5,x10]) (apa W _ _ _ _ _ _ _ _ _)) (hb8.mono hb.size) ⟨wd.heap.size,Nat.le_refl _,_,rfl,⟨.inr h1,W.heap.size,a,b,c,rfl,n8,k ra,k rb,k rc⟩,hk _ hb8⟩
    · have h11:=hdp 11 (by decide);obtain⟨_,r,a,b,c,er,hg,r1,r2,r3⟩:=hR 11 h11;refine aar (vs:= #[.slice (some ⟨r,0,none⟩) 3 3]) Tryz.call119 rfl rfl (congrArg (fun x=> [x]) ((ev 11 h11 (by omega)).trans er)) (R:=fun q w'=>w'.ownsRow W.heap.size 5 1 q 24 ((aex n ll).map bv)/\Below W.heap.size W w') ((anu n ll W r a b c hg r1 r2 r3).mono ?_) wd.heap.size (Nat.le_refl _) ?_
      · rintro e w' ⟨v,rfl,ho,hb'⟩;exact⟨_,rfl,hb'.mono hb.size,ho,hb'⟩
      · rintro q w' _ ⟨ho,hb'⟩;exact⟨_,rfl,⟨.inr h11,adu ho hb.size⟩,hk _ hb'⟩
  · obtain⟨_,ho⟩:=hI 12 (by decide);have HO:=hE0 ho;have HB:=hE0 hb;clear hI ho hb;unfold imI;simp only[abg,Act.put,List.setIfInBounds_toArray,List.set_cons_zero,List.set_cons_succ,Nat.reduceAdd];refine aaW (l:= ?finA) (t:= []) ?hfinA ?htfinA ?_
    case hfinA=>simp only[pick,lE1,lE2,lE3];rfl
    case htfinA=>rfl
    repeat (go_big_quiet_step (fail))
    refine wpQuiet_nil ?_;go_wp2_with fail
    go_meet
    case rel=>exact⟨HO.out,HB.out⟩
 case rest=>
  obtain⟨ho,hb⟩:=hcut;have HO:=hE0 ho;have HBC:=hE0 hb;clear ho hb;have HW1S:=hE0 (af5 wc wd.heap.size _ (aex n ll) 24 0 (ae2 n ll) HO.out HBC.out.size (by omega) (by omega) (by omega));go_wp2_with fail
  refine HW1S.out.mono ?_;rintro e w2 ⟨x2,rfl,ho2,hb2⟩;have HO2:Hid (w2.ownsRow wd.heap.size 5 1 x2 28 ((alf n ll).map bv)):=ho2;have HB2:=hE0 (HBC.out.trans hb2);clear ho2 hb2 HW1S HO HBC;have e1:=(HB2.out.cell (p:=⟨w.heap.size,1,none⟩) hld).trans c1;have hl2:w.heap.size<w2.heap.size:=Nat.lt_of_lt_of_le hld HB2.out.size;go_wp2
  go_loopw [4,32] (fun v t wr=>∃(j:Nat),t= .int .i64 (j:Int)/\j<=ll/\wr.ownsRow wd.heap.size 5 1 v (28+(acA (l.take j)).length) ((alf n ll++acA (l.take j)).map bv)/\Below wd.heap.size wd wr) (fun _ t _=>ll-(intOf t).toNat)
  case atStart=>
   refine⟨0,rfl,Nat.zero_le _,?_,HB2.out⟩;have e:alf n ll++acA (l.take 0)=alf n ll:=by rw[List.take_zero];exact List.append_nil _
   rw[e];exact HO2.out
  case round=>
   obtain⟨j,rfl,hj,hown,hb⟩:=hrel;by_cases hlt:j<ll
   · obtain⟨x,hx⟩:∃x,l[j]?=some x:=⟨l[j]'(by rw[HLL.out];exact hlt),List.getElem?_eq_getElem _⟩;obtain⟨b2,o,rfl,hbb,hcl⟩:=HR.out (by rw[HLL.out];omega);obtain⟨p0,p1,p2,hxo,hxs⟩:=hcl j x hx;have hb1w:=HBD.out.trans (hb.mono HBD.out.size);have r0:=(hb1w.cell (p:=⟨b2,o+j*3,none⟩) hbb).trans p0;have r1:=(hb1w.cell (p:=⟨b2,o+j*3+1,none⟩) hbb).trans p1;have r2:=(hb1w.cell (p:=⟨b2,o+j*3+2,none⟩) hbb).trans p2;have HTG:=hE0 (anr hx);have HT1:=HPT.out j;obtain⟨xo,xs,xu⟩:=x;dsimp only at p0 p1 p2 r0 r1 r2 hxs HTG;obtain⟨w4,hw4⟩:=nmE (wr.alloc (.cells #[.int .i64 xo, .int .i64 xs, .bool xu] 112));have hb4:=abE hw4;have n4:=anE hw4;obtain⟨x0,x1,x2⟩:=aam n4;have hl4:=aaa n4;obtain⟨pk,hpk⟩:=nmE (acf xs xu);have hpkl:pk<18446744073709551616:=by have:=afX xs xu;omega
     have HPK:=hE0 (fun W=>ac7 (w:=W) xs xu hxs pk hpk);have HTB:Hid (aou ⟨xo,xs,xu⟩=aaJ 8 pk):=(show _=_ by unfold aou;dsimp only;rw[hpk]);obtain⟨tn,htn⟩:=nmE ((acA (l.take j)).length);rw[htn]at hown HT1;have HTN:=hE0 htn;have HO4:=hE0 (acL hown hb4);have HB4:=hE0 (hb.trans (hb4.mono hb.size));have HW4:=hE0 hw4;clear hx hcl p0 p1 p2 hown hb hb1w hb4 n4 hw4 hpk htn;go_wp2_with (first | (rw[HW4.out]) | fail)
     refine(HPK.out _).mono ?_;rintro e w5 ⟨rfl,rfl⟩;go_wp2_with fail
     refine(HPUT.out _ pk hpkl).mono ?_;rintro e w6 ⟨rfl,hf6,hb6⟩;have HR6:Hid (Rd w6 w6.heap.size (some ⟨w4.heap.size,0,none⟩) 8 (aaJ 8 pk)):=(show Rd _ _ _ _ _ by have:=hf6.reads;rw[aag]at this;exact this);have HO6:=hE0 (acL HO4.out hb6);have HB6:=hE0 (HB4.out.trans (hb6.mono HB4.out.size));clear hf6 hb6;go_wp2_with (first
      | (at_builtin;go_must (refine aco rfl (.tmp 36) (.tmp 42) 37 5 rfl Tryz.underlying37 afv wd.heap.size _ (28+tn) (alf n ll++acA (l.take j)) rfl HO6.out _ (some ⟨w4.heap.size,0,none⟩) 8 8 (aaJ 8 pk) rfl HR6.out (fun e=>by cases e) (by omega) HB6.out.size ?_);intro x7 w7 own7 hb7 gr7
         have HX7:Hid (w7.ownsRow wd.heap.size 5 1 x7 ((28+tn)+8) (((alf n ll++acA (l.take j))++(aaJ 8 pk)).map bv)/\Below wd.heap.size w6 w7):=⟨own7,hb7⟩;clear own7 hb7 gr7)
      | fail)
     go_roundw
     case rel=>
      refine⟨j+1,by go_num,by omega,?_,HB6.out.trans HX7.out.2⟩;rw[HTG.out,HTB.out,List.length_append,HTN.out,aag,<-List.append_assoc];exact HX7.out.1
     case measure=>simp only[intOf];omega
   · have e:l.take j=l:=List.take_of_length_le (by rw[HLL.out];omega);rw[e,HTL.out]at hown;have HWS:=hE0 (af5 wr wd.heap.size _ (alf n ll++acA l) (28+8*ll) 28 (by rw[List.length_append,HAL.out,HTL.out]) hown hb.size (by omega) (by omega) (by omega));rw[HPTE.out]at HWS;have HB:=hE0 hb;clear hown hb e;go_wp2_with fail
     refine HWS.out.mono ?_;rintro e w5 ⟨x5,rfl,ho5,hb5⟩;rw[HTE.out]at ho5;have hT100:T<=10000:=by have:=HTE.out;omega
     have hT0:0<T:=by have:=HTE.out;omega
     have hb5':=HB.out.trans hb5;obtain⟨A5,c5,rfl,hA5⟩:=aeG ho5;have HO5:=hE0 ho5;have HB5:=hE0 hb5';have e2:=(hb5'.cell (p:=⟨w.heap.size,2,none⟩) hld).trans c2;have hl5:w.heap.size<w5.heap.size:=Nat.lt_of_lt_of_le hld hb5'.size;clear ho5 hb5 hb5' HWS;go_wp2
     go_loopw [4,52] (fun v t wr=>∃(j:Nat),t= .int .i64 (j:Int)/\j<=dl/\wr.ownsRow wd.heap.size 5 1 v (T+(d.take j).flatten.length) ((ahP n l++(d.take j).flatten).map bv)/\Below wd.heap.size wd wr) (fun _ t _=>dl-(intOf t).toNat)
     case atStart=>
      refine⟨0,rfl,Nat.zero_le _,?_,HB5.out⟩;have e:ahP n l++(d.take 0).flatten=ahP n l:=by rw[List.take_zero];exact List.append_nil _
      rw[e];exact HO5.out
     case round=>
      obtain⟨i,rfl,hi,hown,hb⟩:=hrel;have hb1w:=HBD.out.trans (hb.mono HBD.out.size);by_cases hlt2:i<dl
      · obtain⟨y,hy⟩:∃y,d[i]?=some y:=⟨d[i]'(by rw[HDLL.out];exact hlt2),List.getElem?_eq_getElem _⟩;obtain⟨b,o,rfl,hbb,hc⟩:=HD.out (by rw[HDLL.out];omega);obtain⟨A',k',z0,hrd,_,_,hA⟩:=hc i y hy;have z1:=(hb1w.cell (p:=⟨b,o+i,none⟩) hbb).trans z0;have hs1:=HFT.out (i+1);rw[ada hy,List.length_append]at hs1;have HFT2:=hE0 (ada hy);have HRD:=hE0 ((hrd.below hb1w).more hb1w.size);obtain⟨yn,hn'⟩:∃yn,y.length=yn:=⟨_,rfl⟩;have HYN:=hE0 hn';obtain⟨q,hq⟩:=nmE ((d.take i).flatten.length);rw[hq]at hown hs1;have HQ:=hE0 hq;rw[hn']at z0 z1 hs1 HRD;have HO:=hE0 hown;have HB6:=hE0 hb;clear hc hy hn' hown hb hrd hq hb1w z0;go_wp2_with (first
         | (at_builtin;go_must (refine aco rfl (.tmp 56) (.tmp 57) 37 5 rfl Tryz.underlying37 afv wd.heap.size _ (T+q) (ahP n l++(d.take i).flatten) rfl HO.out _ A' yn k' y rfl HRD.out hA (by omega) HB6.out.size ?_);intro x30 w30 own30 hb30 gr30
            have HX30:Hid (w30.ownsRow wd.heap.size 5 1 x30 ((T+q)+yn) (((ahP n l++(d.take i).flatten)++y).map bv)/\Below wd.heap.size wr w30):=⟨own30,hb30⟩;clear own30 hb30 gr30)
         | fail)
        go_roundw
        case rel=>
         refine⟨i+1,by go_num,by omega,?_,HB6.out.trans HX30.out.2⟩;rw[HFT2.out,List.length_append,HQ.out,HYN.out,<-List.append_assoc,<-Nat.add_assoc];exact HX30.out.1
        case measure=>simp only[intOf];omega
      · have e:d.take i=d:=List.take_of_length_le (by rw[HDLL.out];omega);rw[e,HFL.out]at hown;have HWS2:=hE0 (af5 wr wd.heap.size _ (ahP n l++d.flatten) (T+fl) T (by rw[List.length_append,HFL.out,HTL2.out]) hown hb.size (by omega) (by omega) (by omega));rw[HPDE.out]at HWS2;have HB6:=hE0 hb;clear hown hb e hb1w;go_wp2_with fail
        refine HWS2.out.mono ?_;rintro e w7 ⟨x7,rfl,ho7,hb7⟩;have HB7:=hE0 (HB6.out.trans hb7);have HWS3:=hE0 (af5 w7 wd.heap.size x7 (akV n l d) (T+fl+4) 0 (by rw[HDL2.out];have:=HTE.out;omega) ho7 HB7.out.size (by omega) (by omega) (by omega));clear ho7 hb7 HWS2;go_wp2_with fail
        refine HWS3.out.mono ?_;rintro e w8 ⟨x8,rfl,ho8,hb8⟩;have hfin:w8.ownsRow w.heap.size 5 1 x8 (40+8*ll+fl) ((aaZ n l d).map bv):=by
         rw[show T+fl+4+4=40+8*ll+fl by have:=HTE.out;omega]at ho8;exact adu ho8 (Nat.le_trans HB1.out.size HBD.out.size)
        have hbfin:Below w.heap.size w w8:=HB1.out.trans ((HBD.out.trans ((HB7.out.trans hb8).mono HBD.out.size)).mono HB1.out.size);obtain⟨A8,c8,rfl,_⟩:=aeG hfin;have HFIN:=hE0 (And.intro hfin hbfin);clear hfin hbfin ho8 hb8;go_wp2
        go_ret2
        exact⟨A8,c8,rfl,HFIN.out⟩
theorem act (w:World) (A:Option Addr) (n c B:Nat) (b:List UInt8) (i j:Nat) (hr:Rd w B A n b) (hnc:n<=c) (hc:c<=9223372036854775807) (hn:n<=900000) (hij:i<=j) (hj:j+4<=n) (y:Bool) (hy:(ab2 ((b.drop j).take 4)==abZ 0 ((b.drop i).take (j-i)))=y):
 Calls Tryz.prog 279 #[.slice A n c, .int .i64 (i:Int), .int .i64 (j:Int)] w fun e w'=>e= .returned (.bool y)/\w=w':=by
 have HG:=hE0 (amh A n c B b j w hr hnc (by omega) hj);obtain⟨g,off,rfl,_⟩:=hr.2 (by omega);have HSM:=hE0 (agq (some ⟨g,off+i,none⟩) (j-i) (c-i) B _ w (hr.sub i (j-i) (by omega)) (by omega));obtain⟨p,hp⟩:=nmE (ab2 ((b.drop j).take 4));obtain⟨q,hq⟩:=nmE (abZ 0 ((b.drop i).take (j-i)));rw[hp]at HG;rw[hq]at HSM;rw[hp,hq]at hy;have HY:Hid (((p:Int)==(q:Int))=y):=(show _=y by
  rw[<-hy];by_cases h:p=q
  · rw[h];simp
  · have e:(p==q)=false:=by rw[beq_eq_false_iff_ne];exact h
    rw[e,beq_eq_false_iff_ne];omega)
 have h1:(i:Int)<=(j:Int):=by omega
 have h2:(j:Int)<=(c:Int):=by omega
 have h3:(i:Int)<(c:Int):=by omega
 clear hr hp hq hy;go_enter Tryz.func279,Tryz.ntmps279
 go_wp2_with fail
 refine HG.out.mono ?_;rintro e w2 ⟨rfl,rfl⟩;go_wp2_with fail
 refine HSM.out.mono ?_;rintro e w2 ⟨rfl,rfl⟩;go_wp2
 go_ret
 exact⟨abj HY.out,rfl⟩
theorem alg:anh imMarkB=⟨#[67,78,84,76,1,0,0,0]⟩:=by rfl
theorem apb (w:World) (A:Option Addr) (n c B:Nat) (b:List UInt8) (hr:Rd w B A n b) (hnc:n<=c) (hc:c<=9223372036854775807) (hn:n<=900000) (h28:28<=n) (hm:b.take 8=imMarkB) (hs:(ab2 ((b.drop 24).take 4)==abZ 0 ((b.drop 0).take (24-0)))=true) (N K:Nat) (hN:ab2 ((b.drop 8).take 8)=N) (hK:ab2 ((b.drop 16).take 8)=K) (hlen:ab0 (N:Int)=true) (hk:K<=1024):
 Calls Tryz.prog 275 #[.slice A n c] w fun e w'=>e= .returned (.tuple #[.int .i64 (N:Int), .int .i64 (K:Int), .nilIface])/\w=w':=by
 have HS:=hE0 (act w A n c B b 0 24 hr hnc hc hn (by omega) (by omega) true hs);have HG1:=hE0 (adQ A n c B b 8 w hr hnc (by omega) (by omega));have HG2:=hE0 (adQ A n c B b 16 w hr hnc (by omega) (by omega));rw[hN]at HG1;rw[hK]at HG2;have h3:=(aaV (N:Int)).1 hlen;have HL:=hE0 (agy w N (by omega) true hlen);obtain⟨g,off,rfl,_⟩:=hr.2 (by omega);have q1:(convert 37 9 (.slice (some ⟨g,off,none⟩) 8 c)).run Tryz.prog w= .ok (.string ⟨#[67,78,84,76,1,0,0,0]⟩) w:=by
  have h:=hr.sub 0 8 (by omega);rw[List.drop_zero,hm,Nat.add_zero]at h;have h2:=adS (c:=c) h;rw[alg]at h2;exact h2
 have g1:decide (n<28)=false:=decide_eq_false (by omega);have g2:decide (1024<K)=false:=decide_eq_false (by omega);have g3:(8:Int)<=(c:Int):=by omega
 clear hr hm hs hN hK hlen;go_enter Tryz.func275,Tryz.ntmps275
 go_wp2_with fail
 refine HS.out.mono ?_;rintro e w2 ⟨rfl,rfl⟩;go_wp2_with fail
 refine HG1.out.mono ?_;rintro e w2 ⟨rfl,rfl⟩;go_wp2_with fail
 refine HG2.out.mono ?_;rintro e w2 ⟨rfl,rfl⟩;go_wp2_with fail
 refine HL.out.mono ?_;rintro e w2 ⟨rfl,rfl⟩;go_wp2
 go_ret3
 exact⟨rfl,rfl⟩
theorem aiQ (w:World) (k:Nat) (hk:k<=100000):
 Calls Tryz.prog 280 #[.int .i64 (k:Int)] w fun e w'=>e= .returned (.int .i64 ((28+k*8:Nat):Int))/\w=w':=by
 go_enter Tryz.func280,Tryz.ntmps280
 go_wp2
 go_ret
 exact⟨by congr 2,rfl⟩
theorem atx:(Tryz.prog.info? 112).map (fun i=>(i.zero,i.size,i.bytes))=some (some (.agg #[.int .i64 0, .int .i64 0, .bool false]),3,24):=by kernel_rfl
theorem aj0{fn:Func}{R:Ending->World->Prop}{a:Act}{w:World}{p u:Tmp}{g:Nat}{x:Value}{n:Int}{A1 A2:Option Addr}{a1 b1 a2 b2:Nat}(hres:fn.results= #[.cell p 107, .tmp u]) (hp:a.tmps.getD p undef= .pointer (some ⟨g,0,none⟩)) (hx:a.tmps.getD u undef=x) (hd:a.defers= [])
 (hg:w.heap[g]?=some (.cells #[.int .i64 n, .slice A1 a1 b1, .slice A2 a2 b2] 107 (0,0))) (hR:R (.returned (.tuple #[.agg #[.int .i64 n, .slice A1 a1 b1, .slice A2 a2 b2],x])) w):bodyPost Tryz.prog fn R .ret a w:=by
 obtain⟨c0,c1,c2⟩:=aam hg;refine bodyPost_ret (v:= .tuple #[.agg #[.int .i64 n, .slice A1 a1 b1, .slice A2 a2 b2],x]) ?_ hd hR;rw[results_cell_tmp hres,hp,hx];simp[go_sem,c0,c1,c2]
theorem ae5{y0 y1 y2:Value}{w:World}{g:Nat}{t:TypeId}(h:w.heap[g]?=some (.cells #[y0,y1,y2] t (0,0))) (x0 x1 x2:Value):
 (((w.setCell ⟨g,0,none⟩ x0).setCell ⟨g,1,none⟩ x1).setCell ⟨g,2,none⟩ x2).heap[g]?=some (.cells #[x0,x1,x2] t (0,0)):=by
 have h1:=heap_setCell_same w g 0 _ _ x0 h;have h2:=heap_setCell_same _ g 1 _ _ x1 h1;have h3:=heap_setCell_same _ g 2 _ _ x2 h2;rw[h3];rfl
theorem acQ{w:World}{g:Nat}{cs:Array Value}{t:TypeId}(h:w.heap[g]?=some (.cells cs t (0,0))):w.frozen? ⟨g,0,none⟩=false/\w.frozen? ⟨g,1,none⟩=false/\w.frozen? ⟨g,2,none⟩=false:=
 ⟨frozen_of_row w g 0 _ _ h,frozen_of_row w g 1 _ _ h,frozen_of_row w g 2 _ _ h⟩
def DtO (w:World) (d:List (List UInt8)) (xs:List Value):Prop:=∀(i:Nat) (y:List UInt8),d[i]?=some y->y.length<=100000/\∃A k,xs[i]?=some (.slice A y.length k)/\w.ownsRow 0 5 1 (.slice A y.length k) y.length (y.map bv)
theorem DtO.rd{w:World}{B:Nat}{A:Option Addr}{c:Nat}{d:List (List UInt8)}{xs:List Value}(h:DtO w d xs) (ho:w.ownsRow B 37 1 (.slice A d.length c) d.length xs):DtRd w w.heap.size A d:=fun hn=>by
 rcases ho.2 with⟨hv,h0⟩ | ⟨g,cap,cur,hv,hbg,hg,hnc,hcm,hsz,htk⟩
 · omega
 · injection hv with e1 e2 e3;refine⟨g,0,e1,aaa hg,fun j y hy=> ?_⟩;obtain⟨hyl,A',k,hx,hr⟩:=h j y hy;have hj:j<d.length:=(List.getElem?_eq_some_iff.1 hy).1;obtain⟨A2,k2,e,hk0⟩:=aeG hr;injection e with e4 e5 e6;subst e4 e6;refine⟨A',k,?_,acP hr,by unfold maxLen;omega,?_,hk0⟩
   · rw[Nat.zero_add,cell_of_row _ _ _ _ _ _ hg];rw[<-htk,List.getElem?_take,if_pos (by omega)]at hx;rw[<-hx];simp
   · rcases hr.2 with⟨hv2,h02⟩ | ⟨g2,cap2,cur2,hv2,_,_,hnc2,_⟩
     · omega
     · injection hv2 with _ _ e7;omega
theorem DtO.grown{w w':World}{d:List (List UInt8)}{xs:List Value}{r:Option Nat}(h:DtO w d xs) (hg:w.grownBy w' r) (hr:∀k,r=some k->∃cs t fz,t≠5/\w.heap[k]?=some (.cells cs t fz)):DtO w' d xs:=by
 intro i y hy;obtain⟨hyl,A,k,hx,ho⟩:=h i y hy;refine⟨hyl,A,k,hx,acO ho hg fun q hq hrq=> ?_⟩;obtain⟨cs,t,fz,hne,hc⟩:=hr q hrq;rcases ho.2 with⟨hv,_⟩ | ⟨g,cap,cur,hv,_,hgc,_⟩
 · rw[hv]at hq;cases hq
 · rw[hv]at hq;unfold Value.ownBlock at hq;injection hq with hq;subst hq;rw[hgc]at hc;injection hc with hc;injection hc with _ e _;exact absurd e.symm hne
theorem DtO.snoc{w:World}{d:List (List UInt8)}{xs:List Value}(h:DtO w d xs) (hl:xs.length=d.length){y:List UInt8}{A:Option Addr}{k:Nat}(hy:y.length<=100000) (ho:w.ownsRow 0 5 1 (.slice A y.length k) y.length (y.map bv)):DtO w (d++ [y]) (xs++ [.slice A y.length k]):=by
 intro i z hz;by_cases hi:i<d.length
 · rw[List.getElem?_append_left hi]at hz;rw[List.getElem?_append_left (by omega)];exact h i z hz
 · rw[List.getElem?_append_right (by omega)]at hz;rw[List.getElem?_append_right (by omega),hl];have e:i-d.length=0:=by
    have:=(List.getElem?_eq_some_iff.1 hz).1;simp at this;omega
   rw[e]at hz ⊢;simp at hz;subst hz;exact⟨hy,A,k,rfl,ho⟩
theorem acR{w:World}{base n size:Nat}{t:TypeId}{v:Value}{xs:List Value}(h:w.ownsRow base t size v n xs):∀k,v.ownBlock=some k->k<w.heap.size:=by
 intro k hk;rcases h.2 with⟨hv,_⟩ | ⟨g,cap,cur,hv,_,hg,_⟩
 · rw[hv]at hk;cases hk
 · rw[hv]at hk;unfold Value.ownBlock at hk;injection hk with hk;subst hk;exact aaa hg
theorem acB{w:World}{base n size k:Nat}{t t':TypeId}{v:Value}{xs:List Value}{cs:Array Value}{fz:Nat × Nat}(h:w.ownsRow base t size v n xs) (hk:v.ownBlock=some k) (hc:w.heap[k]?=some (.cells cs t' fz)) (hne:t≠t'):False:=by
 rcases h.2 with⟨hv,_⟩ | ⟨g,cap,cur,hv,_,hg,_⟩
 · rw[hv]at hk;cases hk
 · rw[hv]at hk;unfold Value.ownBlock at hk;injection hk with hk;subst hk;rw[hg]at hc;injection hc with hc;injection hc with _ e _;exact hne e
theorem apc{w:World}{base n size:Nat}{t:TypeId}{v:Value}{xs:List Value}(h:w.ownsRow base t size v n xs):∀k,v.ownBlock=some k->∃cs fz,w.heap[k]?=some (.cells cs t fz):=by
 intro k hk;rcases h.2 with⟨hv,_⟩ | ⟨g,cap,cur,hv,_,hg,_⟩
 · rw[hv]at hk;cases hk
 · rw[hv]at hk;unfold Value.ownBlock at hk;injection hk with hk;subst hk;exact⟨_,_,hg⟩
theorem aj1{w:World}{base n size:Nat}{t:TypeId}{v:Value}{xs:List Value}(h:w.ownsRow base t size v n xs):∀k,v.ownBlock=some k->base<=k:=by
 intro k hk;rcases h.2 with⟨hv,_⟩ | ⟨g,cap,cur,hv,hb,_,_⟩
 · rw[hv]at hk;cases hk
 · rw[hv]at hk;unfold Value.ownBlock at hk;injection hk with hk;subst hk;exact hb
theorem acu (w:World) (g i:Nat) (v:Value):w.grownBy (w.setCell ⟨g,i,none⟩ v) (some g):=
 ⟨rfl,rfl,rfl,by simp,fun k _ hne=>heap_setCell_other _ _ _ _ (fun e=>hne (by rw[e]))⟩
theorem RkRd.off{w w':World}{B g:Nat}{A:Option Addr}{l:List Rk}{t:TypeId}{fr:Nat × Nat}(h:RkRd w B A l) (hg:w.heap[g]?=some (.cells #[.int .i64 0, .slice none 0 0, .slice none 0 0] t fr)) (hk:∀k,k≠g->w'.heap[k]?=w.heap[k]?):RkRd w' B A l:=fun hn=>by
 obtain⟨b,o,e,hB,hc⟩:=h hn;have hbg:b≠g:=by
  intro e2;subst e2;obtain⟨x,hx⟩:∃x,l[0]?=some x:=⟨l[0]'hn,List.getElem?_eq_getElem _⟩;obtain⟨_,h1,_⟩:=hc 0 x hx;rw[cell_of_row _ _ _ _ _ _ hg]at h1;rcases o with _ | _ | o<;>simp at h1
 refine⟨b,o,e,hB,fun j x hx=> ?_⟩;obtain⟨h0,h1,h2,h3⟩:=hc j x hx;have hh:=hk b hbg;refine⟨?_,?_,?_,h3⟩
 · rw[<-h0];simp[World.cell?,hh]
 · rw[<-h1];simp[World.cell?,hh]
 · rw[<-h2];simp[World.cell?,hh]
theorem DtO.stay{w w':World}{d:List (List UInt8)}{xs:List Value}(h:DtO w d xs) (hb:Below w.heap.size w w'):DtO w' d xs:=by
 intro i y hy;obtain⟨hyl,A,k,hx,ho⟩:=h i y hy;exact⟨hyl,A,k,hx,ab7 ho hb (acR ho)⟩
theorem apd:(Tryz.prog.info? 37).map (fun i=>(i.zero,i.size,i.bytes))=some (some (.slice none 0 0),1,24):=by kernel_rfl
theorem aj2 (w:World) (A:Option Addr) (n c:Nat):(Instr.buildSlice 57 1 #[(0, .slice A n c)]).run Tryz.prog w= .ok (.slice (some ⟨w.heap.size,0,none⟩) 1 1) (w.alloc (.cells #[.slice A n c] 37)):=by
 obtain⟨i0,hi,hz0,hz1,hz2⟩:=info_parts apd;refine run_buildSlice w 57 37 1 _ _ i0 _ Tryz.underlying57 hi hz0 (by omega) (by omega) ?_;rw[hz1];have e:Array.range (1*1)= #[0]:=by decide
 rw[e];simp[Instr.fill,Value.cells]
theorem af7{n:Int}:∀{l:List Rk}{e:Int}{f:Bool}{d:List (List UInt8)},abh n e f l=true->datOk l d=true->(d.flatten.length:Int)+e<=n
 | [],e,f,d,h,h2=>by
  unfold abh at h;unfold datOk at h2;rw[beq_iff_eq]at h;have:d= []:=by simpa using h2
  subst this;simp;omega
 | x::r,e,f,d,h,h2=>by
  unfold abh at h;simp only[Bool.and_eq_true,beq_iff_eq,decide_eq_true_eq]at h;obtain⟨_,h3,_,_,h4⟩:=h;have h5:=(aab _).1 h3;unfold datOk at h2;split at h2
  · cases d with
    | nil=>cases h2
    | cons y d'=>
     simp only[Bool.and_eq_true,beq_iff_eq]at h2;have:=af7 h4 h2.2;rw[List.flatten_cons,List.length_append];omega
  · have:=af7 h4 h2;omega
theorem arH{n:Int}{l:List Rk}{d:List (List UInt8)}(h:aew n l d=true):d.flatten.length<=16384/\184<=n/\n<=16384:=by
 unfold aew at h;simp only[Bool.and_eq_true]at h;have h1:=(aaV n).1 h.1;have h2:=af7 h.2.1 h.2.2;omega
def slMark:List UInt8:= [83,76,79,84,0,0,0,0]
def abs (g n s:Nat):List UInt8:=slMark++aaJ 8 g++aaJ 8 n++aaJ 4 s
def abQ (g n s:Nat):List UInt8:=abs g n s++ahO (abs g n s)++List.replicate 480 0
theorem abX (g n s:Nat):(abs g n s).length=28:=by unfold abs slMark;simp[aag]
theorem ad0 (g n s:Nat):(abQ g n s).length=512:=by unfold abQ;rw[List.length_append,List.length_append,abX,ab6,List.length_replicate]
theorem aty (w:World):(Instr.buildSlice 37 8 #[(0, .int .u8 83),(1, .int .u8 76),(2, .int .u8 79),(3, .int .u8 84),(4, .int .u8 0),(5, .int .u8 0),(6, .int .u8 0),(7, .int .u8 0)]).run Tryz.prog w= .ok (.slice (some ⟨w.heap.size,0,none⟩) 8 8) (w.alloc (.cells #[.int .u8 83, .int .u8 76, .int .u8 79, .int .u8 84, .int .u8 0, .int .u8 0, .int .u8 0, .int .u8 0] 5)):=by
 obtain⟨i0,hi,hz0,hz1,hz2⟩:=info_parts afv;refine run_buildSlice w 37 5 8 _ _ i0 _ Tryz.underlying37 hi hz0 (by omega) (by omega) ?_;rw[hz1];have e:Array.range (8*1)= #[0,1,2,3,4,5,6,7]:=by decide
 rw[e];simp[Instr.fill,Value.cells]
def slG (b:List UInt8):Nat:=ab2 ((b.drop 8).take 8)
def slN (b:List UInt8):Nat:=ab2 ((b.drop 16).take 8)
def slS (b:List UInt8):Nat:=ab2 ((b.drop 24).take 4)
def akW (g n:Nat):Bool:=decide (1<=g)&&(decide (g<=4611686018427387904)&&decide (n<=65536))
def aov (g n s:Nat):List UInt8:=if akW g n=true then abQ g n s else []
theorem ape{g n s:Nat}(hg:g<18446744073709551616) (hn:n<18446744073709551616) (hs:s<4294967296):slG (abQ g n s)=g/\slN (abQ g n s)=n/\slS (abQ g n s)=s:=by
 have hm:slMark.length=8:=rfl;have l8:∀v,(aaJ 8 v).length=8:=fun v=>aag 8 v;have l4:∀v,(aaJ 4 v).length=4:=fun v=>aag 4 v;have e:abQ g n s=slMark++(aaJ 8 g++(aaJ 8 n++(aaJ 4 s++(ahO (abs g n s)++List.replicate 480 0)))):=by
  unfold abQ;obtain⟨X,hX⟩:=nmE (ahO (abs g n s));rw[hX];unfold abs;simp only[List.append_assoc]
 have d8:(abQ g n s).drop 8=aaJ 8 g++(aaJ 8 n++(aaJ 4 s++(ahO (abs g n s)++List.replicate 480 0))):=by rw[e,<-hm,List.drop_left]
 have d16:(abQ g n s).drop 16=aaJ 8 n++(aaJ 4 s++(ahO (abs g n s)++List.replicate 480 0)):=by
  rw[show(16:Nat)=8+8 from rfl,<-List.drop_drop,d8];have:=List.drop_left (l₁:=aaJ 8 g) (l₂:=aaJ 8 n++(aaJ 4 s++(ahO (abs g n s)++List.replicate 480 0)));rw[l8]at this;exact this
 have d24:(abQ g n s).drop 24=aaJ 4 s++(ahO (abs g n s)++List.replicate 480 0):=by
  rw[show(24:Nat)=16+8 from rfl,<-List.drop_drop,d16];have:=List.drop_left (l₁:=aaJ 8 n) (l₂:=aaJ 4 s++(ahO (abs g n s)++List.replicate 480 0));rw[l8]at this;exact this
 have tk:∀(k:Nat) (x y:List UInt8),x.length=k->(x++y).take k=x:=fun k x y h=>by rw[<-h,List.take_left]
 refine⟨?_,?_,?_⟩
 · unfold slG;rw[d8,tk 8 _ _ (l8 g),acm,Nat.mod_eq_of_lt hg]
 · unfold slN;rw[d16,tk 8 _ _ (l8 n),acm,Nat.mod_eq_of_lt hn]
 · unfold slS;rw[d24,tk 4 _ _ (l4 s),acm,Nat.mod_eq_of_lt hs]
theorem aj3 (w:World) (g n s:Nat) (y:Bool) (hy:akW g n=y):
 Calls Tryz.prog 210 #[.agg #[.int .u64 (g:Int), .int .u64 (n:Int), .int .u32 (s:Int)]] w fun e w'=>e= .returned (.bool y)/\Below w.heap.size w w':=by
 obtain⟨w1,hw1⟩:=nmE (w.alloc (.cells #[.int .u64 (g:Int), .int .u64 (n:Int), .int .u32 (s:Int)] 146));have hb1:=abE hw1;have n1:=anE hw1;obtain⟨c0,c1,c2⟩:=aam n1;have hl1:=aaa n1;have HW1:=hE0 hw1;have HB1:=hE0 hb1;clear hw1 hb1 n1;unfold akW at hy;by_cases h1:1<=g
 · have g1:decide ((1:Int)<=(g:Int))=true:=decide_eq_true (by omega);rw[decide_eq_true h1,Bool.true_and]at hy;by_cases h2:g<=4611686018427387904
   · have g2:decide ((g:Int)<=4611686018427387904)=true:=decide_eq_true (by omega);rw[decide_eq_true h2,Bool.true_and]at hy;have g3:decide ((n:Int)<=65536)=y:=by rw[<-hy];exact decide_eq_decide.mpr (by omega)
     clear hy;go_enter Tryz.func210,Tryz.ntmps210
     go_wp2_with (first | (rw[HW1.out]) | fail)
     go_ret
     exact⟨rfl,HB1.out⟩
   · have g2:decide ((g:Int)<=4611686018427387904)=false:=decide_eq_false (by omega);rw[decide_eq_false h2,Bool.false_and]at hy;subst hy;go_enter Tryz.func210,Tryz.ntmps210
     go_wp2_with (first | (rw[HW1.out]) | fail)
     go_ret
     exact⟨rfl,HB1.out⟩
 · have g1:decide ((1:Int)<=(g:Int))=false:=decide_eq_false (by omega);rw[decide_eq_false h1,Bool.false_and]at hy;subst hy;go_enter Tryz.func210,Tryz.ntmps210
   go_wp2_with (first | (rw[HW1.out]) | fail)
   go_ret
   exact⟨rfl,HB1.out⟩
theorem arI (w:World) (g n s:Nat) (hy:akW g n=false):
 Calls Tryz.prog 145 #[.agg #[.int .u64 (g:Int), .int .u64 (n:Int), .int .u32 (s:Int)]] w fun e w'=>e= .returned (.slice none 0 0)/\Below w.heap.size w w':=by
 obtain⟨w1,hw1⟩:=nmE (w.alloc (.cells #[.int .u64 (g:Int), .int .u64 (n:Int), .int .u32 (s:Int)] 146));have hb1:=abE hw1;have n1:=anE hw1;obtain⟨c0,c1,c2⟩:=aam n1;have hl1:=aaa n1;have HM:=hE0 (aj3 w1 g n s _ hy);have HW1:=hE0 hw1;have HB1:=hE0 hb1;clear hw1 hb1 n1 hy;go_enter Tryz.func145,Tryz.ntmps145
 go_wp2_with (first | (rw[HW1.out]) | fail)
 refine HM.out.mono ?_;rintro e w2 ⟨rfl,hb2⟩;have HF:=hE0 (HB1.out.trans (hb2.mono HB1.out.size));clear hb2;go_wp2
 go_ret
 exact⟨rfl,HF.out⟩
theorem apf (w:World):(Instr.buildSlice 37 8 #[(0, .int .u8 83),(1, .int .u8 76),(2, .int .u8 79),(3, .int .u8 84),(4, .int .u8 0),(5, .int .u8 0),(6, .int .u8 0),(7, .int .u8 0)]).run Tryz.prog w= .ok (.slice (some ⟨w.heap.size,0,none⟩) 8 8) (w.alloc (.cells (acb slMark) 5)):=by
 have e:acb slMark= #[.int .u8 83, .int .u8 76, .int .u8 79, .int .u8 84, .int .u8 0, .int .u8 0, .int .u8 0, .int .u8 0]:=by rfl
 rw[e];exact aty w
theorem apg (w:World) (A B C D:Option Addr) (a b c d e f g h:Nat):(Instr.buildSlice 57 4 #[(0, .slice A a b),(1, .slice B c d),(2, .slice C e f),(3, .slice D g h)]).run Tryz.prog w= .ok (.slice (some ⟨w.heap.size,0,none⟩) 4 4) (w.alloc (.cells #[.slice A a b, .slice B c d, .slice C e f, .slice D g h] 37)):=by
 simp[go_sem]
theorem arJ (w:World) (A B:Option Addr) (a b c d:Nat):(Instr.buildSlice 57 2 #[(0, .slice A a b),(1, .slice B c d)]).run Tryz.prog w= .ok (.slice (some ⟨w.heap.size,0,none⟩) 2 2) (w.alloc (.cells #[.slice A a b, .slice B c d] 37)):=by
 simp[go_sem]
theorem asZ{w:World}{g:Nat}{C:Array Value}{l:List (List UInt8)}(hg:w.heap[g]?=some (.cells C 37 (0,0)))
 (h:∀(j:Nat) (u:List UInt8),l[j]?=some u->∃(A:Option Addr) (k:Nat),C[j]?=some (Value.slice A u.length k)/\Rd w w.heap.size A u.length u/\u.length<=maxLen/\u.length<=k/\(A=none->k=0)):
 DtRd w w.heap.size (some ⟨g,0,none⟩) l:=fun _=>by
 refine⟨g,0,rfl,aaa hg,fun j u hu=> ?_⟩;obtain⟨A,k,hC,hr,h1,h2,h3⟩:=h j u hu;exact⟨A,k,by rw[Nat.zero_add,cell_of_row w g j _ _ (0,0) hg];exact hC,hr,h1,h2,h3⟩
theorem anv (g n s:Nat) (w8:World) (r a b c d:Nat) (hn8:w8.heap[r]?=some (.cells #[.slice (some ⟨a,0,none⟩) 8 8, .slice (some ⟨b,0,none⟩) 8 8, .slice (some ⟨c,0,none⟩) 8 8, .slice (some ⟨d,0,none⟩) 4 4] 37 (0,0)))
 (h1:Rd w8 w8.heap.size (some ⟨a,0,none⟩) slMark.length slMark) (h2:Rd w8 w8.heap.size (some ⟨b,0,none⟩) (aaJ 8 g).length (aaJ 8 g)) (h3:Rd w8 w8.heap.size (some ⟨c,0,none⟩) (aaJ 8 n).length (aaJ 8 n)) (h4:Rd w8 w8.heap.size (some ⟨d,0,none⟩) (aaJ 4 s).length (aaJ 4 s)):
 Calls Tryz.prog 119 #[.slice (some ⟨r,0,none⟩) 4 4] w8 fun e w'=>∃v,e= .returned v/\w'.ownsRow w8.heap.size 5 1 v 28 ((abs g n s).map bv)/\Below w8.heap.size w8 w':=by
 have hd:DtRd w8 w8.heap.size (some ⟨r,0,none⟩) [slMark,aaJ 8 g,aaJ 8 n,aaJ 4 s]:=asZ hn8 (fun j u hu=>by
  match j,hu with
  | 0,hu=>injection hu with hu;subst hu;exact⟨_,8,rfl,h1,by decide,by decide,fun e=>by cases e⟩
  | 1,hu=>injection hu with hu;subst hu;exact⟨some ⟨b,0,none⟩,8,by rw[aag];rfl,h2,by rw[aag];decide,by rw[aag];decide,fun e=>by cases e⟩
  | 2,hu=>injection hu with hu;subst hu;exact⟨some ⟨c,0,none⟩,8,by rw[aag];rfl,h3,by rw[aag];decide,by rw[aag];decide,fun e=>by cases e⟩
  | 3,hu=>injection hu with hu;subst hu;exact⟨some ⟨d,0,none⟩,4,by rw[aag];rfl,h4,by rw[aag];decide,by rw[aag];decide,fun e=>by cases e⟩
  | j+4,hu=>cases hu)
 have hc:=afw w8 (some ⟨r,0,none⟩) 4 [slMark,aaJ 8 g,aaJ 8 n,aaJ 4 s] hd (by simp) (by simp[slMark,aag]);have e:([slMark,aaJ 8 g,aaJ 8 n,aaJ 4 s]:List (List UInt8)).flatten=abs g n s:=by unfold abs;simp
 rw[e,abX]at hc;exact hc
theorem aph{B:Nat}{w0 w:World}{g:Nat}{t:TypeId}{z cs:List UInt8}(h:Fill w g t (cs++z)) (hb:Below B w0 w) (hB:B<=g) (ds:List UInt8) (hl:ds.length=cs.length):
 Fill (w.setRow g (((acb (cs++z)).toList.take 0++(ds.map bv++(acb (cs++z)).toList.drop (0+(ds.map bv).length))).toArray)) g t (ds++z)/\Below B w0 (w.setRow g (((acb (cs++z)).toList.take 0++(ds.map bv++(acb (cs++z)).toList.drop (0+(ds.map bv).length))).toArray)):=by
 refine⟨?_,below_setRow hb hB _⟩;unfold Fill at h ⊢;rw[setRow_heap w g _ _ t _ h];have e:List.drop ds.length (cs++z)=z:=by rw[hl,List.drop_left]
 simp only[acb,List.take_zero,List.nil_append,Nat.zero_add,List.length_map,<-List.map_drop];rw[e,List.map_append]
def slR (B g n s:Nat) (i:Nat) (D:Nat->Prop) (v:Value) (w:World):Prop:=match i with
 | 0=>¬D 1->∃r,v= .slice (some ⟨r,0,none⟩) 8 8/\B<=r/\w.heap[r]?=some (.cells (acb slMark) 5 (0,0))
 | 1=>∃r,v= .slice (some ⟨r,0,none⟩) 8 8/\Rd w w.heap.size (some ⟨r,0,none⟩) slMark.length slMark
 | 4=>∃r,v= .slice (some ⟨r,0,none⟩) 8 8/\Rd w w.heap.size (some ⟨r,0,none⟩) (aaJ 8 g).length (aaJ 8 g)
 | 7=>∃r,v= .slice (some ⟨r,0,none⟩) 8 8/\Rd w w.heap.size (some ⟨r,0,none⟩) (aaJ 8 n).length (aaJ 8 n)
 | 10=>∃r,v= .slice (some ⟨r,0,none⟩) 4 4/\Rd w w.heap.size (some ⟨r,0,none⟩) (aaJ 4 s).length (aaJ 4 s)
 | 11=>D 1/\∃r a b c d,v= .slice (some ⟨r,0,none⟩) 4 4/\w.heap[r]?=some (.cells #[.slice (some ⟨a,0,none⟩) 8 8, .slice (some ⟨b,0,none⟩) 8 8, .slice (some ⟨c,0,none⟩) 8 8, .slice (some ⟨d,0,none⟩) 4 4] 37 (0,0))/\
  Rd w w.heap.size (some ⟨a,0,none⟩) slMark.length slMark/\Rd w w.heap.size (some ⟨b,0,none⟩) (aaJ 8 g).length (aaJ 8 g)/\Rd w w.heap.size (some ⟨c,0,none⟩) (aaJ 8 n).length (aaJ 8 n)/\Rd w w.heap.size (some ⟨d,0,none⟩) (aaJ 4 s).length (aaJ 4 s)
 | 12=>D 11/\w.ownsRow B 5 1 v 28 ((abs g n s).map bv)
 | _=>True
def slI:List Nat:= [0,1,4,7,10,11,12]
def awo (i:Nat):List Nat:=match i with
 | 1=> [0]
 | 7=> [4]
 | 10=> [7]
 | 11=> [1,4,7,10]
 | 12=> [11]
 | _=> []
theorem arK{B g n s:Nat}{D D':Nat->Prop}{v:Value}{w w':World}(hD:∀k,D k->D' k) (hb:Below w.heap.size w w'){i:Nat}(hi:i∈slI) (h:slR B g n s i D v w):slR B g n s i D' v w':=by
 have k:∀{A:Option Addr} {m:Nat} {bs:List UInt8},Rd w w.heap.size A m bs->Rd w' w'.heap.size A m bs:=fun h=>(h.below hb).more hb.size;unfold slI at hi;simp only[List.mem_cons,List.not_mem_nil,or_false]at hi;rcases hi with rfl | rfl | rfl | rfl | rfl | rfl | rfl
 · exact fun h1=>(h fun x=>h1 (hD 1 x)).imp fun r h=>⟨h.1,h.2.1,(hb.block _ (af6 h.2.2)).trans h.2.2⟩
 · exact h.imp fun r h=>⟨h.1,k h.2⟩
 · exact h.imp fun r h=>⟨h.1,k h.2⟩
 · exact h.imp fun r h=>⟨h.1,k h.2⟩
 · exact h.imp fun r h=>⟨h.1,k h.2⟩
 · obtain⟨h0,r,a,b,c,d,h1,h2,h3,h4,h5,h6⟩:=h;exact⟨hD 1 h0,r,a,b,c,d,h1,(hb.block _ (af6 h2)).trans h2,k h3,k h4,k h5,k h6⟩
 · exact⟨hD 11 h.1,acL h.2 hb⟩
theorem amz (w:World) (g n s:Nat) (hs:s<4294967296) (hy:akW g n=true):
 Calls Tryz.prog 145 #[.agg #[.int .u64 (g:Int), .int .u64 (n:Int), .int .u32 (s:Int)]] w fun e w'=>∃b,e= .returned (.slice (some ⟨b,0,none⟩) 512 512)/\w.heap.size<=b/\Fill w' b 5 (abQ g n s)/\Below w.heap.size w w':=by
 obtain⟨w1,hw1⟩:=nmE (w.alloc (.cells #[.int .u64 (g:Int), .int .u64 (n:Int), .int .u32 (s:Int)] 146));have hb1:=abE hw1;have n1:=anE hw1;have HM:=hE0 (aj3 w1 g n s _ hy);unfold akW at hy;simp only[Bool.and_eq_true,decide_eq_true_eq]at hy;have hg64:g<18446744073709551616:=by omega
 have hn64:n<18446744073709551616:=by omega
 obtain⟨d0,d1,d2⟩:=aam n1;have hl1:=aaa n1;have HB1:=hE0 hb1;have HW1:=hE0 hw1;have HN1:=hE0 n1;have HPUTg:=hE0 (fun W=>ago g W hg64);have HPUTn:=hE0 (fun W=>ago n W hn64);have HPUT4:=hE0 (fun W=>aiA s W hs);have HEND:=hE0 (fun w8 r a b c d=>anv g n s w8 r a b c d);clear hw1 hb1 n1 hy;go_enter Tryz.func145,Tryz.ntmps145
 go_wp2_with (first | (rw[HW1.out]) | fail)
 refine HM.out.mono ?_;rintro e w2 ⟨rfl,hb2⟩;obtain⟨wd,hwd⟩:=nmE w2.drew;have hbd:Below w1.heap.size w1 wd:=by rw[<-hwd];exact hb2.drew
 have nd:=(hbd.block _ (aaa HN1.out)).trans HN1.out;obtain⟨c0,c1,c2⟩:=aam nd;have hld:=aaa nd;have HBD:=hE0 hbd;have HWD:=hE0 hwd;clear hb2 hwd hbd nd d0 d1 d2 HM;go_wp2_with fail
 go_cut [3] from 8 (fun b wx=>wx.ownsRow wd.heap.size 5 1 b 28 ((abs g n s).map bv)/\Below wd.heap.size wd wx)
 case first=>
  refine aaD wd.heap.size (.two [2,3,5,6,8,9] 0 (.two [] 1 (.one [] 4 (.one [] 7 (.one [] 10 (.one [] 11 (.one [] 12 (.fin [13])))))) 4 (.two [] 1 (.one [] 7 (.one [] 10 (.one [] 11 (.one [] 12 (.fin [13]))))) 7 (.two [] 1 (.one [] 10 (.one [] 11 (.one [] 12 (.fin [13])))) 10 (.one [] 1 (.one [] 11 (.one [] 12 (.fin [13]))))))) 4 (.two [] 0 (.two [] 1 (.one [] 7 (.one [] 10 (.one [] 11 (.one [] 12 (.fin [13]))))) 7 (.two [] 1 (.one [] 10 (.one [] 11 (.one [] 12 (.fin [13])))) 10 (.one [] 1 (.one [] 11 (.one [] 12 (.fin [13])))))) 7 (.two [] 0 (.two [] 1 (.one [] 10 (.one [] 11 (.one [] 12 (.fin [13])))) 10 (.one [] 1 (.one [] 11 (.one [] 12 (.fin [13]))))) 10 (.one [] 0 (.one [] 1 (.one [] 11 (.one [] 12 (.fin [13])))))))) [] (by kernel_rfl) (by kernel_rfl) (by kernel_rfl) (fun _ _ _ _ _ h=>h) ?_;rw[HWD.out];have q0:=tfE c0 hld;have q1:=tfE c1 hld;have q2:=tfE c2 hld;refine abL (l:= ?segA) ?hsegA ?_
  case hsegA=>simp only[pick,lE1,lE2,lE3];rfl
  repeat (go_big_quiet_step (fail))
  refine wpQuiet_nil ?_;clear q0 q1 q2;refine amo (PT.any_inv (I:=slI) (d:=fun i=>8+i) (dp:=awo) (Inv:=fun D f w=>∀j,D j->slR wd.heap.size g n s j D (f j) w) (w0:=wd) (last:= [13]) (fun i _ j _ e=>Nat.add_left_cancel (show 8+i=8+j from e)) (fun i hi=>amn fun dn f W hn hI hdp hR hb=> ?_) (fun f W hI hb=> ?_) _ [] (fun _=>undef) wd (by kernel_rfl) (fun _ h=>by cases h) (fun _ h=>by cases h) (Below.refl _ _))
  · have hk:∀w',Below W.heap.size W w'->∀j∈dn,slR wd.heap.size g n s j (fun j=>j=i\/j∈dn) (f j) w':=fun w' b j hj=>arK (fun k h=> .inr h) b (hI j hj) (hR j hj);generalize hX:abg (fun i=>8+i) f dn _=X;have ev:∀j∈dn,j<13->X.eval (.tmp (8+j))=f j:=fun j hj h13=>by
     rw[<-hX];exact ahG (d:=fun i=>8+i) (I:=slI) (fun i _ j _ e=>Nat.add_left_cancel (show 8+i=8+j from e)) hI hj _ (by show 8+j<_;simp;omega)
    have old:=fun(t:Nat) (ht:∀i∈slI,8+i≠t)=>ajF (d:=fun i=>8+i) (f:=f) (l:=dn) (t:=t) fun i hi=>ht i (hI i hi);unfold slI at hi;simp only[List.mem_cons,List.not_mem_nil,or_false]at hi;rcases hi with rfl | rfl | rfl | rfl | rfl | rfl | rfl
    · have hb1:Below W.heap.size W (W.alloc (.cells (acb slMark) 5)):=(Below.refl _ _).alloc (Nat.le_refl _) _;exact aas (some 8) (w1:=W.alloc (.cells (acb slMark) 5)) (v:= .slice (some ⟨W.heap.size,0,none⟩) 8 8) rfl rfl rfl (aaQ rfl rfl (apf W)) (hb1.mono hb.size) ⟨wd.heap.size,Nat.le_refl _,_,rfl,fun _=>⟨W.heap.size,rfl,hb.size,heap_alloc_new W _⟩,hk _ hb1⟩
    · have h0:=hdp 0 (by decide);obtain⟨r,e,hr,hg⟩:=hR 0 h0 hn;obtain⟨v',hrun,fm,sz,kp,bl⟩:=ajZ (P:=Tryz.prog) W 37 5 r (acb slMark) 8 8 Tryz.underlying37 Tryz.underlying5 hg;have k:∀{A:Option Addr} {m:Nat} {bs:List UInt8},Rd W W.heap.size A m bs->Rd v' v'.heap.size A m bs:=fun h=>by
       rw[sz];refine h.keep fun p _=> ?_;by_cases ep:p.block=r
       · obtain⟨pb,po,ps⟩:=p;dsimp only at ep;subst ep;simp[World.cell?,hg,fm]
       · exact World.cell?_of_block (kp _ ep)
      refine aas (some 9) rfl rfl rfl (amy rfl ((ev 0 h0 (by omega)).trans e) hrun) (bl wd.heap.size hr) ⟨wd.heap.size,Nat.le_refl _,_,rfl,⟨r,rfl,acs fm⟩,fun j hj=> ?_⟩;have hj2:=hI j hj;unfold slI at hj2;simp only[List.mem_cons,List.not_mem_nil,or_false]at hj2;rcases hj2 with rfl | rfl | rfl | rfl | rfl | rfl | rfl
      · exact fun h=>absurd (.inl rfl) h
      · exact absurd hj hn
      · exact(hR 4 hj).imp fun r h=>⟨h.1,k h.2⟩
      · exact(hR 7 hj).imp fun r h=>⟨h.1,k h.2⟩
      · exact(hR 10 hj).imp fun r h=>⟨h.1,k h.2⟩
      · exact absurd (hR 11 hj).1 hn
      · exact absurd (hR 11 (hR 12 hj).1).1 hn
    · refine aar (vs:= #[.int .u64 (g:Int)]) Tryz.call120 rfl rfl (congrArg (fun x=> [x]) (by rw[<-hX];exact old 11 (by decide) _)) (R:=fun r w'=>(∃x,r= .slice (some ⟨x,0,none⟩) 8 8/\Rd w' w'.heap.size (some ⟨x,0,none⟩) (aaJ 8 g).length (aaJ 8 g))/\Below W.heap.size W w') ((HPUTg.out W).mono ?_) wd.heap.size (Nat.le_refl _) ?_
      · rintro e w' ⟨rfl,hf,hb'⟩;exact⟨_,rfl,hb'.mono hb.size,⟨_,rfl,acs hf⟩,hb'⟩
      · rintro r w' _ ⟨hx,hb'⟩;exact⟨_,rfl,hx,hk _ hb'⟩
    · refine aar (vs:= #[.int .u64 (n:Int)]) Tryz.call120 rfl rfl (congrArg (fun x=> [x]) (by rw[<-hX];exact old 14 (by decide) _)) (R:=fun r w'=>(∃x,r= .slice (some ⟨x,0,none⟩) 8 8/\Rd w' w'.heap.size (some ⟨x,0,none⟩) (aaJ 8 n).length (aaJ 8 n))/\Below W.heap.size W w') ((HPUTn.out W).mono ?_) wd.heap.size (Nat.le_refl _) ?_
      · rintro e w' ⟨rfl,hf,hb'⟩;exact⟨_,rfl,hb'.mono hb.size,⟨_,rfl,acs hf⟩,hb'⟩
      · rintro r w' _ ⟨hx,hb'⟩;exact⟨_,rfl,hx,hk _ hb'⟩
    · refine aar (vs:= #[.int .u32 (s:Int)]) Tryz.call183 rfl rfl (congrArg (fun x=> [x]) (by rw[<-hX];exact old 17 (by decide) _)) (R:=fun r w'=>(∃x,r= .slice (some ⟨x,0,none⟩) 4 4/\Rd w' w'.heap.size (some ⟨x,0,none⟩) (aaJ 4 s).length (aaJ 4 s))/\Below W.heap.size W w') ((HPUT4.out W).mono ?_) wd.heap.size (Nat.le_refl _) ?_
      · rintro e w' ⟨rfl,hf,hb'⟩;exact⟨_,rfl,hb'.mono hb.size,⟨_,rfl,acs hf⟩,hb'⟩
      · rintro r w' _ ⟨hx,hb'⟩;exact⟨_,rfl,hx,hk _ hb'⟩
    · have h1:=hdp 1 (by decide);have h4:=hdp 4 (by decide);have h7:=hdp 7 (by decide);have h10:=hdp 10 (by decide);obtain⟨a,ea,ra⟩:=hR 1 h1;obtain⟨b,eb,rb⟩:=hR 4 h4;obtain⟨c,ec,rc⟩:=hR 7 h7;obtain⟨d,ed,rd⟩:=hR 10 h10;obtain⟨w8,hw8⟩:=nmE (W.alloc (.cells #[.slice (some ⟨a,0,none⟩) 8 8, .slice (some ⟨b,0,none⟩) 8 8, .slice (some ⟨c,0,none⟩) 8 8, .slice (some ⟨d,0,none⟩) 4 4] 37));have hb8:=abE hw8;have n8:=anE hw8;have k:∀{A:Option Addr} {m:Nat} {bs:List UInt8},Rd W W.heap.size A m bs->Rd w8 w8.heap.size A m bs:=fun h=>(h.below hb8).more hb8.size;have x1:X.eval (.tmp 9)=_:=(ev 1 h1 (by omega)).trans ea;have x4:X.eval (.tmp 12)=_:=(ev 4 h4 (by omega)).trans eb;have x7:X.eval (.tmp 15)=_:=(ev 7 h7 (by omega)).trans ec;have x10:X.eval (.tmp 18)=_:=(ev 10 h10 (by omega)).trans ed;refine aas (some 19) (w1:=w8) (v:= .slice (some ⟨W.heap.size,0,none⟩) 4 4) rfl rfl rfl (by rw[<-hw8];exact aaQ rfl (by simp only[List.map_cons,List.map_nil];rw[x1,x4,x7,x10]) (apg W _ _ _ _ _ _ _ _ _ _ _ _)) (hb8.mono hb.size) ⟨wd.heap.size,Nat.le_refl _,_,rfl,⟨.inr h1,W.heap.size,a,b,c,d,rfl,n8,k ra,k rb,k rc,k rd⟩,hk _ hb8⟩
    · have h11:=hdp 11 (by decide);obtain⟨_,r,a,b,c,d,er,hg,r1,r2,r3,r4⟩:=hR 11 h11;refine aar (vs:= #[.slice (some ⟨r,0,none⟩) 4 4]) Tryz.call119 rfl rfl (congrArg (fun x=> [x]) ((ev 11 h11 (by omega)).trans er)) (R:=fun q w'=>w'.ownsRow W.heap.size 5 1 q 28 ((abs g n s).map bv)/\Below W.heap.size W w') ((HEND.out W r a b c d hg r1 r2 r3 r4).mono ?_) wd.heap.size (Nat.le_refl _) ?_
      · rintro e w' ⟨v,rfl,ho,hb'⟩;exact⟨_,rfl,hb'.mono hb.size,ho,hb'⟩
      · rintro q w' _ ⟨ho,hb'⟩;exact⟨_,rfl,⟨.inr h11,adu ho hb.size⟩,hk _ hb'⟩
  · obtain⟨_,ho⟩:=hI 12 (by decide);have HO:=hE0 ho;have HB:=hE0 hb;clear hI ho hb;unfold slI;simp only[abg,Act.put,List.setIfInBounds_toArray,List.set_cons_zero,List.set_cons_succ,Nat.reduceAdd];refine aaW (l:= ?finA) (t:= []) ?hfinA ?htfinA ?_
    case hfinA=>simp only[pick,lE1,lE2,lE3];rfl
    case htfinA=>rfl
    repeat (go_big_quiet_step (fail))
    refine wpQuiet_nil ?_;go_wp2_with fail
    go_meet
    case rel=>exact⟨HO.out,HB.out⟩
 case rest=>
  obtain⟨ho,hb⟩:=hcut;obtain⟨A0,k0,rfl,hA0⟩:=aeG ho;obtain⟨z,hz⟩:=nmE (List.replicate 32 (0:UInt8)++List.replicate 480 0);have hmk:(Instr.makeSlice 37 (.int .i64 512) (.int .i64 512)).run Tryz.prog wc= .ok (.slice (some ⟨wc.heap.size,0,none⟩) 512 512) (wc.alloc (.cells (acb z) 5)):=by
   have:=run_make_row' (P:=Tryz.prog) 37 5 (.int .u8 0) 1 Tryz.underlying37 afo rfl .i64 .i64 512 (by omega) (by omega) wc;rw[acK,show(512:Nat)=32+480 from rfl,<-List.replicate_append_replicate,hz]at this;exact this
  obtain⟨w3,hw3⟩:=nmE (wc.alloc (.cells (acb z) 5));have hf3:Fill w3 wc.heap.size 5 z:=by rw[<-hw3];exact Fill.made wc 5 _
  have hb3:=abE hw3;have HR0:=hE0 (((acP ho).below hb3).more hb3.size);have HK0:=hE0 hA0;obtain⟨u,hu⟩:=nmE (abZ 0 (abs g n s));have hul:u<4294967296:=by rw[<-hu];exact aeh _ _
  have hsum:=agq A0 28 k0 w3.heap.size (abs g n s) w3 HR0.out (by omega);rw[hu]at hsum;have HS:=hE0 hsum;have HU:=hE0 hu;have HF3:=hE0 hf3;have HBC:=hE0 hb;have HB3:=hE0 hb3;have HW3:=hE0 hw3;have HZ:=hE0 hz;have h28:28<=k0:=by
   rcases ho.2 with⟨h',_⟩ | ⟨_,_,_,hv,_,_,h',_,_⟩
   · omega
   · injection hv with _ _ e3;subst e3;exact h'
  clear ho hb hf3 hb3 hw3 hA0 hsum hu hz HPUTg HPUTn HPUT4 HEND;go_wp2_with (first | (rw[HW3.out]) | fail)
  refine HS.out.mono ?_;rintro e w4 ⟨rfl,rfl⟩;go_wp2_with fail
  refine(aiA u _ hul).mono ?_;rintro e w5 ⟨rfl,hf5,hb5⟩;have hf5':w5.heap[w3.heap.size]?=some (.cells (acb (aaJ 4 u)) 5 (0,0)):=hf5;obtain⟨w6,hw6⟩:=nmE (w5.alloc (.cells #[.slice A0 28 k0, .slice (some ⟨w3.heap.size,0,none⟩) 4 4] 37));have hb6:=abE hw6;have n6:=anE hw6;have hb56:=hb5.trans (hb6.mono hb5.size);have hd6:DtRd w6 w6.heap.size (some ⟨w5.heap.size,0,none⟩) [abs g n s,aaJ 4 u]:=asZ n6 (fun j x hx=>by
   match j,hx with
   | 0,hx=>injection hx with hx;subst hx;exact⟨A0,k0,by rw[abX];rfl,by rw[abX];exact(HR0.out.below hb56).more hb56.size,by rw[abX];decide,by rw[abX];exact h28,HK0.out⟩
   | 1,hx=>injection hx with hx;subst hx;exact⟨some ⟨w3.heap.size,0,none⟩,4,by rw[aag];rfl,((acs hf5').below hb6).more hb6.size,by rw[aag];decide,by rw[aag];decide,fun e=>by cases e⟩
   | j+2,hx=>cases hx)
  have hc6:=afw w6 (some ⟨w5.heap.size,0,none⟩) 2 [abs g n s,aaJ 4 u] hd6 (by simp) (by simp[abX,aag]);obtain⟨H,hH⟩:=nmE (abs g n s++ahO (abs g n s));have hHl:H.length=32:=by rw[<-hH,List.length_append,abX,ab6]
  have e6:([abs g n s,aaJ 4 u]:List (List UInt8)).flatten=H:=by rw[<-hH];unfold ahO;rw[HU.out];simp
  rw[e6,hHl]at hc6;have HC6:=hE0 hc6;have HB6:=hE0 hb56;have HW6:=hE0 hw6;have HHL:=hE0 hHl;have HH:=hE0 hH;clear hf5 hf5' hb5 hb6 n6 hd6 hc6 e6 hb56 hw6 hHl hH HS HR0 HK0 HU;have hbs2:=arJ w5 A0 (some ⟨w3.heap.size,0,none⟩) 28 k0 4 4;go_wp2_with (first | (rw[HW6.out]) | fail)
  clear hbs2;refine HC6.out.mono ?_;rintro e w7 ⟨v7,rfl,ho7,hb7⟩;obtain⟨A7,k7,rfl,_⟩:=aeG ho7;have hB7:=HB6.out.trans (hb7.mono HB6.out.size);have hf7:Fill w7 wc.heap.size 5 (List.replicate 32 (0:UInt8)++List.replicate 480 0):=by
   rw[HZ.out];exact HF3.out.below hB7 HF3.out.lt
  have hbb:=HBC.out.trans ((HB3.out.trans (hB7.mono HB3.out.size)).mono HBC.out.size);have hr7:=acP ho7;obtain⟨b7,o7,e7,_⟩:=hr7.2 (by omega);subst e7;have hov:=aph hf7 hbb HBC.out.size H (by rw[HHL.out];rfl);have hsrc:∀j v,(H.map bv)[j]?=some v->w7.cell? ((⟨b7,o7,none⟩:Addr).add j)=some v:=fun j v hj=>adm hr7 j v hj;have HOV:=hE0 hov;have HSRC:=hE0 hsrc;have HN:Hid ((H.map bv).length=Nat.min 32 512):=(show _=_ by rw[List.length_map,HHL.out];rfl);have HF7:=hE0 hf7;have HFIT:Hid (0+(H.map bv).length<=(acb (List.replicate 32 (0:UInt8)++List.replicate 480 0)).size):=(show _<=_ by rw[adP,List.length_map,HHL.out];simp);clear hov hsrc hf7 hbb hr7 ho7 hb7 hB7;go_wp2_with ((refine wpList_copy_own rfl (.tmp 22) (.tmp 28) 37 37 rfl 5 Tryz.underlying37 (by kernel_rfl) wc.heap.size 0 512 512 ⟨b7,o7,none⟩ 32 k7 rfl rfl _ 5 HF7.out (H.map bv) HN.out HSRC.out HFIT.out (afG _) ?_);generalize w7.setRow _ _=w9 at HOV ⊢)
  go_ret
  have hw1d:=Nat.le_trans HB1.out.size HBD.out.size;refine⟨wc.heap.size,rfl,Nat.le_trans hw1d HBC.out.size,?_,HB1.out.trans ((HBD.out.trans (HOV.out.2.mono HBD.out.size)).mono HB1.out.size)⟩;have e:abQ g n s=H++List.replicate 480 0:=by rw[<-HH.out];rfl
  rw[e];exact HOV.out.1
theorem api (w:World) (g n s:Nat) (hs:s<4294967296):
 Calls Tryz.prog 145 #[.agg #[.int .u64 (g:Int), .int .u64 (n:Int), .int .u32 (s:Int)]] w fun e w'=>∃A m c,e= .returned (.slice A m c)/\(A=none->c=0)/\Rd w' w'.heap.size A m (aov g n s)/\Below w.heap.size w w':=by
 cases h:akW g n with
 | false=>
  refine(arI w g n s h).mono ?_;rintro e w' ⟨rfl,hb⟩;refine⟨none,0,0,rfl,fun _=>rfl,?_,hb⟩;unfold aov;rw[if_neg (by rw[h];simp)];exact Rd.nil_
 | true=>
  refine(amz w g n s hs h).mono ?_;rintro e w' ⟨b,rfl,_,hf,hb⟩;refine⟨_,512,512,rfl,(fun e=>by cases e),?_,hb⟩;unfold aov;rw[if_pos h];have:=hf.reads;rw[ad0]at this;exact this
theorem arL (a b:List UInt8):((anh a).toList==(anh b).toList)=decide (a=b):=by
 unfold anh;simp;by_cases h:a=b<;>simp[h]
theorem ahr (w:World) (A1 A2:Option Addr) (n1 c1 n2 c2 B:Nat) (x y:List UInt8) (h1:Rd w B A1 n1 x) (h2:Rd w B A2 n2 y) (t:Bool) (ht:decide (x=y)=t):
 Calls Tryz.prog 251 #[.slice A1 n1 c1, .slice A2 n2 c2] w fun e w'=>e= .returned (.bool t)/\w=w':=by
 have q1:=adS (c:=c1) h1;have q2:=adS (c:=c2) h2;have gy:=arL x y;obtain⟨S,hS⟩:=nmE (anh x);obtain⟨T,hT⟩:=nmE (anh y);rw[hS]at q1;rw[hT]at q2;rw[hS,hT,ht]at gy;clear h1 h2 hS hT ht;go_enter Tryz.func251,Tryz.ntmps251
 go_wp2
 go_ret
 exact⟨rfl,rfl⟩
theorem alh{fn:Func}{R:Ending->World->Prop}{a:Act}{w:World}{p u:Tmp}{g:Nat}{x y0 y1 y2:Value}(hres:fn.results= #[.cell p 146, .tmp u]) (hp:a.tmps.getD p undef= .pointer (some ⟨g,0,none⟩)) (hx:a.tmps.getD u undef=x) (hd:a.defers= [])
 (hg:w.heap[g]?=some (.cells #[y0,y1,y2] 146 (0,0))) (hR:R (.returned (.tuple #[.agg #[y0,y1,y2],x])) w):bodyPost Tryz.prog fn R .ret a w:=by
 obtain⟨c0,c1,c2⟩:=aam hg;refine bodyPost_ret (v:= .tuple #[.agg #[y0,y1,y2],x]) ?_ hd hR;rw[results_cell_tmp hres,hp,hx];simp[go_sem,c0,c1,c2]
theorem arM{fn:Func}{R:Ending->World->Prop}{a:Act}{w:World}{p:Tmp}{g:Nat}{n s:Int}{k:Int}(hres:fn.results= #[.cell p 146]) (hp:a.tmps.getD p undef= .pointer (some ⟨g,0,none⟩)) (hd:a.defers= [])
 (hg:w.heap[g]?=some (.cells #[.int .u64 n, .int .u64 s, .int .u32 k] 146 (0,0))) (hR:R (.returned (.agg #[.int .u64 n, .int .u64 s, .int .u32 k])) w):bodyPost Tryz.prog fn R .ret a w:=by
 refine bodyPost_ret (v:= .agg #[.int .u64 n, .int .u64 s, .int .u32 k]) ?_ hd hR;exact results_cell_row hres _ _ g _ _ _ _ hp hg rfl rfl rfl
theorem aiR (w:World) (A:Option Addr) (c:Nat) (b:List UInt8) (hr:Rd w w.heap.size A 512 b) (hc:512<=c) (G N S:Nat) (hG:slG b=G) (hN:slN b=N) (hS:slS b=S):
 Calls Tryz.prog 250 #[.slice A 512 c] w fun e w'=>e= .returned (.agg #[.int .u64 (G:Int), .int .u64 (N:Int), .int .u32 (S:Int)])/\Below w.heap.size w w':=by
 obtain⟨w1,hw1⟩:=nmE (w.alloc (.cells #[.int .u64 0, .int .u64 0, .int .u32 0] 146));have hb1:=abE hw1;have n1:=anE hw1;have hr1:=hr.below hb1;have HG:=hE0 (adQ A 512 c w.heap.size b 8 w1 hr1 hc (by omega) (by omega));have HN:=hE0 (adQ A 512 c w.heap.size b 16 w1 hr1 hc (by omega) (by omega));have HS:=hE0 (amh A 512 c w.heap.size b 24 w1 hr1 hc (by omega) (by omega));unfold slG at hG;unfold slN at hN;unfold slS at hS;rw[hG]at HG;rw[hN]at HN;rw[hS]at HS;obtain⟨z0,z1,z2⟩:=aam n1;obtain⟨f0,f1,f2⟩:=acQ n1;have hl1:=aaa n1;have HW1:=hE0 hw1;have HM:=hE0 (ae5 n1 (.int .u64 (G:Int)) (.int .u64 (N:Int)) (.int .u32 (S:Int)));have HF:=hE0 (((hb1.setCell (p:=⟨w.heap.size,0,none⟩) (Nat.le_refl _) (.int .u64 (G:Int))).setCell (p:=⟨w.heap.size,1,none⟩) (Nat.le_refl _) (.int .u64 (N:Int))).setCell (p:=⟨w.heap.size,2,none⟩) (Nat.le_refl _) (.int .u32 (S:Int)));clear hw1 hb1 n1 hr hr1 hG hN hS;go_enter Tryz.func250,Tryz.ntmps250
 go_wp2_with (first | (rw[HW1.out]) | fail)
 refine HG.out.mono ?_;rintro e w2 ⟨rfl,rfl⟩;go_wp2_with fail
 refine HN.out.mono ?_;rintro e w2 ⟨rfl,rfl⟩;go_wp2_with fail
 refine HS.out.mono ?_;rintro e w2 ⟨rfl,rfl⟩;go_wp2_with fail
 (try simp only[Exit.inBlock,Exit.then])
 refine arM (g:=w.heap.size) Tryz.results250 ?_ ?_ HM.out ?_
 · rfl
 · rfl
 · exact⟨rfl,HF.out⟩
theorem apj (w:World) (A:Option Addr) (n c:Nat) (hn:n≠512):
 Calls Tryz.prog 205 #[.slice A n c] w fun e w'=>e= .returned (.tuple #[.agg #[.int .u64 0, .int .u64 0, .int .u32 0], .bool false])/\Below w.heap.size w w':=by
 obtain⟨w1,hw1⟩:=nmE (w.alloc (.cells #[.int .u64 0, .int .u64 0, .int .u32 0] 146));have hb1:=abE hw1;have n1:=anE hw1;obtain⟨z0,z1,z2⟩:=aam n1;obtain⟨f0,f1,f2⟩:=acQ n1;have hl1:=aaa n1;have g1:(n !=512)=true:=by rw[bne_iff_ne];exact hn
 have g2:((n:Int) !=512)=true:=by rw[bne_iff_ne];omega
 have HW1:=hE0 hw1;have HM:=hE0 (ae5 n1 (.int .u64 0) (.int .u64 0) (.int .u32 0));have HF:=hE0 (((hb1.setCell (p:=⟨w.heap.size,0,none⟩) (Nat.le_refl _) (.int .u64 0)).setCell (p:=⟨w.heap.size,1,none⟩) (Nat.le_refl _) (.int .u64 0)).setCell (p:=⟨w.heap.size,2,none⟩) (Nat.le_refl _) (.int .u32 0));clear hw1 hb1 n1;go_enter Tryz.func205,Tryz.ntmps205
 go_wp2_with (first | (rw[HW1.out]) | fail)
 (try simp only[Exit.inBlock,Exit.then])
 refine alh (g:=w.heap.size) (x:= .bool false) Tryz.results205 ?_ ?_ ?_ HM.out ?_
 · rfl
 · rfl
 · rfl
 · exact⟨rfl,HF.out⟩
theorem apk (w:World) (A:Option Addr) (c:Nat) (b:List UInt8) (hr:Rd w w.heap.size A 512 b) (hc:512<=c) (G N S:Nat) (hG:slG b=G) (hN:slN b=N) (hS:slS b=S) (y:Bool) (hy:decide (aov G N S≠b)=y):
 Calls Tryz.prog 205 #[.slice A 512 c] w fun e w'=>e= .returned (.tuple #[.agg #[.int .u64 (if y=true then 0 else (G:Int)), .int .u64 (if y=true then 0 else (N:Int)), .int .u32 (if y=true then 0 else (S:Int))], .bool (!y)])/\Below w.heap.size w w':=by
 have hSl:S<4294967296:=by
  have h:=agk ((b.drop 24).take 4);have e:((b.drop 24).take 4).length=4:=by rw[List.length_take,List.length_drop,hr.1];rfl
  rw[e]at h;rw[<-hS];exact h
 obtain⟨w1,hw1⟩:=nmE (w.alloc (.cells #[.int .u64 0, .int .u64 0, .int .u32 0] 146));have hb1:=abE hw1;have n1:=anE hw1;have HNUM:=hE0 (aiR w1 A c b ((hr.below hb1).more hb1.size) hc G N S hG hN hS);have HPUT:=hE0 (fun V=>api V G N S hSl);obtain⟨P,hP⟩:=nmE (aov G N S);rw[hP]at hy HPUT;have ht:decide (b=P)= !y:=by
  rw[<-hy];by_cases e:P=b
  · subst e;simp
  · rw[decide_eq_false (fun h=>e h.symm),decide_eq_true e];rfl
 have HT:=hE0 ht;have HR:=hE0 hr;have HB1:=hE0 hb1;have HN1:=hE0 n1;have HW1:=hE0 hw1;clear hw1 hb1 n1 hr hP hy hG hN hS ht;go_enter Tryz.func205,Tryz.ntmps205
 go_wp2_with (first | (rw[HW1.out]) | fail)
 refine HNUM.out.mono ?_;rintro e w2 ⟨rfl,hb2⟩;obtain⟨w3,hw3⟩:=nmE (w2.alloc (.cells #[.int .u64 0, .int .u64 0, .int .u32 0] 146));have hb3:=abE hw3;have n3:=anE hw3;obtain⟨w5,hw5⟩:=nmE ((((w3.setCell ⟨w2.heap.size,0,none⟩ (.int .u64 (G:Int))).setCell ⟨w2.heap.size,1,none⟩ (.int .u64 (N:Int))).setCell ⟨w2.heap.size,2,none⟩ (.int .u32 (S:Int))));have n5:w5.heap[w2.heap.size]?=some (.cells #[.int .u64 (G:Int), .int .u64 (N:Int), .int .u32 (S:Int)] 146 (0,0)):=by rw[<-hw5];exact ae5 n3 _ _ _
 have hb5:Below w2.heap.size w2 w5:=by rw[<-hw5];exact((hb3.setCell (p:=⟨w2.heap.size,0,none⟩) (Nat.le_refl _) _).setCell (p:=⟨w2.heap.size,1,none⟩) (Nat.le_refl _) _).setCell (p:=⟨w2.heap.size,2,none⟩) (Nat.le_refl _) _
 obtain⟨z0,z1,z2⟩:=aam n3;obtain⟨f0,f1,f2⟩:=acQ n3;have hlz:=aaa n3;have hb25:=hb2.trans (hb5.mono hb2.size);have HNR:=hE0 ((hb25.block _ (aaa HN1.out)).trans HN1.out);have HB5:=hE0 (HB1.out.trans (hb25.mono HB1.out.size));have HN5:=hE0 n5;have HW3:=hE0 hw3;have HW5:=hE0 hw5;obtain⟨c0,c1,c2⟩:=aam n5;have hl5:=aaa n5;clear hb2 hw3 hb3 n3 hw5 n5 hb5 hb25 HNUM;go_wp2_with (first | (rw[HW3.out]) | (rw[HW5.out]) | fail)
 clear z0 z1 z2 f0 f1 f2 hlz c0 c1 c2 hl5;refine(HPUT.out w5).mono ?_;rintro e w6 ⟨A6,m6,c6,rfl,_,hr6,hb6⟩;have HB6:=hE0 (HB5.out.trans (hb6.mono HB5.out.size));have HEQ:=hE0 (ahr w6 A A6 512 c m6 c6 w6.heap.size b P ((HR.out.below HB6.out).more HB6.out.size) hr6 _ HT.out);have e6:=(hb6.block _ (aaa HN5.out)).trans HN5.out;have e7:=(hb6.block _ (aaa HNR.out)).trans HNR.out;clear hr6 hb6;go_wp2_with fail
 refine HEQ.out.mono ?_;rintro e w7 ⟨rfl,rfl⟩;obtain⟨r0,r1,r2⟩:=aam e6;have hle:=aaa e6;obtain⟨q0,q1,q2⟩:=aam e7;obtain⟨f0,f1,f2⟩:=acQ e7;have hlq:=aaa e7;have HM:=hE0 (ae5 e7 (.int .u64 (if y=true then 0 else (G:Int))) (.int .u64 (if y=true then 0 else (N:Int))) (.int .u32 (if y=true then 0 else (S:Int))));have HF:=hE0 (((HB6.out.setCell (p:=⟨w.heap.size,0,none⟩) (Nat.le_refl _) (.int .u64 (if y=true then 0 else (G:Int)))).setCell (p:=⟨w.heap.size,1,none⟩) (Nat.le_refl _) (.int .u64 (if y=true then 0 else (N:Int)))).setCell (p:=⟨w.heap.size,2,none⟩) (Nat.le_refl _) (.int .u32 (if y=true then 0 else (S:Int))));clear e6 e7 HEQ
 cases y with
 | true=>
  simp only[if_true]at HM HF;go_wp2
  (try simp only[Exit.inBlock,Exit.then])
  refine alh (g:=w.heap.size) (x:= .bool false) Tryz.results205 ?_ ?_ ?_ HM.out ?_
  · rfl
  · rfl
  · rfl
  · exact⟨rfl,HF.out⟩
 | false=>
  simp only[Bool.false_eq_true,if_false]at HM HF;go_wp2
  (try simp only[Exit.inBlock,Exit.then])
  refine alh (g:=w.heap.size) (x:= .bool true) Tryz.results205 ?_ ?_ ?_ HM.out ?_
  · rfl
  · rfl
  · rfl
  · exact⟨rfl,HF.out⟩
def acI (b:List UInt8):Bool:=decide (b.length=512)&&decide (aov (slG b) (slN b) (slS b)=b)
def ahs (b:List UInt8) (v:Nat):Nat:=if acI b=true then v else 0
theorem ali (b:List UInt8) (v:Nat) (y:Bool) (h:acI b= !y):(if y=true then (0:Int) else (v:Int))=((ahs b v:Nat):Int):=by
 unfold ahs;rw[h]
 cases y<;>rfl
theorem afx (b:List UInt8) (v:Nat) (h:acI b=false):(0:Int)=((ahs b v:Nat):Int):=by
 unfold ahs;rw[h];rfl
theorem apl{b:List UInt8}(h:b.length=512):decide (aov (slG b) (slN b) (slS b)≠b)= !acI b:=by
 unfold acI;rw[decide_eq_true h,Bool.true_and];by_cases e:aov (slG b) (slN b) (slS b)=b
 · rw[decide_eq_true e,decide_eq_false (fun k=>k e)];rfl
 · rw[decide_eq_false e,decide_eq_true e];rfl
theorem apm (w:World) (A:Option Addr) (n c:Nat) (b:List UInt8) (hr:Rd w w.heap.size A n b) (hnc:n<=c):
 Calls Tryz.prog 205 #[.slice A n c] w fun e w'=>e= .returned (.tuple #[.agg #[.int .u64 (ahs b (slG b):Int), .int .u64 (ahs b (slN b):Int), .int .u32 (ahs b (slS b):Int)], .bool (acI b)])/\Below w.heap.size w w':=by
 by_cases hn:n=512
 · subst hn;refine(apk w A c b hr hnc _ _ _ rfl rfl rfl _ (apl hr.1)).mono ?_;rintro e w' ⟨rfl,hb⟩;refine⟨?_,hb⟩;rw[ali b _ _ (Bool.not_not _).symm,ali b _ _ (Bool.not_not _).symm,ali b _ _ (Bool.not_not _).symm,Bool.not_not]
 · refine(apj w A n c hn).mono ?_;rintro e w' ⟨rfl,hb⟩;have h:acI b=false:=by unfold acI;rw[decide_eq_false (by rw[hr.1];exact hn)];rfl
   refine⟨?_,hb⟩;rw[<-afx b _ h,<-afx b _ h,<-afx b _ h,h]
theorem apn{g n s:Nat}(hy:akW g n=true) (hs:s<4294967296):acI (abQ g n s)=true/\ahs (abQ g n s) (slG (abQ g n s))=g/\ahs (abQ g n s) (slN (abQ g n s))=n/\ahs (abQ g n s) (slS (abQ g n s))=s:=by
 have h:=hy;unfold akW at h;simp only[Bool.and_eq_true,decide_eq_true_eq]at h;obtain⟨e1,e2,e3⟩:=ape (g:=g) (n:=n) (s:=s) (by omega) (by omega) hs;have hr:acI (abQ g n s)=true:=by
  unfold acI;rw[e1,e2,e3,decide_eq_true (ad0 g n s),Bool.true_and];unfold aov;rw[if_pos hy,decide_eq_true rfl]
 unfold ahs;rw[if_pos hr,if_pos hr,if_pos hr];exact⟨hr,e1,e2,e3⟩
theorem alj:acI (List.replicate 512 0)=false:=by
 have e:slG (List.replicate 512 0)=0:=by unfold slG;rw[List.drop_replicate,List.take_replicate];rfl
 have hk:∀n,¬akW 0 n=true:=fun n h=>by unfold akW at h;cases h
 unfold acI aov;rw[e,if_neg (hk _)];rw[decide_eq_false (fun h: []=List.replicate 512 (0:UInt8)=>by have:=congrArg List.length h;rw[List.length_replicate]at this;cases this),Bool.and_false]
theorem aiS{b:List UInt8}(h:acI b=true):aov (slG b) (slN b) (slS b)=b/\ahs b (slG b)=slG b/\ahs b (slN b)=slN b/\ahs b (slS b)=slS b:=by
 unfold ahs;rw[if_pos h,if_pos h,if_pos h];unfold acI at h;rw[Bool.and_eq_true]at h;exact⟨of_decide_eq_true h.2,rfl,rfl,rfl⟩
theorem auT (b:List UInt8):slS b<4294967296:=by
 have h:=agk ((b.drop 24).take 4);have e:((b.drop 24).take 4).length<=4:=by rw[List.length_take];omega
 have:(256:Nat)^((b.drop 24).take 4).length<=256^4:=Nat.pow_le_pow_right (by omega) e;unfold slS;omega
theorem ad1{w:World}{g:Nat}{t:TypeId}{y0 y1 y2:Value}(h:w.heap[g]?=some (.cells #[y0,y1,y2] t (0,0))):(w.cell? ⟨g,0,none⟩=some y0/\w.cell? ⟨g,1,none⟩=some y1/\w.cell? ⟨g,2,none⟩=some y2)/\(w.frozen? ⟨g,0,none⟩=false/\w.frozen? ⟨g,1,none⟩=false/\w.frozen? ⟨g,2,none⟩=false)/\g<w.heap.size:=
 ⟨⟨by rw[cell_of_row w g 0 _ _ (0,0) h];rfl,by rw[cell_of_row w g 1 _ _ (0,0) h];rfl,by rw[cell_of_row w g 2 _ _ (0,0) h];rfl⟩,⟨frozen_of_row w g 0 _ _ h,frozen_of_row w g 1 _ _ h,frozen_of_row w g 2 _ _ h⟩,aaa h⟩
theorem aj4 (w:World) (t:TypeId) (y0 y1 y2:Value):∃w',Hid (w.alloc (.cells #[y0,y1,y2] t)=w')/\Hid (w'.heap[w.heap.size]?=some (.cells #[y0,y1,y2] t (0,0)))/\Hid (Below w.heap.size w w'):=
 ⟨_,hE0 rfl,hE0 (heap_alloc_new w _),hE0 ((Below.refl _ _).alloc (Nat.le_refl _) _)⟩
theorem auH{w:World}{g:Nat}{t:TypeId}{y0 y1 y2:Value}(h:Hid (w.heap[g]?=some (.cells #[y0,y1,y2] t (0,0)))) (x0 x1 x2:Value):∃w',Hid ((((w.setCell ⟨g,0,none⟩ x0).setCell ⟨g,1,none⟩ x1).setCell ⟨g,2,none⟩ x2)=w')/\Hid (w'.heap[g]?=some (.cells #[x0,x1,x2] t (0,0)))/\Hid (∀B v,B<=g->Below B v w->Below B v w')/\(w.cell? ⟨g,0,none⟩=some y0/\w.cell? ⟨g,1,none⟩=some y1/\w.cell? ⟨g,2,none⟩=some y2)/\(w.frozen? ⟨g,0,none⟩=false/\w.frozen? ⟨g,1,none⟩=false/\w.frozen? ⟨g,2,none⟩=false)/\g<w.heap.size:=by
 have h0:=h.out;have h1:(_:Option Obj)=some (.cells #[x0,y1,y2] t (0,0)):=heap_setCell_same _ g 0 _ _ x0 h0;have h2:(_:Option Obj)=some (.cells #[x0,x1,y2] t (0,0)):=heap_setCell_same _ g 1 _ _ x1 h1;have h3:(_:Option Obj)=some (.cells #[x0,x1,x2] t (0,0)):=heap_setCell_same _ g 2 _ _ x2 h2;exact⟨_,hE0 rfl,hE0 h3,hE0 (fun B v hB hv=>(Below.setCell (Below.setCell (Below.setCell hv (p:=⟨g,0,none⟩) hB _) (p:=⟨g,1,none⟩) hB _) (p:=⟨g,2,none⟩) hB _)),ad1 h0⟩
theorem ahR{w:World}{g:Nat}{t:TypeId}{y0 y1 y2 y3 y4 y5 y6:Value}(h:w.heap[g]?=some (.cells #[y0,y1,y2,y3,y4,y5,y6] t (0,0))):(w.cell? ⟨g,0,none⟩=some y0/\w.cell? ⟨g,1,none⟩=some y1/\w.cell? ⟨g,2,none⟩=some y2/\w.cell? ⟨g,3,none⟩=some y3/\w.cell? ⟨g,4,none⟩=some y4/\w.cell? ⟨g,5,none⟩=some y5/\w.cell? ⟨g,6,none⟩=some y6)/\(w.frozen? ⟨g,0,none⟩=false/\w.frozen? ⟨g,1,none⟩=false/\w.frozen? ⟨g,2,none⟩=false/\w.frozen? ⟨g,3,none⟩=false/\w.frozen? ⟨g,4,none⟩=false/\w.frozen? ⟨g,5,none⟩=false/\w.frozen? ⟨g,6,none⟩=false)/\g<w.heap.size:=
 ⟨⟨by rw[cell_of_row w g 0 _ _ (0,0) h];rfl,by rw[cell_of_row w g 1 _ _ (0,0) h];rfl,by rw[cell_of_row w g 2 _ _ (0,0) h];rfl,by rw[cell_of_row w g 3 _ _ (0,0) h];rfl,by rw[cell_of_row w g 4 _ _ (0,0) h];rfl,by rw[cell_of_row w g 5 _ _ (0,0) h];rfl,by rw[cell_of_row w g 6 _ _ (0,0) h];rfl⟩,⟨frozen_of_row w g 0 _ _ h,frozen_of_row w g 1 _ _ h,frozen_of_row w g 2 _ _ h,frozen_of_row w g 3 _ _ h,frozen_of_row w g 4 _ _ h,frozen_of_row w g 5 _ _ h,frozen_of_row w g 6 _ _ h⟩,aaa h⟩
theorem apo (w:World) (t:TypeId) (y0 y1 y2 y3 y4 y5 y6:Value):∃w',Hid (w.alloc (.cells #[y0,y1,y2,y3,y4,y5,y6] t)=w')/\Hid (w'.heap[w.heap.size]?=some (.cells #[y0,y1,y2,y3,y4,y5,y6] t (0,0)))/\Hid (Below w.heap.size w w'):=
 ⟨_,hE0 rfl,hE0 (heap_alloc_new w _),hE0 ((Below.refl _ _).alloc (Nat.le_refl _) _)⟩
theorem auU{w:World}{g:Nat}{t:TypeId}{y0 y1 y2 y3 y4 y5 y6:Value}(h:Hid (w.heap[g]?=some (.cells #[y0,y1,y2,y3,y4,y5,y6] t (0,0)))) (x0 x1 x2 x3 x4 x5 x6:Value):∃w',Hid ((((((((w.setCell ⟨g,0,none⟩ x0).setCell ⟨g,1,none⟩ x1).setCell ⟨g,2,none⟩ x2).setCell ⟨g,3,none⟩ x3).setCell ⟨g,4,none⟩ x4).setCell ⟨g,5,none⟩ x5).setCell ⟨g,6,none⟩ x6)=w')/\Hid (w'.heap[g]?=some (.cells #[x0,x1,x2,x3,x4,x5,x6] t (0,0)))/\Hid (∀B v,B<=g->Below B v w->Below B v w')/\(w.cell? ⟨g,0,none⟩=some y0/\w.cell? ⟨g,1,none⟩=some y1/\w.cell? ⟨g,2,none⟩=some y2/\w.cell? ⟨g,3,none⟩=some y3/\w.cell? ⟨g,4,none⟩=some y4/\w.cell? ⟨g,5,none⟩=some y5/\w.cell? ⟨g,6,none⟩=some y6)/\(w.frozen? ⟨g,0,none⟩=false/\w.frozen? ⟨g,1,none⟩=false/\w.frozen? ⟨g,2,none⟩=false/\w.frozen? ⟨g,3,none⟩=false/\w.frozen? ⟨g,4,none⟩=false/\w.frozen? ⟨g,5,none⟩=false/\w.frozen? ⟨g,6,none⟩=false)/\g<w.heap.size:=by
 have h0:=h.out;have h1:(_:Option Obj)=some (.cells #[x0,y1,y2,y3,y4,y5,y6] t (0,0)):=heap_setCell_same _ g 0 _ _ x0 h0;have h2:(_:Option Obj)=some (.cells #[x0,x1,y2,y3,y4,y5,y6] t (0,0)):=heap_setCell_same _ g 1 _ _ x1 h1;have h3:(_:Option Obj)=some (.cells #[x0,x1,x2,y3,y4,y5,y6] t (0,0)):=heap_setCell_same _ g 2 _ _ x2 h2;have h4:(_:Option Obj)=some (.cells #[x0,x1,x2,x3,y4,y5,y6] t (0,0)):=heap_setCell_same _ g 3 _ _ x3 h3;have h5:(_:Option Obj)=some (.cells #[x0,x1,x2,x3,x4,y5,y6] t (0,0)):=heap_setCell_same _ g 4 _ _ x4 h4;have h6:(_:Option Obj)=some (.cells #[x0,x1,x2,x3,x4,x5,y6] t (0,0)):=heap_setCell_same _ g 5 _ _ x5 h5;have h7:(_:Option Obj)=some (.cells #[x0,x1,x2,x3,x4,x5,x6] t (0,0)):=heap_setCell_same _ g 6 _ _ x6 h6;exact⟨_,hE0 rfl,hE0 h7,hE0 (fun B v hB hv=>(Below.setCell (Below.setCell (Below.setCell (Below.setCell (Below.setCell (Below.setCell (Below.setCell hv (p:=⟨g,0,none⟩) hB _) (p:=⟨g,1,none⟩) hB _) (p:=⟨g,2,none⟩) hB _) (p:=⟨g,3,none⟩) hB _) (p:=⟨g,4,none⟩) hB _) (p:=⟨g,5,none⟩) hB _) (p:=⟨g,6,none⟩) hB _)),ahR h0⟩
structure Wr where
 s:Nat
 b:Nat
 c:Nat
 d:List UInt8
def Wr.two (x:Wr):Nat × List UInt8:=(x.s,x.d)
def akX:List Wr->List Value
 | []=> []
 | x::r=> .int .i64 (x.s:Int):: .slice (some ⟨x.b,0,none⟩) 512 x.c::akX r
theorem agA (a b:List Wr):akX (a++b)=akX a++akX b:=by
 induction a with
 | nil=>rfl
 | cons x r ih=>simp[akX,ih]
theorem amA:∀(ws:List Wr) (i:Nat) (x:Wr),ws[i]?=some x->(akX ws)[i*2]?=some (.int .i64 (x.s:Int))/\(akX ws)[i*2+1]?=some (.slice (some ⟨x.b,0,none⟩) 512 x.c)
 | [],_,_,h=>by simp at h
 | y::r,0,x,h=>by
  simp at h;subst h;exact⟨rfl,rfl⟩
 | y::r,i+1,x,h=>by
  have:=amA r i x (by simpa using h);have e:(i+1)*2=i*2+1+1:=by omega
  rw[e];exact⟨by simpa[akX]using this.1,by simpa[akX]using this.2⟩
def Fil (w:World) (b:Nat) (d:List UInt8):Prop:=∃cur:Array Value,w.heap[b]?=some (.cells cur 5 (0,0))/\d.length<=cur.size/\cur.toList.take d.length=d.map bv
section
variable {w w':World} {b:Nat} {d:List UInt8}
theorem Fil.lt (h:Fil w b d):b<w.heap.size:=by
 obtain⟨_,h,_⟩:=h;exact aae h
theorem Fil.keep (h:Fil w b d) (hk:w'.heap[b]?=w.heap[b]?):Fil w' b d:=by
 obtain⟨cur,h1,h2⟩:=h;exact⟨cur,hk.trans h1,h2⟩
theorem Fil.reads (h:Fil w b d):Rd w w.heap.size (some ⟨b,0,none⟩) d.length d:=by
 have hlt:=h.lt;obtain⟨cur,h1,h2,h3⟩:=h;refine⟨rfl,fun _=>⟨b,0,rfl,hlt,fun j u hu=> ?_⟩⟩;have hj:j<d.length:=by
  rcases Nat.lt_or_ge j d.length with h | h
  · exact h
  · rw[List.getElem?_eq_none h]at hu;cases hu
 rw[Nat.zero_add,cell_of_row w b j _ _ (0,0) h1];have:(cur.toList.take d.length)[j]?=(d.map bv)[j]?:=by rw[h3]
 rw[List.getElem?_take_of_lt hj,List.getElem?_map,hu]at this;simpa[bv]using this
theorem Fil.of_own{base n c g:Nat}(h:w.ownsRow base 5 1 (.slice (some ⟨g,0,none⟩) n c) n (d.map bv)):Fil w g d:=by
 rcases h.2 with⟨h',_⟩ | ⟨g',cap,cur,h',_,hh,hnc,_,hcs,hcur⟩
 · cases h'
 · injection h' with e1 e2 e3;injection e1 with e1;injection e1 with e1;subst e1;have e:n=d.length:=by have:=h.1;simpa using this.symm
   subst e;exact⟨cur,hh,by omega,by simpa using hcur⟩
end
structure Dk (S:Nat->Prop) (w:World) (g h c:Nat) (W:Option Addr) (cw:Nat) (bs:List UInt8) (ws:List Wr) (left:Int) (off:Bool):Prop where
 obj:w.heap[g]?=some (.cells #[.slice (some ⟨h,0,none⟩) bs.length c, .slice W ws.length cw, .int .i64 left, .bool off] 128 (0,0))
 own:w.ownsRow 0 5 1 (.slice (some ⟨h,0,none⟩) bs.length c) bs.length (bs.map bv)
 wai:w.ownsRow 0 167 2 (.slice W ws.length cw) ws.length (akX ws)
 row:∀x∈ws,x.s*512+512<=bs.length/\x.b≠h/\x.d.length=512/\Fil w x.b x.d
 sg:S g
 sh:S h
 sw:∀a,W=some a->S a.block
 sx:∀x∈ws,S x.b
def ad2 (S:Nat->Prop) (w w':World) (k:Nat):Prop:=S k\/(w.heap.size<=k/\k<w'.heap.size)
theorem acv{w w':World}{base n size:Nat}{e:TypeId}{v:Value}{xs:List Value}(h:w.ownsRow base e size v n xs) (hk:∀k,v.ownBlock=some k->w'.heap[k]?=w.heap[k]?):w'.ownsRow base e size v n xs:=by
 refine⟨h.1,?_⟩;rcases h.2 with h2 | ⟨g,cap,cur,hv,hg,hh,r⟩
 · exact .inl h2
 · refine .inr ⟨g,cap,cur,hv,hg,?_,r⟩;rw[hk g (by rw[hv];rfl)];exact hh
theorem af8{w:World}{base n size c:Nat}{e:TypeId}{a:Addr}{xs:List Value}(h:w.ownsRow base e size (.slice (some a) n c) n xs):∃b,a=⟨b,0,none⟩/\∃cur,w.heap[b]?=some (.cells cur e (0,0)):=by
 rcases h.2 with⟨h',_⟩ | ⟨g',cap,cur,h',_,hh,_⟩
 · cases h'
 · injection h' with e1;injection e1 with e1;exact⟨g',e1,cur,hh⟩
theorem afy{w:World}{a b:Nat}{s t:TypeId}{x y:Array Value}(h:w.heap[a]?=some (.cells x s (0,0))) (k:w.heap[b]?=some (.cells y t (0,0))) (hne:s≠t):a≠b:=by
 intro e;subst e;rw[h]at k;injection k with k;injection k with _ k;exact hne k
section
variable {S S':Nat->Prop} {w w':World} {g h c:Nat} {W:Option Addr} {cw:Nat} {bs:List UInt8} {ws:List Wr} {left:Int} {off:Bool}
theorem Dk.c0 (k:Dk S w g h c W cw bs ws left off):w.cell? ⟨g,0,none⟩=some (.slice (some ⟨h,0,none⟩) bs.length c):=by rw[cell_of_row w g 0 _ _ (0,0) k.obj];rfl
theorem Dk.c1 (k:Dk S w g h c W cw bs ws left off):w.cell? ⟨g,1,none⟩=some (.slice W ws.length cw):=by rw[cell_of_row w g 1 _ _ (0,0) k.obj];rfl
theorem Dk.c2 (k:Dk S w g h c W cw bs ws left off):w.cell? ⟨g,2,none⟩=some (.int .i64 left):=by rw[cell_of_row w g 2 _ _ (0,0) k.obj];rfl
theorem Dk.c3 (k:Dk S w g h c W cw bs ws left off):w.cell? ⟨g,3,none⟩=some (.bool off):=by rw[cell_of_row w g 3 _ _ (0,0) k.obj];rfl
theorem Dk.thaw (k:Dk S w g h c W cw bs ws left off) (i:Nat):w.frozen? ⟨g,i,none⟩=false:=frozen_of_row w g i _ _ k.obj
theorem Dk.lt (k:Dk S w g h c W cw bs ws left off):g<w.heap.size:=aae k.obj
theorem Dk.hlt (k:Dk S w g h c W cw bs ws left off):h<w.heap.size:=(k.own.lt h rfl).2
theorem Dk.wlt (k:Dk S w g h c W cw bs ws left off){a:Addr}(e:W=some a):a.block<w.heap.size:=by subst e;exact(k.wai.lt a.block rfl).2
theorem Dk.xlt (k:Dk S w g h c W cw bs ws left off){x:Wr}(hx:x∈ws):x.b<w.heap.size:=(k.row x hx).2.2.2.lt
theorem Dk.reads (k:Dk S w g h c W cw bs ws left off):Rd w w.heap.size (some ⟨h,0,none⟩) bs.length bs:=(Fil.of_own k.own).reads
theorem Dk.cap (k:Dk S w g h c W cw bs ws left off):bs.length<=c/\c<=maxLen:=by
 rcases k.own.2 with⟨h',_⟩ | ⟨_,_,_,h',_,_,h1,h2,_⟩
 · cases h'
 · injection h' with _ _ e;subst e;exact⟨h1,h2⟩
theorem Dk.wcap (k:Dk S w g h c W cw bs ws left off):ws.length<=cw/\cw<=maxLen:=by
 rcases k.wai.2 with⟨h',h0⟩ | ⟨_,_,_,h',_,_,h1,h2,_⟩
 · injection h' with _ _ e;subst e;rw[h0];exact⟨Nat.le_refl _,Nat.zero_le _⟩
 · injection h' with _ _ e;subst e;exact⟨h1,h2⟩
theorem Dk.gh (k:Dk S w g h c W cw bs ws left off):g≠h:=by
 obtain⟨b,e,cur,hc⟩:=af8 k.own;injection e with e;subst e;exact afy k.obj hc (by decide)
theorem Dk.wg (k:Dk S w g h c W cw bs ws left off){a:Addr}(e:W=some a):a.block≠g/\a.block≠h/\∀x∈ws,x.b≠a.block:=by
 subst e;obtain⟨b,e,cur,hc⟩:=af8 k.wai;obtain⟨b2,e2,cur2,hc2⟩:=af8 k.own;injection e2 with e2;subst e e2;refine⟨afy hc k.obj (by decide),afy hc hc2 (by decide),fun x hx=> ?_⟩;obtain⟨cur3,h3,_⟩:=(k.row x hx).2.2.2;exact afy h3 hc (by decide)
theorem Dk.xg (k:Dk S w g h c W cw bs ws left off){x:Wr}(hx:x∈ws):x.b≠g:=by
 obtain⟨cur3,h3,_⟩:=(k.row x hx).2.2.2;exact afy h3 k.obj (by decide)
def atz (g h:Nat) (W:Option Addr) (ws:List Wr) (k:Nat):Prop:=k=g\/k=h\/(∃a,W=some a/\k=a.block)\/∃x∈ws,k=x.b
theorem Dk.foot (k:Dk S w g h c W cw bs ws left off){j:Nat}(hj:atz g h W ws j):S j/\j<w.heap.size:=by
 rcases hj with rfl | rfl | ⟨a,e,rfl⟩ | ⟨x,hx,rfl⟩
 · exact⟨k.sg,k.lt⟩
 · exact⟨k.sh,k.hlt⟩
 · exact⟨k.sw a e,k.wlt e⟩
 · exact⟨k.sx x hx,k.xlt hx⟩
theorem Dk.keep (k:Dk S w g h c W cw bs ws left off) (hk:∀j,atz g h W ws j->w'.heap[j]?=w.heap[j]?):Dk S w' g h c W cw bs ws left off:=by
 refine⟨(hk g (.inl rfl)).trans k.obj,acv k.own fun j hj=> ?_,acv k.wai fun j hj=> ?_,fun x hx=> ?_,k.sg,k.sh,k.sw,k.sx⟩
 · injection hj with hj;subst hj;exact hk _ (.inr (.inl rfl))
 · rcases W with _ | a
   · cases hj
   · injection hj with hj;subst hj;exact hk _ (.inr (.inr (.inl ⟨a,rfl,rfl⟩)))
 · obtain⟨h1,h2,h3,h4⟩:=k.row x hx;exact⟨h1,h2,h3,h4.keep (hk _ (.inr (.inr (.inr ⟨x,hx,rfl⟩))))⟩
theorem Dk.below (k:Dk S w g h c W cw bs ws left off) (hb:Below w.heap.size w w'):Dk S w' g h c W cw bs ws left off:=k.keep fun j hj=>hb.block j (k.foot hj).2
theorem Dk.tch{R:Nat->Prop}(k:Dk S w g h c W cw bs ws left off) (ht:Tch R w w') (hd:∀j,S j->¬R j):Dk S w' g h c W cw bs ws left off:=k.keep fun j hj=>ht.block j (k.foot hj).2 (hd j (k.foot hj).1)
theorem Dk.more (k:Dk S w g h c W cw bs ws left off) (hS:∀j,atz g h W ws j->S' j):Dk S' w g h c W cw bs ws left off:=
 ⟨k.obj,k.own,k.wai,k.row,hS _ (.inl rfl),hS _ (.inr (.inl rfl)),fun a e=>hS _ (.inr (.inr (.inl ⟨a,e,rfl⟩))),fun x hx=>hS _ (.inr (.inr (.inr ⟨x,hx,rfl⟩)))⟩
theorem Dk.drew (k:Dk S w g h c W cw bs ws left off):Dk S w.drew g h c W cw bs ws left off:=⟨k.obj,k.own,k.wai,k.row,k.sg,k.sh,k.sw,k.sx⟩
theorem Dk.obj_{left':Int}{off':Bool}(k:Dk S w g h c W cw bs ws left off) (ho:w'.heap[g]?=some (.cells #[.slice (some ⟨h,0,none⟩) bs.length c, .slice W ws.length cw, .int .i64 left', .bool off'] 128 (0,0)))
 (hk:∀j,j≠g->w'.heap[j]?=w.heap[j]?):Dk S w' g h c W cw bs ws left' off':=by
 refine⟨ho,acv k.own fun j hj=> ?_,acv k.wai fun j hj=> ?_,fun x hx=> ?_,k.sg,k.sh,k.sw,k.sx⟩
 · injection hj with hj;subst hj;exact hk _ k.gh.symm
 · rcases W with _ | a
   · cases hj
   · injection hj with hj;subst hj;exact hk _ (k.wg rfl).1
 · obtain⟨h1,h2,h3,h4⟩:=k.row x hx;exact⟨h1,h2,h3,h4.keep (hk _ (k.xg hx))⟩
theorem Dk.set2 (k:Dk S w g h c W cw bs ws left off) (n:Int):Dk S (w.setCell ⟨g,2,none⟩ (.int .i64 n)) g h c W cw bs ws n off:=
 k.obj_ (by rw[heap_setCell_same w g 2 _ _ _ k.obj];rfl) fun j hj=>Below.heap_setCell _ _ _ _ hj
theorem Dk.set3 (k:Dk S w g h c W cw bs ws left off) (b:Bool):Dk S (w.setCell ⟨g,3,none⟩ (.bool b)) g h c W cw bs ws left b:=
 k.obj_ (by rw[heap_setCell_same w g 3 _ _ _ k.obj];rfl) fun j hj=>Below.heap_setCell _ _ _ _ hj
theorem Dk.none_ (k:Dk S w g h c W cw bs ws left off):Dk S (w.setCell ⟨g,1,none⟩ (.slice none 0 0)) g h c none 0 bs [] left off:=by
 have hk:∀j,j≠g->(w.setCell ⟨g,1,none⟩ (.slice none 0 0)).heap[j]?=w.heap[j]?:=fun j hj=>Below.heap_setCell _ _ _ _ hj;refine⟨by rw[heap_setCell_same w g 1 _ _ _ k.obj];rfl,acv k.own fun j hj=> ?_,World.ownsRow_nil _ _ _ _,(fun x hx=>by cases hx),k.sg,k.sh,(fun a e=>by cases e),(fun x hx=>by cases hx)⟩;injection hj with hj;subst hj;exact hk _ k.gh.symm
theorem Dk.over (k:Dk S w g h c W cw bs ws left off){cur:Array Value}(hrow:w.heap[h]?=some (.cells cur 5 (0,0))) (hsz:cur.size=c) (htake:cur.toList.take bs.length=bs.map bv) (off':Nat) (cs:List UInt8) (hfit:off'+cs.length<=bs.length):
 Dk S (w.setRow h (cur.toList.take off'++(cs.map bv++cur.toList.drop (off'+(cs.map bv).length))).toArray) g h c W cw (lay bs off' cs) ws left off:=by
 have hle:=k.cap.1;have hlen:=acg bs off' cs hfit;have hk:∀j,j≠h->(w.setRow h (cur.toList.take off'++(cs.map bv++cur.toList.drop (off'+(cs.map bv).length))).toArray).heap[j]?=w.heap[j]?:=fun j hj=>setRow_other w h j _ hj;refine⟨?_,⟨?_, .inr ⟨h,c,_,by rw[hlen],Nat.zero_le _,setRow_heap w h _ _ _ _ hrow,by omega,k.cap.2,?_,?_⟩⟩,acv k.wai fun j hj=> ?_,fun x hx=> ?_,k.sg,k.sh,k.sw,k.sx⟩
 · rw[hk g k.gh,hlen];exact k.obj
 · simp
 · simp;omega
 · rw[Nat.mul_one,hlen,List.toList_toArray];have e1:cur.toList=bs.map bv++cur.toList.drop bs.length:=by rw[<-htake,List.take_append_drop]
   have e2:bs.length=(bs.map bv).length:=by simp
   rw[e1,e2];rw[ajC (bs.map bv) _ off' (cs.map bv) (by simpa using hfit)];simp[lay]
 · rcases W with _ | a
   · cases hj
   · injection hj with hj;subst hj;exact hk _ (k.wg rfl).2.1
 · obtain⟨h1,h2,h3,h4⟩:=k.row x hx;exact⟨by omega,h2,h3,h4.keep (hk _ h2)⟩
theorem Dk.curs (k:Dk S w g h c W cw bs ws left off):∃cur:Array Value,w.heap[h]?=some (.cells cur 5 (0,0))/\cur.size=c/\cur.toList.take bs.length=bs.map bv:=by
 rcases k.own.2 with⟨h',_⟩ | ⟨g',cap,cur,h',_,hh,_,_,hs,ht⟩
 · cases h'
 · injection h' with e1 e2 e3;injection e1 with e1;injection e1 with e1;subst e1 e3;exact⟨cur,hh,by simpa using hs,by simpa using ht⟩
theorem Dk.at_ (k:Dk S w g h c W cw bs ws left off){i:Nat}{x:Wr}(hx:ws[i]?=some x):∃gw,W=some ⟨gw,0,none⟩/\w.cell? ⟨gw,i*2,none⟩=some (.int .i64 (x.s:Int))/\w.cell? ⟨gw,i*2+1,none⟩=some (.slice (some ⟨x.b,0,none⟩) 512 x.c):=by
 have hi:i<ws.length:=by
  rcases Nat.lt_or_ge i ws.length with h | h
  · exact h
  · rw[List.getElem?_eq_none h]at hx;cases hx
 obtain⟨f1,f2⟩:=amA ws i x hx;have hw:=k.wai;rcases W with _ | a
 · rcases hw.2 with⟨_,h0⟩ | ⟨_,_,_,h',_⟩
   · omega
   · injection h' with e;cases e
 · obtain⟨gw,rfl,_⟩:=af8 hw;exact⟨gw,rfl,by rw[hw.cellAt _ (by omega)];exact f1,by rw[hw.cellAt _ (by omega)];exact f2⟩
end
theorem app{k:IntKind}{a b:Int}(h:a=b):Ending.returned (.int k a)= .returned (.int k b):=by rw[h]
theorem avI{a b:Bool}(h:a=b):Ending.returned (.bool a)= .returned (.bool b):=by rw[h]
theorem auV{A:Option Addr}{a b c:Nat}(h:a=b):Ending.returned (.slice A a c)= .returned (.slice A b c):=by rw[h]
section
variable {S:Nat->Prop} {w:World} {g h c:Nat} {W:Option Addr} {cw:Nat} {bs:List UInt8} {ws:List Wr} {left:Int} {off:Bool}
theorem ad3 (k:Dk S w g h c W cw bs ws left off) (hl:bs.length<=100000):
 Calls Tryz.prog 147 #[.pointer (some ⟨g,0,none⟩)] w fun e w'=>e= .returned (.int .i64 ((bs.length/512:Nat):Int))/\w=w':=by
 have c0:=k.c0;go_enter Tryz.func147,Tryz.ntmps147
 go_wp2
 go_ret
 exact⟨app (by omega),rfl⟩
theorem ae6 (k:Dk S w g h c W cw bs ws left off) (hl:bs.length<=100000) (i:Nat) (hi:i*512+512<=bs.length):
 Calls Tryz.prog 248 #[.pointer (some ⟨g,0,none⟩), .int .i64 (i:Int)] w fun e w'=>e= .returned (.bool true)/\w=w':=by
 have HS:=hE0 (ad3 k hl);obtain⟨n,hn⟩:=nmE (bs.length/512);rw[hn]at HS;have hin:i<n:=by omega
 clear hn;go_enter Tryz.func248,Tryz.ntmps248
 go_wp2_with fail
 refine HS.out.mono ?_;rintro e w1 ⟨rfl,rfl⟩;go_wp2
 go_ret
 exact⟨rfl,rfl⟩
theorem afK (k:Dk S w g h c W cw bs ws left off) (_hl:bs.length<=100000) (i:Nat) (hi:i*512+512<=bs.length):
 Calls Tryz.prog 157 #[.pointer (some ⟨g,0,none⟩), .int .i64 (i:Int)] w fun e w'=>e= .returned (.slice (some ⟨h,i*512,none⟩) 512 (c-i*512))/\w=w':=by
 have c0:=k.c0;obtain⟨hc1,hc2⟩:=k.cap;unfold maxLen at hc2;have hne:¬c=i*512:=by omega
 go_enter Tryz.func157,Tryz.ntmps157
 go_wp2
 go_ret
 exact⟨auV (by omega),rfl⟩
theorem anw (k:Dk S w g h c W cw bs ws left off) (hl:bs.length<=100000) (s b cb:Nat) (d:List UInt8) (hd:d.length=512) (hs:s*512+512<=bs.length) (hf:Fil w b d):
 Calls Tryz.prog 95 #[.pointer (some ⟨g,0,none⟩), .agg #[.int .i64 (s:Int), .slice (some ⟨b,0,none⟩) 512 cb]] w fun e w'=>e= .returned (.tuple #[])/\Dk S w' g h c W cw (lay bs (s*512) d) ws left off/\Tch (fun j=>j=h) w w':=by
 obtain⟨hc1,hc2⟩:=k.cap;unfold maxLen at hc2;obtain⟨w0,hw0⟩:=nmE ((w.alloc (.cells #[.int .i64 (s:Int), .slice (some ⟨b,0,none⟩) 512 cb] 167)).drew);have hb0:Below w.heap.size w w0:=by rw[<-hw0];exact((Below.refl _ _).alloc (Nat.le_refl _) _).drew
 have d0:w0.heap[w.heap.size]?=some (.cells #[.int .i64 (s:Int), .slice (some ⟨b,0,none⟩) 512 cb] 167 (0,0)):=by rw[<-hw0];exact heap_alloc_new w _
 have k0:=k.below hb0;have f0:=hf.keep (hb0.block b hf.lt);have HST:=hE0 (afK k0 hl s hs);obtain⟨cur,hrow,hsz,htake⟩:=k0.curs;have HF:=hE0 (k0.over hrow hsz htake (s*512) d (by omega));have HSRC:=hE0 (adm f0.reads);have HN:Hid ((d.map bv).length=Nat.min 512 512):=(show _=_ by rw[List.length_map,hd];rfl);have HFIT:Hid (s*512+(d.map bv).length<=cur.size):=(show _<=_ by rw[List.length_map];omega);have HROW:=hE0 hrow;have HT:Hid (Tch (fun j=>j=h) w (w0.setRow h (cur.toList.take (s*512)++(d.map bv++cur.toList.drop (s*512+(d.map bv).length))).toArray)):=
  (Tch.of_below (S:=fun j=>j=h) hb0).trans (S':=fun j=>j=h) ⟨rfl,rfl,rfl,by simp[World.setRow],fun j _ hj=>setRow_other w0 h j _ hj⟩ (fun _ _ h=>h)
 have e0:=cell_of_row w0 w.heap.size 0 _ _ (0,0) d0;have e1:=cell_of_row w0 w.heap.size 1 _ _ (0,0) d0;simp only[List.getElem?_toArray,List.getElem?_cons_zero,List.getElem?_cons_succ]at e0 e1;have hlt0:w.heap.size<w0.heap.size:=aae d0;have HW0:=hE0 hw0;have Hb:=hE0 hd;clear hw0 hb0 d0 k0 f0 hrow hsz htake hf k hd;go_enter Tryz.func95,Tryz.ntmps95
 go_wp2_with fail
 refine aao w0.heap.size [([0,1,2,4,5],3)] [] [6] (by kernel_rfl) (by kernel_rfl) (by kernel_rfl) (fun _ _ _ _ _ h=>h) ?_;rw[HW0.out];have q0:∀x:LaterB w0.heap.size w0,x.val.cell? ⟨w.heap.size,0,none⟩=some (.int .i64 (s:Int)):=fun x=>(x.ext.cell (p:=⟨w.heap.size,0,none⟩) hlt0).trans e0;have q1:∀x:LaterB w0.heap.size w0,x.val.cell? ⟨w.heap.size,1,none⟩=some (.slice (some ⟨b,0,none⟩) 512 cb):=fun x=>(x.ext.cell (p:=⟨w.heap.size,1,none⟩) hlt0).trans e1;refine tail_cons (l:= ?seg1) ?hseg1 ?_
 case hseg1=>simp only[pick,lE1,lE2,lE3];rfl
 repeat (go_big_quiet_step (fail))
 refine wpQuiet_nil ?_;clear q0 q1;refine aar (vs:= #[.pointer (some ⟨g,0,none⟩), .int .i64 (s:Int)]) Tryz.call157 rfl rfl rfl (R:=fun r w'=>r= .slice (some ⟨h,s*512,none⟩) 512 (c-s*512)/\w'=w0) (HST.out.mono ?_) w0.heap.size (Nat.le_refl _) ?_
 · rintro e w' ⟨rfl,rfl⟩;exact⟨_,rfl,Below.refl _ _,rfl,rfl⟩
 rintro r w1 _ ⟨rfl,rfl⟩;refine aaH (l:= ?la1) (t:= ?tl1) ?hla1 ?htl1 ?_
 case hla1=>rfl
 case htl1=>simp only[pick,lE1,lE2,lE3];rfl
 refine wpQuiet_nil ?_;simp only[Act.put,lE4,lE5,lE6];refine wpList_copy_own rfl (.tmp 7) (.tmp 9) 37 37 rfl 5 Tryz.underlying37 (by kernel_rfl) h (s*512) 512 (c-s*512) ⟨b,0,none⟩ 512 cb ?cc1 ?cc2 cur 5 HROW.out (d.map bv) HN.out HSRC.out HFIT.out (afG d) ?_
 case cc1=>rfl
 case cc2=>rfl
 generalize w1.setRow h _=w2 at HF HT ⊢;go_wp2
 go_end0
 exact⟨rfl,HF.out,HT.out⟩
end
theorem alk (w:World) (n:Nat) (h1:2<=n) (h2:n<=128):
 Calls Tryz.prog 63 #[.int .i64 (n:Int)] w fun e w'=>e= .returned (.bool true)/\w=w':=by
 go_enter Tryz.func63,Tryz.ntmps63
 go_wp2
 go_ret
 exact⟨avI (decide_eq_true (by omega)),rfl⟩
theorem arN (w:World) (n:Nat) (h1:2<=n) (h2:n<=128):
 Calls Tryz.prog 12 #[.int .i64 (n:Int)] w fun e w'=>e= .returned (.pointer (some ⟨w.heap.size+1,0,none⟩))/\Dk (ad2 (fun _=>False) w w') w' (w.heap.size+1) w.heap.size (n*512) none 0 (List.replicate (n*512) 0) [] (-1) false/\Below w.heap.size w w':=by
 have HM:=hE0 (alk w n h1 h2);have hmk:=fun W=>run_make_row' (P:=Tryz.prog) 37 5 (.int .u8 0) 1 Tryz.underlying37 afo rfl .i64 .i64 (n*512) (by omega) (by omega) W;have hc:((n*512:Nat):Int)=(n:Int)*512:=by omega
 rw[hc]at hmk;clear hc;go_enter Tryz.func12,Tryz.ntmps12
 go_wp2_with fail
 refine HM.out.mono ?_;rintro e w1 ⟨rfl,rfl⟩;go_wp2
 clear hmk;rw[acK];go_ret
 refine⟨rfl,⟨?_,?_,World.ownsRow_nil _ _ _ _,(fun x hx=>by cases hx), .inr ?_, .inr ?_,(fun a e=>by cases e),(fun x hx=>by cases hx)⟩,?_⟩
 · rw[List.length_replicate];simpa using heap_alloc_new (w.alloc (.cells (acb (List.replicate (n*512) 0)) 5)) (.cells #[.slice (some ⟨w.heap.size,0,none⟩) (n*512) (n*512), .slice none 0 0, .int .i64 (-1), .bool false] 128)
 · have hr:=World.ownsRow_lit (base:=0) (e:=5) (size:=1) w (acb (List.replicate (n*512) 0)) (n*512) (Nat.zero_le _) (by unfold maxLen;omega) (by rw[adP];simp);rw[List.length_replicate];have e:(acb (List.replicate (n*512) 0)).toList=(List.replicate (n*512) (0:UInt8)).map bv:=by simp[acb]
   rw[e]at hr;exact acL hr ((Below.refl _ _).alloc (Nat.le_refl _) _)
 · simp
 · simp;omega
 · exact((Below.refl _ _).alloc (Nat.le_refl _) _).alloc (by simp) _
theorem apq:(Tryz.prog.info? 167).map (fun i=>(i.zero,i.size,i.bytes))=some (some (.agg #[.int .i64 0, .slice none 0 0]),2,32):=by kernel_rfl
theorem apr (w:World) (s:Int) (A:Option Addr) (n c:Nat):(Instr.buildSlice 126 1 #[(0, .agg #[.int .i64 s, .slice A n c])]).run Tryz.prog w= .ok (.slice (some ⟨w.heap.size,0,none⟩) 1 1) (w.alloc (.cells #[.int .i64 s, .slice A n c] 167)):=by
 obtain⟨i0,hi,hz0,hz1,hz2⟩:=info_parts apq;refine run_buildSlice w 126 167 1 _ _ i0 _ Tryz.underlying126 hi hz0 (by omega) (by omega) ?_;rw[hz1];have e:Array.range (1*2)= #[0,1]:=by decide
 rw[e];simp[Instr.fill,Value.cells]
section
variable {S:Nat->Prop} {w w3 w4:World} {g h c:Nat} {W:Option Addr} {cw:Nat} {bs:List UInt8} {ws:List Wr} {left:Int} {off:Bool}
theorem Dk.pushed (k:Dk S w g h c W cw bs ws left off) (hb:Below w.heap.size w w3) (x:Wr) (hx1:x.s*512+512<=bs.length) (hx2:w.heap.size<=x.b) (hx3:x.d.length=512) (hx4:Fil w3 x.b x.d) (v:Value)
 (hown:w4.ownsRow 0 167 2 v (ws.length+1) (akX (ws++ [x]))) (hgr:w3.grownBy w4 (Value.slice W ws.length cw).ownBlock) (hat:v.ownBlock=(Value.slice W ws.length cw).ownBlock\/v.ownBlock=some w3.heap.size):
 w4.cell? ⟨g,1,none⟩=some (.slice W ws.length cw)/\w4.frozen? ⟨g,1,none⟩=false/\∃W' cw',v= .slice W' (ws.length+1) cw'/\Dk (ad2 S w (w4.setCell ⟨g,1,none⟩ v)) (w4.setCell ⟨g,1,none⟩ v) g h c W' cw' bs (ws++ [x]) left off/\Tch S w (w4.setCell ⟨g,1,none⟩ v):=by
 have k3:=k.below hb;have hne:∀j,j<w3.heap.size->(∀a,W=some a->j≠a.block)->w4.heap[j]?=w3.heap[j]?:=fun j hj hn=>hgr.block j hj (fun e=>by
  rcases W with _ | a
  · simp[Value.ownBlock]at e
  · simp[Value.ownBlock]at e;exact hn a rfl e)
 have hg4:w4.heap[g]?=w3.heap[g]?:=hne g k3.lt (fun a e=>(k3.wg e).1.symm);have hs4:(w4.setCell ⟨g,1,none⟩ v).heap.size=w4.heap.size:=by simp[World.setCell]
 have hoth:∀j,j≠g->(w4.setCell ⟨g,1,none⟩ v).heap[j]?=w4.heap[j]?:=fun j hj=>Below.heap_setCell _ _ _ _ hj;obtain⟨gw,cw',cur,hv,_,hrow,_⟩:∃g' cap cur,v= .slice (some ⟨g',0,none⟩) (ws.length+1) cap/\0<=g'/\w4.heap[g']?=some (.cells cur 167 (0,0))/\ws.length+1<=cap:=by
  rcases hown.2 with⟨_,h0⟩ | ⟨g',cap,cur,h1,h2,h3,h4,_⟩
  · omega
  · exact⟨g',cap,cur,h1,h2,h3,h4⟩
 have hgwlt:=aae hrow;have hgwg:gw≠g:=afy hrow (hg4.trans k3.obj) (by decide);subst hv;refine⟨(World.cell?_of_block (a:=⟨g,1,none⟩) hg4).trans k3.c1,(World.frozen?_of_block (a:=⟨g,1,none⟩) hg4).trans (k3.thaw 1),some ⟨gw,0,none⟩,cw',rfl,⟨?_,?_,?_,?_, .inl k.sg, .inl k.sh,?_,?_⟩,?_⟩
 · rw[heap_setCell_same w4 g 1 _ _ _ (hg4.trans k3.obj),List.length_append];rfl
 · refine acv k3.own fun j hj=> ?_;injection hj with hj;subst hj;rw[hoth _ k3.gh.symm];exact hne _ k3.hlt (fun a e=>(k3.wg e).2.1.symm)
 · rw[List.length_append];refine acv hown fun j hj=> ?_;injection hj with hj;subst hj;exact hoth _ hgwg
 · intro y hy;rcases List.mem_append.1 hy with hy | hy
   · obtain⟨h1,h2,h3,h4⟩:=k3.row y hy;refine⟨h1,h2,h3,h4.keep ?_⟩;rw[hoth _ (k3.xg hy)];exact hne _ (k3.xlt hy) (fun a e=>(k3.wg e).2.2 y hy)
   · obtain rfl:y=x:=by simpa using hy
     have hlt:=hx4.lt;have hyg:y.b≠g:=fun e=>by have:=k.lt;omega
     refine⟨hx1,fun e=>by have:=k.hlt;omega,hx3,hx4.keep ?_⟩;rw[hoth _ hyg];refine hne _ hlt (fun a e=> ?_);have:=k.wlt e;omega
 · intro a e;injection e with e;subst e;show ad2 S w _ gw;rcases hat with h1 | h1
   · left;rcases W with _ | a
     · simp[Value.ownBlock]at h1
     · simp[Value.ownBlock]at h1;rw[h1];exact k.sw a rfl
   · right;simp[Value.ownBlock]at h1;rw[hs4,h1];exact⟨hb.size,by omega⟩
 · intro y hy;rcases List.mem_append.1 hy with hy | hy
   · exact .inl (k.sx y hy)
   · obtain rfl:y=x:=by simpa using hy
     right;rw[hs4];have:=hx4.lt;have:=hgr.size;exact⟨hx2,by omega⟩
 · refine((Tch.of_below (S:=S) hb).trans (Tch.grown (S:=S) hgr fun j hj=> ?_) (fun _ _ h=>h)).trans (Tch.set (S:=S) w4 ⟨g,1,none⟩ _ k.sg) (fun _ _ h=>h);rcases W with _ | a
   · simp[Value.ownBlock]at hj
   · simp[Value.ownBlock]at hj;rw[<-hj];exact k.sw a rfl
theorem anx (k:Dk S w g h c W cw bs ws left false) (hl:bs.length<=100000) (hws:ws.length<=1000000) (hleft:left<0) (i:Nat) (hi:i*512+512<=bs.length) (A:Option Addr) (cA:Nat) (d:List UInt8) (hd:d.length=512) (hr:Rd w w.heap.size A 512 d):
 Calls Tryz.prog 255 #[.pointer (some ⟨g,0,none⟩), .int .i64 (i:Int), .slice A 512 cA] w fun e w'=>e= .returned .nilIface/\(∃W' cw' b cb,Dk (ad2 S w w') w' g h c W' cw' bs (ws++ [⟨i,b,cb,d⟩]) left false)/\Tch S w w':=by
 have hA:A=none->cA=0:=fun e=>by
  obtain⟨_,_,e1,_⟩:=hr.2 (by omega);rw[e]at e1;cases e1
 have HH:=hE0 (ae6 k hl i hi);have c2:=k.c2;have c3:=k.c3;have hle0:(left==0)=false:=by rw[beq_eq_false_iff_ne];omega
 obtain⟨w0,hw0⟩:=nmE w.drew;have k0:Dk S w0 g h c W cw bs ws left false:=by rw[<-hw0];exact k.drew
 have hsz0:w0.heap.size=w.heap.size:=by rw[<-hw0];rfl
 have r0:Rd w0 w0.heap.size A d.length d:=by rw[hd,hsz0,<-hw0];exact hr.drew
 have hb0:=adE hw0;have HC:=abT A cA w0.heap.size d w0 r0 (Nat.le_refl _) hA (by omega);rw[hd]at HC;have HC:=hE0 HC;have K0:=hE0 k0;have HW0:=hE0 hw0;have HB0:=hE0 hb0;have HD:=hE0 hd;have HSZ:=hE0 hsz0;clear hw0 k0 r0 hb0 hd k hr hA hsz0;go_enter Tryz.func255,Tryz.ntmps255
 go_wp2_with fail
 refine HH.out.mono ?_;rintro e w1 ⟨rfl,rfl⟩;go_wp2_with fail
 refine aao w0.heap.size [([0,1,2,3,4,5,6],7),([8],9)] [] [10,11,12,13] (by kernel_rfl) (by kernel_rfl) (by kernel_rfl) (fun _ _ _ _ _ h=>h) ?_;rw[HW0.out];clear c2 c3 hle0;have q0:∀x:LaterB w0.heap.size w0,x.val.cell? ⟨g,1,none⟩=some (.slice W ws.length cw):=fun x=>(x.ext.cell (p:=⟨g,1,none⟩) K0.out.lt).trans K0.out.c1;refine tail_cons (l:= ?seg1) ?hseg1 ?_
 case hseg1=>simp only[pick,lE1,lE2,lE3];rfl
 repeat (go_big_quiet_step (fail))
 refine wpQuiet_nil ?_;clear q0;refine aar (vs:= #[.slice A 512 cA]) Tryz.call92 rfl rfl rfl (R:=fun r w'=>∃b cb,r= .slice (some ⟨b,0,none⟩) 512 cb/\w0.heap.size<=b/\Fil w' b d) (HC.out.mono ?_) w0.heap.size (Nat.le_refl _) ?_
 · rintro e w' ⟨A',c',rfl,ho,hb⟩;rw[HD.out]at ho;obtain⟨b,cb,e1,_,_⟩:=ahD ho (by omega);injection e1 with e1 _ e3;subst e1 e3;exact⟨_,by rw[HD.out],hb,b,c',rfl,(ho.lt b rfl).1,Fil.of_own ho⟩
 rintro r w1 hb1 ⟨b,cb,rfl,hbb,hfil⟩;refine tail_cons (l:= ?seg2) ?hseg2 ?_
 case hseg2=>simp only[pick,lE1,lE2,lE3];rfl
 simp only[Act.put,lE4,lE5,lE6];repeat (go_big_quiet_step (fail))
 refine wpQuiet_nil ?_;obtain⟨w3,hw3⟩:=nmE (w1.alloc (.cells #[.int .i64 (i:Int), .slice (some ⟨b,0,none⟩) 512 cb] 167));have hro:=apr w1 (i:Int) (some ⟨b,0,none⟩) 512 cb;rw[hw3]at hro;have hb13:=abE hw3;have hn3:=anE hw3;have hb3:Below w0.heap.size w0 w3:=hb1.trans (hb13.mono hb1.size);refine amm (w1:=w3) (v:= .slice (some ⟨w1.heap.size,0,none⟩) 1 1) rfl rfl ?rv1 (hb13.mono hb1.size) ?_
 case rv1=>exact aaQ rfl rfl hro
 refine⟨w0.heap.size,Nat.le_refl _,?_⟩;refine aaH (l:= ?la3) (t:= ?tl3) ?hla3 ?htl3 ?_
 case hla3=>rfl
 case htl3=>simp only[pick,lE1,lE2,lE3];rfl
 refine wpQuiet_nil ?_;simp only[Act.put,List.setIfInBounds_toArray];obtain⟨i0,hi0,hz0,hz1,hz2⟩:=info_parts apq;have hwcap:=K0.out.wcap;have hnew:∀j u,[Value.int .i64 (i:Int), .slice (some ⟨b,0,none⟩) 512 cb][j]?=some u->w3.cell? ((⟨w1.heap.size,0,none⟩:Addr).add j)=some u:=by
  intro j u hu;have e:(⟨w1.heap.size,0,none⟩:Addr).add j=⟨w1.heap.size,j,none⟩:=by unfold Addr.add;split<;>simp_all
  rw[e,cell_of_row w3 _ j _ _ (0,0) hn3];simpa using hu
 have hone:∀u∈ [Value.int .i64 (i:Int), .slice (some ⟨b,0,none⟩) 512 cb],u.oneCell'=true:=by
  intro u hu;simp at hu;rcases hu with rfl | rfl<;>rfl
 have k3:=K0.out.below hb3;refine wpList_append_own_at w3 rfl (.tmp 46) (.tmp 51) 126 rfl 0 167 i0 _ 2 32 Tryz.underlying126 hi0 hz0 hz1 hz2 rfl (by decide) (.slice W ws.length cw) ws.length (akX ws) rfl k3.wai ⟨w1.heap.size,0,none⟩ 1 1 _ rfl rfl hnew hone (by unfold maxLen;omega) (by omega) (Nat.zero_le _) ?_;intro v4 w4 own4 gr4 _ at4;have own4':w4.ownsRow 0 167 2 v4 (ws.length+1) (akX (ws++ [⟨i,b,cb,d⟩])):=by rw[agA];exact own4
 obtain⟨p1,p2,W',cw',rfl,p3,p4⟩:=K0.out.pushed hb3 ⟨i,b,cb,d⟩ hi hbb HD.out (hfil.keep (hb13.block b hfil.lt)) v4 own4' gr4 at4;have P3:=hE0 p3;have P4:=hE0 p4;clear p3 p4 own4 own4' gr4 at4 k3 hone hnew hi0 hz0 hz1 hz2 hn3 hro hw3;go_wp2
 go_ret
 refine⟨rfl,⟨W',cw',b,cb,P3.out.more fun j hj=> ?_⟩,(Tch.of_below (S:=S) HB0.out).trans P4.out (fun _ _ h=>h)⟩;rcases(P3.out.foot hj).1 with h1 | h1
 · exact .inl h1
 · exact .inr ⟨HSZ.out▸h1.1,h1.2⟩
end
def adv (bs:List UInt8) (x:Nat × List UInt8):List UInt8:=lay bs (x.1*512) x.2
def aeH (bs:List UInt8) (l:List (Nat × List UInt8)):List UInt8:=l.foldl adv bs
def aps (n:Nat) (l:List (Nat × List UInt8)):Prop:=∀x∈l,x.1*512+512<=n/\x.2.length=512
theorem aht (bs:List UInt8) (x:Nat × List UInt8) (h:x.1*512+512<=bs.length) (h2:x.2.length=512):(adv bs x).length=bs.length:=acg _ _ _ (by omega)
theorem abY:∀(l:List (Nat × List UInt8)) (bs:List UInt8),aps bs.length l->(aeH bs l).length=bs.length
 | [],_,_=>rfl
 | x::r,bs,h=>by
  have hx:=h x (by simp);have e:=aht bs x hx.1 hx.2;have:=abY r (adv bs x) (fun y hy=>by rw[e];exact h y (by simp[hy]));rw[e]at this;exact this
theorem ahS (bs:List UInt8) (l:List (Nat × List UInt8)) (x:Nat × List UInt8):aeH bs (l++ [x])=adv (aeH bs l) x:=by simp[aeH]
section
variable {S:Nat->Prop} {w:World} {g h c:Nat} {W:Option Addr} {cw:Nat} {bs:List UInt8} {ws:List Wr} {left:Int} {off:Bool}
theorem Dk.fits (k:Dk S w g h c W cw bs ws left off):aps bs.length (ws.map Wr.two):=by
 intro x hx;obtain⟨y,hy,rfl⟩:=List.mem_map.1 hx;exact⟨(k.row y hy).1,(k.row y hy).2.2.1⟩
theorem apt (k:Dk S w g h c W cw bs ws left false) (hl:bs.length<=100000):
 Calls Tryz.prog 209 #[.pointer (some ⟨g,0,none⟩)] w fun e w'=>e= .returned .nilIface/\Dk S w' g h c none 0 (aeH bs (ws.map Wr.two)) [] left false/\Tch S w w':=by
 have c1:=k.c1;have c3:=k.c3;have hwc:=k.wcap;unfold maxLen at hwc;go_enter Tryz.func209,Tryz.ntmps209
 go_wp2
 clear c1 c3;go_loopw [15] (fun i wr=>∃j:Nat,j<=ws.length/\i= .int .i64 j/\Dk S wr g h c W cw (aeH bs ((ws.take j).map Wr.two)) ws left false/\Tch S w wr) (fun i _=>ws.length-(intOf i).toNat)
 case atStart=>exact⟨0,Nat.zero_le _,rfl,k,Tch.refl _ _⟩
 case round=>
  obtain⟨j,hj,rfl,kr,ht⟩:=hrel;by_cases hlt:j<ws.length
  · obtain⟨x,hx⟩:∃x,ws[j]?=some x:=⟨ws[j],List.getElem?_eq_getElem hlt⟩;obtain⟨gw,rfl,d0,d1⟩:=kr.at_ hx;have hxm:x∈ws:=List.mem_of_getElem? hx;obtain⟨x1,x2,x3,x4⟩:=kr.row x hxm;obtain⟨w1,hw1⟩:=nmE (wr.alloc (.cells #[.int .i64 (x.s:Int), .slice (some ⟨x.b,0,none⟩) 512 x.c] 167));have hb1:=abE hw1;have k1:=kr.below hb1;have hlen:=abY ((ws.take j).map Wr.two) bs (fun y hy=>k.fits y (by rw[List.map_take]at hy;exact List.mem_of_mem_take hy));have HS:=hE0 (anw k1 (by omega) x.s x.b x.c x.d x3 x1 (x4.keep (hb1.block _ x4.lt)));have E:Hid (lay (aeH bs ((ws.take j).map Wr.two)) (x.s*512) x.d=aeH bs ((ws.take (j+1)).map Wr.two)):=(show _=_ by
     rw[List.take_add_one,hx,List.map_append,Option.toList_some,List.map_cons,List.map_nil,ahS];rfl)
    have HT:=hE0 (ht.trans (Tch.of_below (S:=S) hb1) (fun _ _ h=>h));have HSH:=hE0 k.sh;have HW1:=hE0 hw1;clear hx x1 x2 x3 x4 k1 hb1 hw1 ht kr hlen k;go_wp2_with fail
    rw[HW1.out];refine HS.out.mono ?_;rintro e w2 ⟨rfl,k2,t2⟩;rw[E.out]at k2;have K2:=hE0 k2;have T2:=hE0 (HT.out.trans t2 (fun i _ hi=>by rw[hi];exact HSH.out));clear k2 t2 E HS HT d0 d1;go_wp2
    go_roundw
    case rel=>exact⟨j+1,by omega,by go_num,K2.out,T2.out⟩
    case measure=>simp[intOf];omega
  · obtain rfl:j=ws.length:=by omega
    rw[List.take_length]at kr;have c1:=kr.c1;have f1:=kr.thaw 1;have K2:=hE0 kr.none_;have T2:=hE0 (ht.trans (Tch.set (S:=S) wr ⟨g,1,none⟩ (.slice none 0 0) kr.sg) (fun _ _ h=>h));clear kr ht k;go_wp2
    go_ret
    exact⟨rfl,K2.out,T2.out⟩
end
section
variable {S:Nat->Prop} {w w':World} {g h c:Nat} {W:Option Addr} {cw:Nat} {bs:List UInt8} {ws:List Wr} {left:Int} {off:Bool} {K:Option Addr} {ck:Nat} {kb:List Bool}
end
def abB (bs:List UInt8) (l:List (Nat × List UInt8)) (i:Nat):List UInt8:=match l.reverse.find? (fun x=>x.1==i)with
 | some x=>x.2
 | none=>(bs.drop (i*512)).take 512
theorem arO (bs:List UInt8) (l:List (Nat × List UInt8)) (i j:Nat) (x:Nat × List UInt8) (hx:l[j]?=some x) (he:x.1=i) (hn:∀y∈l.drop (j+1),y.1≠i):abB bs l i=x.2:=by
 have hj:j<l.length:=by
  rcases Nat.lt_or_ge j l.length with h | h
  · exact h
  · rw[List.getElem?_eq_none h]at hx;cases hx
 have e:l.reverse=(l.drop (j+1)).reverse++x::(l.take j).reverse:=by
  rw[List.getElem?_eq_getElem hj]at hx;injection hx with hx;subst hx;conv=>lhs;rw[<-List.take_append_drop (j+1) l]
  rw[List.reverse_append,List.take_succ_eq_append_getElem hj,List.reverse_append];rfl
 have hf:(l.drop (j+1)).reverse.find? (fun x=>x.1==i)=none:=by
  rw[List.find?_eq_none];intro y hy;have:=hn y (by simpa using hy);simpa using this
 unfold abB;rw[e,List.find?_append,hf,Option.none_or,List.find?_cons_of_pos (by simpa using he)]
theorem ahT (bs:List UInt8) (l:List (Nat × List UInt8)) (i:Nat) (hn:∀y∈l,y.1≠i):abB bs l i=(bs.drop (i*512)).take 512:=by
 have hf:l.reverse.find? (fun x=>x.1==i)=none:=by
  rw[List.find?_eq_none];intro y hy;have:=hn y (by simpa using hy);simpa using this
 unfold abB;rw[hf]
def arP (bs:List UInt8) (w:World) (e:Ending) (w':World):Prop:=∃b o c',e= .returned (.slice (some ⟨b,o,none⟩) 512 c')/\Rd w w.heap.size (some ⟨b,o,none⟩) 512 bs/\w=w'
section
variable {S:Nat->Prop} {w:World} {g h c:Nat} {W:Option Addr} {cw:Nat} {bs:List UInt8} {ws:List Wr} {left:Int} {off:Bool}
theorem arQ (k:Dk S w g h c W cw bs ws left off) (hl:bs.length<=100000) (i:Nat) (hi:i*512+512<=bs.length):
 Calls Tryz.prog 249 #[.pointer (some ⟨g,0,none⟩), .int .i64 (i:Int)] w fun e w'=>arP (abB bs (ws.map Wr.two) i) w e w':=by
 have c1:=k.c1;have hwc:=k.wcap;unfold maxLen at hwc;have HST:=hE0 (afK k hl i hi);go_enter Tryz.func249,Tryz.ntmps249
 go_wp2
 go_loop [5] (fun t=>∃j:Nat,j<=ws.length/\t= .int .i64 ((j:Int)-1)/\∀y∈(ws.map Wr.two).drop j,y.1≠i) (fun t=>(intOf t+1).toNat)
 case atStart=>exact⟨ws.length,Nat.le_refl _,rfl,by rw[List.drop_of_length_le (by simp)];intro y hy;cases hy⟩
 case round=>
  obtain⟨j,hj,rfl,hn⟩:=hrel;rcases j with _ | j
  · have hn2:=ahT bs (ws.map Wr.two) i (by simpa using hn);have hrd:=k.reads.sub (i*512) 512 hi;rw[<-hn2,Nat.zero_add]at hrd;have HRD:=hE0 hrd;clear hn hn2 hrd k;go_wp2_with fail
    refine HST.out.mono ?_;rintro e w1 ⟨rfl,rfl⟩;go_wp2
    go_ret
    exact⟨h,i*512,_,rfl,HRD.out,rfl⟩
  · obtain⟨x,hx⟩:∃x,ws[j]?=some x:=⟨ws[j],List.getElem?_eq_getElem (by omega)⟩;obtain⟨gw,rfl,d0,d1⟩:=k.at_ hx;have hxm:x∈ws:=List.mem_of_getElem? hx;obtain⟨x1,x2,x3,x4⟩:=k.row x hxm;have ej:((j+1:Nat):Int)-1=(j:Int):=by omega
    rw[ej];have hjl:j<ws.length:=by omega
    by_cases hs:x.s=i
    · have hn2:=arO bs (ws.map Wr.two) i j (Wr.two x) (by rw[List.getElem?_map,hx];rfl) hs hn;have hrd:=x4.reads;rw[x3]at hrd;have e:x.d=abB bs (ws.map Wr.two) i:=hn2.symm;rw[e]at hrd;have HRD:=hE0 hrd;have hq:((x.s:Int)==(i:Int))=true:=by rw[beq_iff_eq];omega
      clear hn hn2 hrd e k x1 x2 x3 x4 hx ej hs;go_wp2
      go_ret
      exact⟨x.b,0,_,rfl,HRD.out,rfl⟩
    · have hq:((x.s:Int)==(i:Int))=false:=by rw[beq_eq_false_iff_ne];omega
      have hn2:∀y∈(ws.map Wr.two).drop j,y.1≠i:=by
       intro y hy;rw[List.drop_eq_getElem_cons (by simpa using hjl)]at hy;rcases List.mem_cons.1 hy with rfl | hy
       · rw[List.getElem?_eq_getElem hjl]at hx;injection hx with hx;rw[List.getElem_map,hx];exact hs
       · exact hn y hy
      have HN:=hE0 hn2;clear hn hn2 k x1 x2 x3 x4 hx ej hs;go_wp2
      go_round
      case rel=>exact⟨j,by omega,rfl,HN.out⟩
      case measure=>simp[intOf]
theorem amB (k:Dk S w g h c W cw bs ws left false) (hl:bs.length<=100000) (i:Nat) (hi:i*512+512<=bs.length):
 Calls Tryz.prog 204 #[.pointer (some ⟨g,0,none⟩), .int .i64 (i:Int)] w fun e w'=>arp (abB bs (ws.map Wr.two) i) w e w':=by
 have HH:=hE0 (ae6 k hl i hi);have HL:=hE0 (arQ k hl i hi);have c3:=k.c3;clear k;obtain⟨ys,hys⟩:=nmE (abB bs (ws.map Wr.two) i);rw[hys]at HL ⊢;clear hys;go_enter Tryz.func204,Tryz.ntmps204
 go_wp2_with fail
 refine HH.out.mono ?_;rintro e w1 ⟨rfl,rfl⟩;go_wp2_with fail
 refine HL.out.mono ?_;rintro e w1 ⟨b,o,c',rfl,hr,rfl⟩;have hlen:ys.length=512:=hr.1;have HC:=abT (some ⟨b,o,none⟩) c' w.heap.size ys w (by rw[hlen];exact hr) (Nat.le_refl _) (fun e=>by cases e) (by omega);rw[hlen]at HC;have HC:=hE0 HC;clear hlen hr;go_wp2_with fail
 refine HC.out.mono ?_;rintro e w2 ⟨A',c2,rfl,ho,hb⟩;have HO:=hE0 ho;clear ho;go_wp2
 go_ret2
 exact⟨A',c2,rfl,HO.out,hb⟩
end
end Go.Proofs.YtncadccbepjekaaGreatDoor
