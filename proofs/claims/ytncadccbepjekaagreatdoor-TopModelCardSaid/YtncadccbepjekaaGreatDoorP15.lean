/- Texts of mine, joined. -/
import Derived.Deep.DeepMust
import Derived.Deep.Cut
import Derived.Deep.Grids
import Derived.Deep.Fields
import Derived.Lib.SmallJoins
import Derived.Test.YtncadccbepjekaaGreatDoorP9
import Derived.Test.YtncadccbepjekaaGreatDoorP10
import Derived.Test.YtncadccbepjekaaGreatDoorP11
import Derived.Test.YtncadccbepjekaaGreatDoorP12
set_option maxRecDepth 100000
set_option maxHeartbeats 2000000
namespace Go.Proofs.YtncadccbepjekaaGreatDoor
open Go.RowKit
def auH (l:List Nat):List Int:=l.map fun n:Nat=>(n:Int)
theorem arP{w:World}{base n:Nat}{t:TypeId}{A:Option Addr}{c:Nat}{l:List Nat}(h:w.ownsRow base t 1 (.slice A n c) n (l.map iV)) (hn:n=l.length):IRd w w.heap.size A (auH l):=fun h0=>by
 have h0:0<l.length:=by simpa[auH]using h0
 rcases h.2 with⟨_,h0'⟩ | ⟨g,_,_,h',_⟩
 · omega
 · injection h' with e;subst e;refine⟨g,0,rfl,(h.lt g rfl).2,fun j x hx=> ?_⟩;have hj:j<l.length:=by
    rcases Nat.lt_or_ge j l.length with h | h
    · exact h
    · rw[auH,List.getElem?_map,List.getElem?_eq_none h]at hx;cases hx
   rw[Nat.zero_add,h.cellAt j (by omega),List.getElem?_map];rw[auH,List.getElem?_map]at hx
   cases hl:l[j]? with
   | none=>rw[hl]at hx;cases hx
   | some y=>rw[hl]at hx;injection hx with hx;rw[<-hx];rfl
theorem alv{α:Type}{p:α->Bool}{l:List α}{j:Nat}{x:α}(h:l[j]?=some x):(l.take (j+1)).countP p=(l.take j).countP p+if p x=true then 1 else 0:=by
 rw[List.take_add_one,h,List.countP_append];simp[List.countP_cons]
theorem arQ{α:Type}{p:α->Bool}{l:List α}{j:Nat}{x:α}(h:l[j]?=some x):(l.take (j+1)).any p=((l.take j).any p || p x):=by
 rw[List.take_add_one,h,List.any_append];simp
section
variable (w:World)
end
theorem apt (n:Int):((auF n:Nat):Int)=n%18446744073709551616:=by unfold auF;omega
theorem ae7 (w:World) (n:Int) (hn: -9223372036854775808<=n/\n<=9223372036854775807) (A1 A2:Option Addr) (k1 k2:Nat) (l:List Rk) (d:List (List UInt8)) (hr:RkRd w w.heap.size A1 l) (hd:DtRd w w.heap.size A2 d) (hl:l.length<=1000000) (hdl:d.length<=1000000) (y:Bool) (hy:aew n l d=y):
 Calls Tryz.prog 118 #[imV n A1 l.length k1 A2 d.length k2] w fun e w'=>e= .returned (.bool y)/\Below w.heap.size w w':=by
 unfold imV;obtain⟨w1,hw1⟩:=nmE (w.alloc (.cells #[.int .i64 n, .slice A1 l.length k1, .slice A2 d.length k2] 107));have hb1:=abE hw1;have n1:=anE hw1;obtain⟨d0,d1,d2⟩:=aam n1;have hl1:=aaa n1;have HLEN:Hid (∀W,Calls Tryz.prog 178 #[.int .u64 (n%18446744073709551616)] W fun e w'=>e= .returned (.bool (ab0 n))/\W=w'):=fun W=>by
  have h:=agy W (auF n) (by unfold auF;omega) (ab0 n) (ao6 n hn);rw[apt]at h;exact h
 have HB1:=hE0 hb1;have HR:=hE0 hr;have HD:=hE0 hd;have HY:=hE0 hy;obtain⟨ll,hll⟩:=nmE l.length;obtain⟨dl,hdll⟩:=nmE d.length;have HROW:Hid (ab0 n=true->Calls Tryz.prog 179 #[.slice A1 ll k1, .int .i64 n] w1 fun e w'=>e= .returned (.bool (abh n 184 false l))/\Below w1.heap.size w1 w'):=fun hk=>by
  have h3:=(aaV n).1 hk;have:=ajZ w1 A1 k1 l ((hr.below hb1).more hb1.size) hl n ⟨h3.1,h3.2.1⟩ _ rfl;rw[hll]at this;exact this
 have HDAT:Hid (∀W,Below w.heap.size w W->abh n 184 false l=true->Calls Tryz.prog 180 #[.slice A2 dl k2, .slice A1 ll k1] W fun e w'=>e= .returned (.bool (datOk l d))/\Below W.heap.size W w'):=fun W hW hk=>by
  have:=ao7 W A1 A2 k1 k2 l d ((hr.below hW).more hW.size) ((hd.below hW).more hW.size) hl hdl (ae0 hk) _ rfl;rw[hll,hdll]at this;exact this
 rw[hll]at d1;rw[hdll]at d2;rw[hll,hdll];rw[hll,hdll]at hw1 n1;have HN1:=hE0 n1;have HW1:=hE0 hw1;clear hw1 hb1 n1 hr hd hy hll hdll
 cases hlo:ab0 n with
 | false=>
  have HF:Hid (false=y):=(show false=y by rw[<-HY.out];unfold aew;rw[hlo];rfl);rw[hlo]at HLEN;clear hlo;go_enter Tryz.func118,Tryz.ntmps118
  go_wp2_with (first | (rw[HW1.out]) | fail)
  refine(HLEN.out _).mono ?_;rintro e w2 ⟨rfl,rfl⟩;go_wp2
  go_ret
  exact⟨abj HF.out,HB1.out⟩
 | true=>
  have HROW2:=hE0 (HROW.out hlo);rw[hlo]at HLEN
  cases hro:abh n 184 false l with
  | false=>
   have HF:Hid (false=y):=(show false=y by rw[<-HY.out];unfold aew;rw[hlo,hro];rfl);rw[hro]at HROW2;clear hlo hro;go_enter Tryz.func118,Tryz.ntmps118
   go_wp2_with (first | (rw[HW1.out]) | fail)
   refine(HLEN.out _).mono ?_;rintro e w2 ⟨rfl,rfl⟩;go_wp2_with fail
   refine HROW2.out.mono ?_;rintro e w2 ⟨rfl,hb2⟩;have HF2:=hE0 (HB1.out.trans (hb2.mono HB1.out.size));clear hb2;go_wp2
   go_ret
   exact⟨abj HF.out,HF2.out⟩
  | true=>
   have HDAT2:=hE0 (fun W hW=>HDAT.out W hW hro);have HF:Hid (datOk l d=y):=(show datOk l d=y by rw[<-HY.out];unfold aew;rw[hlo,hro];rfl);rw[hro]at HROW2;clear hlo hro;go_enter Tryz.func118,Tryz.ntmps118
   go_wp2_with (first | (rw[HW1.out]) | fail)
   refine(HLEN.out _).mono ?_;rintro e w2 ⟨rfl,rfl⟩;go_wp2_with fail
   refine HROW2.out.mono ?_;rintro e w2 ⟨rfl,hb2⟩;have hb02:=HB1.out.trans (hb2.mono HB1.out.size);have HD3:=hE0 (HDAT2.out w2 hb02);have n2:=(hb2.block _ (aaa HN1.out)).trans HN1.out;obtain⟨e0,e1,e2⟩:=aam n2;have hl2:=aaa n2;have HF2:=hE0 hb02;clear hb2 hb02 n2;go_wp2_with fail
   refine HD3.out.mono ?_;rintro e w3 ⟨rfl,hb3⟩;have HF3:=hE0 (HF2.out.trans (hb3.mono HF2.out.size));clear hb3;go_wp2
   go_ret
   exact⟨abj HF.out,HF3.out⟩
theorem afw:(Tryz.prog.info? 5).map (fun i=>(i.zero,i.size,i.bytes))=some (some (.int .u8 0),1,1):=by kernel_rfl
theorem arR{w:World}{B n c:Nat}{A:Option Addr}{xs:List Value}{t:TypeId}(h:w.ownsRow B t 1 (.slice A n c) n xs) (hn:0<n):w.ownsRow B t 1 (.slice A 0 c) 0 []:=by
 rcases h.2 with⟨_,h0⟩ | ⟨g,cap,cur,hv,hg,hh,hnc,hcm,hcs,ht⟩
 · omega
 · injection hv with e1 e2 e3;subst e1 e3;exact⟨rfl, .inr ⟨g,c,cur,rfl,hg,hh,Nat.zero_le _,hcm,hcs,by simp⟩⟩
theorem apu (w:World) (n:Nat) (hn:n<=1000000):
 Calls Tryz.prog 181 #[.slice none 0 0, .int .i64 (n:Int)] w fun e w'=>∃A c,e= .returned (.slice A 0 c)/\w'.ownsRow w.heap.size 5 1 (.slice A 0 c) 0 (([]:List UInt8).map bv)/\Below w.heap.size w w':=by
 by_cases h0:n=0
 · subst h0;go_enter Tryz.func181,Tryz.ntmps181
   go_wp2
   go_ret
   exact⟨none,0,rfl,World.ownsRow_nil _ _ _ _,Below.refl _ _⟩
 · obtain⟨A',c',w2,hr,hown,hgr,_⟩:=adH (P:=Tryz.prog) w 37 3 37 5 .i64 Tryz.underlying37 Tryz.underlying3 afw w.heap.size none 0 [] (World.ownsRow_nil _ _ _ _) n (by simp;omega) (Nat.le_refl _);simp only[List.length_nil,Nat.zero_add]at hr hown;have hfin:w2.ownsRow w.heap.size 5 1 (.slice A' 0 c') 0 (([]:List UInt8).map bv):=arR hown (by omega);have hbel:Below w.heap.size w w2:=(Below.refl _ _).grown hgr (Nat.le_refl _) (fun k hk=>by cases hk);have hnc:n<=c':=by
    rcases hown.2 with⟨_,h'⟩ | ⟨g,cap,cur,hv,_,_,h',_⟩
    · omega
    · injection hv with _ _ e3;subst e3;exact h'
   have hA:∃g,A'=some ⟨g,0,none⟩:=by
    rcases hown.2 with⟨_,h'⟩ | ⟨g,cap,cur,hv,_⟩
    · omega
    · injection hv with e1 _ _;exact⟨g,e1⟩
   obtain⟨g,rfl⟩:=hA;have h1:decide (0<n)=true:=decide_eq_true (by omega);have HR:=hE0 hr;have HF:=hE0 hfin;have HB:=hE0 hbel;clear hr hfin hbel hown hgr h0;go_enter Tryz.func181,Tryz.ntmps181
   go_wp2_with (at_builtin;refine Lib.wpList_append_run _ rfl (.tmp 20) (.tmp 21) 37 3 rfl _ _ rfl rfl _ _ HR.out ?_)
   go_ret
   exact⟨some ⟨g,0,none⟩,c',rfl,HF.out,HB.out⟩
theorem ae8 (d:List (List UInt8)) (j:Nat):(d.take j).flatten.length<=d.flatten.length:=by
 have h:=congrArg (fun l:List (List UInt8)=>l.flatten.length) (List.take_append_drop j d);simp only[List.flatten_append,List.length_append]at h;omega
theorem afx (w:World) (A:Option Addr) (k:Nat) (d:List (List UInt8)) (hd:DtRd w w.heap.size A d) (hl:d.length<=1000) (hs:d.flatten.length<=1000000):
 Calls Tryz.prog 119 #[.slice A d.length k] w fun e w'=>∃v,e= .returned v/\w'.ownsRow w.heap.size 5 1 v d.flatten.length (d.flatten.map bv)/\Below w.heap.size w w':=by
 have HD:=hE0 hd;have HS:=hE0 (fun j=>Nat.le_trans (ae8 d j) hs);have HGR:=hE0 (apu w d.flatten.length hs);obtain⟨m,hm⟩:=nmE d.length;rw[hm]at hl ⊢;have HM:=hE0 hm;obtain⟨sz,hsz⟩:=nmE d.flatten.length;rw[hsz]at HGR hs ⊢;have HSZ:=hE0 hsz;clear hd hm hsz;go_enter Tryz.func119,Tryz.ntmps119
 go_wp2
 go_loopw [3,11] (fun v t wr=>∃(j s:Nat),t= .int .i64 (j:Int)/\v= .int .i64 (s:Int)/\j<=m/\s=(d.take j).flatten.length/\w=wr) (fun _ t _=>m-(intOf t).toNat)
 case atStart=>exact⟨0,0,rfl,rfl,Nat.zero_le _,rfl,rfl⟩
 case round=>
  obtain⟨j,s,rfl,rfl,hj,hss,rfl⟩:=hrel;by_cases hlt:j<m
  · obtain⟨y,hy⟩:∃y,d[j]?=some y:=⟨d[j]'(by rw[HM.out];exact hlt),List.getElem?_eq_getElem _⟩;obtain⟨b,o,rfl,hb,hc⟩:=HD.out (by rw[HM.out];omega);obtain⟨A',k',c0,_⟩:=hc j y hy;obtain⟨n,hn⟩:=nmE y.length;rw[hn]at c0;have hs1:=HS.out (j+1);rw[ada hy,List.length_append,hn,<-hss]at hs1;have HN:Hid (s+n=(d.take (j+1)).flatten.length):=(show _=_ by rw[ada hy,List.length_append,hn,<-hss]);have h0:decide ((s:Int)+(n:Int)<0)=false:=decide_eq_false (by omega);clear hc hy hn hss;go_wp2
    go_roundw
    case rel=>exact⟨j+1,s+n,by go_num,by go_num,by omega,HN.out,trivial⟩
    case measure=>simp only[intOf];omega
  · have e:s=sz:=by rw[hss,List.take_of_length_le (by rw[HM.out];omega),HSZ.out]
    subst e;clear hss;go_wp2_with fail
    refine HGR.out.mono ?_;rintro e w2 ⟨A2,c2,rfl,hown2,hb2⟩;have HO2:=hE0 hown2;have HB2:=hE0 hb2;clear hown2 hb2 HGR;go_wp2
    go_loopw [6,27] (fun v t wr=>∃(j:Nat),t= .int .i64 (j:Int)/\j<=m/\wr.ownsRow w.heap.size 5 1 v (d.take j).flatten.length ((d.take j).flatten.map bv)/\Below w.heap.size w wr) (fun _ t _=>m-(intOf t).toNat)
    case atStart=>exact⟨0,rfl,Nat.zero_le _,HO2.out,HB2.out⟩
    case round=>
     obtain⟨i,rfl,hi,hown,hb⟩:=hrel;by_cases hlt2:i<m
     · obtain⟨y,hy⟩:∃y,d[i]?=some y:=⟨d[i]'(by rw[HM.out];exact hlt2),List.getElem?_eq_getElem _⟩;obtain⟨b,o,rfl,hbb,hc⟩:=HD.out (by rw[HM.out];omega);obtain⟨A',k',c0,hrd,_,_,hA⟩:=hc i y hy;have c1:=(hb.cell (p:=⟨b,o+i,none⟩) hbb).trans c0;have hs1:=HS.out (i+1);rw[ada hy,List.length_append]at hs1;have HFL:=hE0 (ada hy);have HRD:=hE0 ((hrd.below hb).more hb.size);obtain⟨n,hn⟩:=nmE y.length;have HYN:=hE0 hn;obtain⟨q,hq⟩:=nmE ((d.take i).flatten.length);rw[hq]at hown hs1;have HQ:=hE0 hq;rw[hn]at c0 c1 hs1 HRD;have HO:=hE0 hown;have HB:=hE0 hb;clear hc hy hn hown hb hrd hq;go_wp2_with (first
        | (at_builtin;go_must (refine aco rfl (.tmp 31) (.tmp 32) 37 5 rfl Tryz.underlying37 afw w.heap.size _ q (d.take i).flatten rfl HO.out _ A' n k' y rfl HRD.out hA (by omega) HB.out.size ?_);intro x4 w4 own4 hb4 _
           have HX4:Hid (w4.ownsRow w.heap.size 5 1 x4 (q+n) (((d.take i).flatten++y).map bv)/\Below w.heap.size w w4):=⟨own4,HB.out.trans hb4⟩;clear own4 hb4)
        | fail)
       go_roundw
       case rel=>
        refine⟨i+1,by go_num,by omega,?_,HX4.out.2⟩;rw[HFL.out,List.length_append,HQ.out,HYN.out];exact HX4.out.1
       case measure=>simp only[intOf];omega
     · have e:d.take i=d:=List.take_of_length_le (by rw[HM.out];omega);rw[e,HSZ.out]at hown;have HO:=hE0 hown;have HB:=hE0 hb;clear hown hb e;go_wp2
       go_ret
       exact⟨_,rfl,HO.out,HB.out⟩
theorem agI{P:Prop}(h:P:=by
 clear hown hrd hdl hs hfin HSUM;go_enter Tryz.func121,Tryz.ntmps121
 go_wp2_with fail
 refine HS.out.mono ?_;rintro e w2 ⟨rfl,rfl⟩;go_wp2_with fail
 refine HP4.out.mono ?_;rintro e w2 ⟨rfl,hf,hb⟩;have HRD:Hid (Rd w2 w2.heap.size (some ⟨w.heap.size,0,none⟩) 4 (aaJ 4 s)):=(show Rd _ _ _ _ _ by
  have:=hf.reads;rw[aag]at this;exact this)
 have HO2:=hE0 (acL HOWN.out hb);have HB2:=hE0 hb;have HBS:=hE0 (Nat.le_trans hB hb.size);clear hf hb;go_wp2_with (first
  | (at_builtin;go_must (refine aco rfl (.tmp 5) (.tmp 10) 37 5 rfl Tryz.underlying37 afw B _ n b rfl HO2.out _ (some ⟨w.heap.size,0,none⟩) 4 4 (aaJ 4 s) rfl HRD.out (fun e=>by cases e) (by omega) HBS.out ?_);intro x4 w4 own4 hb4 _
     have HX4:Hid (w4.ownsRow B 5 1 x4 (n+4) ((b++aaJ 4 s).map bv)/\Below B w w4):=⟨own4,(HB2.out.mono hB).trans hb4⟩;clear own4 hb4)
  | fail)
 go_ret
 exact⟨_,rfl,HFIN.out▸HX4.out.1,HX4.out.2⟩
 ):P:=h
theorem af7 (w:World) (B:Nat) (v:Value) (b:List UInt8) (n j:Nat) (hn:b.length=n) (hown:w.ownsRow B 5 1 v n (b.map bv)) (hB:B<=w.heap.size) (hj:j<=n) (hn0:0<n) (hl:n<=900000):
 Calls Tryz.prog 121 #[v, .int .i64 (j:Int)] w fun e w'=>∃v',e= .returned v'/\w'.ownsRow B 5 1 v' (n+4) ((af3 b j).map bv)/\Below B w w':=by
 obtain⟨g,c,rfl,hnc,hrd⟩:=ahD hown hn0;have hcm:c<=9223372036854775807:=by
  rcases hown.2 with⟨_,h'⟩ | ⟨g,cap,cur,hv,_,_,_,h',_⟩
  · omega
  · injection hv with _ _ e3;subst e3;unfold maxLen at h';exact h'
 have hdl:(b.drop j).length=n-j:=by rw[List.length_drop,hn]
 obtain⟨s,hs⟩:=nmE (abZ 0 (b.drop j));have hs32:s<4294967296:=by rw[<-hs];exact aeh _ _
 have hfin:b++aaJ 4 s=af3 b j:=by unfold af3 ahO;rw[hs]
 have HP4:=hE0 (aiC s w hs32);have HOWN:=hE0 hown;have HFIN:=hE0 hfin;have HSUM:Hid (∀A2 c2,Rd w w.heap.size A2 (n-j) (b.drop j)->Calls Tryz.prog 146 #[.slice A2 (n-j) c2] w fun e w'=>e= .returned (.int .u32 (s:Int))/\w=w'):=fun A2 c2 h=>by
  have:=ago A2 (n-j) c2 _ _ w h (by omega);rw[hs]at this;exact this
 by_cases hjc:j<c
 · have HR:Hid (Rd w w.heap.size (some ⟨g,j,none⟩) (n-j) (b.drop j)):=(show Rd _ _ _ _ _ by
    have h:=hrd.sub j (n-j) (by omega);rw[List.take_of_length_le (by rw[hdl];exact Nat.le_refl _),Nat.zero_add]at h;exact h)
   have HS:=hE0 (HSUM.out _ (c-j) HR.out);have h1:(j:Int)<(c:Int):=by omega
   exact agI
 · obtain rfl:n=j:=by omega
   obtain rfl:n=c:=by omega
   have HR:Hid (Rd w w.heap.size (some ⟨g,0,none⟩) (n-n) (b.drop n)):=(show Rd _ _ _ _ _ by
    have:b.drop n= []:=List.eq_nil_of_length_eq_zero (by rw[hdl];omega);rw[this,Nat.sub_self];exact Rd.nil_)
   have HS:=hE0 (HSUM.out _ (n-n) HR.out);rw[Nat.sub_self]at HS;exact agI
theorem act (w:World) (A:Option Addr) (n c B:Nat) (b:List UInt8) (i j:Nat) (hr:Rd w B A n b) (hnc:n<=c) (hc:c<=9223372036854775807) (hn:n<=900000) (hij:i<=j) (hj:j+4<=n) (y:Bool) (hy:(ab2 ((b.drop j).take 4)==abZ 0 ((b.drop i).take (j-i)))=y):
 Calls Tryz.prog 279 #[.slice A n c, .int .i64 (i:Int), .int .i64 (j:Int)] w fun e w'=>e= .returned (.bool y)/\w=w':=by
 have HG:=hE0 (amm A n c B b j w hr hnc (by omega) hj);obtain⟨g,off,rfl,_⟩:=hr.2 (by omega);have HSM:=hE0 (ago (some ⟨g,off+i,none⟩) (j-i) (c-i) B _ w (hr.sub i (j-i) (by omega)) (by omega));obtain⟨p,hp⟩:=nmE (ab2 ((b.drop j).take 4));obtain⟨q,hq⟩:=nmE (abZ 0 ((b.drop i).take (j-i)));rw[hp]at HG;rw[hq]at HSM;rw[hp,hq]at hy;have HY:Hid (((p:Int)==(q:Int))=y):=(show _=y by
  rw[<-hy];by_cases h:p=q
  · rw[h];simp
  · have e:(p==q)=false:=by rw[beq_eq_false_iff_ne];exact h
    rw[e,beq_eq_false_iff_ne];omega)
 have h1:(i:Int)<=(j:Int):=by omega
 have h2:(j:Int)<=(c:Int):=by omega
 have h3:(i:Int)<(c:Int):=by omega
 clear hr hp hq hy;go_enter Tryz.func279,Tryz.ntmps279
 go_wp2_with fail
 refine HG.out.mono ?_;rintro e w2 ⟨rfl,rfl⟩;go_wp2_with fail
 refine HSM.out.mono ?_;rintro e w2 ⟨rfl,rfl⟩;go_wp2
 go_ret
 exact⟨abj HY.out,rfl⟩
theorem alw:anh imMarkB=⟨#[67,78,84,76,1,0,0,0]⟩:=by rfl
theorem apv (w:World) (A:Option Addr) (n c B:Nat) (b:List UInt8) (hr:Rd w B A n b) (hnc:n<=c) (hc:c<=9223372036854775807) (hn:n<=900000) (h28:28<=n) (hm:b.take 8=imMarkB) (hs:(ab2 ((b.drop 24).take 4)==abZ 0 ((b.drop 0).take (24-0)))=true) (N K:Nat) (hN:ab2 ((b.drop 8).take 8)=N) (hK:ab2 ((b.drop 16).take 8)=K) (hlen:ab0 (N:Int)=true) (hk:K<=1024):
 Calls Tryz.prog 275 #[.slice A n c] w fun e w'=>e= .returned (.tuple #[.int .i64 (N:Int), .int .i64 (K:Int), .nilIface])/\w=w':=by
 have HS:=hE0 (act w A n c B b 0 24 hr hnc hc hn (by omega) (by omega) true hs);have HG1:=hE0 (adS A n c B b 8 w hr hnc (by omega) (by omega));have HG2:=hE0 (adS A n c B b 16 w hr hnc (by omega) (by omega));rw[hN]at HG1;rw[hK]at HG2;have h3:=(aaV (N:Int)).1 hlen;have HL:=hE0 (agy w N (by omega) true hlen);obtain⟨g,off,rfl,_⟩:=hr.2 (by omega);have q1:(convert 37 9 (.slice (some ⟨g,off,none⟩) 8 c)).run Tryz.prog w= .ok (.string ⟨#[67,78,84,76,1,0,0,0]⟩) w:=by
  have h:=hr.sub 0 8 (by omega);rw[List.drop_zero,hm,Nat.add_zero]at h;have h2:=adR (c:=c) h;rw[alw]at h2;exact h2
 have g1:decide (n<28)=false:=decide_eq_false (by omega);have g2:decide (1024<K)=false:=decide_eq_false (by omega);have g3:(8:Int)<=(c:Int):=by omega
 clear hr hm hs hN hK hlen;go_enter Tryz.func275,Tryz.ntmps275
 go_wp2_with fail
 refine HS.out.mono ?_;rintro e w2 ⟨rfl,rfl⟩;go_wp2_with fail
 refine HG1.out.mono ?_;rintro e w2 ⟨rfl,rfl⟩;go_wp2_with fail
 refine HG2.out.mono ?_;rintro e w2 ⟨rfl,rfl⟩;go_wp2_with fail
 refine HL.out.mono ?_;rintro e w2 ⟨rfl,rfl⟩;go_wp2
 go_ret3
 exact⟨rfl,rfl⟩
theorem aiX (w:World) (k:Nat) (hk:k<=100000):
 Calls Tryz.prog 280 #[.int .i64 (k:Int)] w fun e w'=>e= .returned (.int .i64 ((28+k*8:Nat):Int))/\w=w':=by
 go_enter Tryz.func280,Tryz.ntmps280
 go_wp2
 go_ret
 exact⟨by congr 2,rfl⟩
theorem atN:(Tryz.prog.info? 112).map (fun i=>(i.zero,i.size,i.bytes))=some (some (.agg #[.int .i64 0, .int .i64 0, .bool false]),3,24):=by kernel_rfl
theorem aka{fn:Func}{R:Ending->World->Prop}{a:Act}{w:World}{p u:Tmp}{g:Nat}{x:Value}{n:Int}{A1 A2:Option Addr}{a1 b1 a2 b2:Nat}(hres:fn.results= #[.cell p 107, .tmp u]) (hp:a.tmps.getD p undef= .pointer (some ⟨g,0,none⟩)) (hx:a.tmps.getD u undef=x) (hd:a.defers= [])
 (hg:w.heap[g]?=some (.cells #[.int .i64 n, .slice A1 a1 b1, .slice A2 a2 b2] 107 (0,0))) (hR:R (.returned (.tuple #[.agg #[.int .i64 n, .slice A1 a1 b1, .slice A2 a2 b2],x])) w):bodyPost Tryz.prog fn R .ret a w:=by
 obtain⟨c0,c1,c2⟩:=aam hg;refine bodyPost_ret (v:= .tuple #[.agg #[.int .i64 n, .slice A1 a1 b1, .slice A2 a2 b2],x]) ?_ hd hR;rw[results_cell_tmp hres,hp,hx];simp[go_sem,c0,c1,c2]
theorem ae9{y0 y1 y2:Value}{w:World}{g:Nat}{t:TypeId}(h:w.heap[g]?=some (.cells #[y0,y1,y2] t (0,0))) (x0 x1 x2:Value):
 (((w.setCell ⟨g,0,none⟩ x0).setCell ⟨g,1,none⟩ x1).setCell ⟨g,2,none⟩ x2).heap[g]?=some (.cells #[x0,x1,x2] t (0,0)):=by
 have h1:=heap_setCell_same w g 0 _ _ x0 h;have h2:=heap_setCell_same _ g 1 _ _ x1 h1;have h3:=heap_setCell_same _ g 2 _ _ x2 h2;rw[h3];rfl
theorem acQ{w:World}{g:Nat}{cs:Array Value}{t:TypeId}(h:w.heap[g]?=some (.cells cs t (0,0))):w.frozen? ⟨g,0,none⟩=false/\w.frozen? ⟨g,1,none⟩=false/\w.frozen? ⟨g,2,none⟩=false:=
 ⟨frozen_of_row w g 0 _ _ h,frozen_of_row w g 1 _ _ h,frozen_of_row w g 2 _ _ h⟩
def slMark:List UInt8:= [83,76,79,84,0,0,0,0]
def abt (g n s:Nat):List UInt8:=slMark++aaJ 8 g++aaJ 8 n++aaJ 4 s
def abQ (g n s:Nat):List UInt8:=abt g n s++ahO (abt g n s)++List.replicate 480 0
theorem abY (g n s:Nat):(abt g n s).length=28:=by unfold abt slMark;simp[aag]
theorem aea (g n s:Nat):(abQ g n s).length=512:=by unfold abQ;rw[List.length_append,List.length_append,abY,ab6,List.length_replicate]
theorem atO (w:World):(Instr.buildSlice 37 8 #[(0, .int .u8 83),(1, .int .u8 76),(2, .int .u8 79),(3, .int .u8 84),(4, .int .u8 0),(5, .int .u8 0),(6, .int .u8 0),(7, .int .u8 0)]).run Tryz.prog w= .ok (.slice (some ⟨w.heap.size,0,none⟩) 8 8) (w.alloc (.cells #[.int .u8 83, .int .u8 76, .int .u8 79, .int .u8 84, .int .u8 0, .int .u8 0, .int .u8 0, .int .u8 0] 5)):=by
 obtain⟨i0,hi,hz0,hz1,hz2⟩:=info_parts afw;refine run_buildSlice w 37 5 8 _ _ i0 _ Tryz.underlying37 hi hz0 (by omega) (by omega) ?_;rw[hz1];have e:Array.range (8*1)= #[0,1,2,3,4,5,6,7]:=by decide
 rw[e];simp[Instr.fill,Value.cells]
def slG (b:List UInt8):Nat:=ab2 ((b.drop 8).take 8)
def slN (b:List UInt8):Nat:=ab2 ((b.drop 16).take 8)
def slS (b:List UInt8):Nat:=ab2 ((b.drop 24).take 4)
def akX (g n:Nat):Bool:=decide (1<=g)&&(decide (g<=4611686018427387904)&&decide (n<=65536))
def aow (g n s:Nat):List UInt8:=if akX g n=true then abQ g n s else []
theorem apw:(Tryz.prog.info? 167).map (fun i=>(i.zero,i.size,i.bytes))=some (some (.agg #[.int .i64 0, .slice none 0 0]),2,32):=by kernel_rfl
theorem apx (w:World) (s:Int) (A:Option Addr) (n c:Nat):(Instr.buildSlice 126 1 #[(0, .agg #[.int .i64 s, .slice A n c])]).run Tryz.prog w= .ok (.slice (some ⟨w.heap.size,0,none⟩) 1 1) (w.alloc (.cells #[.int .i64 s, .slice A n c] 167)):=by
 obtain⟨i0,hi,hz0,hz1,hz2⟩:=info_parts apw;refine run_buildSlice w 126 167 1 _ _ i0 _ Tryz.underlying126 hi hz0 (by omega) (by omega) ?_;rw[hz1];have e:Array.range (1*2)= #[0,1]:=by decide
 rw[e];simp[Instr.fill,Value.cells]
section
variable {S:Nat->Prop} {w w3 w4:World} {g h c:Nat} {W:Option Addr} {cw:Nat} {bs:List UInt8} {ws:List Wr} {left:Int} {off:Bool}
theorem Dk.pushed (k:Dk S w g h c W cw bs ws left off) (hb:Below w.heap.size w w3) (x:Wr) (hx1:x.s*512+512<=bs.length) (hx2:w.heap.size<=x.b) (hx3:x.d.length=512) (hx4:Fil w3 x.b x.d) (v:Value)
 (hown:w4.ownsRow 0 167 2 v (ws.length+1) (akW (ws++ [x]))) (hgr:w3.grownBy w4 (Value.slice W ws.length cw).ownBlock) (hat:v.ownBlock=(Value.slice W ws.length cw).ownBlock\/v.ownBlock=some w3.heap.size):
 w4.cell? ⟨g,1,none⟩=some (.slice W ws.length cw)/\w4.frozen? ⟨g,1,none⟩=false/\∃W' cw',v= .slice W' (ws.length+1) cw'/\Dk (ad1 S w (w4.setCell ⟨g,1,none⟩ v)) (w4.setCell ⟨g,1,none⟩ v) g h c W' cw' bs (ws++ [x]) left off/\Tch S w (w4.setCell ⟨g,1,none⟩ v):=by
 have k3:=k.below hb;have hne:∀j,j<w3.heap.size->(∀a,W=some a->j≠a.block)->w4.heap[j]?=w3.heap[j]?:=fun j hj hn=>hgr.block j hj (fun e=>by
  rcases W with _ | a
  · simp[Value.ownBlock]at e
  · simp[Value.ownBlock]at e;exact hn a rfl e)
 have hg4:w4.heap[g]?=w3.heap[g]?:=hne g k3.lt (fun a e=>(k3.wg e).1.symm);have hs4:(w4.setCell ⟨g,1,none⟩ v).heap.size=w4.heap.size:=by simp[World.setCell]
 have hoth:∀j,j≠g->(w4.setCell ⟨g,1,none⟩ v).heap[j]?=w4.heap[j]?:=fun j hj=>Below.heap_setCell _ _ _ _ hj;obtain⟨gw,cw',cur,hv,_,hrow,_⟩:∃g' cap cur,v= .slice (some ⟨g',0,none⟩) (ws.length+1) cap/\0<=g'/\w4.heap[g']?=some (.cells cur 167 (0,0))/\ws.length+1<=cap:=by
  rcases hown.2 with⟨_,h0⟩ | ⟨g',cap,cur,h1,h2,h3,h4,_⟩
  · omega
  · exact⟨g',cap,cur,h1,h2,h3,h4⟩
 have hgwlt:=aae hrow;have hgwg:gw≠g:=afv hrow (hg4.trans k3.obj) (by decide);subst hv;refine⟨(World.cell?_of_block (a:=⟨g,1,none⟩) hg4).trans k3.c1,(World.frozen?_of_block (a:=⟨g,1,none⟩) hg4).trans (k3.thaw 1),some ⟨gw,0,none⟩,cw',rfl,⟨?_,?_,?_,?_, .inl k.sg, .inl k.sh,?_,?_⟩,?_⟩
 · rw[heap_setCell_same w4 g 1 _ _ _ (hg4.trans k3.obj),List.length_append];rfl
 · refine acr k3.own fun j hj=> ?_;injection hj with hj;subst hj;rw[hoth _ k3.gh.symm];exact hne _ k3.hlt (fun a e=>(k3.wg e).2.1.symm)
 · rw[List.length_append];refine acr hown fun j hj=> ?_;injection hj with hj;subst hj;exact hoth _ hgwg
 · intro y hy;rcases List.mem_append.1 hy with hy | hy
   · obtain⟨h1,h2,h3,h4⟩:=k3.row y hy;refine⟨h1,h2,h3,h4.keep ?_⟩;rw[hoth _ (k3.xg hy)];exact hne _ (k3.xlt hy) (fun a e=>(k3.wg e).2.2 y hy)
   · obtain rfl:y=x:=by simpa using hy
     have hlt:=hx4.lt;have hyg:y.b≠g:=fun e=>by have:=k.lt;omega
     refine⟨hx1,fun e=>by have:=k.hlt;omega,hx3,hx4.keep ?_⟩;rw[hoth _ hyg];refine hne _ hlt (fun a e=> ?_);have:=k.wlt e;omega
 · intro a e;injection e with e;subst e;show ad1 S w _ gw;rcases hat with h1 | h1
   · left;rcases W with _ | a
     · simp[Value.ownBlock]at h1
     · simp[Value.ownBlock]at h1;rw[h1];exact k.sw a rfl
   · right;simp[Value.ownBlock]at h1;rw[hs4,h1];exact⟨hb.size,by omega⟩
 · intro y hy;rcases List.mem_append.1 hy with hy | hy
   · exact .inl (k.sx y hy)
   · obtain rfl:y=x:=by simpa using hy
     right;rw[hs4];have:=hx4.lt;have:=hgr.size;exact⟨hx2,by omega⟩
 · refine((Tch.of_below (S:=S) hb).trans (Tch.grown (S:=S) hgr fun j hj=> ?_) (fun _ _ h=>h)).trans (Tch.set (S:=S) w4 ⟨g,1,none⟩ _ k.sg) (fun _ _ h=>h);rcases W with _ | a
   · simp[Value.ownBlock]at hj
   · simp[Value.ownBlock]at hj;rw[<-hj];exact k.sw a rfl
theorem anA (k:Dk S w g h c W cw bs ws left false) (hl:bs.length<=100000) (hws:ws.length<=1000000) (hleft:left<0) (i:Nat) (hi:i*512+512<=bs.length) (A:Option Addr) (cA:Nat) (d:List UInt8) (hd:d.length=512) (hr:Rd w w.heap.size A 512 d):
 Calls Tryz.prog 255 #[.pointer (some ⟨g,0,none⟩), .int .i64 (i:Int), .slice A 512 cA] w fun e w'=>e= .returned .nilIface/\(∃W' cw' b cb,Dk (ad1 S w w') w' g h c W' cw' bs (ws++ [⟨i,b,cb,d⟩]) left false)/\Tch S w w':=by
 have hA:A=none->cA=0:=fun e=>by
  obtain⟨_,_,e1,_⟩:=hr.2 (by omega);rw[e]at e1;cases e1
 have HH:=hE0 (ae2 k hl i hi);have c2:=k.c2;have c3:=k.c3;have hle0:(left==0)=false:=by rw[beq_eq_false_iff_ne];omega
 obtain⟨w0,hw0⟩:=nmE w.drew;have k0:Dk S w0 g h c W cw bs ws left false:=by rw[<-hw0];exact k.drew
 have hsz0:w0.heap.size=w.heap.size:=by rw[<-hw0];rfl
 have r0:Rd w0 w0.heap.size A d.length d:=by rw[hd,hsz0,<-hw0];exact hr.drew
 have hb0:=adE hw0;have HC:=abU A cA w0.heap.size d w0 r0 (Nat.le_refl _) hA (by omega);rw[hd]at HC;have HC:=hE0 HC;have K0:=hE0 k0;have HW0:=hE0 hw0;have HB0:=hE0 hb0;have HD:=hE0 hd;have HSZ:=hE0 hsz0;clear hw0 k0 r0 hb0 hd k hr hA hsz0;go_enter Tryz.func255,Tryz.ntmps255
 go_wp2_with fail
 refine HH.out.mono ?_;rintro e w1 ⟨rfl,rfl⟩;go_wp2_with fail
 refine aao w0.heap.size [([0,1,2,3,4,5,6],7),([8],9)] [] [10,11,12,13] (by kernel_rfl) (by kernel_rfl) (by kernel_rfl) (fun _ _ _ _ _ h=>h) ?_;rw[HW0.out];clear c2 c3 hle0;have q0:∀x:LaterB w0.heap.size w0,x.val.cell? ⟨g,1,none⟩=some (.slice W ws.length cw):=fun x=>(x.ext.cell (p:=⟨g,1,none⟩) K0.out.lt).trans K0.out.c1;refine tail_cons (l:= ?seg1) ?hseg1 ?_
 case hseg1=>simp only[pick,lE1,lE2,lE3];rfl
 repeat (go_big_quiet_step (fail))
 refine wpQuiet_nil ?_;clear q0;refine aar (vs:= #[.slice A 512 cA]) Tryz.call92 rfl rfl rfl (R:=fun r w'=>∃b cb,r= .slice (some ⟨b,0,none⟩) 512 cb/\w0.heap.size<=b/\Fil w' b d) (HC.out.mono ?_) w0.heap.size (Nat.le_refl _) ?_
 · rintro e w' ⟨A',c',rfl,ho,hb⟩;rw[HD.out]at ho;obtain⟨b,cb,e1,_,_⟩:=ahD ho (by omega);injection e1 with e1 _ e3;subst e1 e3;exact⟨_,by rw[HD.out],hb,b,c',rfl,(ho.lt b rfl).1,Fil.of_own ho⟩
 rintro r w1 hb1 ⟨b,cb,rfl,hbb,hfil⟩;refine tail_cons (l:= ?seg2) ?hseg2 ?_
 case hseg2=>simp only[pick,lE1,lE2,lE3];rfl
 simp only[Act.put,lE4,lE5,lE6];repeat (go_big_quiet_step (fail))
 refine wpQuiet_nil ?_;obtain⟨w3,hw3⟩:=nmE (w1.alloc (.cells #[.int .i64 (i:Int), .slice (some ⟨b,0,none⟩) 512 cb] 167));have hro:=apx w1 (i:Int) (some ⟨b,0,none⟩) 512 cb;rw[hw3]at hro;have hb13:=abE hw3;have hn3:=anE hw3;have hb3:Below w0.heap.size w0 w3:=hb1.trans (hb13.mono hb1.size);refine amh (w1:=w3) (v:= .slice (some ⟨w1.heap.size,0,none⟩) 1 1) rfl rfl ?rv1 (hb13.mono hb1.size) ?_
 case rv1=>exact aaQ rfl rfl hro
 refine⟨w0.heap.size,Nat.le_refl _,?_⟩;refine aaH (l:= ?la3) (t:= ?tl3) ?hla3 ?htl3 ?_
 case hla3=>rfl
 case htl3=>simp only[pick,lE1,lE2,lE3];rfl
 refine wpQuiet_nil ?_;simp only[Act.put,List.setIfInBounds_toArray];obtain⟨i0,hi0,hz0,hz1,hz2⟩:=info_parts apw;have hwcap:=K0.out.wcap;have hnew:∀j u,[Value.int .i64 (i:Int), .slice (some ⟨b,0,none⟩) 512 cb][j]?=some u->w3.cell? ((⟨w1.heap.size,0,none⟩:Addr).add j)=some u:=by
  intro j u hu;have e:(⟨w1.heap.size,0,none⟩:Addr).add j=⟨w1.heap.size,j,none⟩:=by unfold Addr.add;split<;>simp_all
  rw[e,cell_of_row w3 _ j _ _ (0,0) hn3];simpa using hu
 have hone:∀u∈ [Value.int .i64 (i:Int), .slice (some ⟨b,0,none⟩) 512 cb],u.oneCell'=true:=by
  intro u hu;simp at hu;rcases hu with rfl | rfl<;>rfl
 have k3:=K0.out.below hb3;refine wpList_append_own_at w3 rfl (.tmp 46) (.tmp 51) 126 rfl 0 167 i0 _ 2 32 Tryz.underlying126 hi0 hz0 hz1 hz2 rfl (by decide) (.slice W ws.length cw) ws.length (akW ws) rfl k3.wai ⟨w1.heap.size,0,none⟩ 1 1 _ rfl rfl hnew hone (by unfold maxLen;omega) (by omega) (Nat.zero_le _) ?_;intro v4 w4 own4 gr4 _ at4;have own4':w4.ownsRow 0 167 2 v4 (ws.length+1) (akW (ws++ [⟨i,b,cb,d⟩])):=by rw[agz];exact own4
 obtain⟨p1,p2,W',cw',rfl,p3,p4⟩:=K0.out.pushed hb3 ⟨i,b,cb,d⟩ hi hbb HD.out (hfil.keep (hb13.block b hfil.lt)) v4 own4' gr4 at4;have P3:=hE0 p3;have P4:=hE0 p4;clear p3 p4 own4 own4' gr4 at4 k3 hone hnew hi0 hz0 hz1 hz2 hn3 hro hw3;go_wp2
 go_ret
 refine⟨rfl,⟨W',cw',b,cb,P3.out.more fun j hj=> ?_⟩,(Tch.of_below (S:=S) HB0.out).trans P4.out (fun _ _ h=>h)⟩;rcases(P3.out.foot hj).1 with h1 | h1
 · exact .inl h1
 · exact .inr ⟨HSZ.out▸h1.1,h1.2⟩
end
section
variable {S:Nat->Prop} {w:World} {g h c:Nat} {W:Option Addr} {cw:Nat} {bs:List UInt8} {ws:List Wr} {left:Int} {off:Bool}
theorem anB (k:Dk S w g h c W cw bs ws left false) (hl:bs.length<=100000) (hws:ws.length<=1000000) (hleft:0<left) (hleft2:left<=9223372036854775807) (i:Nat) (hi:i*512+512<=bs.length) (A:Option Addr) (cA:Nat) (d:List UInt8) (hd:d.length=512) (hr:Rd w w.heap.size A 512 d) (hAg:∀a,A=some a->a.block≠g):
 Calls Tryz.prog 255 #[.pointer (some ⟨g,0,none⟩), .int .i64 (i:Int), .slice A 512 cA] w fun e w'=>e= .returned .nilIface/\(∃W' cw' b cb,Dk (ad1 S w w') w' g h c W' cw' bs (ws++ [⟨i,b,cb,d⟩]) (left-1) false)/\Tch S w w':=by
 have hA:A=none->cA=0:=fun e=>by
  obtain⟨_,_,e1,_⟩:=hr.2 (by omega);rw[e]at e1;cases e1
 have HH:=hE0 (ae2 k hl i hi);have c2:=k.c2;have c3:=k.c3;have hle0:(left==0)=false:=by rw[beq_eq_false_iff_ne];omega
 have f2:=k.thaw 2;obtain⟨w0,hw0⟩:=nmE ((w.setCell ⟨g,2,none⟩ (.int .i64 (left-1))).drew);have k0:Dk S w0 g h c W cw bs ws (left-1) false:=by rw[<-hw0];exact(k.set2 (left-1)).drew
 have hsz0:w0.heap.size=w.heap.size:=by rw[<-hw0];simp[World.setCell]
 have hb0:Tch (fun j=>j=g) w w0:=by rw[<-hw0];exact(Tch.set (S:=fun j=>j=g) w ⟨g,2,none⟩ _ rfl).drew
 have r0:Rd w0 w0.heap.size A d.length d:=by rw[hd];exact hr.tch hb0 hAg
 have HC:=abU A cA w0.heap.size d w0 r0 (Nat.le_refl _) hA (by omega);rw[hd]at HC;have HC:=hE0 HC;have K0:=hE0 k0;have HW0:=hE0 hw0;have HB0:Hid (Tch S w w0):=⟨hb0.os,hb0.tape,hb0.output,hb0.size,fun j hj hn=>hb0.block j hj (fun e=>hn (by rw[e];exact k.sg))⟩;have HD:=hE0 hd;have HSZ:=hE0 hsz0;clear hw0 k0 r0 hb0 hd k hr hA hsz0 hAg;go_enter Tryz.func255,Tryz.ntmps255
 go_wp2_with fail
 refine HH.out.mono ?_;rintro e w1 ⟨rfl,rfl⟩;go_wp2_with fail
 refine aao w0.heap.size [([0,1,2,3,4,5,6],7),([8],9)] [] [10,11,12,13] (by kernel_rfl) (by kernel_rfl) (by kernel_rfl) (fun _ _ _ _ _ h=>h) ?_;rw[HW0.out];clear c2 c3 hle0 f2;have q0:∀x:LaterB w0.heap.size w0,x.val.cell? ⟨g,1,none⟩=some (.slice W ws.length cw):=fun x=>(x.ext.cell (p:=⟨g,1,none⟩) K0.out.lt).trans K0.out.c1;refine tail_cons (l:= ?seg1) ?hseg1 ?_
 case hseg1=>simp only[pick,lE1,lE2,lE3];rfl
 repeat (go_big_quiet_step (fail))
 refine wpQuiet_nil ?_;clear q0;refine aar (vs:= #[.slice A 512 cA]) Tryz.call92 rfl rfl rfl (R:=fun r w'=>∃b cb,r= .slice (some ⟨b,0,none⟩) 512 cb/\w0.heap.size<=b/\Fil w' b d) (HC.out.mono ?_) w0.heap.size (Nat.le_refl _) ?_
 · rintro e w' ⟨A',c',rfl,ho,hb⟩;rw[HD.out]at ho;obtain⟨b,cb,e1,_,_⟩:=ahD ho (by omega);injection e1 with e1 _ e3;subst e1 e3;exact⟨_,by rw[HD.out],hb,b,c',rfl,(ho.lt b rfl).1,Fil.of_own ho⟩
 rintro r w1 hb1 ⟨b,cb,rfl,hbb,hfil⟩;refine tail_cons (l:= ?seg2) ?hseg2 ?_
 case hseg2=>simp only[pick,lE1,lE2,lE3];rfl
 simp only[Act.put,lE4,lE5,lE6];repeat (go_big_quiet_step (fail))
 refine wpQuiet_nil ?_;obtain⟨w3,hw3⟩:=nmE (w1.alloc (.cells #[.int .i64 (i:Int), .slice (some ⟨b,0,none⟩) 512 cb] 167));have hro:=apx w1 (i:Int) (some ⟨b,0,none⟩) 512 cb;rw[hw3]at hro;have hb13:=abE hw3;have hn3:=anE hw3;have hb3:Below w0.heap.size w0 w3:=hb1.trans (hb13.mono hb1.size);refine amh (w1:=w3) (v:= .slice (some ⟨w1.heap.size,0,none⟩) 1 1) rfl rfl ?rv1 (hb13.mono hb1.size) ?_
 case rv1=>exact aaQ rfl rfl hro
 refine⟨w0.heap.size,Nat.le_refl _,?_⟩;refine aaH (l:= ?la3) (t:= ?tl3) ?hla3 ?htl3 ?_
 case hla3=>rfl
 case htl3=>simp only[pick,lE1,lE2,lE3];rfl
 refine wpQuiet_nil ?_;simp only[Act.put,List.setIfInBounds_toArray];obtain⟨i0,hi0,hz0,hz1,hz2⟩:=info_parts apw;have hwcap:=K0.out.wcap;have hnew:∀j u,[Value.int .i64 (i:Int), .slice (some ⟨b,0,none⟩) 512 cb][j]?=some u->w3.cell? ((⟨w1.heap.size,0,none⟩:Addr).add j)=some u:=by
  intro j u hu;have e:(⟨w1.heap.size,0,none⟩:Addr).add j=⟨w1.heap.size,j,none⟩:=by unfold Addr.add;split<;>simp_all
  rw[e,cell_of_row w3 _ j _ _ (0,0) hn3];simpa using hu
 have hone:∀u∈ [Value.int .i64 (i:Int), .slice (some ⟨b,0,none⟩) 512 cb],u.oneCell'=true:=by
  intro u hu;simp at hu;rcases hu with rfl | rfl<;>rfl
 have k3:=K0.out.below hb3;refine wpList_append_own_at w3 rfl (.tmp 46) (.tmp 51) 126 rfl 0 167 i0 _ 2 32 Tryz.underlying126 hi0 hz0 hz1 hz2 rfl (by decide) (.slice W ws.length cw) ws.length (akW ws) rfl k3.wai ⟨w1.heap.size,0,none⟩ 1 1 _ rfl rfl hnew hone (by unfold maxLen;omega) (by omega) (Nat.zero_le _) ?_;intro v4 w4 own4 gr4 _ at4;have own4':w4.ownsRow 0 167 2 v4 (ws.length+1) (akW (ws++ [⟨i,b,cb,d⟩])):=by rw[agz];exact own4
 obtain⟨p1,p2,W',cw',rfl,p3,p4⟩:=K0.out.pushed hb3 ⟨i,b,cb,d⟩ hi hbb HD.out (hfil.keep (hb13.block b hfil.lt)) v4 own4' gr4 at4;have P3:=hE0 p3;have P4:=hE0 p4;clear p3 p4 own4 own4' gr4 at4 k3 hone hnew hi0 hz0 hz1 hz2 hn3 hro hw3;go_wp2
 go_ret
 refine⟨rfl,⟨W',cw',b,cb,P3.out.more fun j hj=> ?_⟩,HB0.out.trans P4.out (fun _ _ h=>h)⟩;rcases(P3.out.foot hj).1 with h1 | h1
 · exact .inl h1
 · exact .inr ⟨by have:=HSZ.out;omega,h1.2⟩
theorem anC (k:Dk S w g h c W cw bs ws left true) (hl:bs.length<=100000) (hleft:left≠0) (i:Nat) (hi:i*512+512<=bs.length) (A:Option Addr) (cA:Nat):
 Calls Tryz.prog 255 #[.pointer (some ⟨g,0,none⟩), .int .i64 (i:Int), .slice A 512 cA] w fun e w'=>e= .returned (.iface 130 (.int .i64 6))/\w=w':=by
 have HH:=hE0 (ae2 k hl i hi);have c2:=k.c2;have c3:=k.c3;have hle0:(left==0)=false:=by rw[beq_eq_false_iff_ne];exact hleft
 go_enter Tryz.func255,Tryz.ntmps255
 go_wp2_with fail
 with_reducible refine HH.out.mono ?_
 rintro e w1 ⟨rfl,rfl⟩;go_wp2
 go_ret
 exact⟨rfl,rfl⟩
theorem anD (k:Dk S w g h c W cw bs ws 0 off) (hl:bs.length<=100000) (i:Nat) (hi:i*512+512<=bs.length) (A:Option Addr) (cA:Nat):
 Calls Tryz.prog 255 #[.pointer (some ⟨g,0,none⟩), .int .i64 (i:Int), .slice A 512 cA] w fun e w'=>e= .returned (.iface 130 (.int .i64 6))/\Dk S w' g h c W cw bs ws 0 true/\Tch S w w':=by
 have HH:=hE0 (ae2 k hl i hi);have c2:=k.c2;have c3:=k.c3;have f3:=k.thaw 3;have K1:=hE0 (k.set3 true);have T1:=hE0 (Tch.set (S:=S) w ⟨g,3,none⟩ (.bool true) k.sg);clear k;go_enter Tryz.func255,Tryz.ntmps255
 go_wp2_with fail
 with_reducible refine HH.out.mono ?_
 rintro e w1 ⟨rfl,rfl⟩;go_wp2
 go_ret
 exact⟨rfl,K1.out,T1.out⟩
theorem anF (k:Dk S w g h c W cw bs ws left true):
 Calls Tryz.prog 209 #[.pointer (some ⟨g,0,none⟩)] w fun e w'=>e= .returned (.iface 130 (.int .i64 6))/\w=w':=by
 have c3:=k.c3;go_enter Tryz.func209,Tryz.ntmps209
 go_wp2
 go_ret
 exact⟨rfl,rfl⟩
end
def RkC (cs:Array Value) (l:List Rk):Prop:=∀j x,l[j]?=some x->cs[j*3]?=some (.int .i64 x.o)/\cs[j*3+1]?=some (.int .i64 x.s)/\cs[j*3+2]?=some (.bool x.u)/\
 (-9223372036854775808<=x.o/\x.o<=9223372036854775807)/\(-9223372036854775808<=x.s/\x.s<=9223372036854775807)
theorem RkC.rd{w:World}{g:Nat}{cs:Array Value}{t:TypeId}{l:List Rk}(h:RkC cs l) (hg:w.heap[g]?=some (.cells cs t (0,0))):RkRd w w.heap.size (some ⟨g,0,none⟩) l:=fun _=>by
 refine⟨g,0,rfl,aaa hg,fun j x hx=> ?_⟩;obtain⟨h0,h1,h2,h3⟩:=h j x hx;simp only[Nat.zero_add];exact⟨(cell_of_row _ _ _ _ _ _ hg).trans h0,(cell_of_row _ _ _ _ _ _ hg).trans h1,(cell_of_row _ _ _ _ _ _ hg).trans h2,h3⟩
theorem RkC.snoc{cs:Array Value}{l:List Rk}{k:Nat}(h:RkC cs l) (hs:cs.size=3*k) (hl:l.length<k) (o s:Int) (u:Bool) (ho: -9223372036854775808<=o/\o<=9223372036854775807) (hsb: -9223372036854775808<=s/\s<=9223372036854775807):
 RkC (((cs.setIfInBounds (l.length*3) (.int .i64 o)).setIfInBounds (l.length*3+1) (.int .i64 s)).setIfInBounds (l.length*3+2) (.bool u)) (l++ [⟨o,s,u⟩]):=by
 intro j x hx;by_cases hj:j<l.length
 · rw[List.getElem?_append_left hj]at hx;obtain⟨h0,h1,h2,h3⟩:=h j x hx;simp only[Array.getElem?_setIfInBounds];rw[if_neg (by omega),if_neg (by omega),if_neg (by omega),if_neg (by omega),if_neg (by omega),if_neg (by omega),if_neg (by omega),if_neg (by omega),if_neg (by omega)];exact⟨h0,h1,h2,h3⟩
 · rw[List.getElem?_append_right (by omega)]at hx;have e:j=l.length:=by
    have:=(List.getElem?_eq_some_iff.1 hx).1;simp at this;omega
   subst e;simp at hx;subst hx;simp only[Array.getElem?_setIfInBounds];simp[hs];refine⟨?_,?_,?_,ho,hsb⟩<;>omega
theorem atP (W:World) (k:Nat) (hk:k<=1024):∃cs,cs.size=3*k/\(Instr.makeSlice 56 (.int .i64 (k:Int)) (.int .i64 (k:Int))).run Tryz.prog W= .ok (.slice (some ⟨W.heap.size,0,none⟩) k k) (W.alloc (.cells cs 112)):=by
 obtain⟨i0,hi,hz0,hz1,hz2⟩:=info_parts atN;have h:=run_makeSlice (P:=Tryz.prog) W 56 112 i0 _ Tryz.underlying56 hi hz0 .i64 .i64 k k (by omega) (by omega) (by rw[hz1];omega) (by rw[hz2];omega) (by omega);refine⟨_,?_,h⟩;rw[size_madeCells,hz1];omega
structure Hm (F:Nat->Prop) (w:World) (p:Nat) (H:Hp) (Vb Vd:Value) (gl:Nat) (cs:List Value):Prop where
 obj:w.heap[p]?=some (.cells #[.int .i64 (H.cap:Int),Vb,Vd, .slice (some ⟨gl,0,none⟩) 22 22] 135 (0,0))
 ob:w.ownsRow 0 112 3 Vb H.blks.length (acW H.blks)
 od:w.ownsRow 0 37 1 Vd H.ds.length (H.ds.map Prod.fst)
 row:w.heap[gl]?=some (.cells cs.toArray 23 (0,0))
 len:cs.length=22
 at_:∀d,d<22->∃v,cs[d]?=some v/\w.ownsRow 0 3 1 v (H.lists d).length ((H.lists d).map iV)
 fp:F p
 fl:F gl
 fb:∀k,Vb.ownBlock=some k->F k
 fd:∀k,Vd.ownBlock=some k->F k
 fi:∀d v k,d<22->cs[d]?=some v->v.ownBlock=some k->F k
 sl:∀d∈H.ds,∃A n c,d.1= .slice A n c
def HM (F:Nat->Prop) (w:World) (p:Nat) (H:Hp):Prop:=∃Vb Vd gl cs,Hm F w p H Vb Vd gl cs
def HT (F:Nat->Prop) (w:World) (p:Nat) (H':Hp) (w':World):Prop:=∃F',HM F' w' p H'/\Tch F w w'/\∀k,F' k->F k\/w.heap.size<=k
theorem arS{w:World}{base base' n size:Nat}{t:TypeId}{v:Value}{xs:List Value}(h:w.ownsRow base t size v n xs) (hb:base'<=base):w.ownsRow base' t size v n xs:=by
 refine⟨h.1,?_⟩;rcases h.2 with h2 | ⟨g,cap,cur,hv,hg,r⟩
 · exact .inl h2
 · exact .inr ⟨g,cap,cur,hv,Nat.le_trans hb hg,r⟩
section
variable {F F':Nat->Prop} {w w' w2:World} {p gl:Nat} {H H':Hp} {Vb Vd:Value} {cs:List Value}
end
theorem apy (b k j:Nat):(⟨b,k,none⟩:Addr).add j=⟨b,k+j,none⟩:=by unfold Addr.add;split<;>simp_all
theorem af8{w:World}{base n c size b:Nat}{t:TypeId}{xs:List Value}(h:w.ownsRow base t size (.slice (some ⟨b,0,none⟩) n c) n xs) (k m:Nat) (hkm:k+m<=n) (A:Addr) (hA:m=0\/A=⟨b,k*size,none⟩):Src w (some A) m c ((xs.drop (k*size)).take (m*size)):=by
 refine⟨fun e=>(by cases e),fun ad e j u hu=> ?_⟩;injection e with e;subst e;rcases hA with rfl | rfl
 · simp at hu
 · rw[apy];have hlen:j<m*size:=by
    rcases Nat.lt_or_ge j (m*size)with h1 | h1
    · exact h1
    · rw[List.getElem?_eq_none (Nat.le_trans (List.length_take_le _ _) h1)]at hu;cases hu
   rw[List.getElem?_take,if_pos hlen,List.getElem?_drop]at hu;have h2:k*size+m*size<=n*size:=by rw[<-Nat.add_mul];exact Nat.mul_le_mul_right _ hkm
   rw[h.cellAt _ (by omega)];exact hu
theorem Src.cap{w:World}{A:Addr}{m c c':Nat}{xs:List Value}(h:Src w (some A) m c xs):Src w (some A) m c' xs:=⟨fun e=>(by cases e),h.2⟩
section
variable {F:Nat->Prop} {w w':World} {p gl:Nat} {H:Hp} {Vb Vd:Value} {cs:List Value}
end
open Go.RowKit Go.Extern.Stop Go.Stop Go.Extern
theorem agJ (v:Value) (w:World):(Extern.ReflectliteType.typeOf #[.iface 130 v]).run Tryz.prog w= .ok (.iface 314 (.agg #[.pointer (some ⟨1,130,none⟩)])) w:=by kernel_rfl
def apz:Array Value->Sem Value:=Extern.ReflectliteType.method fun t=>do Extern.Rtype.noPackHeld "Comparable" t;pure (.bool (<-typeInfo t).comparable)
theorem aeb (w:World):(apz #[.agg #[.pointer (some ⟨1,130,none⟩)]]).run Tryz.prog w= .ok (.bool true) w:=by kernel_rfl
theorem afN (v:Value) (w:World):(Go.method 476 314 v "Comparable").run Tryz.prog w= .ok (304,v) w:=by kernel_rfl
theorem apA (v:Value) (xT:TypeId) (w:World):(Instr.typeAssert (.iface 130 v) xT 336 true).run Tryz.prog w= .ok (.tuple #[.nilIface, .bool false]) w:=run_typeAssert_lacksB Tryz.underlying336 (by kernel_rfl) (by kernel_rfl) v xT w
theorem aiY (v:Value) (xT:TypeId) (w:World):(Instr.typeAssert (.iface 130 v) xT 321 true).run Tryz.prog w= .ok (.tuple #[.nilIface, .bool false]) w:=run_typeAssert_lacksB Tryz.underlying321 (by kernel_rfl) (by kernel_rfl) v xT w
theorem aht (v:Value) (xT:TypeId) (w:World):(Instr.typeAssert (.iface 130 v) xT 322 true).run Tryz.prog w= .ok (.tuple #[.nilIface, .bool false]) w:=run_typeAssert_lacksB Tryz.underlying322 (by kernel_rfl) (by kernel_rfl) v xT w
theorem anG (w:World):(binOp .eql 31 (.iface 130 (.int .i64 1)) (.iface 130 (.int .i64 1))).run Tryz.prog w= .ok (.bool true) w:=by kernel_rfl
theorem anH (w:World):(binOp .eql 31 (.iface 130 (.int .i64 3)) (.iface 130 (.int .i64 1))).run Tryz.prog w= .ok (.bool false) w:=by kernel_rfl
theorem avT (w:World):
 Calls Tryz.prog 192 #[.iface 130 (.int .i64 1), .iface 130 (.int .i64 1)] w fun e w'=>e= .returned (.bool true)/\w'=w:=by
 have h8:= @run_callFunc_extern Tryz.prog 240 _ Extern.ReflectliteType.typeOf Tryz.func240 (by kernel_rfl) (by kernel_rfl) (by kernel_rfl) (by kernel_rfl);have h32:= @run_callFunc_extern Tryz.prog 304 _ apz Tryz.func304 (by kernel_rfl) (by kernel_rfl) (by kernel_rfl) (by kernel_rfl);have tT:=agJ;have cT:=aeb;have mR:=afN;have heq:=anG;go_enter Tryz.func192,Tryz.ntmps192
 go_wp2
 refine wp_loop_rounds 1 ?_;rw[rounds_succ];go_wp2
 go_ret
 exact⟨rfl,rfl⟩
theorem avb (w:World):
 Calls Tryz.prog 192 #[.iface 130 (.int .i64 3), .iface 130 (.int .i64 1)] w fun e w'=>e= .returned (.bool false)/\w'=w:=by
 have h8:= @run_callFunc_extern Tryz.prog 240 _ Extern.ReflectliteType.typeOf Tryz.func240 (by kernel_rfl) (by kernel_rfl) (by kernel_rfl) (by kernel_rfl);have h32:= @run_callFunc_extern Tryz.prog 304 _ apz Tryz.func304 (by kernel_rfl) (by kernel_rfl) (by kernel_rfl) (by kernel_rfl);have tT:=agJ;have cT:=aeb;have mR:=afN;have nE:=apA;have uE:=aiY;have vE:=aht;have heq:=anH;go_enter Tryz.func192,Tryz.ntmps192
 go_wp2
 refine wp_loop_rounds 1 ?_;rw[rounds_succ];go_wp2
 go_ret
 exact⟨rfl,rfl⟩
end Go.Proofs.YtncadccbepjekaaGreatDoor
