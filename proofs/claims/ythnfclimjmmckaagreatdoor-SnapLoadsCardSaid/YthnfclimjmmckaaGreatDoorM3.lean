/- Texts of mine, joined. -/
import Derived.Deep.QuietTactic
import Derived.BigQuiet
import Derived.Deep.DeepMust
import Derived.Deep.Cut
import Derived.Great.BuildSlice
import Derived.Test.YthnfclimjmmckaaGreatDoorM2
set_option maxRecDepth 100000
set_option maxHeartbeats 8000000
namespace Go.Proofs.YthnfclimjmmckaaGreatDoor
open Go.RowKit
def RkRd (w:World) (B:Nat) (A:Option Addr) (l:List Rk):Prop:=0<l.length->∃b o,A=some ⟨b,o,none⟩/\b<B/\∀j x,l[j]?=some x->
 w.cell? ⟨b,o+j*3,none⟩=some (.int .i64 x.o)/\w.cell? ⟨b,o+j*3+1,none⟩=some (.int .i64 x.s)/\w.cell? ⟨b,o+j*3+2,none⟩=some (.bool x.u)/\
 (-9223372036854775808<=x.o/\x.o<=9223372036854775807)/\(-9223372036854775808<=x.s/\x.s<=9223372036854775807)
def DtRd (w:World) (B:Nat) (A:Option Addr) (d:List (List UInt8)):Prop:=0<d.length->∃b o,A=some ⟨b,o,none⟩/\b<B/\∀j y,d[j]?=some y->
 ∃A' k,w.cell? ⟨b,o+j,none⟩=some (.slice A' y.length k)/\Rd w B A' y.length y/\y.length<=maxLen/\y.length<=k/\(A'=none->k=0)
section
variable {w w':World} {B B':Nat} {A:Option Addr} {l:List Rk} {d:List (List UInt8)}
theorem RkRd.below (h:RkRd w B A l) (hb:Below B w w'):RkRd w' B A l:=fun hn=>by
 obtain⟨b,o,e,hB,hc⟩:=h hn;refine⟨b,o,e,hB,fun j x hx=> ?_⟩;obtain⟨h0,h1,h2,h3⟩:=hc j x hx;exact⟨(hb.cell (p:=⟨b,o+j*3,none⟩) hB).trans h0,(hb.cell (p:=⟨b,o+j*3+1,none⟩) hB).trans h1,(hb.cell (p:=⟨b,o+j*3+2,none⟩) hB).trans h2,h3⟩
theorem RkRd.more (h:RkRd w B A l) (hB:B<=B'):RkRd w B' A l:=fun hn=>by
 obtain⟨b,o,e,hb,hc⟩:=h hn;exact⟨b,o,e,Nat.lt_of_lt_of_le hb hB,hc⟩
theorem DtRd.below (h:DtRd w B A d) (hb:Below B w w'):DtRd w' B A d:=fun hn=>by
 obtain⟨b,o,e,hB,hc⟩:=h hn;refine⟨b,o,e,hB,fun j x hx=> ?_⟩;obtain⟨A',k,h0,h1,h2⟩:=hc j x hx;exact⟨A',k,(hb.cell (p:=⟨b,o+j,none⟩) hB).trans h0,h1.below hb,h2⟩
theorem DtRd.more (h:DtRd w B A d) (hB:B<=B'):DtRd w B' A d:=fun hn=>by
 obtain⟨b,o,e,hb,hc⟩:=h hn;refine⟨b,o,e,Nat.lt_of_lt_of_le hb hB,fun j x hx=> ?_⟩;obtain⟨A',k,h0,h1,h2⟩:=hc j x hx;exact⟨A',k,h0,h1.more hB,h2⟩
end
theorem ade (w:World) (k:Nat):Below w.heap.size w (w.drewN k):=⟨rfl,rfl,rfl,Nat.le_refl _,fun _ _=>rfl⟩
theorem arC{P:Program}{ops:Array Oper}{Q:Exit->Act->World->Prop}{i B:Nat}{o:Oper}{a:Act}{w:World}{K:Act->World->Prop}(ho:ops[i]?=some o) (d:Option Tmp) (hd:o.dst=d) (hw:Region.wanted o (yielded ops a.tmps)=false) (hk:K (a.put d undef) w):wpOp P ops Q i (fun a'' w''=>Below B w w''/\K a'' w'') a w:=by
 subst hd;unfold wpOp;simp only[ho];rw[if_neg (by rw[hw];decide)];exact⟨Below.refl _ _,hk⟩
def imV (n:Int) (A1:Option Addr) (ll k1:Nat) (A2:Option Addr) (dl k2:Nat):Value:= .agg #[.int .i64 n, .slice A1 ll k1, .slice A2 dl k2]
theorem aac{w:World}{x0 x1 x2:Value}{g:Nat}{t:TypeId}(h:w.heap[g]?=some (.cells #[x0,x1,x2] t (0,0))):
 w.cell? ⟨g,0,none⟩=some x0/\w.cell? ⟨g,1,none⟩=some x1/\w.cell? ⟨g,2,none⟩=some x2:=by
 refine⟨?_,?_,?_⟩
 · rw[cell_of_row w g 0 _ _ (0,0) h];rfl
 · rw[cell_of_row w g 1 _ _ (0,0) h];rfl
 · rw[cell_of_row w g 2 _ _ (0,0) h];rfl
theorem aaa{w:World}{g:Nat}{cs:Array Value}{t:TypeId}(h:w.heap[g]?=some (.cells cs t (0,0))):g<w.heap.size:=by
 rcases Nat.lt_or_ge g w.heap.size with h' | h'
 · exact h'
 · rw[Array.getElem?_eq_none h']at h;cases h
def ask (n:Int):Nat:=(n%18446744073709551616).toNat
theorem anL (n:Int) (hn: -9223372036854775808<=n/\n<=9223372036854775807):ab3 ((ask n:Nat):Int)=ab3 n:=by
 unfold ask;rcases Int.lt_or_le n 0 with h | h
 · have e1:ab3 n=false:=(abD n).2 (by omega);rw[e1];exact(abD _).2 (by omega)
 · rw[Int.emod_eq_of_lt h (by omega),Int.toNat_of_nonneg h]
theorem agw (w:World) (v:Nat) (hv:v<18446744073709551616) (b:Bool) (hb:ab3 (v:Int)=b):
 Calls Tryz.prog 168 #[.int .u64 (v:Int)] w fun e w'=>e= .returned (.bool b)/\w=w':=by
 by_cases h1:184<=v
 · by_cases h2:v<=16384
   · by_cases h3:(v-184)%16=0
     · obtain rfl:true=b:=by rw[<-hb];exact((aaN _).2 (by omega)).symm
       clear hb;go_enter Tryz.func168,Tryz.ntmps168
       go_wp2
       go_ret
       exact⟨aaE (by rw[beq_iff_eq];omega),rfl⟩
     · obtain rfl:false=b:=by rw[<-hb];exact((abD _).2 (by omega)).symm
       clear hb;go_enter Tryz.func168,Tryz.ntmps168
       go_wp2
       go_ret
       exact⟨aaE (by rw[beq_eq_false_iff_ne];omega),rfl⟩
   · obtain rfl:false=b:=by rw[<-hb];exact((abD _).2 (by omega)).symm
     clear hb;go_enter Tryz.func168,Tryz.ntmps168
     go_wp2
     go_ret
     exact⟨rfl,rfl⟩
 · obtain rfl:false=b:=by rw[<-hb];exact((abD _).2 (by omega)).symm
   clear hb;go_enter Tryz.func168,Tryz.ntmps168
   go_wp2
   go_ret
   exact⟨rfl,rfl⟩
theorem ajf (w:World) (A:Option Addr) (k1:Nat) (l:List Rk) (hr:RkRd w w.heap.size A l) (hl:l.length<=1000000) (n:Int) (hn:184<=n/\n<=16384) (y:Bool) (hy:abe n 184 false l=y):
 Calls Tryz.prog 169 #[.slice A l.length k1, .int .i64 n] w fun e w'=>e= .returned (.bool y)/\Below w.heap.size w w':=by
 have HR:=hE0 hr;have HY:=hE0 hy;obtain⟨m,hm⟩:=nmE l.length;rw[hm]at hl ⊢;have HM:=hE0 hm;clear hr hy hm;go_enter Tryz.func169,Tryz.ntmps169
 go_wp2
 go_loopw [5,6,11] (fun e f t wr=>∃(j:Nat) (z:Int) (b:Bool),t= .int .i64 (j:Int)/\e= .int .i64 z/\f= .bool b/\j<=m/\(184<=z/\z<=n)/\abe n z b (l.drop j)=y/\Below w.heap.size w wr) (fun _ _ t _=>m-(intOf t).toNat)
 case atStart=>exact⟨0,184,false,rfl,rfl,rfl,Nat.zero_le _,⟨Int.le_refl _,hn.1⟩,HY.out,Below.refl _ _⟩
 case round=>
  obtain⟨j,z,b,rfl,rfl,rfl,hj,hz,hyy,hb⟩:=hrel;by_cases hlt:j<m
  · obtain⟨x,hx⟩:∃x,l[j]?=some x:=⟨l[j]'(by rw[HM.out];exact hlt),List.getElem?_eq_getElem _⟩;obtain⟨b2,o,rfl,hbb,hcl⟩:=HR.out (by rw[HM.out];omega);obtain⟨p0,p1,p2,hxo,hxs⟩:=hcl j x hx;have r0:=(hb.cell (p:=⟨b2,o+j*3,none⟩) hbb).trans p0;have r1:=(hb.cell (p:=⟨b2,o+j*3+1,none⟩) hbb).trans p1;have r2:=(hb.cell (p:=⟨b2,o+j*3+2,none⟩) hbb).trans p2;rw[acC hx]at hyy;unfold abe at hyy;obtain⟨xo,xs,xu⟩:=x;dsimp only at p0 p1 p2 r0 r1 r2 hyy hxo hxs;obtain⟨w4,hw4⟩:=nmE (wr.alloc (.cells #[.int .i64 xo, .int .i64 xs, .bool xu] 132));have hb4:Below w.heap.size w w4:=by rw[<-hw4];exact hb.alloc hb.size _
    have n4:=anE hw4;obtain⟨d0,d1,d2⟩:=aac n4;have hl4:=aaa n4;have HW4:=hE0 hw4;have HB4:=hE0 hb4;have HYY:=hE0 hyy;clear hx hb p0 p1 p2 hb4 n4 hw4 hcl hyy;by_cases ho:xo=z
    · have g0:(xo !=z)=false:=by rw[bne_eq_false_iff_eq];exact ho
      obtain⟨pk,hpk⟩:=nmE (ab0 xs xu);have HPK:=hE0 (fun W=>adk (w:=W) xs xu hxs pk hpk);by_cases hsz:aa3 xs=true
      · have h3:=(aae _).1 hsz;have hpk0:pk≠0:=by
         rw[<-hpk];unfold ab0;rw[if_pos hsz];omega
        have g1:((pk:Int)==0)=false:=by rw[beq_eq_false_iff_ne];omega
        by_cases hle:xs<=n-z
        · have g2:decide (n-z<xs)=false:=decide_eq_false (by omega);by_cases hfu:b=true/\xu=false
          · obtain⟨rfl,rfl⟩:=hfu;have HF:Hid (y=false):=(show y=false by
             have e:=HYY.out;simp at e;first | exact e.symm | exact e)
            clear hsz h3 hpk ho;go_wp2_with (first | (rw[HW4.out]) | fail)
            refine(HPK.out _).mono ?_;rintro e w5 ⟨rfl,rfl⟩;go_wp2
            go_ret
            exact⟨aaE HF.out.symm,HB4.out⟩
          · have HF:Hid (abe n (z+xs) (!xu) (l.drop (j+1))=y):=(show _=y by
             have e:=HYY.out;have e1:(b&& !xu)=false:=by
              cases b<;>cases xu<;>first | rfl | exact absurd ⟨rfl,rfl⟩ hfu
             have e2:(xo==z)=true:=by rw[beq_iff_eq];exact ho
             rw[e2,hsz,decide_eq_true hle,e1]at e;simpa using e)
            clear hsz hpk ho
            cases b<;>cases xu;all_goals first | exact absurd ⟨rfl,rfl⟩ hfu | skip
            all_goals
             clear hfu;go_wp2_with (first | (rw[HW4.out]) | fail)
             refine(HPK.out _).mono ?_;rintro e w5 ⟨rfl,rfl⟩;go_wp2_with fail
             go_quiet (fail)
             go_wp2
             go_roundw
             case rel=>exact⟨j+1,z+xs,_,by go_num,by go_num,rfl,by omega,by omega,HF.out,HB4.out.trans ((ade _ _).mono HB4.out.size)⟩
             case measure=>simp only[intOf];omega
        · have g2:decide (n-z<xs)=true:=decide_eq_true (by omega);have HF:Hid (y=false):=(show y=false by
           have e:=HYY.out;rw[decide_eq_false hle]at e;simp at e;first | exact e.symm | exact e)
          clear hsz hpk ho;go_wp2_with (first | (rw[HW4.out]) | fail)
          refine(HPK.out _).mono ?_;rintro e w5 ⟨rfl,rfl⟩;go_wp2
          go_ret
          exact⟨aaE HF.out.symm,HB4.out⟩
      · have hpk0:pk=0:=by rw[<-hpk];unfold ab0;rw[if_neg hsz]
        subst hpk0;have HF:Hid (y=false):=(show y=false by
         have e:=HYY.out;have hs2:aa3 xs=false:=by simpa using hsz
         rw[hs2]at e;simp at e;first | exact e.symm | exact e)
        clear hsz hpk ho;go_wp2_with (first | (rw[HW4.out]) | fail)
        refine(HPK.out _).mono ?_;rintro e w5 ⟨rfl,rfl⟩;go_wp2
        go_ret
        exact⟨aaE HF.out.symm,HB4.out⟩
    · have g0:(xo !=z)=true:=by rw[bne_iff_ne];exact ho
      have HF:Hid (y=false):=(show y=false by
       have e:=HYY.out;have e2:(xo==z)=false:=by rw[beq_eq_false_iff_ne];exact ho
       rw[e2]at e;simp at e;first | exact e.symm | exact e)
      clear ho;go_wp2_with (first | (rw[HW4.out]) | fail)
      go_ret
      exact⟨aaE HF.out.symm,HB4.out⟩
  · have hd:l.drop j= []:=List.drop_eq_nil_of_le (by rw[HM.out];omega);rw[hd]at hyy;unfold abe at hyy;have HYY:=hE0 hyy;have HBB:=hE0 hb;clear hyy hb hd;go_wp2
    go_ret
    exact⟨aaE HYY.out,HBB.out⟩
theorem adq (w:World) (o s:Int) (u:Bool) (hs:aa3 s=true):
 Calls Tryz.prog 111 #[.agg #[.int .i64 o, .int .i64 s, .bool u]] w fun e w'=>e= .returned (.int .i64 (s-16))/\Below w.heap.size w w':=by
 have h3:=(aae _).1 hs;obtain⟨w1,hw1⟩:=nmE (w.alloc (.cells #[.int .i64 o, .int .i64 s, .bool u] 132));have hb1:=abE hw1;have n1:=anE hw1;obtain⟨_,d1,_⟩:=aac n1;have hl:=aaa n1;have HW1:=hE0 hw1;have HB1:=hE0 hb1;clear hw1 hb1 n1 hs;go_enter Tryz.func111,Tryz.ntmps111
 go_wp2_with (first | (rw[HW1.out]) | fail)
 go_ret
 exact⟨rfl,HB1.out⟩
theorem anM (w:World) (A1 A2:Option Addr) (k1 k2:Nat) (l:List Rk) (d:List (List UInt8)) (hr:RkRd w w.heap.size A1 l) (hd:DtRd w w.heap.size A2 d) (hl:l.length<=1000000) (hdl:d.length<=1000000) (hs:∀x∈l,aa3 x.s=true) (y:Bool) (hy:datOk l d=y):
 Calls Tryz.prog 170 #[.slice A2 d.length k2, .slice A1 l.length k1] w fun e w'=>e= .returned (.bool y)/\Below w.heap.size w w':=by
 have HR:=hE0 hr;have HD:=hE0 hd;have HY:=hE0 hy;have HS:=hE0 hs;obtain⟨m,hm⟩:=nmE l.length;obtain⟨n,hn⟩:=nmE d.length;rw[hm]at hl ⊢;rw[hn]at hdl ⊢;have HM:=hE0 hm;have HN:=hE0 hn;clear hr hd hy hs hm hn;go_enter Tryz.func170,Tryz.ntmps170
 go_wp2
 go_loopw [5,10] (fun v t wr=>∃(j i:Nat),t= .int .i64 (j:Int)/\v= .int .i64 (i:Int)/\j<=m/\i<=n/\datOk (l.drop j) (d.drop i)=y/\Below w.heap.size w wr) (fun _ t _=>m-(intOf t).toNat)
 case atStart=>exact⟨0,0,rfl,rfl,Nat.zero_le _,Nat.zero_le _,HY.out,Below.refl _ _⟩
 case round=>
  obtain⟨j,i,rfl,rfl,hj,hi,hyy,hb⟩:=hrel;by_cases hlt:j<m
  · obtain⟨x,hx⟩:∃x,l[j]?=some x:=⟨l[j]'(by rw[HM.out];exact hlt),List.getElem?_eq_getElem _⟩;obtain⟨b2,o,rfl,hbb,hcl⟩:=HR.out (by rw[HM.out];omega);obtain⟨p0,p1,p2,hxo,hxs⟩:=hcl j x hx;have r0:=(hb.cell (p:=⟨b2,o+j*3,none⟩) hbb).trans p0;have r1:=(hb.cell (p:=⟨b2,o+j*3+1,none⟩) hbb).trans p1;have r2:=(hb.cell (p:=⟨b2,o+j*3+2,none⟩) hbb).trans p2;have hsx:=HS.out x (List.mem_of_getElem? hx);rw[acC hx]at hyy;unfold datOk at hyy;obtain⟨xo,xs,xu⟩:=x;dsimp only at p0 p1 p2 r0 r1 r2 hyy hxo hxs hsx;obtain⟨w4,hw4⟩:=nmE (wr.alloc (.cells #[.int .i64 xo, .int .i64 xs, .bool xu] 132));have hb4:Below w.heap.size w w4:=by rw[<-hw4];exact hb.alloc hb.size _
    have n4:=anE hw4;obtain⟨d0,d1,d2⟩:=aac n4;have hl4:=aaa n4;have HW4:=hE0 hw4;have HB4:=hE0 hb4;have HYY:=hE0 hyy;have HN4:=hE0 n4;clear hx hb p0 p1 p2 hb4 n4 hw4 hcl hyy
    cases xu with
    | false=>
     have HF:Hid (datOk (l.drop (j+1)) (d.drop i)=y):=(show _=y from by
      have e:=HYY.out;rw[if_neg (by decide)]at e;exact e)
     go_wp2_with (first | (rw[HW4.out]) | fail)
     go_roundw
     case rel=>exact⟨j+1,i,by go_num,rfl,by omega,hi,HF.out,HB4.out⟩
     case measure=>simp only[intOf];omega
    | true=>
     by_cases hin:i=n
     · have g0:((i:Int)==(n:Int))=true:=by rw[beq_iff_eq];omega
       have HF:Hid (y=false):=(show y=false from by
        have e:=HYY.out;rw[if_pos rfl,List.drop_eq_nil_of_le (by rw[HN.out];omega)]at e;exact e.symm)
       obtain⟨wd,hwd⟩:=nmE w4.drew;have HWD:=hE0 hwd;have HBD:Hid (Below w.heap.size w wd):=(show Below _ _ _ by rw[<-hwd];exact HB4.out.drew);clear hwd;go_wp2_with (first | (rw[HW4.out]) | fail)
       refine aad wd.heap.size [([0,1,2,3,4,5,6,7,8,9,10],11)] [12,13] [] (by kernel_rfl) (by kernel_rfl) (by kernel_rfl) (fun _ _ _ _ _ h=>h) ?_;rw[HWD.out];refine tail_cons (l:= ?segA) ?hsegA ?_
       case hsegA=>simp only[pick,lE1,lE2,lE3];rfl
       repeat (go_big_quiet_step (fail))
       refine wpQuiet_nil ?_;refine arC rfl (some 28) rfl rfl ⟨wd.heap.size,Nat.le_refl _,?_⟩;simp only[Act.put,lE4,lE5,lE6];refine aam (l:= ?lastA) (t:= []) ?hlastA ?htlastA ?_
       case hlastA=>simp only[pick,lE1,lE2,lE3];rfl
       case htlastA=>rfl
       repeat (go_big_quiet_step (fail))
       refine wpQuiet_nil ?_;go_wp2
       go_ret
       exact⟨aaE HF.out.symm,HBD.out⟩
     · have g0:((i:Int)==(n:Int))=false:=by rw[beq_eq_false_iff_ne];omega
       have hi2:(i:Int)<(n:Int):=by omega
       obtain⟨z,hz⟩:∃z,d[i]?=some z:=⟨d[i]'(by rw[HN.out];omega),List.getElem?_eq_getElem _⟩;obtain⟨b3,o3,rfl,hb3,hc3⟩:=HD.out (by rw[HN.out];omega);obtain⟨A',kz,z0,_,zl,_,_⟩:=hc3 i z hz;obtain⟨zn,hzn⟩:=nmE z.length;rw[hzn]at z0 zl;unfold maxLen at zl;obtain⟨wd,hwd⟩:=nmE w4.drew;have hwb:=adE hwd;have hbd:=HB4.out.trans (hwb.mono HB4.out.size);have nd:=(hwb.block _ (aaa HN4.out)).trans HN4.out;have zd:=(hbd.cell (p:=⟨b3,o3+i,none⟩) hb3).trans z0;have l3:b3<wd.heap.size:=Nat.lt_of_lt_of_le hb3 hbd.size;obtain⟨e0,e1,e2⟩:=aac nd;have le:=aaa nd;have hyy:=HYY.out;rw[if_pos rfl,acC hz]at hyy;dsimp only at hyy;rw[hzn]at hyy;have HYZ:=hE0 hyy;have HHELD:=hE0 (adq wd xo xs true hsx);have HWD:=hE0 hwd;have HBD:=hE0 hbd;clear hwd hwb hbd nd hyy hz hc3 z0;by_cases hzz:(zn:Int)=xs-16
       · have g1:((zn:Int) !=xs-16)=false:=by rw[bne_eq_false_iff_eq];exact hzz
         have HF:Hid (datOk (l.drop (j+1)) (d.drop (i+1))=y):=(show _=y from by
          have e:=HYZ.out;have e2:((zn:Int)==xs-16)=true:=by rw[beq_iff_eq];exact hzz
          rw[e2,Bool.true_and]at e;exact e)
         clear hzz;go_wp2_with (first | (rw[HW4.out]) | fail)
         refine aad wd.heap.size [([0,1,2,3,4,5,6,7,8,9,10],11)] [12,13] [] (by kernel_rfl) (by kernel_rfl) (by kernel_rfl) (fun _ _ _ _ _ h=>h) ?_;rw[HWD.out];have q0:=tfE zd l3;have q1:=tfE e0 le;have q2:=tfE e1 le;have q3:=tfE e2 le;refine tail_cons (l:= ?segB) ?hsegB ?_
         case hsegB=>simp only[pick,lE1,lE2,lE3];rfl
         repeat (go_big_quiet_step (fail))
         refine wpQuiet_nil ?_;clear q0 q1 q2 q3;refine aaf (vs:= #[.agg #[.int .i64 xo, .int .i64 xs, .bool true]]) Tryz.call111 rfl rfl rfl (R:=fun r w'=>r= .int .i64 (xs-16)/\Below wd.heap.size wd w') (HHELD.out.mono ?_) wd.heap.size (Nat.le_refl _) ?_
         · rintro e w' ⟨rfl,hb⟩;exact⟨_,rfl,hb,rfl,hb⟩
         rintro r w5 hb5 ⟨rfl,_⟩;have HB5:=hE0 (HBD.out.trans (hb5.mono HBD.out.size));clear hb5;simp only[Act.put,lE4,lE5,lE6];refine aam (l:= ?lastB) (t:= []) ?hlastB ?htlastB ?_
         case hlastB=>simp only[pick,lE1,lE2,lE3];rfl
         case htlastB=>rfl
         repeat (go_big_quiet_step (fail))
         refine wpQuiet_nil ?_;go_wp2
         go_roundw
         case rel=>exact⟨j+1,i+1,by go_num,by go_num,by omega,by omega,HF.out,HB5.out⟩
         case measure=>simp only[intOf];omega
       · have g1:((zn:Int) !=xs-16)=true:=by rw[bne_iff_ne];exact hzz
         have HF:Hid (y=false):=(show y=false from by
          have e:=HYZ.out;have e2:((zn:Int)==xs-16)=false:=by rw[beq_eq_false_iff_ne];exact hzz
          rw[e2,Bool.false_and]at e;exact e.symm)
         clear hzz;go_wp2_with (first | (rw[HW4.out]) | fail)
         refine aad wd.heap.size [([0,1,2,3,4,5,6,7,8,9,10],11)] [12,13] [] (by kernel_rfl) (by kernel_rfl) (by kernel_rfl) (fun _ _ _ _ _ h=>h) ?_;rw[HWD.out];have q0:=tfE zd l3;have q1:=tfE e0 le;have q2:=tfE e1 le;have q3:=tfE e2 le;refine tail_cons (l:= ?segC) ?hsegC ?_
         case hsegC=>simp only[pick,lE1,lE2,lE3];rfl
         repeat (go_big_quiet_step (fail))
         refine wpQuiet_nil ?_;clear q0 q1 q2 q3;refine aaf (vs:= #[.agg #[.int .i64 xo, .int .i64 xs, .bool true]]) Tryz.call111 rfl rfl rfl (R:=fun r w'=>r= .int .i64 (xs-16)/\Below wd.heap.size wd w') (HHELD.out.mono ?_) wd.heap.size (Nat.le_refl _) ?_
         · rintro e w' ⟨rfl,hb⟩;exact⟨_,rfl,hb,rfl,hb⟩
         rintro r w5 hb5 ⟨rfl,_⟩;have HB5:=hE0 (HBD.out.trans (hb5.mono HBD.out.size));clear hb5;simp only[Act.put,lE4,lE5,lE6];refine aam (l:= ?lastC) (t:= []) ?hlastC ?htlastC ?_
         case hlastC=>simp only[pick,lE1,lE2,lE3];rfl
         case htlastC=>rfl
         repeat (go_big_quiet_step (fail))
         refine wpQuiet_nil ?_;go_wp2
         go_ret
         exact⟨aaE HF.out.symm,HB5.out⟩
  · have hdn:l.drop j= []:=List.drop_eq_nil_of_le (by rw[HM.out];omega);rw[hdn]at hyy;unfold datOk at hyy;have HYY:=hE0 hyy;have HBB:=hE0 hb;clear hyy hb hdn;go_wp2
    go_ret
    exact⟨aaE (by
     rw[<-HYY.out];by_cases hin:i=n
     · rw[List.drop_eq_nil_of_le (by rw[HN.out];omega)];rw[List.isEmpty_nil,beq_iff_eq];omega
     · have e:((i:Int)==(n:Int))=false:=by rw[beq_eq_false_iff_ne];omega
       rw[e]
       cases hd2:d.drop i with
       | nil=>have:=congrArg List.length hd2;rw[List.length_drop,HN.out]at this;simp at this;omega
       | cons _ _=>rfl),HBB.out⟩
theorem anN (n:Int):((ask n:Nat):Int)=n%18446744073709551616:=by unfold ask;omega
theorem ae1 (w:World) (n:Int) (hn: -9223372036854775808<=n/\n<=9223372036854775807) (A1 A2:Option Addr) (k1 k2:Nat) (l:List Rk) (d:List (List UInt8)) (hr:RkRd w w.heap.size A1 l) (hd:DtRd w w.heap.size A2 d) (hl:l.length<=1000000) (hdl:d.length<=1000000) (y:Bool) (hy:acG n l d=y):
 Calls Tryz.prog 112 #[imV n A1 l.length k1 A2 d.length k2] w fun e w'=>e= .returned (.bool y)/\Below w.heap.size w w':=by
 unfold imV;obtain⟨w1,hw1⟩:=nmE (w.alloc (.cells #[.int .i64 n, .slice A1 l.length k1, .slice A2 d.length k2] 110));have hb1:=abE hw1;have n1:=anE hw1;obtain⟨d0,d1,d2⟩:=aac n1;have hl1:=aaa n1;have HLEN:Hid (∀W,Calls Tryz.prog 168 #[.int .u64 (n%18446744073709551616)] W fun e w'=>e= .returned (.bool (ab3 n))/\W=w'):=fun W=>by
  have h:=agw W (ask n) (by unfold ask;omega) (ab3 n) (anL n hn);rw[anN]at h;exact h
 have HB1:=hE0 hb1;have HR:=hE0 hr;have HD:=hE0 hd;have HY:=hE0 hy;obtain⟨ll,hll⟩:=nmE l.length;obtain⟨dl,hdll⟩:=nmE d.length;have HROW:Hid (ab3 n=true->Calls Tryz.prog 169 #[.slice A1 ll k1, .int .i64 n] w1 fun e w'=>e= .returned (.bool (abe n 184 false l))/\Below w1.heap.size w1 w'):=fun hk=>by
  have h3:=(aaN n).1 hk;have:=ajf w1 A1 k1 l ((hr.below hb1).more hb1.size) hl n ⟨h3.1,h3.2.1⟩ _ rfl;rw[hll]at this;exact this
 have HDAT:Hid (∀W,Below w.heap.size w W->abe n 184 false l=true->Calls Tryz.prog 170 #[.slice A2 dl k2, .slice A1 ll k1] W fun e w'=>e= .returned (.bool (datOk l d))/\Below W.heap.size W w'):=fun W hW hk=>by
  have:=anM W A1 A2 k1 k2 l d ((hr.below hW).more hW.size) ((hd.below hW).more hW.size) hl hdl (ae0 hk) _ rfl;rw[hll,hdll]at this;exact this
 rw[hll]at d1;rw[hdll]at d2;rw[hll,hdll];rw[hll,hdll]at hw1 n1;have HN1:=hE0 n1;have HW1:=hE0 hw1;clear hw1 hb1 n1 hr hd hy hll hdll
 cases hlo:ab3 n with
 | false=>
  have HF:Hid (false=y):=(show false=y by rw[<-HY.out];unfold acG;rw[hlo];rfl);rw[hlo]at HLEN;clear hlo;go_enter Tryz.func112,Tryz.ntmps112
  go_wp2_with (first | (rw[HW1.out]) | fail)
  refine(HLEN.out _).mono ?_;rintro e w2 ⟨rfl,rfl⟩;go_wp2
  go_ret
  exact⟨aaE HF.out,HB1.out⟩
 | true=>
  have HROW2:=hE0 (HROW.out hlo);rw[hlo]at HLEN
  cases hro:abe n 184 false l with
  | false=>
   have HF:Hid (false=y):=(show false=y by rw[<-HY.out];unfold acG;rw[hlo,hro];rfl);rw[hro]at HROW2;clear hlo hro;go_enter Tryz.func112,Tryz.ntmps112
   go_wp2_with (first | (rw[HW1.out]) | fail)
   refine(HLEN.out _).mono ?_;rintro e w2 ⟨rfl,rfl⟩;go_wp2_with fail
   refine HROW2.out.mono ?_;rintro e w2 ⟨rfl,hb2⟩;have HF2:=hE0 (HB1.out.trans (hb2.mono HB1.out.size));clear hb2;go_wp2
   go_ret
   exact⟨aaE HF.out,HF2.out⟩
  | true=>
   have HDAT2:=hE0 (fun W hW=>HDAT.out W hW hro);have HF:Hid (datOk l d=y):=(show datOk l d=y by rw[<-HY.out];unfold acG;rw[hlo,hro];rfl);rw[hro]at HROW2;clear hlo hro;go_enter Tryz.func112,Tryz.ntmps112
   go_wp2_with (first | (rw[HW1.out]) | fail)
   refine(HLEN.out _).mono ?_;rintro e w2 ⟨rfl,rfl⟩;go_wp2_with fail
   refine HROW2.out.mono ?_;rintro e w2 ⟨rfl,hb2⟩;have hb02:=HB1.out.trans (hb2.mono HB1.out.size);have HD3:=hE0 (HDAT2.out w2 hb02);have n2:=(hb2.block _ (aaa HN1.out)).trans HN1.out;obtain⟨e0,e1,e2⟩:=aac n2;have hl2:=aaa n2;have HF2:=hE0 hb02;clear hb2 hb02 n2;go_wp2_with fail
   refine HD3.out.mono ?_;rintro e w3 ⟨rfl,hb3⟩;have HF3:=hE0 (HF2.out.trans (hb3.mono HF2.out.size));clear hb3;go_wp2
   go_ret
   exact⟨aaE HF.out,HF3.out⟩
theorem aaR:(Tryz.prog.info? 5).map (fun i=>(i.zero,i.size,i.bytes))=some (some (.int .u8 0),1,1):=by kernel_rfl
theorem apE{w:World}{B n c:Nat}{A:Option Addr}{xs:List Value}{t:TypeId}(h:w.ownsRow B t 1 (.slice A n c) n xs) (hn:0<n):w.ownsRow B t 1 (.slice A 0 c) 0 []:=by
 rcases h.2 with⟨_,h0⟩ | ⟨g,cap,cur,hv,hg,hh,hnc,hcm,hcs,ht⟩
 · omega
 · injection hv with e1 e2 e3;subst e1 e3;exact⟨rfl, .inr ⟨g,c,cur,rfl,hg,hh,Nat.zero_le _,hcm,hcs,by simp⟩⟩
theorem anO (w:World) (n:Nat) (hn:n<=1000000):
 Calls Tryz.prog 171 #[.slice none 0 0, .int .i64 (n:Int)] w fun e w'=>∃A c,e= .returned (.slice A 0 c)/\w'.ownsRow w.heap.size 5 1 (.slice A 0 c) 0 (([]:List UInt8).map bv)/\Below w.heap.size w w':=by
 by_cases h0:n=0
 · subst h0;go_enter Tryz.func171,Tryz.ntmps171
   go_wp2
   go_ret
   exact⟨none,0,rfl,World.ownsRow_nil _ _ _ _,Below.refl _ _⟩
 · obtain⟨A',c',w2,hr,hown,hgr,_⟩:=acA (P:=Tryz.prog) w 37 3 37 5 .i64 Tryz.underlying37 Tryz.underlying3 aaR w.heap.size none 0 [] (World.ownsRow_nil _ _ _ _) n (by simp;omega) (Nat.le_refl _);simp only[List.length_nil,Nat.zero_add]at hr hown;have hfin:w2.ownsRow w.heap.size 5 1 (.slice A' 0 c') 0 (([]:List UInt8).map bv):=apE hown (by omega);have hbel:Below w.heap.size w w2:=(Below.refl _ _).grown hgr (Nat.le_refl _) (fun k hk=>by cases hk);have hnc:n<=c':=by
    rcases hown.2 with⟨_,h'⟩ | ⟨g,cap,cur,hv,_,_,h',_⟩
    · omega
    · injection hv with _ _ e3;subst e3;exact h'
   have hA:∃g,A'=some ⟨g,0,none⟩:=by
    rcases hown.2 with⟨_,h'⟩ | ⟨g,cap,cur,hv,_⟩
    · omega
    · injection hv with e1 _ _;exact⟨g,e1⟩
   obtain⟨g,rfl⟩:=hA;have h1:decide (0<n)=true:=decide_eq_true (by omega);have HR:=hE0 hr;have HF:=hE0 hfin;have HB:=hE0 hbel;clear hr hfin hbel hown hgr h0;go_enter Tryz.func171,Tryz.ntmps171
   go_wp2_with (at_builtin;refine Lib.wpList_append_run _ rfl (.tmp 20) (.tmp 21) 37 3 rfl _ _ rfl rfl _ _ HR.out ?_)
   go_ret
   exact⟨some ⟨g,0,none⟩,c',rfl,HF.out,HB.out⟩
theorem adG (d:List (List UInt8)) (j:Nat):(d.take j).flatten.length<=d.flatten.length:=by
 have h:=congrArg (fun l:List (List UInt8)=>l.flatten.length) (List.take_append_drop j d);simp only[List.flatten_append,List.length_append]at h;omega
theorem ab7 (w:World) (A:Option Addr) (k:Nat) (d:List (List UInt8)) (hd:DtRd w w.heap.size A d) (hl:d.length<=1000) (hs:d.flatten.length<=1000000):
 Calls Tryz.prog 113 #[.slice A d.length k] w fun e w'=>∃v,e= .returned v/\w'.ownsRow w.heap.size 5 1 v d.flatten.length (d.flatten.map bv)/\Below w.heap.size w w':=by
 have HD:=hE0 hd;have HS:=hE0 (fun j=>Nat.le_trans (adG d j) hs);have HGR:=hE0 (anO w d.flatten.length hs);obtain⟨m,hm⟩:=nmE d.length;rw[hm]at hl ⊢;have HM:=hE0 hm;obtain⟨sz,hsz⟩:=nmE d.flatten.length;rw[hsz]at HGR hs ⊢;have HSZ:=hE0 hsz;clear hd hm hsz;go_enter Tryz.func113,Tryz.ntmps113
 go_wp2
 go_loopw [3,11] (fun v t wr=>∃(j s:Nat),t= .int .i64 (j:Int)/\v= .int .i64 (s:Int)/\j<=m/\s=(d.take j).flatten.length/\w=wr) (fun _ t _=>m-(intOf t).toNat)
 case atStart=>exact⟨0,0,rfl,rfl,Nat.zero_le _,rfl,rfl⟩
 case round=>
  obtain⟨j,s,rfl,rfl,hj,hss,rfl⟩:=hrel;by_cases hlt:j<m
  · obtain⟨y,hy⟩:∃y,d[j]?=some y:=⟨d[j]'(by rw[HM.out];exact hlt),List.getElem?_eq_getElem _⟩;obtain⟨b,o,rfl,hb,hc⟩:=HD.out (by rw[HM.out];omega);obtain⟨A',k',c0,_⟩:=hc j y hy;obtain⟨n,hn⟩:=nmE y.length;rw[hn]at c0;have hs1:=HS.out (j+1);rw[ace hy,List.length_append,hn,<-hss]at hs1;have HN:Hid (s+n=(d.take (j+1)).flatten.length):=(show _=_ by rw[ace hy,List.length_append,hn,<-hss]);have h0:decide ((s:Int)+(n:Int)<0)=false:=decide_eq_false (by omega);clear hc hy hn hss;go_wp2
    go_roundw
    case rel=>exact⟨j+1,s+n,by go_num,by go_num,by omega,HN.out,trivial⟩
    case measure=>simp only[intOf];omega
  · have e:s=sz:=by rw[hss,List.take_of_length_le (by rw[HM.out];omega),HSZ.out]
    subst e;clear hss;go_wp2_with fail
    refine HGR.out.mono ?_;rintro e w2 ⟨A2,c2,rfl,hown2,hb2⟩;have HO2:=hE0 hown2;have HB2:=hE0 hb2;clear hown2 hb2 HGR;go_wp2
    go_loopw [6,27] (fun v t wr=>∃(j:Nat),t= .int .i64 (j:Int)/\j<=m/\wr.ownsRow w.heap.size 5 1 v (d.take j).flatten.length ((d.take j).flatten.map bv)/\Below w.heap.size w wr) (fun _ t _=>m-(intOf t).toNat)
    case atStart=>exact⟨0,rfl,Nat.zero_le _,HO2.out,HB2.out⟩
    case round=>
     obtain⟨i,rfl,hi,hown,hb⟩:=hrel;by_cases hlt2:i<m
     · obtain⟨y,hy⟩:∃y,d[i]?=some y:=⟨d[i]'(by rw[HM.out];exact hlt2),List.getElem?_eq_getElem _⟩;obtain⟨b,o,rfl,hbb,hc⟩:=HD.out (by rw[HM.out];omega);obtain⟨A',k',c0,hrd,_,_,hA⟩:=hc i y hy;have c1:=(hb.cell (p:=⟨b,o+i,none⟩) hbb).trans c0;have hs1:=HS.out (i+1);rw[ace hy,List.length_append]at hs1;have HFL:=hE0 (ace hy);have HRD:=hE0 ((hrd.below hb).more hb.size);obtain⟨n,hn⟩:=nmE y.length;have HYN:=hE0 hn;obtain⟨q,hq⟩:=nmE ((d.take i).flatten.length);rw[hq]at hown hs1;have HQ:=hE0 hq;rw[hn]at c0 c1 hs1 HRD;have HO:=hE0 hown;have HB:=hE0 hb;clear hc hy hn hown hb hrd hq;go_wp2_with (first
        | (at_builtin;go_must (refine aaj rfl (.tmp 31) (.tmp 32) 37 5 rfl Tryz.underlying37 aaR w.heap.size _ q (d.take i).flatten rfl HO.out _ A' n k' y rfl HRD.out hA (by omega) HB.out.size ?_);intro x4 w4 own4 hb4 _
           have HX4:Hid (w4.ownsRow w.heap.size 5 1 x4 (q+n) (((d.take i).flatten++y).map bv)/\Below w.heap.size w w4):=⟨own4,HB.out.trans hb4⟩;clear own4 hb4)
        | fail)
       go_roundw
       case rel=>
        refine⟨i+1,by go_num,by omega,?_,HX4.out.2⟩;rw[HFL.out,List.length_append,HQ.out,HYN.out];exact HX4.out.1
       case measure=>simp only[intOf];omega
     · have e:d.take i=d:=List.take_of_length_le (by rw[HM.out];omega);rw[e,HSZ.out]at hown;have HO:=hE0 hown;have HB:=hE0 hb;clear hown hb e;go_wp2
       go_ret
       exact⟨_,rfl,HO.out,HB.out⟩
theorem af2 (w:World) (B:Nat) (v:Value) (b:List UInt8) (n j:Nat) (hn:b.length=n) (hown:w.ownsRow B 5 1 v n (b.map bv)) (hB:B<=w.heap.size) (hj:j<=n) (hn0:0<n) (hl:n<=900000):
 Calls Tryz.prog 115 #[v, .int .i64 (j:Int)] w fun e w'=>∃v',e= .returned v'/\w'.ownsRow B 5 1 v' (n+4) ((afN b j).map bv)/\Below B w w':=by
 obtain⟨g,c,rfl,hnc,hrd⟩:=aeS hown hn0;have hcm:c<=9223372036854775807:=by
  rcases hown.2 with⟨_,h'⟩ | ⟨g,cap,cur,hv,_,_,_,h',_⟩
  · omega
  · injection hv with _ _ e3;subst e3;unfold maxLen at h';exact h'
 have hdl:(b.drop j).length=n-j:=by rw[List.length_drop,hn]
 obtain⟨s,hs⟩:=nmE (abn 0 (b.drop j));have hs32:s<4294967296:=by rw[<-hs];exact acI _ _
 have hfin:b++aat 4 s=afN b j:=by unfold afN adU;rw[hs]
 have HP4:=hE0 (ahW s w hs32);have HOWN:=hE0 hown;have HFIN:=hE0 hfin;have HSUM:Hid (∀A2 c2,Rd w w.heap.size A2 (n-j) (b.drop j)->Calls Tryz.prog 119 #[.slice A2 (n-j) c2] w fun e w'=>e= .returned (.int .u32 (s:Int))/\w=w'):=fun A2 c2 h=>by
  have:=agh A2 (n-j) c2 _ _ w h (by omega);rw[hs]at this;exact this
 by_cases hjc:j<c
 · have HR:Hid (Rd w w.heap.size (some ⟨g,j,none⟩) (n-j) (b.drop j)):=(show Rd _ _ _ _ _ by
    have h:=hrd.sub j (n-j) (by omega);rw[List.take_of_length_le (by rw[hdl];exact Nat.le_refl _),Nat.zero_add]at h;exact h)
   have HS:=hE0 (HSUM.out _ (c-j) HR.out);have h1:(j:Int)<(c:Int):=by omega
   clear hown hrd hdl hs hfin HSUM;go_enter Tryz.func115,Tryz.ntmps115
   go_wp2_with fail
   refine HS.out.mono ?_;rintro e w2 ⟨rfl,rfl⟩;go_wp2_with fail
   refine HP4.out.mono ?_;rintro e w2 ⟨rfl,hf,hb⟩;have HRD:Hid (Rd w2 w2.heap.size (some ⟨w.heap.size,0,none⟩) 4 (aat 4 s)):=(show Rd _ _ _ _ _ by
    have:=hf.reads;rw[aab]at this;exact this)
   have HO2:=hE0 (aax HOWN.out hb);have HB2:=hE0 hb;have HBS:=hE0 (Nat.le_trans hB hb.size);clear hf hb;go_wp2_with (first
    | (at_builtin;go_must (refine aaj rfl (.tmp 5) (.tmp 10) 37 5 rfl Tryz.underlying37 aaR B _ n b rfl HO2.out _ (some ⟨w.heap.size,0,none⟩) 4 4 (aat 4 s) rfl HRD.out (fun e=>by cases e) (by omega) HBS.out ?_);intro x4 w4 own4 hb4 _
       have HX4:Hid (w4.ownsRow B 5 1 x4 (n+4) ((b++aat 4 s).map bv)/\Below B w w4):=⟨own4,(HB2.out.mono hB).trans hb4⟩;clear own4 hb4)
    | fail)
   go_ret
   exact⟨_,rfl,HFIN.out▸HX4.out.1,HX4.out.2⟩
 · obtain rfl:n=j:=by omega
   obtain rfl:n=c:=by omega
   have HR:Hid (Rd w w.heap.size (some ⟨g,0,none⟩) (n-n) (b.drop n)):=(show Rd _ _ _ _ _ by
    have:b.drop n= []:=List.eq_nil_of_length_eq_zero (by rw[hdl];omega);rw[this,Nat.sub_self];exact Rd.nil_)
   have HS:=hE0 (HSUM.out _ (n-n) HR.out);rw[Nat.sub_self]at HS;clear hown hrd hdl hs hfin HSUM;go_enter Tryz.func115,Tryz.ntmps115
   go_wp2_with fail
   refine HS.out.mono ?_;rintro e w2 ⟨rfl,rfl⟩;go_wp2_with fail
   refine HP4.out.mono ?_;rintro e w2 ⟨rfl,hf,hb⟩;have HRD:Hid (Rd w2 w2.heap.size (some ⟨w.heap.size,0,none⟩) 4 (aat 4 s)):=(show Rd _ _ _ _ _ by
    have:=hf.reads;rw[aab]at this;exact this)
   have HO2:=hE0 (aax HOWN.out hb);have HB2:=hE0 hb;have HBS:=hE0 (Nat.le_trans hB hb.size);clear hf hb;go_wp2_with (first
    | (at_builtin;go_must (refine aaj rfl (.tmp 5) (.tmp 10) 37 5 rfl Tryz.underlying37 aaR B _ n b rfl HO2.out _ (some ⟨w.heap.size,0,none⟩) 4 4 (aat 4 s) rfl HRD.out (fun e=>by cases e) (by omega) HBS.out ?_);intro x4 w4 own4 hb4 _
       have HX4:Hid (w4.ownsRow B 5 1 x4 (n+4) ((b++aat 4 s).map bv)/\Below B w w4):=⟨own4,(HB2.out.mono hB).trans hb4⟩;clear own4 hb4)
    | fail)
   go_ret
   exact⟨_,rfl,HFIN.out▸HX4.out.1,HX4.out.2⟩
def adH (l:List Rk):Nat->Bool
 | 0=>false
 | j+1=>match l[j]? with
  | some x=> !x.u
  | none=>false
theorem ahp{l:List Rk}{j:Nat}{x:Rk}(h:l[j]?=some x):adH l (j+1)= !x.u:=by
 show(match l[j]? with
  | some x=> !x.u
  | none=>false)= !x.u
 rw[h]
theorem alk (w:World) (n:Int) (hn: -9223372036854775808<=n/\n<=9223372036854775807) (A1 A2:Option Addr) (k1 k2:Nat) (l:List Rk) (d:List (List UInt8)) (hr:RkRd w w.heap.size A1 l) (hd:DtRd w w.heap.size A2 d) (hl:l.length<=1000000) (hdl:d.length<=1000000) (y:Bool) (hy:acG n l d=y):
 Calls Tryz.prog 88 #[imV n A1 l.length k1 A2 d.length k2] w fun e w'=>e= .returned (.bool y)/\Below w.heap.size w w':=by
 unfold imV;obtain⟨ll,hll⟩:=nmE l.length;obtain⟨dl,hdll⟩:=nmE d.length;rw[hll]at hl;rw[hdll]at hdl;rw[hll,hdll];obtain⟨w1,hw1⟩:=nmE (w.alloc (.cells #[.int .i64 n, .slice A1 ll k1, .slice A2 dl k2] 59));have hb1:=abE hw1;have n1:=anE hw1;obtain⟨d0,d1,d2⟩:=aac n1;have hl1:=aaa n1;have HN1:=hE0 n1;have HB1:=hE0 hb1;have HW1:=hE0 hw1;have HR:=hE0 ((hr.below hb1).more hb1.size);have HD:=hE0 ((hd.below hb1).more hb1.size);have HY:=hE0 hy;have HLL:=hE0 hll;have HDLL:=hE0 hdll;clear hw1 hb1 n1 hr hd hy hll hdll;by_cases h1:n<184
 · have g1:decide (n<184)=true:=decide_eq_true h1;have HF:Hid (false=y):=(show false=y by rw[<-HY.out];unfold acG;rw[(abD n).2 (by omega)];rfl);go_enter Tryz.func88,Tryz.ntmps88
   go_wp2_with (first | (rw[HW1.out]) | fail)
   go_ret
   exact⟨aaE HF.out,HB1.out⟩
 · have g1:decide (n<184)=false:=decide_eq_false h1;by_cases h2:16384<n
   · have g2:decide (16384<n)=true:=decide_eq_true h2;have HF:Hid (false=y):=(show false=y by rw[<-HY.out];unfold acG;rw[(abD n).2 (by omega)];rfl);go_enter Tryz.func88,Tryz.ntmps88
     go_wp2_with (first | (rw[HW1.out]) | fail)
     go_ret
     exact⟨aaE HF.out,HB1.out⟩
   · have g2:decide (16384<n)=false:=decide_eq_false h2;obtain⟨N,rfl⟩:∃N:Nat,n=(N:Int):=⟨n.toNat,by omega⟩;by_cases h3:N%16=8
     · have g3:(((N:Int)%16) !=8)=false:=by rw[bne_eq_false_iff_eq];omega
       by_cases h4:1024<ll
       · have g4:decide ((1024:Int)<(ll:Int))=true:=decide_eq_true (by omega);have g4':decide (1024<ll)=true:=decide_eq_true h4;have HF:Hid (false=y):=(show false=y by
          rw[<-HY.out]
          cases hm:acG (N:Int) l d with
          | false=>rfl
          | true=>
           unfold acG at hm;simp only[Bool.and_eq_true]at hm;have:=agt hm.2.1;have:=HLL.out;omega)
         go_enter Tryz.func88,Tryz.ntmps88
         go_wp2_with (first | (rw[HW1.out]) | fail)
         go_ret
         exact⟨aaE HF.out,HB1.out⟩
       · have g4:decide ((1024:Int)<(ll:Int))=false:=decide_eq_false (by omega);have g4':decide (1024<ll)=false:=decide_eq_false h4;have HYD:Hid (adF (N:Int) 184 false l d=y):=(show _=y by
          rw[<-HY.out,ali];unfold acG;rw[(aaN (N:Int)).2 (by omega)];rfl)
         go_enter Tryz.func88,Tryz.ntmps88
         go_wp2_with (first | (rw[HW1.out]) | fail)
         go_loopw [3,4,5] (fun e u t wr=>∃(j v z:Nat),t= .int .i64 (j:Int)/\e= .int .i64 (z:Int)/\u= .int .i64 (v:Int)/\j<=ll/\v<=dl/\z<=184+16384*j/\adF (N:Int) (z:Int) (adH l j) (l.drop j) (d.drop v)=y/\Below w1.heap.size w1 wr) (fun _ _ t _=>ll-(intOf t).toNat)
         case atStart=>exact⟨0,0,184,rfl,rfl,rfl,Nat.zero_le _,Nat.zero_le _,by omega,HYD.out,Below.refl _ _⟩
         case round=>
          obtain⟨j,v,z,rfl,rfl,rfl,hj,hv,hz,hyy,hb⟩:=hrel;have m1:=(hb.cell (p:=⟨w.heap.size,1,none⟩) hl1).trans d1;have m2:=(hb.cell (p:=⟨w.heap.size,2,none⟩) hl1).trans d2;have m0:=(hb.cell (p:=⟨w.heap.size,0,none⟩) hl1).trans d0;have hlr:w.heap.size<wr.heap.size:=Nat.lt_of_lt_of_le hl1 hb.size;by_cases hlt:j<ll
          · obtain⟨x,hx⟩:∃x,l[j]?=some x:=⟨l[j]'(by rw[HLL.out];exact hlt),List.getElem?_eq_getElem _⟩;obtain⟨b2,o,rfl,hbb,hcl⟩:=HR.out (by rw[HLL.out];omega);obtain⟨p0,p1,p2,hxo,hxs⟩:=hcl j x hx;have r0:=(hb.cell (p:=⟨b2,o+j*3,none⟩) hbb).trans p0;have r1:=(hb.cell (p:=⟨b2,o+j*3+1,none⟩) hbb).trans p1;have r2:=(hb.cell (p:=⟨b2,o+j*3+2,none⟩) hbb).trans p2;rw[acC hx]at hyy;have hpn:adH l (j+1)= !x.u:=ahp hx;have hprev:0<j->∃(xo' xs':Int) (pu:Bool),adH l j= !pu/\wr.cell? ⟨b2,o+(j-1)*3+2,none⟩=some (.bool pu):=fun h0=>by
             obtain⟨x',hx'⟩:∃x',l[j-1]?=some x':=⟨l[j-1]'(by rw[HLL.out];omega),List.getElem?_eq_getElem _⟩;obtain⟨_,_,q2,_⟩:=hcl (j-1) x' hx';refine⟨0,0,x'.u,?_,(hb.cell (p:=⟨b2,o+(j-1)*3+2,none⟩) hbb).trans q2⟩;obtain⟨i,rfl⟩:∃i,j=i+1:=⟨j-1,by omega⟩;rw[show i+1-1=i by omega]at hx';exact ahp hx'
            unfold adF at hyy;obtain⟨xo,xs,xu⟩:=x;dsimp only at p0 p1 p2 r0 r1 r2 hyy hxo hxs hpn;obtain⟨w4,hw4⟩:=nmE (wr.alloc (.cells #[.int .i64 xo, .int .i64 xs, .bool xu] 132));have hb4':Below wr.heap.size wr w4:=by rw[<-hw4];exact(Below.refl _ _).alloc (Nat.le_refl _) _
            have hb4:Below w1.heap.size w1 w4:=hb.trans (hb4'.mono hb.size);have n4:=anE hw4;have e0:=(hb4'.cell (p:=⟨w.heap.size,0,none⟩) hlr).trans m0;have e1:=(hb4'.cell (p:=⟨w.heap.size,1,none⟩) hlr).trans m1;have e2:=(hb4'.cell (p:=⟨w.heap.size,2,none⟩) hlr).trans m2;obtain⟨x0,x1,x2⟩:=aac n4;have hl4:=aaa n4;have hbr:b2<wr.heap.size:=Nat.lt_of_lt_of_le hbb hb.size;have HP4:Hid (0<j->∃(pu:Bool),adH l j= !pu/\w4.cell? ⟨b2,o+(j-1)*3+2,none⟩=some (.bool pu)):=fun h0=>by
             obtain⟨_,_,pu,a1,a2⟩:=hprev h0;exact⟨pu,a1,(hb4'.cell (p:=⟨b2,o+(j-1)*3+2,none⟩) hbr).trans a2⟩
            have HW4:=hE0 hw4;have HB4:=hE0 hb4;have HYY:=hE0 hyy;have HPN:=hE0 hpn;have HN4:=hE0 n4;clear hx hb p0 p1 p2 hb4 hb4' n4 hw4 hcl hyy hprev hpn;obtain⟨sb,hsb⟩:=nmE (aa3 xs);have HSZ:=hE0 (fun W=>abp W xs hxs sb hsb);by_cases hbad:sb=false\/xo≠(z:Int)\/(adH l j=true/\xu=false)
            · have HF:Hid (false=y):=(show false=y by
               have e:=HYY.out;rw[hsb,if_pos hbad]at e;exact e)
              cases sb with
              | false=>
               clear hbad;go_wp2_with (first | (rw[HW4.out]) | fail)
               refine(HSZ.out _).mono ?_;rintro e w5 ⟨rfl,rfl⟩;go_wp2
               go_ret
               exact⟨aaE HF.out,HB1.out.trans (HB4.out.mono HB1.out.size)⟩
              | true=>
               by_cases hxz:xo=(z:Int)
               · have gz:(xo !=(z:Int))=false:=by rw[bne_eq_false_iff_eq];exact hxz
                 obtain⟨hp,rfl⟩:adH l j=true/\xu=false:=by
                  rcases hbad with h | h | h
                  · cases h
                  · exact absurd hxz h
                  · exact h
                 have hj0:0<j:=by
                  cases j with
                  | zero=>cases hp
                  | succ j=>omega
                 obtain⟨pu,a1,a2⟩:=HP4.out hj0;rw[hp]at a1;obtain rfl:pu=false:=by cases pu with | true=>cases a1 | false=>rfl
                 have gj:decide ((0:Int)<(j:Int))=true:=decide_eq_true (by omega);have gj':decide (0<j)=true:=decide_eq_true hj0;have hmx:max ((j:Int)-1) 0=((j-1:Nat):Int):=by omega
                 have hjm:((j-1:Nat):Int)<(ll:Int):=by omega
                 clear hbad a1 hp hxz;go_wp2_with (first | (rw[HW4.out]) | fail)
                 refine(HSZ.out _).mono ?_;rintro e w5 ⟨rfl,rfl⟩;go_wp2
                 go_ret
                 exact⟨aaE HF.out,HB1.out.trans (HB4.out.mono HB1.out.size)⟩
               · have gz:(xo !=(z:Int))=true:=by rw[bne_iff_ne];exact hxz
                 clear hbad;go_wp2_with (first | (rw[HW4.out]) | fail)
                 refine(HSZ.out _).mono ?_;rintro e w5 ⟨rfl,rfl⟩;go_wp2
                 go_ret
                 exact⟨aaE HF.out,HB1.out.trans (HB4.out.mono HB1.out.size)⟩
            · have hsbt:sb=true:=by
               cases sb with
               | true=>rfl
               | false=>exact absurd (.inl rfl) hbad
              subst hsbt;have hxz:xo=(z:Int):=Classical.byContradiction fun h=>hbad (.inr (.inl h));have gz:(xo !=(z:Int))=false:=by rw[bne_eq_false_iff_eq];exact hxz
              have hsz:=(aae _).1 hsb;have HYC:=hE0 (show(if xu=true then (match d.drop v with
               | []=>false
               | y::d'=>if (y.length:Int)≠xs-16 then false else adF (N:Int) ((z:Int)+xs) (!xu) (l.drop (j+1)) d')
               else adF (N:Int) ((z:Int)+xs) (!xu) (l.drop (j+1)) (d.drop v))=y by
               have e:=HYY.out;rw[if_neg (by rw[hsb];exact hbad)]at e;exact e)
              obtain⟨xn,rfl⟩:∃xn:Nat,xs=(xn:Int):=⟨xs.toNat,by omega⟩
              cases xu with
              | false=>
               have HGO:Hid (adF (N:Int) ((z+xn:Nat):Int) (adH l (j+1)) (l.drop (j+1)) (d.drop v)=y):=(show _=y by
                have e:=HYC.out;rw[if_neg (by decide)]at e;rw[HPN.out,Int.natCast_add];exact e)
               have HEND:Hid (∀W,Below w1.heap.size w1 W->True):=fun _ _=>trivial;by_cases hj0:0<j
               · obtain⟨pu,a1,a2⟩:=HP4.out hj0;obtain rfl:pu=true:=by
                  cases pu with
                  | true=>rfl
                  | false=>exact absurd (.inr (.inr ⟨a1,rfl⟩)) hbad
                 have gj:decide ((0:Int)<(j:Int))=true:=decide_eq_true (by omega);have gj':decide (0<j)=true:=decide_eq_true hj0;have hmx:max ((j:Int)-1) 0=((j-1:Nat):Int):=by omega
                 have hjm:((j-1:Nat):Int)<(ll:Int):=by omega
                 clear hbad a1 hxz hsb;go_wp2_with (first | (rw[HW4.out]) | fail)
                 refine(HSZ.out _).mono ?_;rintro e w5 ⟨rfl,rfl⟩;go_wp2
                 go_roundw
                 case rel=>exact⟨j+1,v,z+xn,by go_num,by go_num,rfl,by omega,hv,by omega,HGO.out,HB4.out⟩
                 case measure=>simp only[intOf];omega
               · have gj:decide ((0:Int)<(j:Int))=false:=decide_eq_false (by omega);have gj':decide (0<j)=false:=decide_eq_false hj0;clear hbad hxz hsb;go_wp2_with (first | (rw[HW4.out]) | fail)
                 refine(HSZ.out _).mono ?_;rintro e w5 ⟨rfl,rfl⟩;go_wp2
                 go_roundw
                 case rel=>exact⟨j+1,v,z+xn,by go_num,by go_num,rfl,by omega,hv,by omega,HGO.out,HB4.out⟩
                 case measure=>simp only[intOf];omega
              | true=>
               by_cases hvd:v<dl
               · obtain⟨q,hq⟩:∃q,d[v]?=some q:=⟨d[v]'(by rw[HDLL.out];exact hvd),List.getElem?_eq_getElem _⟩;obtain⟨b3,o3,rfl,hb3,hc3⟩:=HD.out (by rw[HDLL.out];omega);obtain⟨A',kz,z0,_,zl,_,_⟩:=hc3 v q hq;obtain⟨zn,hzn⟩:=nmE q.length;rw[hzn]at z0 zl;unfold maxLen at zl;have z4:=(HB4.out.cell (p:=⟨b3,o3+v,none⟩) hb3).trans z0;have l3:b3<w4.heap.size:=Nat.lt_of_lt_of_le hb3 HB4.out.size;have gv:decide ((dl:Int)<=(v:Int))=false:=decide_eq_false (by omega);have gv':decide (dl<=v)=false:=decide_eq_false (by omega);have hvi:(v:Int)<(dl:Int):=by omega
                 have HYQ:=hE0 (show(if (zn:Int)≠(xn:Int)-16 then false else adF (N:Int) ((z:Int)+(xn:Int)) (!true) (l.drop (j+1)) (d.drop (v+1)))=y by
                  have e:=HYC.out;rw[if_pos rfl,acC hq]at e;dsimp only at e;rw[hzn]at e;exact e)
                 clear hq hc3 z0 hzn hsb;by_cases hzz:(zn:Int)=(xn:Int)-16
                 · have g5:((zn:Int) !=(xn:Int)-16)=false:=by rw[bne_eq_false_iff_eq];exact hzz
                   have HGO:Hid (adF (N:Int) ((z+xn:Nat):Int) (adH l (j+1)) (l.drop (j+1)) (d.drop (v+1))=y):=(show _=y by
                    have e:=HYQ.out;rw[if_neg (by simpa using hzz)]at e;rw[HPN.out,Int.natCast_add];exact e)
                   clear hzz hbad hxz;by_cases hj0:0<j
                   · have gj:decide ((0:Int)<(j:Int))=true:=decide_eq_true (by omega);have gj':decide (0<j)=true:=decide_eq_true hj0;go_wp2_with (first | (rw[HW4.out]) | fail)
                     refine(HSZ.out _).mono ?_;rintro e w5 ⟨rfl,rfl⟩;go_wp2_with fail
                     go_quiet (fail)
                     go_wp2
                     go_roundw
                     case rel=>exact⟨j+1,v+1,z+xn,by go_num,by go_num,by go_num,by omega,by omega,by omega,HGO.out,HB4.out.trans ((ade _ _).mono HB4.out.size)⟩
                     case measure=>simp only[intOf];omega
                   · have gj:decide ((0:Int)<(j:Int))=false:=decide_eq_false (by omega);have gj':decide (0<j)=false:=decide_eq_false hj0;go_wp2_with (first | (rw[HW4.out]) | fail)
                     refine(HSZ.out _).mono ?_;rintro e w5 ⟨rfl,rfl⟩;go_wp2_with fail
                     go_quiet (fail)
                     go_wp2
                     go_roundw
                     case rel=>exact⟨j+1,v+1,z+xn,by go_num,by go_num,by go_num,by omega,by omega,by omega,HGO.out,HB4.out.trans ((ade _ _).mono HB4.out.size)⟩
                     case measure=>simp only[intOf];omega
                 · have g5:((zn:Int) !=(xn:Int)-16)=true:=by rw[bne_iff_ne];exact hzz
                   have HF:Hid (false=y):=(show false=y by
                    have e:=HYQ.out;rw[if_pos hzz]at e;exact e)
                   clear hzz hbad hxz;by_cases hj0:0<j
                   · have gj:decide ((0:Int)<(j:Int))=true:=decide_eq_true (by omega);have gj':decide (0<j)=true:=decide_eq_true hj0;go_wp2_with (first | (rw[HW4.out]) | fail)
                     refine(HSZ.out _).mono ?_;rintro e w5 ⟨rfl,rfl⟩;go_wp2_with fail
                     go_quiet (fail)
                     go_wp2
                     go_ret
                     exact⟨aaE HF.out,HB1.out.trans ((HB4.out.trans ((ade _ _).mono HB4.out.size)).mono HB1.out.size)⟩
                   · have gj:decide ((0:Int)<(j:Int))=false:=decide_eq_false (by omega);have gj':decide (0<j)=false:=decide_eq_false hj0;go_wp2_with (first | (rw[HW4.out]) | fail)
                     refine(HSZ.out _).mono ?_;rintro e w5 ⟨rfl,rfl⟩;go_wp2_with fail
                     go_quiet (fail)
                     go_wp2
                     go_ret
                     exact⟨aaE HF.out,HB1.out.trans ((HB4.out.trans ((ade _ _).mono HB4.out.size)).mono HB1.out.size)⟩
               · have gv:decide ((dl:Int)<=(v:Int))=true:=decide_eq_true (by omega);have gv':decide (dl<=v)=true:=decide_eq_true (by omega);have HF:Hid (false=y):=(show false=y by
                  have e:=HYC.out;rw[if_pos rfl,List.drop_eq_nil_of_le (by rw[HDLL.out];omega)]at e;exact e)
                 clear hbad hxz hsb;by_cases hj0:0<j
                 · have gj:decide ((0:Int)<(j:Int))=true:=decide_eq_true (by omega);have gj':decide (0<j)=true:=decide_eq_true hj0;go_wp2_with (first | (rw[HW4.out]) | fail)
                   refine(HSZ.out _).mono ?_;rintro e w5 ⟨rfl,rfl⟩;go_wp2
                   go_ret
                   exact⟨aaE HF.out,HB1.out.trans (HB4.out.mono HB1.out.size)⟩
                 · have gj:decide ((0:Int)<(j:Int))=false:=decide_eq_false (by omega);have gj':decide (0<j)=false:=decide_eq_false hj0;go_wp2_with (first | (rw[HW4.out]) | fail)
                   refine(HSZ.out _).mono ?_;rintro e w5 ⟨rfl,rfl⟩;go_wp2
                   go_ret
                   exact⟨aaE HF.out,HB1.out.trans (HB4.out.mono HB1.out.size)⟩
          · have hdn:l.drop j= []:=List.drop_eq_nil_of_le (by rw[HLL.out];omega);rw[hdn]at hyy;unfold adF at hyy;have HYY:=hE0 hyy;have HBB:=hE0 (HB1.out.trans (hb.mono HB1.out.size));clear hyy hb hdn;by_cases hzn:z=N
            · have g6:((z:Int)==(N:Int))=true:=by rw[beq_iff_eq];omega
              have HF:Hid ((v==dl)=y):=(show _=y by
               have e:=HYY.out;rw[g6,Bool.true_and]at e;rw[<-e];by_cases hvd:v=dl
               · rw[List.drop_eq_nil_of_le (by rw[HDLL.out];omega),hvd];simp
               · have e5:(v==dl)=false:=by rw[beq_eq_false_iff_ne];exact hvd
                 rw[e5]
                 cases hd2:d.drop v with
                 | nil=>have:=congrArg List.length hd2;rw[List.length_drop,HDLL.out]at this;simp at this;omega
                 | cons _ _=>rfl)
              have HF2:Hid (((v:Int)==(dl:Int))=y):=(show _=y by
               rw[<-HF.out];by_cases hvd:v=dl
               · rw[hvd];simp
               · have e5:(v==dl)=false:=by rw[beq_eq_false_iff_ne];exact hvd
                 rw[e5,beq_eq_false_iff_ne];omega)
              go_wp2
              go_ret
              exact⟨aaE HF2.out,HBB.out⟩
            · have g6:((z:Int)==(N:Int))=false:=by rw[beq_eq_false_iff_ne];omega
              have HF:Hid (false=y):=(show false=y by
               have e:=HYY.out;rw[g6,Bool.false_and]at e;exact e)
              go_wp2
              go_ret
              exact⟨aaE HF.out,HBB.out⟩
     · have g3:(((N:Int)%16) !=8)=true:=by rw[bne_iff_ne];omega
       have HF:Hid (false=y):=(show false=y by rw[<-HY.out];unfold acG;rw[(abD (N:Int)).2 (by omega)];rfl);go_enter Tryz.func88,Tryz.ntmps88
       go_wp2_with (first | (rw[HW1.out]) | fail)
       go_ret
       exact⟨aaE HF.out,HB1.out⟩
theorem aaO{w w':World}{B' base n size:Nat}{t:TypeId}{v:Value}{xs:List Value}(h:w.ownsRow base t size v n xs) (hb:Below B' w w') (hlt:∀k,v.ownBlock=some k->k<B'):w'.ownsRow base t size v n xs:=by
 refine⟨h.1,?_⟩;rcases h.2 with h2 | ⟨g,cap,cur,hv,hg,hh,r⟩
 · exact .inl h2
 · exact .inr ⟨g,cap,cur,hv,hg,(hb.block g (hlt g (by rw[hv];rfl))).trans hh,r⟩
theorem aa0{w w':World}{base n size:Nat}{t:TypeId}{v:Value}{xs:List Value}{r:Option Nat}(h:w.ownsRow base t size v n xs) (hg:w.grownBy w' r) (hne:∀k,v.ownBlock=some k->r≠some k):w'.ownsRow base t size v n xs:=by
 refine⟨h.1,?_⟩;rcases h.2 with h2 | ⟨g,cap,cur,hv,hb,hh,q⟩
 · exact .inl h2
 · have hk:v.ownBlock=some g:=by rw[hv];rfl
   refine .inr ⟨g,cap,cur,hv,hb,?_,q⟩;obtain⟨_,_,_,_,h5⟩:=hg;exact(h5 g (h.lt g hk).2 (fun e=>hne g hk e.symm)).trans hh
theorem aaY{w:World}{base base' n size:Nat}{t:TypeId}{v:Value}{xs:List Value}(h:w.ownsRow base t size v n xs) (hb:base'<=base):w.ownsRow base' t size v n xs:=by
 refine⟨h.1,?_⟩;rcases h.2 with h2 | ⟨g,cap,cur,hv,hg,r⟩
 · exact .inl h2
 · exact .inr ⟨g,cap,cur,hv,Nat.le_trans hb hg,r⟩
theorem aaU{w:World}{base n size:Nat}{t:TypeId}{v:Value}{xs:List Value}(h:w.ownsRow base t size v n xs):∃A c,v= .slice A n c/\(A=none->c=0):=by
 rcases h.2 with⟨rfl,h0⟩ | ⟨g,cap,cur,rfl,_⟩
 · exact⟨none,0,by rw[h0],fun _=>rfl⟩
 · exact⟨_,cap,rfl,fun e=>by cases e⟩
theorem aak{w:World}{base n c:Nat}{A:Option Addr}{bs:List UInt8}(h:w.ownsRow base 5 1 (.slice A n c) n (bs.map bv)):Rd w w.heap.size A n bs:=by
 obtain⟨A',c',e,_,hr⟩:=acR h;injection e with e1 _ _;subst e1;exact hr
theorem abM (w:World):
 Calls Tryz.prog 122 #[] w fun e w'=>∃A c,e= .returned (.slice A 8 c)/\(A=none->c=0)/\w'.ownsRow w.heap.size 5 1 (.slice A 8 c) 8 (imMarkB.map bv)/\Below w.heap.size w w':=by
 obtain⟨w1,hw1⟩:=nmE (w.alloc (.cells #[.int .u8 67, .int .u8 78, .int .u8 84, .int .u8 76, .int .u8 1, .int .u8 0, .int .u8 0, .int .u8 0] 5));have hb1:=abE hw1;have ho1:w1.ownsRow w.heap.size 5 1 (.slice (some ⟨w.heap.size,0,none⟩) 8 8) 8 (imMarkB.map bv):=by rw[<-hw1];exact World.ownsRow_lit w _ 8 (Nat.le_refl _) (by unfold maxLen;omega) rfl
 have HW1:=hE0 hw1;have HB1:=hE0 hb1;have HO1:=hE0 ho1;clear hw1 hb1 ho1;go_enter Tryz.func122,Tryz.ntmps122
 go_wp2_with (first | (rw[HW1.out]) | fail)
 go_ret
 exact⟨_,_,rfl,(fun e=>by cases e),HO1.out,HB1.out⟩
theorem ads (w:World) (A:Option Addr) (n c B:Nat) (b:List UInt8) (hr:Rd w B A n b) (hn:n<=900000):
 Calls Tryz.prog 124 #[.slice A n c] w fun e w'=>∃A c,e= .returned (.slice A 4 c)/\(A=none->c=0)/\w'.ownsRow w.heap.size 5 1 (.slice A 4 c) 4 ((adU b).map bv)/\Below w.heap.size w w':=by
 have HS:=hE0 (aen A n c B b w hr (by omega));obtain⟨s,hs⟩:=nmE (abn 0 b);have hs32:s<4294967296:=by rw[<-hs];exact acI _ _
 have HL:=hE0 (ah0 s 4 w (by omega) (by omega));have HE:Hid (aat 4 s=adU b):=(show _=_ by unfold adU;rw[hs]);rw[hs]at HS;clear hr hs;go_enter Tryz.func124,Tryz.ntmps124
 go_wp2_with fail
 refine HS.out.mono ?_;rintro e w2 ⟨rfl,rfl⟩;go_wp2_with fail
 refine HL.out.mono ?_;rintro e w2 ⟨x,rfl,ho,hb⟩;rw[HE.out]at ho;obtain⟨A',c',rfl,hA⟩:=aaU ho;have HF:=hE0 (And.intro hA (And.intro ho hb));clear ho hb hA;go_wp2
 go_ret
 exact⟨_,_,rfl,HF.out⟩
theorem amb (n:Nat) (l:List Rk):agu n l.length++abv l++adU (abv l)=aft n l:=by
 unfold aft afN;rw[List.drop_left' (aeu n l.length)]
theorem ahq (n:Nat) (l:List Rk) (d:List (List UInt8)):aft n l++d.flatten++adU d.flatten=ag4 n l d:=by
 unfold ag4 afN;rw[List.drop_left' rfl]
theorem amc (n k:Nat):abR n k++adU (abR n k)=agu n k:=by unfold agu afN;rw[List.drop_zero]
theorem ahr (n:Nat) (l:List Rk) (d:List (List UInt8)):ag4 n l d++adU (ag4 n l d)=aaM n l d:=by unfold aaM afN;rw[List.drop_zero]
theorem aic (n:Nat) (l:List Rk) (d:List (List UInt8)):(ag4 n l d).length=36+8*l.length+d.flatten.length:=by
 rw[<-ahq,List.length_append,List.length_append,adc,abY];omega
theorem aev (n:Nat) (l:List Rk) (d:List (List UInt8)):(aaM n l d).length=40+8*l.length+d.flatten.length:=by
 rw[<-ahr,List.length_append,aic,abY];omega
theorem alm (l:List Rk) (j:Nat):(abv (l.take j)).length<=8*l.length:=by rw[adp,List.length_take];omega
theorem ahs (w:World) (n:Nat) (hn:n<9223372036854775808) (A1 A2:Option Addr) (k1 k2:Nat) (l:List Rk) (d:List (List UInt8)) (hr:RkRd w w.heap.size A1 l) (hd:DtRd w w.heap.size A2 d) (hl:l.length<=1000) (hdl:d.length<=1000) (hfl:d.flatten.length<=100000):
 Calls Tryz.prog 63 #[imV (n:Int) A1 l.length k1 A2 d.length k2] w fun e w'=>∃A c,e= .returned (.slice A (aaM n l d).length c)/\w'.ownsRow w.heap.size 5 1 (.slice A (aaM n l d).length c) (aaM n l d).length ((aaM n l d).map bv)/\Below w.heap.size w w':=by
 unfold imV;rw[aev];have HPT:=hE0 (fun j=>alm l j);have HFT:=hE0 (fun j=>Nat.le_trans (adG d j) hfl);have HPA:=hE0 (amc n l.length);have HPTT:=hE0 (amb n l);have HPD:=hE0 (ahq n l d);have HPB:=hE0 (ahr n l d);have HTL:=hE0 (adp l);obtain⟨fl,hfl'⟩:∃fl,d.flatten.length=fl:=⟨_,rfl⟩;rw[hfl']at hfl;rw[hfl'];have HFL:=hE0 hfl';have HAL:=hE0 (aeu n l.length);have HTTL:=hE0 (adc n l);have HDL2:=hE0 (aic n l d);obtain⟨ll,hll⟩:=nmE l.length;obtain⟨dl,hdll⟩:=nmE d.length;have HLL:=hE0 hll;have HDLL:=hE0 hdll;rw[hll]at hl HPT HPA HPTT HTL HAL HTTL HDL2;rw[hfl']at HDL2;rw[hdll]at hdl;rw[hll,hdll];obtain⟨w1,hw1⟩:=nmE (w.alloc (.cells #[.int .i64 (n:Int), .slice A1 ll k1, .slice A2 dl k2] 59));obtain⟨wd,hwd⟩:=nmE w1.drew;have hb1:Below w.heap.size w wd:=by rw[<-hwd,<-hw1];exact((Below.refl _ _).alloc (Nat.le_refl _) _).drew
 have n1:wd.heap[w.heap.size]?=some (.cells #[.int .i64 (n:Int), .slice A1 ll k1, .slice A2 dl k2] 59 (0,0)):=by rw[<-hwd,<-hw1];exact heap_alloc_new w _
 obtain⟨d0,d1,d2⟩:=aac n1;have hl1:=aaa n1;have HB1:=hE0 hb1;have HW1:=hE0 hw1;have HWD:=hE0 hwd;have HN1:=hE0 n1;have HR:=hE0 ((hr.below hb1).more hb1.size);have HD:=hE0 ((hd.below hb1).more hb1.size);have HBG:=hE0 (abM wd);have HLOW:=hE0 (fun W v (hv:v<18446744073709551616)=>ah0 v 8 W (by omega) hv);clear hw1 hwd hb1 n1 hr hd hll hdll hfl';go_enter Tryz.func63,Tryz.ntmps63
 go_wp2_with (first | (rw[HW1.out]) | fail)
 refine aad wd.heap.size [([1,2,3],0),([],4)] [] [5,6] (by kernel_rfl) (by kernel_rfl) (by kernel_rfl) (fun _ _ _ _ _ h=>h) ?_;rw[HWD.out];have q0:=tfE d0 hl1;refine tail_cons (l:= ?segA) ?hsegA ?_
 case hsegA=>simp only[pick,lE1,lE2,lE3];rfl
 repeat (go_big_quiet_step (fail))
 refine wpQuiet_nil ?_;clear q0;refine aaf (vs:= #[]) Tryz.call122 rfl rfl rfl (R:=fun r w'=>∃A c,r= .slice A 8 c/\(A=none->c=0)/\w'.ownsRow wd.heap.size 5 1 (.slice A 8 c) 8 (imMarkB.map bv)/\Below wd.heap.size wd w') (HBG.out.mono ?_) wd.heap.size (Nat.le_refl _) ?_
 · rintro e w' ⟨A,c,rfl,hA,ho,hb⟩;exact⟨_,rfl,hb,A,c,rfl,hA,ho,hb⟩
 rintro r w2 _ ⟨AB,cB,rfl,hAB,ho2,hb2⟩;simp only[Act.put,lE4,lE5,lE6];refine tail_cons (l:= []) rfl (wpQuiet_nil ?_);refine aaf (vs:= #[.int .u64 (n:Int), .int .i64 8]) Tryz.call123 rfl rfl rfl (R:=fun r w'=>w'.ownsRow w2.heap.size 5 1 r 8 ((aat 8 n).map bv)/\Below w2.heap.size w2 w') ((HLOW.out w2 n (by omega)).mono ?_) wd.heap.size (Nat.le_refl _) ?_
 · rintro e w' ⟨x,rfl,ho,hb⟩;exact⟨_,rfl,hb.mono hb2.size,ho,hb⟩
 rintro r w3 _ ⟨ho3,hb3⟩;obtain⟨AL,cL,rfl,hAL⟩:=aaU ho3;have HO2:=hE0 (aax ho2 hb3);have HR3:=hE0 (aak ho3);have HB3:=hE0 (HB1.out.trans ((hb2.trans (hb3.mono hb2.size)).mono HB1.out.size));have HS23:=hE0 (Nat.le_trans hb2.size hb3.size);have HBD3:=hE0 (hb2.trans (hb3.mono hb2.size));clear ho2 hb2 ho3 hb3 HBG;simp only[Act.put,lE4,lE5,lE6];refine aam (l:= []) (t:= ?tl) rfl ?htl (wpQuiet_nil ?_)
 case htl=>simp only[pick,lE1,lE2,lE3];rfl
 go_upto_region 2 with(first
  | (at_builtin;go_must (refine aaj rfl (.tmp 9) (.tmp 13) 37 5 rfl Tryz.underlying37 aaR wd.heap.size (.slice AB 8 cB) 8 imMarkB rfl HO2.out _ AL 8 cL (aat 8 n) rfl HR3.out hAL (by omega) HS23.out ?_);intro x4 w4 own4 hb4 gr4
     have HX4:Hid (w4.ownsRow wd.heap.size 5 1 x4 (8+8) ((imMarkB++(aat 8 n)).map bv)/\Below wd.heap.size w3 w4/\w3.grownBy w4 (Value.ownBlock ((.slice AB 8 cB)))):=⟨own4,hb4,gr4⟩;clear own4 hb4 gr4)
  | fail)
 have hb04:Below wd.heap.size wd w4:=HBD3.out.trans HX4.out.2.1;have e4:=(hb04.cell (p:=⟨w.heap.size,1,none⟩) hl1).trans d1;have hl4:w.heap.size<w4.heap.size:=Nat.lt_of_lt_of_le hl1 hb04.size;have HB04:=hE0 hb04;clear HBD3 hb04;go_wp2_with fail
 refine(HLOW.out w4 ll (by omega)).mono ?_;rintro e w5 ⟨x5,rfl,ho5,hb5⟩;obtain⟨A5,c5,rfl,hA5⟩:=aaU ho5;have HR5:=hE0 (aak ho5);have HO4:=hE0 (aax HX4.out.1 hb5);have HB05:=hE0 (HB04.out.trans (hb5.mono HB04.out.size));clear ho5 hb5 HX4 HB04 e4 hl4;go_upto_region 3 with(first
  | (at_builtin;go_must (refine aaj rfl (.tmp 15) (.tmp 20) 37 5 rfl Tryz.underlying37 aaR wd.heap.size _ (8+8) (imMarkB++aat 8 n) rfl HO4.out _ A5 8 c5 (aat 8 ll) rfl HR5.out hA5 (by omega) HB05.out.size ?_);intro x6 w6 own6 hb6 gr6
     have HX6:Hid (w6.ownsRow wd.heap.size 5 1 x6 ((8+8)+8) (((imMarkB++aat 8 n)++(aat 8 ll)).map bv)/\Below wd.heap.size w5 w6/\w5.grownBy w6 (Value.ownBlock x4)):=⟨own6,hb6,gr6⟩;clear own6 hb6 gr6)
  | fail)
 obtain⟨A6,c6,rfl,hA6⟩:=aaU HX6.out.1;have HB06:=hE0 (HB05.out.trans HX6.out.2.1);obtain⟨w7,hw7⟩:=nmE (w6.alloc (.cells #[] 5));have own7:w7.ownsRow w6.heap.size 5 1 (.slice (some ⟨w6.heap.size,0,none⟩) 0 0) 0 (([]:List UInt8).map bv):=by rw[<-hw7];exact World.ownsRow_lit w6 _ 0 (Nat.le_refl _) (by unfold maxLen;omega) rfl
 have hb7:=abE hw7;have HO7:=hE0 own7;have HH7:=hE0 (aax HX6.out.1 hb7);have HR7:=hE0 (aak (aax HX6.out.1 hb7));have HB67:=hE0 hb7;have HW7:=hE0 hw7;clear own7 hb7 hw7;go_wp2_with (first
  | (rw[HW7.out])
  | (at_builtin;go_must (refine aaj rfl (.tmp 22) (.tmp 23) 37 5 rfl Tryz.underlying37 aaR w6.heap.size (.slice (some ⟨w6.heap.size,0,none⟩) 0 0) 0 [] rfl HO7.out _ A6 (8+8+8) c6 (imMarkB++aat 8 n++aat 8 ll) rfl HR7.out hA6 (by omega) HB67.out.size ?_);intro x8 w8 own8 hb8 gr8
     have HX8:Hid (w8.ownsRow w6.heap.size 5 1 x8 (0+(8+8+8)) (([]++(imMarkB++aat 8 n++aat 8 ll)).map bv)/\Below w6.heap.size w7 w8/\w7.grownBy w8 (Value.ownBlock ((.slice (some ⟨w6.heap.size,0,none⟩) 0 0)))):=⟨own8,hb8,gr8⟩;clear own8 hb8 gr8)
  | fail)
 have HH8:=hE0 (aaO HH7.out HX8.out.2.1 (fun k hk=>(HX6.out.1.lt k hk).2));have HB68:=hE0 (HB67.out.trans HX8.out.2.1);have HF8:=hE0 (ads w8 A6 (8+8+8) c6 _ _ (aak HH8.out) (by omega));go_wp2_with fail
 refine HF8.out.mono ?_;rintro e w9 ⟨A9,c9,rfl,hA9,ho9,hb9⟩;have HR9:=hE0 (aak ho9);have HO9:=hE0 (aax HX8.out.1 hb9);have HB69:=hE0 (HB68.out.trans (hb9.mono HB68.out.size));clear ho9 hb9 HF8;go_wp2_with (first
  | (at_builtin;go_must (refine aaj rfl (.tmp 24) (.tmp 26) 37 5 rfl Tryz.underlying37 aaR w6.heap.size _ (0+(8+8+8)) ([]++(imMarkB++aat 8 n++aat 8 ll)) rfl HO9.out _ A9 4 c9 (adU (imMarkB++aat 8 n++aat 8 ll)) rfl HR9.out hA9 (by omega) HB69.out.size ?_);intro x10 w10 own10 hb10 gr10
     have HX10:Hid (w10.ownsRow w6.heap.size 5 1 x10 ((0+(8+8+8))+4) ((([]++(imMarkB++aat 8 n++aat 8 ll))++(adU (imMarkB++aat 8 n++aat 8 ll))).map bv)/\Below w6.heap.size w9 w10/\w9.grownBy w10 (Value.ownBlock x8)):=⟨own10,hb10,gr10⟩;clear own10 hb10 gr10)
  | fail)
 have HOUT:Hid (w10.ownsRow w6.heap.size 5 1 x10 28 ((agu n ll).map bv)):=(show World.ownsRow _ _ _ _ _ _ _ by
  have e:=HX10.out.1;rw[List.nil_append,show imMarkB++aat 8 n++aat 8 ll=abR n ll from rfl,HPA.out]at e;exact e)
 have HB610:=hE0 (HB69.out.trans HX10.out.2.1);have HB010:=hE0 (HB06.out.trans (HB610.out.mono HB06.out.size));clear HX10 HX8 HX6 HO9 HO7 HH7 HH8 HR7 HR9 HR5 HO4 HO2 HR3 HB67 HB68 HB69;go_wp2
 go_loopw [5,6] (fun v t wr=>∃(j:Nat),t= .int .i64 (j:Int)/\j<=ll/\wr.ownsRow w10.heap.size 5 1 v (abv (l.take j)).length ((abv (l.take j)).map bv)/\Below w10.heap.size w10 wr) (fun _ t _=>ll-(intOf t).toNat)
 case atStart=>exact⟨0,rfl,Nat.zero_le _,World.ownsRow_nil _ _ _ _,Below.refl _ _⟩
 case round=>
  obtain⟨j,rfl,hj,hown,hb⟩:=hrel;have m1:=(hb.cell (p:=⟨w.heap.size,1,none⟩) (Nat.lt_of_lt_of_le hl1 HB010.out.size)).trans ((HB010.out.cell (p:=⟨w.heap.size,1,none⟩) hl1).trans d1);have hlr:w.heap.size<wr.heap.size:=Nat.lt_of_lt_of_le (Nat.lt_of_lt_of_le hl1 HB010.out.size) hb.size;by_cases hlt:j<ll
  · obtain⟨x,hx⟩:∃x,l[j]?=some x:=⟨l[j]'(by rw[HLL.out];exact hlt),List.getElem?_eq_getElem _⟩;obtain⟨b2,o,rfl,hbb,hcl⟩:=HR.out (by rw[HLL.out];omega);obtain⟨p0,p1,p2,hxo,hxs⟩:=hcl j x hx;obtain⟨wf,hwf⟩:=nmE wr.drew;have hbf:=adE hwf;have hbw:=HB010.out.trans ((hb.trans (hbf.mono hb.size)).mono HB010.out.size);have r1:=(hbw.cell (p:=⟨b2,o+j*3+1,none⟩) hbb).trans p1;have r2:=(hbw.cell (p:=⟨b2,o+j*3+2,none⟩) hbb).trans p2;have r3:=(hbw.cell (p:=⟨w.heap.size,1,none⟩) hl1).trans d1;have hlf:w.heap.size<wf.heap.size:=Nat.lt_of_lt_of_le hl1 hbw.size;have hlb:b2<wf.heap.size:=Nat.lt_of_lt_of_le hbb hbw.size;have HTG:=hE0 (aho hx);have HT1:=HPT.out j;obtain⟨xo,xs,xu⟩:=x;dsimp only at p0 p1 p2 r1 r2 hxs HTG;obtain⟨pk,hpk⟩:=nmE (ab0 xs xu);have hpkl:pk<18446744073709551616:=by have:=aeQ xs xu;omega
    have HPK:=hE0 (anm wf xs xu hxs pk hpk);have HTB:Hid (alj ⟨xo,xs,xu⟩=aat 8 pk):=(show _=_ by unfold alj;dsimp only;rw[hpk]);have HOF:=hE0 (aax hown hbf);have HBF:=hE0 (hb.trans (hbf.mono hb.size));have HWF:=hE0 hwf;obtain⟨tn,htn⟩:=nmE ((abv (l.take j)).length);rw[htn]at HOF HT1;have HTN:=hE0 htn;clear hx hcl p0 p1 p2 hown hb hwf hbf hbw hpk htn;go_wp2_with fail
    refine aad wf.heap.size [([0,1,2,3,4,5,6,7,8,9,10,11,12],13),([],14)] [] [15,16] (by kernel_rfl) (by kernel_rfl) (by kernel_rfl) (fun _ _ _ _ _ h=>h) ?_;rw[HWF.out];have t1:=tfE r1 hlb;have t2:=tfE r2 hlb;have t3:=tfE r3 hlf;refine tail_cons (l:= ?segB) ?hsegB ?_
    case hsegB=>simp only[pick,lE1,lE2,lE3];rfl
    repeat (go_big_quiet_step (fail))
    refine wpQuiet_nil ?_;clear t1 t2 t3;refine aaf (vs:= #[.int .i64 xs, .bool xu]) Tryz.call125 rfl rfl rfl (R:=fun r w'=>r= .int .u64 (pk:Int)/\w'=wf) (HPK.out.mono ?_) wf.heap.size (Nat.le_refl _) ?_
    · rintro e w' ⟨rfl,rfl⟩;exact⟨_,rfl,Below.refl _ _,rfl,rfl⟩
    rintro r w11 _ ⟨rfl,rfl⟩;simp only[Act.put,lE4,lE5,lE6];refine tail_cons (l:= []) rfl (wpQuiet_nil ?_);refine aaf (vs:= #[.int .u64 (pk:Int), .int .i64 8]) Tryz.call123 rfl rfl rfl (R:=fun r w'=>w'.ownsRow w11.heap.size 5 1 r 8 ((aat 8 pk).map bv)/\Below w11.heap.size w11 w') ((HLOW.out w11 pk hpkl).mono ?_) w11.heap.size (Nat.le_refl _) ?_
    · rintro e w' ⟨x,rfl,ho,hb⟩;exact⟨_,rfl,hb,ho,hb⟩
    rintro r w12 _ ⟨ho12,hb12⟩;obtain⟨A12,c12,rfl,hA12⟩:=aaU ho12;have HR12:=hE0 (aak ho12);have HO12:=hE0 (aax HOF.out hb12);have HB12:=hE0 (HBF.out.trans (hb12.mono HBF.out.size));clear ho12 hb12 HPK;simp only[Act.put,lE4,lE5,lE6];refine aam (l:= []) (t:= ?tlB) rfl ?htlB (wpQuiet_nil ?_)
    case htlB=>simp only[pick,lE1,lE2,lE3];rfl
    go_wp2_with (first
     | (at_builtin;go_must (refine aaj rfl (.tmp 35) (.tmp 49) 37 5 rfl Tryz.underlying37 aaR w10.heap.size _ tn (abv (l.take j)) rfl HO12.out _ A12 8 c12 (aat 8 pk) rfl HR12.out hA12 (by omega) HB12.out.size ?_);intro x13 w13 own13 hb13 gr13
        have HX13:Hid (w13.ownsRow w10.heap.size 5 1 x13 (tn+8) (((abv (l.take j))++(aat 8 pk)).map bv)/\Below w10.heap.size w12 w13):=⟨own13,hb13⟩;clear own13 hb13 gr13)
     | fail)
    go_roundw
    case rel=>
     refine⟨j+1,by go_num,by omega,?_,HB12.out.trans HX13.out.2⟩;rw[HTG.out,HTB.out,List.length_append,HTN.out,aab];exact HX13.out.1
    case measure=>simp only[intOf];omega
  · have e:l.take j=l:=List.take_of_length_le (by rw[HLL.out];omega);rw[e,HTL.out]at hown;have HTRW:=hE0 hown;have HB:=hE0 hb;have HO:=hE0 (aaO HOUT.out hb (fun k hk=>(HOUT.out.lt k hk).2));obtain⟨AT,cT,rfl,hAT⟩:=aaU hown;have HRT:=hE0 (aak hown);have HSZ:=hE0 (Nat.le_trans HB610.out.size hb.size);have HBR:=hE0 (HB010.out.trans (hb.mono HB010.out.size));clear hown hb e;go_wp2_with (first
     | (at_builtin;go_must (refine aaj rfl (.tmp 51) (.tmp 52) 37 5 rfl Tryz.underlying37 aaR w6.heap.size _ 28 (agu n ll) rfl HO.out _ AT (8*ll) cT (abv l) rfl HRT.out hAT (by omega) HSZ.out ?_);intro x20 w20 own20 hb20 gr20
        have HX20:Hid (w20.ownsRow w6.heap.size 5 1 x20 (28+(8*ll)) (((agu n ll)++(abv l)).map bv)/\Below w6.heap.size wr w20/\wr.grownBy w20 (Value.ownBlock x10)):=⟨own20,hb20,gr20⟩;clear own20 hb20 gr20)
     | fail)
    have HT20:=hE0 (aa0 HTRW.out HX20.out.2.2 (fun k hk e=>by
     have h1:=(HTRW.out.lt k hk).1;have h2:=(HOUT.out.lt k e).2;omega))
    have HSZ20:=hE0 (Nat.le_trans HSZ.out HX20.out.2.1.size);have HF20:=hE0 (ads w20 AT (8*ll) cT _ _ (aak HT20.out) (by omega));go_wp2_with fail
    refine HF20.out.mono ?_;rintro e w21 ⟨A21,c21,rfl,hA21,ho21,hb21⟩;have HR21:=hE0 (aak ho21);have HO21:=hE0 (aax HX20.out.1 hb21);have HB621:Hid (Below w6.heap.size wr w21):=(show Below _ _ _ from HX20.out.2.1.trans (hb21.mono HSZ20.out));have HSZ21:=hE0 (Nat.le_trans HSZ20.out hb21.size);clear ho21 hb21 HF20 HT20;go_wp2_with (first
     | (at_builtin;go_must (refine aaj rfl (.tmp 53) (.tmp 55) 37 5 rfl Tryz.underlying37 aaR w6.heap.size _ (28+8*ll) (agu n ll++abv l) rfl HO21.out _ A21 4 c21 (adU (abv l)) rfl HR21.out hA21 (by omega) HSZ21.out ?_);intro x22 w22 own22 hb22 gr22
        have HX22:Hid (w22.ownsRow w6.heap.size 5 1 x22 ((28+8*ll)+4) (((agu n ll++abv l)++(adU (abv l))).map bv)/\Below w6.heap.size w21 w22/\w21.grownBy w22 (Value.ownBlock x20)):=⟨own22,hb22,gr22⟩;clear own22 hb22 gr22)
     | fail)
    have HOUT2:Hid (w22.ownsRow w6.heap.size 5 1 x22 (28+8*ll+4) ((aft n l).map bv)):=(show World.ownsRow _ _ _ _ _ _ _ by
     have e:=HX22.out.1;rw[HPTT.out]at e;exact e)
    have HB622:=hE0 (HB621.out.trans HX22.out.2.1);have HSZ22:=hE0 (Nat.le_trans HSZ21.out HX22.out.2.1.size);have HBD22:Hid (Below wd.heap.size wd w22):=(show Below _ _ _ from HBR.out.trans (HB622.out.mono HB06.out.size));clear HX22 HX20 HO21 HR21 HRT HTRW HO HOUT HB621 HSZ20 HSZ21;go_wp2
    go_loopw [7,8] (fun v t wr=>∃(j:Nat),t= .int .i64 (j:Int)/\j<=dl/\wr.ownsRow w22.heap.size 5 1 v (d.take j).flatten.length ((d.take j).flatten.map bv)/\Below w22.heap.size w22 wr) (fun _ t _=>dl-(intOf t).toNat)
    case atStart=>exact⟨0,rfl,Nat.zero_le _,World.ownsRow_nil _ _ _ _,Below.refl _ _⟩
    case round=>
     obtain⟨i,rfl,hi,hown,hb⟩:=hrel;have hbw:=HBD22.out.trans (hb.mono HBD22.out.size);have m2:=(hbw.cell (p:=⟨w.heap.size,2,none⟩) hl1).trans d2;have hlr:w.heap.size<wr.heap.size:=Nat.lt_of_lt_of_le hl1 hbw.size;by_cases hlt2:i<dl
     · obtain⟨y,hy⟩:∃y,d[i]?=some y:=⟨d[i]'(by rw[HDLL.out];exact hlt2),List.getElem?_eq_getElem _⟩;obtain⟨b,o,rfl,hbb,hc⟩:=HD.out (by rw[HDLL.out];omega);obtain⟨A',k',c0,hrd,_,_,hA⟩:=hc i y hy;have c1:=(hbw.cell (p:=⟨b,o+i,none⟩) hbb).trans c0;have hs1:=HFT.out (i+1);rw[ace hy,List.length_append]at hs1;have HFT2:=hE0 (ace hy);have HRD:=hE0 ((hrd.below hbw).more hbw.size);obtain⟨yn,hn'⟩:∃yn,y.length=yn:=⟨_,rfl⟩;have HYN:=hE0 hn';obtain⟨q,hq⟩:=nmE ((d.take i).flatten.length);rw[hq]at hown hs1;have HQ:=hE0 hq;rw[hn']at c0 c1 hs1 HRD;have HO:=hE0 hown;have HB:=hE0 hb;clear hc hy hn' hown hb hrd hq hbw c0;go_wp2_with (first
        | (at_builtin;go_must (refine aaj rfl (.tmp 64) (.tmp 69) 37 5 rfl Tryz.underlying37 aaR w22.heap.size _ q (d.take i).flatten rfl HO.out _ A' yn k' y rfl HRD.out hA (by omega) HB.out.size ?_);intro x30 w30 own30 hb30 gr30
           have HX30:Hid (w30.ownsRow w22.heap.size 5 1 x30 (q+yn) (((d.take i).flatten++y).map bv)/\Below w22.heap.size wr w30):=⟨own30,hb30⟩;clear own30 hb30 gr30)
        | fail)
       go_roundw
       case rel=>
        refine⟨i+1,by go_num,by omega,?_,HB.out.trans HX30.out.2⟩;rw[HFT2.out,List.length_append,HQ.out,HYN.out];exact HX30.out.1
       case measure=>simp only[intOf];omega
     · have e:d.take i=d:=List.take_of_length_le (by rw[HDLL.out];omega);rw[e,HFL.out]at hown;have HTRW:=hE0 hown;have HO:=hE0 (aaO HOUT2.out hb (fun k hk=>(HOUT2.out.lt k hk).2));obtain⟨AT,cT,rfl,hAT⟩:=aaU hown;have HRT:=hE0 (aak hown);have HSZ3:=hE0 (Nat.le_trans HSZ22.out hb.size);have HBR3:=hE0 hbw;clear hown hb e hbw;go_wp2_with (first
        | (at_builtin;go_must (refine aaj rfl (.tmp 71) (.tmp 72) 37 5 rfl Tryz.underlying37 aaR w6.heap.size _ (28+8*ll+4) (aft n l) rfl HO.out _ AT fl cT d.flatten rfl HRT.out hAT (by omega) HSZ3.out ?_);intro x40 w40 own40 hb40 gr40
           have HX40:Hid (w40.ownsRow w6.heap.size 5 1 x40 ((28+8*ll+4)+fl) (((aft n l)++d.flatten).map bv)/\Below w6.heap.size wr w40/\wr.grownBy w40 (Value.ownBlock x22)):=⟨own40,hb40,gr40⟩;clear own40 hb40 gr40)
        | fail)
       have HT40:=hE0 (aa0 HTRW.out HX40.out.2.2 (fun k hk e=>by
        have h1:=(HTRW.out.lt k hk).1;have h2:=(HOUT2.out.lt k e).2;omega))
       have HSZ40:=hE0 (Nat.le_trans HSZ3.out HX40.out.2.1.size);have HF40:=hE0 (ads w40 AT fl cT _ _ (aak HT40.out) (by omega));go_wp2_with fail
       refine HF40.out.mono ?_;rintro e w41 ⟨A41,c41,rfl,hA41,ho41,hb41⟩;have HR41:=hE0 (aak ho41);have HO41:=hE0 (aax HX40.out.1 hb41);have HB641:Hid (Below w6.heap.size wr w41):=(show Below _ _ _ from HX40.out.2.1.trans (hb41.mono HSZ40.out));have HSZ41:=hE0 (Nat.le_trans HSZ40.out hb41.size);clear ho41 hb41 HF40 HT40;go_wp2_with (first
        | (at_builtin;go_must (refine aaj rfl (.tmp 73) (.tmp 75) 37 5 rfl Tryz.underlying37 aaR w6.heap.size _ (28+8*ll+4+fl) (aft n l++d.flatten) rfl HO41.out _ A41 4 c41 (adU d.flatten) rfl HR41.out hA41 (by omega) HSZ41.out ?_);intro x42 w42 own42 hb42 gr42
           have HX42:Hid (w42.ownsRow w6.heap.size 5 1 x42 ((28+8*ll+4+fl)+4) (((aft n l++d.flatten)++(adU d.flatten)).map bv)/\Below w6.heap.size w41 w42/\w41.grownBy w42 (Value.ownBlock x40)):=⟨own42,hb42,gr42⟩;clear own42 hb42 gr42)
        | fail)
       have hout3:w42.ownsRow w6.heap.size 5 1 x42 (28+8*ll+4+fl+4) ((ag4 n l d).map bv):=by
        have e:=HX42.out.1;rw[HPD.out]at e;exact e
       obtain⟨A42,c42,rfl,hA42⟩:=aaU hout3;have HOUT3:=hE0 hout3;have HB642:=hE0 (HB641.out.trans HX42.out.2.1);have HSZ42:=hE0 (Nat.le_trans HSZ41.out HX42.out.2.1.size);have HF42:=hE0 (ads w42 A42 (28+8*ll+4+fl+4) c42 _ _ (aak hout3) (by omega));clear hout3;go_wp2_with fail
       refine HF42.out.mono ?_;rintro e w43 ⟨A43,c43,rfl,hA43,ho43,hb43⟩;have HR43:=hE0 (aak ho43);have HO43:=hE0 (aax HOUT3.out hb43);have HB643:=hE0 (HB642.out.trans (hb43.mono HSZ42.out));have HSZ43:=hE0 (Nat.le_trans HSZ42.out hb43.size);clear ho43 hb43 HF42;go_wp2_with (first
        | (at_builtin;go_must (refine aaj rfl (.tmp 77) (.tmp 79) 37 5 rfl Tryz.underlying37 aaR w6.heap.size (.slice A42 (28+8*ll+4+fl+4) c42) (28+8*ll+4+fl+4) (ag4 n l d) rfl HO43.out _ A43 4 c43 (adU (ag4 n l d)) rfl HR43.out hA43 (by omega) HSZ43.out ?_);intro x44 w44 own44 hb44 gr44
           have HX44:Hid (w44.ownsRow w6.heap.size 5 1 x44 ((28+8*ll+4+fl+4)+4) (((ag4 n l d)++(adU (ag4 n l d))).map bv)/\Below w6.heap.size w43 w44/\w43.grownBy w44 (Value.ownBlock ((.slice A42 (28+8*ll+4+fl+4) c42)))):=⟨own44,hb44,gr44⟩;clear own44 hb44 gr44)
        | fail)
       have hfin:w44.ownsRow w.heap.size 5 1 x44 (40+8*ll+fl) ((aaM n l d).map bv):=by
        have e:=HX44.out.1;rw[HPB.out,show 28+8*ll+4+fl+4+4=40+8*ll+fl by omega]at e;exact aaY e (Nat.le_trans HB1.out.size HB06.out.size)
       have hbfin:Below w.heap.size w w44:=HB1.out.trans ((HBR3.out.trans ((HB643.out.trans HX44.out.2.1).mono HB06.out.size)).mono HB1.out.size);obtain⟨A44,c44,rfl,_⟩:=aaU hfin;have HFIN:=hE0 (And.intro hfin hbfin);clear hfin hbfin;go_ret
       exact⟨A44,c44,rfl,HFIN.out⟩
section
variable {P:Program}
theorem acZ (v:World) (t e:TypeId) (g:Nat) (C:Array Value) (n c:Nat) (ht:P.underlying t=some (.slice e)) (he:P.underlying e=some (.int .u8)) (hg:v.heap[g]?=some (.cells C e (0,0))):
 ∃v',(convert t t (.slice (some ⟨g,0,none⟩) n c)).run P v= .ok (.slice (some ⟨g,0,none⟩) n c) v'/\v'.heap[g]?=some (.cells C e (C.size,C.size+1))/\v'.heap.size=v.heap.size/\(∀k,k≠g->v'.heap[k]?=v.heap[k]?)/\∀B,B<=g->Below B v v':=by
 have hsh:v.shape? g=some (e,C.size):=by
  unfold World.shape?;rw[hg]
 refine⟨v.freeze ⟨g,C.size,none⟩ 1,?_,?_,?_,fun k hk=> ?_,fun B hB=> ?_⟩
 · simp[convert,run_underlying ht,run_underlying he,markStringish,hsh]
 · unfold World.freeze;rw[if_neg (by decide)];show(v.heap.modify g _)[g]?=_;rw[Array.getElem?_modify,if_pos rfl,hg];rfl
 · unfold World.freeze;rw[if_neg (by decide)];simp
 · unfold World.freeze;rw[if_neg (by decide)];show(v.heap.modify g _)[k]?=_;rw[Array.getElem?_modify,if_neg (fun e=>hk e.symm)]
 · unfold World.freeze;rw[if_neg (by decide)];refine⟨rfl,rfl,rfl,by simp,fun k hk=> ?_⟩;show(v.heap.modify g _)[k]?=_;rw[Array.getElem?_modify,if_neg (by omega)]
theorem adI{o:Oper}{a:Act}{w w1:World}{f t:TypeId}{x:Operand}{V V':Value}(ho:o.op= .convert f t x) (hx:a.eval x=V) (h:(convert f t V).run P w= .ok V' w1):(execOp a.eval o).run P w= .ok (.value V') w1:=by
 unfold execOp;simp only[ho];rw[hx,Sem.run_bind,h];rfl
end
theorem aaH{w:World}{g:Nat}{t:TypeId}{fz:Nat × Nat}{bs:List UInt8}(h:w.heap[g]?=some (.cells (rowB bs) t fz)):Rd w w.heap.size (some ⟨g,0,none⟩) bs.length bs:=by
 have hlt:g<w.heap.size:=by
  rcases Nat.lt_or_ge g w.heap.size with h' | h'
  · exact h'
  · rw[Array.getElem?_eq_none h']at h;cases h
 refine⟨rfl,fun _=>⟨g,0,rfl,hlt,fun j u hu=> ?_⟩⟩;rw[Nat.zero_add,cell_of_row w g j _ _ fz h];unfold rowB;simp[hu];rfl
theorem aaA{w:World}{g:Nat}{cs:Array Value}{t:TypeId}{fz:Nat × Nat}(h:w.heap[g]?=some (.cells cs t fz)):g<w.heap.size:=by
 rcases Nat.lt_or_ge g w.heap.size with h' | h'
 · exact h'
 · rw[Array.getElem?_eq_none h']at h;cases h
theorem aid (w:World):(Instr.buildSlice 37 8 #[(0, .int .u8 67),(1, .int .u8 78),(2, .int .u8 84),(3, .int .u8 76),(4, .int .u8 1),(5, .int .u8 0),(6, .int .u8 0),(7, .int .u8 0)]).run Tryz.prog w= .ok (.slice (some ⟨w.heap.size,0,none⟩) 8 8) (w.alloc (.cells (rowB imMarkB) 5)):=by
 have e:rowB imMarkB= #[.int .u8 67, .int .u8 78, .int .u8 84, .int .u8 76, .int .u8 1, .int .u8 0, .int .u8 0, .int .u8 0]:=by rfl
 rw[e];simp[go_sem]
theorem adt (w:World) (A B C:Option Addr) (a b c d e f:Nat):(Instr.buildSlice 57 3 #[(0, .slice A a b),(1, .slice B c d),(2, .slice C e f)]).run Tryz.prog w= .ok (.slice (some ⟨w.heap.size,0,none⟩) 3 3) (w.alloc (.cells #[.slice A a b, .slice B c d, .slice C e f] 37)):=by
 simp[go_sem]
theorem aew{w:World}{g:Nat}{A B C:Option Addr}{a b c:Nat}{x y z:List UInt8}(hg:w.heap[g]?=some (.cells #[.slice A x.length a, .slice B y.length b, .slice C z.length c] 37 (0,0)))
 (hx:Rd w w.heap.size A x.length x) (hy:Rd w w.heap.size B y.length y) (hz:Rd w w.heap.size C z.length z) (ha:x.length<=a/\(A=none->a=0)) (hb:y.length<=b/\(B=none->b=0)) (hc:z.length<=c/\(C=none->c=0)) (hl:x.length<=maxLen/\y.length<=maxLen/\z.length<=maxLen):
 DtRd w w.heap.size (some ⟨g,0,none⟩) [x,y,z]:=fun _=>by
 obtain⟨c0,c1,c2⟩:=aac hg;refine⟨g,0,rfl,aaa hg,fun j u hu=> ?_⟩;match j,hu with
 | 0,hu=>injection hu with hu;subst hu;exact⟨A,a,c0,hx,hl.1,ha⟩
 | 1,hu=>injection hu with hu;subst hu;exact⟨B,b,c1,hy,hl.2.1,hb⟩
 | 2,hu=>injection hu with hu;subst hu;exact⟨C,c,c2,hz,hl.2.2,hc⟩
 | j+3,hu=>cases hu
theorem apF (w:World) (n:Nat) (hn:n<9223372036854775808) (A1 A2:Option Addr) (k1 k2:Nat) (l:List Rk) (d:List (List UInt8)) (hr:RkRd w w.heap.size A1 l) (hd:DtRd w w.heap.size A2 d) (hl:l.length<=1000) (hdl:d.length<=1000) (hfl:d.flatten.length<=100000) (hm:acG (n:Int) l d=true):
 Calls Tryz.prog 57 #[imV (n:Int) A1 l.length k1 A2 d.length k2] w fun e w'=>∃A c,e= .returned (.tuple #[.slice A (aaM n l d).length c, .nilIface])/\w'.ownsRow w.heap.size 5 1 (.slice A (aaM n l d).length c) (aaM n l d).length ((aaM n l d).map bv)/\Below w.heap.size w w':=by
 rw[aev];have HPT:=hE0 (fun j=>alm l j);have HFT:=hE0 (fun j=>Nat.le_trans (adG d j) hfl);have HTL:=hE0 (adp l);obtain⟨fl,hfl'⟩:∃fl,d.flatten.length=fl:=⟨_,rfl⟩;rw[hfl']at hfl;rw[hfl'];have HFL:=hE0 hfl';have HAL:=hE0 (aeu n l.length);have HTTL:=hE0 (adc n l);have HDL2:=hE0 (aic n l d);obtain⟨w1,hw1⟩:=nmE (w.alloc (.cells #[.int .i64 (n:Int), .slice A1 l.length k1, .slice A2 d.length k2] 110));have hb1:=abE hw1;have n1:=anE hw1;have HM:=hE0 (ae1 w1 (n:Int) (by omega) A1 A2 k1 k2 l d ((hr.below hb1).more hb1.size) ((hd.below hb1).more hb1.size) (by omega) (by omega) _ hm);unfold imV at HM ⊢;obtain⟨ll,hll⟩:=nmE l.length;obtain⟨dl,hdll⟩:=nmE d.length;have HLL:=hE0 hll;have HDLL:=hE0 hdll;have HPTE:Hid (afN (agu n ll++abv l) 28=aft n l):=(show _=_ by rw[<-hll];rfl);obtain⟨T,hT⟩:=nmE ((aft n l).length);have HTL2:=hE0 hT;have HPDE:Hid (afN (aft n l++d.flatten) T=ag4 n l d):=(show _=_ by rw[<-hT];rfl);have HTE:Hid (28+8*ll+4=T):=(show _=_ by rw[<-hT,adc,hll];omega);rw[hll]at hl HPT HTL HAL HTTL HDL2;rw[hfl']at HDL2;rw[hdll]at hdl;rw[hll,hdll]at n1 hw1 HM;rw[hll,hdll];obtain⟨d0,d1,d2⟩:=aac n1;have hl1:=aaa n1;have HB1:=hE0 hb1;have HW1:=hE0 hw1;have HR:=hE0 ((hr.below hb1).more hb1.size);have HD:=hE0 ((hd.below hb1).more hb1.size);have HN1:=hE0 n1;clear hw1 hb1 n1 hr hd hll hdll hfl' hm;go_enter Tryz.func57,Tryz.ntmps57
 go_wp2_with (first | (rw[HW1.out]) | fail)
 refine HM.out.mono ?_;rintro e w2 ⟨rfl,hb2⟩;obtain⟨wd,hwd⟩:=nmE w2.drew;have hbd:Below w1.heap.size w1 wd:=by rw[<-hwd];exact hb2.drew
 have nd:=(hbd.block _ (aaa HN1.out)).trans HN1.out;obtain⟨c0,c1,c2⟩:=aac nd;have hld:=aaa nd;have HBD:=hE0 hbd;have HWD:=hE0 hwd;have HND:=hE0 nd;have HPUT:=hE0 (fun W v (hv:v<18446744073709551616)=>age v W hv);clear hb2 hwd hbd nd d0 d1 d2 HM;go_wp2_with fail
 go_cut [4] from 10 (fun b wx=>wx.ownsRow wd.heap.size 5 1 b 24 ((abR n ll).map bv)/\Below wd.heap.size wd wx)
 case first=>
  refine aaB wd.heap.size (.two [2,3,4,6,7,8,9] 0 (.two [] 1 (.one [] 5 (.one [] 10 (.one [] 11 (.one [] 12 (.fin [13]))))) 5 (.two [] 1 (.one [] 10 (.one [] 11 (.one [] 12 (.fin [13])))) 10 (.one [] 1 (.one [] 11 (.one [] 12 (.fin [13])))))) 5 (.two [] 0 (.two [] 1 (.one [] 10 (.one [] 11 (.one [] 12 (.fin [13])))) 10 (.one [] 1 (.one [] 11 (.one [] 12 (.fin [13]))))) 10 (.one [] 0 (.one [] 1 (.one [] 11 (.one [] 12 (.fin [13]))))))) [] (by kernel_rfl) (by kernel_rfl) (by kernel_rfl) (fun _ _ _ _ _ h=>h) ?_;rw[HWD.out];have q0:=tfE c0 hld;have q1:=tfE c1 hld;have cb0:Below wd.heap.size wd wd:=Below.refl _ _;refine aaT (l:= ?segA) ?hsegA ?_
  case hsegA=>simp only[pick,lE1,lE2,lE3];rfl
  repeat (go_big_quiet_step (fail))
  refine wpQuiet_nil ?_;clear q0 q1;refine⟨?wayWa,?wayWb⟩
  case wayWa=>
   refine aag (some 14) (w1:=wd.alloc (.cells (rowB imMarkB) 5)) (v:= .slice (some ⟨wd.heap.size,0,none⟩) 8 8) rfl rfl rfl (aah rfl rfl (aid wd)) ((Below.refl _ _).alloc cb0.size _) ⟨wd.heap.size,Nat.le_refl _,?_⟩;obtain⟨v1,hv1⟩:=nmE (wd.alloc (.cells (rowB imMarkB) 5));have hbv1:=abE hv1;have fmv1:=anE hv1;have cb1:Below wd.heap.size wd v1:=cb0.trans (hbv1.mono cb0.size);have lmv1:wd.heap.size<=wd.heap.size:=cb0.size;have lsv1:wd.heap.size<v1.heap.size:=aaA fmv1;rw[hv1];clear hv1;simp only[Act.put,lE4,lE5,lE6];refine aaT (l:= []) rfl (wpQuiet_nil ?_);refine⟨?wayWaa,?wayWab⟩
   case wayWaa=>
    obtain⟨v2,hrv2,fmv2,szv2,kpv2,blv2⟩:=acZ (P:=Tryz.prog) v1 37 5 wd.heap.size (rowB imMarkB) 8 8 Tryz.underlying37 Tryz.underlying5 fmv1;refine aag (some 15) rfl rfl rfl (adI rfl rfl hrv2) (blv2 wd.heap.size lmv1) ⟨wd.heap.size,Nat.le_refl _,?_⟩;have cb2:Below wd.heap.size wd v2:=cb1.trans (blv2 wd.heap.size lmv1);have lsv2:v2.heap.size=v1.heap.size:=szv2;clear hrv2;simp only[Act.put,lE4,lE5,lE6];refine aal (l:= []) rfl (wpQuiet_nil ?_);refine aaf (vs:= #[.int .u64 (n:Int)]) Tryz.call114 rfl rfl rfl (R:=fun r w'=>r= .slice (some ⟨v2.heap.size,0,none⟩) 8 8/\w'.heap[v2.heap.size]?=some (.cells (rowB (aat 8 n)) 5 (0,0))/\Below v2.heap.size v2 w') ((HPUT.out v2 n (by omega)).mono ?_) wd.heap.size (Nat.le_refl _) ?_
    · rintro e w' ⟨rfl,hf,hb⟩;exact⟨_,rfl,hb.mono cb2.size,rfl,hf,hb⟩
    rintro r v3 _ ⟨rfl,flv3,hbv3⟩;have lsv3:v2.heap.size<v3.heap.size:=aaA flv3;have cb3:Below wd.heap.size wd v3:=cb2.trans (hbv3.mono cb2.size);have ff1:=((hbv3.block _ (aaA fmv2)).trans fmv2);simp only[Act.put,lE4,lE5,lE6];refine aal (l:= []) rfl (wpQuiet_nil ?_);refine aaf (vs:= #[.int .u64 (ll:Int)]) Tryz.call114 rfl rfl rfl (R:=fun r w'=>r= .slice (some ⟨v3.heap.size,0,none⟩) 8 8/\w'.heap[v3.heap.size]?=some (.cells (rowB (aat 8 ll)) 5 (0,0))/\Below v3.heap.size v3 w') ((HPUT.out v3 ll (by omega)).mono ?_) wd.heap.size (Nat.le_refl _) ?_
    · rintro e w' ⟨rfl,hf,hb⟩;exact⟨_,rfl,hb.mono cb3.size,rfl,hf,hb⟩
    rintro r v4 _ ⟨rfl,fcv4,hbv4⟩;have lsv4:v3.heap.size<v4.heap.size:=aaA fcv4;have cb4:Below wd.heap.size wd v4:=cb3.trans (hbv4.mono cb3.size);have ff2:=((hbv4.block _ (aaA ff1)).trans ff1);have ff3:=((hbv4.block _ (aaA flv3)).trans flv3);simp only[Act.put,lE4,lE5,lE6];refine aal (l:= []) rfl (wpQuiet_nil ?_);obtain⟨w8,hw8⟩:=nmE (v4.alloc (.cells #[.slice (some ⟨wd.heap.size,0,none⟩) 8 8, .slice (some ⟨v2.heap.size,0,none⟩) 8 8, .slice (some ⟨v3.heap.size,0,none⟩) 8 8] 37));have hb8:=abE hw8;have n8:=anE hw8;have hd8:DtRd w8 w8.heap.size (some ⟨v4.heap.size,0,none⟩) [imMarkB,aat 8 n,aat 8 ll]:=by
     refine aew (a:=8) (b:=8) (c:=8) (A:=some ⟨wd.heap.size,0,none⟩) (B:=some ⟨v2.heap.size,0,none⟩) (C:=some ⟨v3.heap.size,0,none⟩) ?_ ?_ ?_ ?_ ⟨Nat.le_refl _,fun e=>by cases e⟩ ⟨by rw[aab];exact Nat.le_refl _,fun e=>by cases e⟩ ⟨by rw[aab];exact Nat.le_refl _,fun e=>by cases e⟩ ⟨by unfold maxLen imMarkB;simp,by rw[aab];unfold maxLen;omega,by rw[aab];unfold maxLen;omega⟩
     · rw[aab,aab];exact n8
     · exact((aaH ff2).below hb8).more hb8.size
     · exact((aaH ff3).below hb8).more hb8.size
     · exact((aaH fcv4).below hb8).more hb8.size
    have hc8:=ab7 w8 (some ⟨v4.heap.size,0,none⟩) 3 [imMarkB,aat 8 n,aat 8 ll] hd8 (by simp) (by simp[imMarkB,aab]);have e8:([imMarkB,aat 8 n,aat 8 ll]:List (List UInt8)).flatten=abR n ll:=by unfold abR;simp
    rw[e8,acd]at hc8;have HC8:=hE0 hc8;have HBW8:=hE0 cb4;have HB8:=hE0 hb8;refine aag (some 25) (w1:=w8) (v:= .slice (some ⟨v4.heap.size,0,none⟩) 3 3) rfl rfl rfl (by rw[<-hw8];exact aah rfl rfl (adt v4 _ _ _ _ _ _ _ _ _)) (hb8.mono HBW8.out.size) ⟨wd.heap.size,Nat.le_refl _,?_⟩;clear hw8 hb8 n8 hd8 hc8 e8;simp only[Act.put,lE4,lE5,lE6];refine aal (l:= []) rfl (wpQuiet_nil ?_);refine aaf (vs:= #[.slice (some ⟨v4.heap.size,0,none⟩) 3 3]) Tryz.call113 rfl rfl rfl (R:=fun r w'=>w'.ownsRow w8.heap.size 5 1 r 24 ((abR n ll).map bv)/\Below w8.heap.size w8 w') (HC8.out.mono ?_) wd.heap.size (Nat.le_refl _) ?_
    · rintro e w' ⟨v,rfl,ho,hb⟩;exact⟨_,rfl,hb.mono (Nat.le_trans HBW8.out.size HB8.out.size),ho,hb⟩
    rintro r w9 _ ⟨ho9,hb9⟩;have HF9:=hE0 (And.intro (aaY ho9 (Nat.le_trans HBW8.out.size HB8.out.size)) ((HBW8.out.trans (HB8.out.mono HBW8.out.size)).trans (hb9.mono (Nat.le_trans HBW8.out.size HB8.out.size))));clear ho9 hb9;simp only[Act.put,lE4,lE5,lE6];refine aaF (l:= ?finWaacc) (t:= []) ?hfinWaacc ?htfinWaacc ?_
    case hfinWaacc=>simp only[pick,lE1,lE2,lE3];rfl
    case htfinWaacc=>rfl
    repeat (go_big_quiet_step (fail))
    refine wpQuiet_nil ?_;go_wp2_with fail
    go_meet
    case rel=>exact HF9.out
   case wayWab=>
    refine aaf (vs:= #[.int .u64 (n:Int)]) Tryz.call114 rfl rfl rfl (R:=fun r w'=>r= .slice (some ⟨v1.heap.size,0,none⟩) 8 8/\w'.heap[v1.heap.size]?=some (.cells (rowB (aat 8 n)) 5 (0,0))/\Below v1.heap.size v1 w') ((HPUT.out v1 n (by omega)).mono ?_) wd.heap.size (Nat.le_refl _) ?_
    · rintro e w' ⟨rfl,hf,hb⟩;exact⟨_,rfl,hb.mono cb1.size,rfl,hf,hb⟩
    rintro r v2 _ ⟨rfl,flv2,hbv2⟩;have lsv2:v1.heap.size<v2.heap.size:=aaA flv2;have cb2:Below wd.heap.size wd v2:=cb1.trans (hbv2.mono cb1.size);have ff4:=((hbv2.block _ (aaA fmv1)).trans fmv1);simp only[Act.put,lE4,lE5,lE6];refine aaT (l:= []) rfl (wpQuiet_nil ?_);refine⟨?wayWaba,?wayWabb⟩
    case wayWaba=>
     obtain⟨v3,hrv3,fmv3,szv3,kpv3,blv3⟩:=acZ (P:=Tryz.prog) v2 37 5 wd.heap.size (rowB imMarkB) 8 8 Tryz.underlying37 Tryz.underlying5 ff4;refine aag (some 15) rfl rfl rfl (adI rfl rfl hrv3) (blv3 wd.heap.size lmv1) ⟨wd.heap.size,Nat.le_refl _,?_⟩;have cb3:Below wd.heap.size wd v3:=cb2.trans (blv3 wd.heap.size lmv1);have lsv3:v3.heap.size=v2.heap.size:=szv3;clear hrv3;have ne6:v1.heap.size≠wd.heap.size:=by omega
     have ff5:=((kpv3 _ ne6).trans flv2);simp only[Act.put,lE4,lE5,lE6];refine aal (l:= []) rfl (wpQuiet_nil ?_);refine aaf (vs:= #[.int .u64 (ll:Int)]) Tryz.call114 rfl rfl rfl (R:=fun r w'=>r= .slice (some ⟨v3.heap.size,0,none⟩) 8 8/\w'.heap[v3.heap.size]?=some (.cells (rowB (aat 8 ll)) 5 (0,0))/\Below v3.heap.size v3 w') ((HPUT.out v3 ll (by omega)).mono ?_) wd.heap.size (Nat.le_refl _) ?_
     · rintro e w' ⟨rfl,hf,hb⟩;exact⟨_,rfl,hb.mono cb3.size,rfl,hf,hb⟩
     rintro r v4 _ ⟨rfl,fcv4,hbv4⟩;have lsv4:v3.heap.size<v4.heap.size:=aaA fcv4;have cb4:Below wd.heap.size wd v4:=cb3.trans (hbv4.mono cb3.size);have ff7:=((hbv4.block _ (aaA fmv3)).trans fmv3);have ff8:=((hbv4.block _ (aaA ff5)).trans ff5);simp only[Act.put,lE4,lE5,lE6];refine aal (l:= []) rfl (wpQuiet_nil ?_);obtain⟨w8,hw8⟩:=nmE (v4.alloc (.cells #[.slice (some ⟨wd.heap.size,0,none⟩) 8 8, .slice (some ⟨v1.heap.size,0,none⟩) 8 8, .slice (some ⟨v3.heap.size,0,none⟩) 8 8] 37));have hb8:=abE hw8;have n8:=anE hw8;have hd8:DtRd w8 w8.heap.size (some ⟨v4.heap.size,0,none⟩) [imMarkB,aat 8 n,aat 8 ll]:=by
      refine aew (a:=8) (b:=8) (c:=8) (A:=some ⟨wd.heap.size,0,none⟩) (B:=some ⟨v1.heap.size,0,none⟩) (C:=some ⟨v3.heap.size,0,none⟩) ?_ ?_ ?_ ?_ ⟨Nat.le_refl _,fun e=>by cases e⟩ ⟨by rw[aab];exact Nat.le_refl _,fun e=>by cases e⟩ ⟨by rw[aab];exact Nat.le_refl _,fun e=>by cases e⟩ ⟨by unfold maxLen imMarkB;simp,by rw[aab];unfold maxLen;omega,by rw[aab];unfold maxLen;omega⟩
      · rw[aab,aab];exact n8
      · exact((aaH ff7).below hb8).more hb8.size
      · exact((aaH ff8).below hb8).more hb8.size
      · exact((aaH fcv4).below hb8).more hb8.size
     have hc8:=ab7 w8 (some ⟨v4.heap.size,0,none⟩) 3 [imMarkB,aat 8 n,aat 8 ll] hd8 (by simp) (by simp[imMarkB,aab]);have e8:([imMarkB,aat 8 n,aat 8 ll]:List (List UInt8)).flatten=abR n ll:=by unfold abR;simp
     rw[e8,acd]at hc8;have HC8:=hE0 hc8;have HBW8:=hE0 cb4;have HB8:=hE0 hb8;refine aag (some 25) (w1:=w8) (v:= .slice (some ⟨v4.heap.size,0,none⟩) 3 3) rfl rfl rfl (by rw[<-hw8];exact aah rfl rfl (adt v4 _ _ _ _ _ _ _ _ _)) (hb8.mono HBW8.out.size) ⟨wd.heap.size,Nat.le_refl _,?_⟩;clear hw8 hb8 n8 hd8 hc8 e8;simp only[Act.put,lE4,lE5,lE6];refine aal (l:= []) rfl (wpQuiet_nil ?_);refine aaf (vs:= #[.slice (some ⟨v4.heap.size,0,none⟩) 3 3]) Tryz.call113 rfl rfl rfl (R:=fun r w'=>w'.ownsRow w8.heap.size 5 1 r 24 ((abR n ll).map bv)/\Below w8.heap.size w8 w') (HC8.out.mono ?_) wd.heap.size (Nat.le_refl _) ?_
     · rintro e w' ⟨v,rfl,ho,hb⟩;exact⟨_,rfl,hb.mono (Nat.le_trans HBW8.out.size HB8.out.size),ho,hb⟩
     rintro r w9 _ ⟨ho9,hb9⟩;have HF9:=hE0 (And.intro (aaY ho9 (Nat.le_trans HBW8.out.size HB8.out.size)) ((HBW8.out.trans (HB8.out.mono HBW8.out.size)).trans (hb9.mono (Nat.le_trans HBW8.out.size HB8.out.size))));clear ho9 hb9;simp only[Act.put,lE4,lE5,lE6];refine aaF (l:= ?finWabac) (t:= []) ?hfinWabac ?htfinWabac ?_
     case hfinWabac=>simp only[pick,lE1,lE2,lE3];rfl
     case htfinWabac=>rfl
     repeat (go_big_quiet_step (fail))
     refine wpQuiet_nil ?_;go_wp2_with fail
     go_meet
     case rel=>exact HF9.out
    case wayWabb=>
     refine aaf (vs:= #[.int .u64 (ll:Int)]) Tryz.call114 rfl rfl rfl (R:=fun r w'=>r= .slice (some ⟨v2.heap.size,0,none⟩) 8 8/\w'.heap[v2.heap.size]?=some (.cells (rowB (aat 8 ll)) 5 (0,0))/\Below v2.heap.size v2 w') ((HPUT.out v2 ll (by omega)).mono ?_) wd.heap.size (Nat.le_refl _) ?_
     · rintro e w' ⟨rfl,hf,hb⟩;exact⟨_,rfl,hb.mono cb2.size,rfl,hf,hb⟩
     rintro r v3 _ ⟨rfl,fcv3,hbv3⟩;have lsv3:v2.heap.size<v3.heap.size:=aaA fcv3;have cb3:Below wd.heap.size wd v3:=cb2.trans (hbv3.mono cb2.size);have ff9:=((hbv3.block _ (aaA ff4)).trans ff4);have ff10:=((hbv3.block _ (aaA flv2)).trans flv2);simp only[Act.put,lE4,lE5,lE6];refine aal (l:= []) rfl (wpQuiet_nil ?_);obtain⟨v4,hrv4,fmv4,szv4,kpv4,blv4⟩:=acZ (P:=Tryz.prog) v3 37 5 wd.heap.size (rowB imMarkB) 8 8 Tryz.underlying37 Tryz.underlying5 ff9;refine aag (some 15) rfl rfl rfl (adI rfl rfl hrv4) (blv4 wd.heap.size lmv1) ⟨wd.heap.size,Nat.le_refl _,?_⟩;have cb4:Below wd.heap.size wd v4:=cb3.trans (blv4 wd.heap.size lmv1);have lsv4:v4.heap.size=v3.heap.size:=szv4;clear hrv4;have ne12:v1.heap.size≠wd.heap.size:=by omega
     have ff11:=((kpv4 _ ne12).trans ff10);have ne14:v2.heap.size≠wd.heap.size:=by omega
     have ff13:=((kpv4 _ ne14).trans fcv3);simp only[Act.put,lE4,lE5,lE6];refine aal (l:= []) rfl (wpQuiet_nil ?_);obtain⟨w8,hw8⟩:=nmE (v4.alloc (.cells #[.slice (some ⟨wd.heap.size,0,none⟩) 8 8, .slice (some ⟨v1.heap.size,0,none⟩) 8 8, .slice (some ⟨v2.heap.size,0,none⟩) 8 8] 37));have hb8:=abE hw8;have n8:=anE hw8;have hd8:DtRd w8 w8.heap.size (some ⟨v4.heap.size,0,none⟩) [imMarkB,aat 8 n,aat 8 ll]:=by
      refine aew (a:=8) (b:=8) (c:=8) (A:=some ⟨wd.heap.size,0,none⟩) (B:=some ⟨v1.heap.size,0,none⟩) (C:=some ⟨v2.heap.size,0,none⟩) ?_ ?_ ?_ ?_ ⟨Nat.le_refl _,fun e=>by cases e⟩ ⟨by rw[aab];exact Nat.le_refl _,fun e=>by cases e⟩ ⟨by rw[aab];exact Nat.le_refl _,fun e=>by cases e⟩ ⟨by unfold maxLen imMarkB;simp,by rw[aab];unfold maxLen;omega,by rw[aab];unfold maxLen;omega⟩
      · rw[aab,aab];exact n8
      · exact((aaH fmv4).below hb8).more hb8.size
      · exact((aaH ff11).below hb8).more hb8.size
      · exact((aaH ff13).below hb8).more hb8.size
     have hc8:=ab7 w8 (some ⟨v4.heap.size,0,none⟩) 3 [imMarkB,aat 8 n,aat 8 ll] hd8 (by simp) (by simp[imMarkB,aab]);have e8:([imMarkB,aat 8 n,aat 8 ll]:List (List UInt8)).flatten=abR n ll:=by unfold abR;simp
     rw[e8,acd]at hc8;have HC8:=hE0 hc8;have HBW8:=hE0 cb4;have HB8:=hE0 hb8;refine aag (some 25) (w1:=w8) (v:= .slice (some ⟨v4.heap.size,0,none⟩) 3 3) rfl rfl rfl (by rw[<-hw8];exact aah rfl rfl (adt v4 _ _ _ _ _ _ _ _ _)) (hb8.mono HBW8.out.size) ⟨wd.heap.size,Nat.le_refl _,?_⟩;clear hw8 hb8 n8 hd8 hc8 e8;simp only[Act.put,lE4,lE5,lE6];refine aal (l:= []) rfl (wpQuiet_nil ?_);refine aaf (vs:= #[.slice (some ⟨v4.heap.size,0,none⟩) 3 3]) Tryz.call113 rfl rfl rfl (R:=fun r w'=>w'.ownsRow w8.heap.size 5 1 r 24 ((abR n ll).map bv)/\Below w8.heap.size w8 w') (HC8.out.mono ?_) wd.heap.size (Nat.le_refl _) ?_
     · rintro e w' ⟨v,rfl,ho,hb⟩;exact⟨_,rfl,hb.mono (Nat.le_trans HBW8.out.size HB8.out.size),ho,hb⟩
     rintro r w9 _ ⟨ho9,hb9⟩;have HF9:=hE0 (And.intro (aaY ho9 (Nat.le_trans HBW8.out.size HB8.out.size)) ((HBW8.out.trans (HB8.out.mono HBW8.out.size)).trans (hb9.mono (Nat.le_trans HBW8.out.size HB8.out.size))));clear ho9 hb9;simp only[Act.put,lE4,lE5,lE6];refine aaF (l:= ?finWabbc) (t:= []) ?hfinWabbc ?htfinWabbc ?_
     case hfinWabbc=>simp only[pick,lE1,lE2,lE3];rfl
     case htfinWabbc=>rfl
     repeat (go_big_quiet_step (fail))
     refine wpQuiet_nil ?_;go_wp2_with fail
     go_meet
     case rel=>exact HF9.out
  case wayWb=>
   refine aaf (vs:= #[.int .u64 (n:Int)]) Tryz.call114 rfl rfl rfl (R:=fun r w'=>r= .slice (some ⟨wd.heap.size,0,none⟩) 8 8/\w'.heap[wd.heap.size]?=some (.cells (rowB (aat 8 n)) 5 (0,0))/\Below wd.heap.size wd w') ((HPUT.out wd n (by omega)).mono ?_) wd.heap.size (Nat.le_refl _) ?_
   · rintro e w' ⟨rfl,hf,hb⟩;exact⟨_,rfl,hb.mono cb0.size,rfl,hf,hb⟩
   rintro r v1 _ ⟨rfl,flv1,hbv1⟩;have lsv1:wd.heap.size<v1.heap.size:=aaA flv1;have cb1:Below wd.heap.size wd v1:=cb0.trans (hbv1.mono cb0.size);simp only[Act.put,lE4,lE5,lE6];refine aaT (l:= []) rfl (wpQuiet_nil ?_);refine⟨?wayWba,?wayWbb⟩
   case wayWba=>
    refine aag (some 14) (w1:=v1.alloc (.cells (rowB imMarkB) 5)) (v:= .slice (some ⟨v1.heap.size,0,none⟩) 8 8) rfl rfl rfl (aah rfl rfl (aid v1)) ((Below.refl _ _).alloc cb1.size _) ⟨wd.heap.size,Nat.le_refl _,?_⟩;obtain⟨v2,hv2⟩:=nmE (v1.alloc (.cells (rowB imMarkB) 5));have hbv2:=abE hv2;have fmv2:=anE hv2;have cb2:Below wd.heap.size wd v2:=cb1.trans (hbv2.mono cb1.size);have lmv2:wd.heap.size<=v1.heap.size:=cb1.size;have lsv2:v1.heap.size<v2.heap.size:=aaA fmv2;rw[hv2];clear hv2;have ff15:=((hbv2.block _ (aaA flv1)).trans flv1);simp only[Act.put,lE4,lE5,lE6];refine aaT (l:= []) rfl (wpQuiet_nil ?_);refine⟨?wayWbaa,?wayWbab⟩
    case wayWbaa=>
     obtain⟨v3,hrv3,fmv3,szv3,kpv3,blv3⟩:=acZ (P:=Tryz.prog) v2 37 5 v1.heap.size (rowB imMarkB) 8 8 Tryz.underlying37 Tryz.underlying5 fmv2;refine aag (some 15) rfl rfl rfl (adI rfl rfl hrv3) (blv3 wd.heap.size lmv2) ⟨wd.heap.size,Nat.le_refl _,?_⟩;have cb3:Below wd.heap.size wd v3:=cb2.trans (blv3 wd.heap.size lmv2);have lsv3:v3.heap.size=v2.heap.size:=szv3;clear hrv3;have ne17:wd.heap.size≠v1.heap.size:=by omega
     have ff16:=((kpv3 _ ne17).trans ff15);simp only[Act.put,lE4,lE5,lE6];refine aal (l:= []) rfl (wpQuiet_nil ?_);refine aaf (vs:= #[.int .u64 (ll:Int)]) Tryz.call114 rfl rfl rfl (R:=fun r w'=>r= .slice (some ⟨v3.heap.size,0,none⟩) 8 8/\w'.heap[v3.heap.size]?=some (.cells (rowB (aat 8 ll)) 5 (0,0))/\Below v3.heap.size v3 w') ((HPUT.out v3 ll (by omega)).mono ?_) wd.heap.size (Nat.le_refl _) ?_
     · rintro e w' ⟨rfl,hf,hb⟩;exact⟨_,rfl,hb.mono cb3.size,rfl,hf,hb⟩
     rintro r v4 _ ⟨rfl,fcv4,hbv4⟩;have lsv4:v3.heap.size<v4.heap.size:=aaA fcv4;have cb4:Below wd.heap.size wd v4:=cb3.trans (hbv4.mono cb3.size);have ff18:=((hbv4.block _ (aaA fmv3)).trans fmv3);have ff19:=((hbv4.block _ (aaA ff16)).trans ff16);simp only[Act.put,lE4,lE5,lE6];refine aal (l:= []) rfl (wpQuiet_nil ?_);obtain⟨w8,hw8⟩:=nmE (v4.alloc (.cells #[.slice (some ⟨v1.heap.size,0,none⟩) 8 8, .slice (some ⟨wd.heap.size,0,none⟩) 8 8, .slice (some ⟨v3.heap.size,0,none⟩) 8 8] 37));have hb8:=abE hw8;have n8:=anE hw8;have hd8:DtRd w8 w8.heap.size (some ⟨v4.heap.size,0,none⟩) [imMarkB,aat 8 n,aat 8 ll]:=by
      refine aew (a:=8) (b:=8) (c:=8) (A:=some ⟨v1.heap.size,0,none⟩) (B:=some ⟨wd.heap.size,0,none⟩) (C:=some ⟨v3.heap.size,0,none⟩) ?_ ?_ ?_ ?_ ⟨Nat.le_refl _,fun e=>by cases e⟩ ⟨by rw[aab];exact Nat.le_refl _,fun e=>by cases e⟩ ⟨by rw[aab];exact Nat.le_refl _,fun e=>by cases e⟩ ⟨by unfold maxLen imMarkB;simp,by rw[aab];unfold maxLen;omega,by rw[aab];unfold maxLen;omega⟩
      · rw[aab,aab];exact n8
      · exact((aaH ff18).below hb8).more hb8.size
      · exact((aaH ff19).below hb8).more hb8.size
      · exact((aaH fcv4).below hb8).more hb8.size
     have hc8:=ab7 w8 (some ⟨v4.heap.size,0,none⟩) 3 [imMarkB,aat 8 n,aat 8 ll] hd8 (by simp) (by simp[imMarkB,aab]);have e8:([imMarkB,aat 8 n,aat 8 ll]:List (List UInt8)).flatten=abR n ll:=by unfold abR;simp
     rw[e8,acd]at hc8;have HC8:=hE0 hc8;have HBW8:=hE0 cb4;have HB8:=hE0 hb8;refine aag (some 25) (w1:=w8) (v:= .slice (some ⟨v4.heap.size,0,none⟩) 3 3) rfl rfl rfl (by rw[<-hw8];exact aah rfl rfl (adt v4 _ _ _ _ _ _ _ _ _)) (hb8.mono HBW8.out.size) ⟨wd.heap.size,Nat.le_refl _,?_⟩;clear hw8 hb8 n8 hd8 hc8 e8;simp only[Act.put,lE4,lE5,lE6];refine aal (l:= []) rfl (wpQuiet_nil ?_);refine aaf (vs:= #[.slice (some ⟨v4.heap.size,0,none⟩) 3 3]) Tryz.call113 rfl rfl rfl (R:=fun r w'=>w'.ownsRow w8.heap.size 5 1 r 24 ((abR n ll).map bv)/\Below w8.heap.size w8 w') (HC8.out.mono ?_) wd.heap.size (Nat.le_refl _) ?_
     · rintro e w' ⟨v,rfl,ho,hb⟩;exact⟨_,rfl,hb.mono (Nat.le_trans HBW8.out.size HB8.out.size),ho,hb⟩
     rintro r w9 _ ⟨ho9,hb9⟩;have HF9:=hE0 (And.intro (aaY ho9 (Nat.le_trans HBW8.out.size HB8.out.size)) ((HBW8.out.trans (HB8.out.mono HBW8.out.size)).trans (hb9.mono (Nat.le_trans HBW8.out.size HB8.out.size))));clear ho9 hb9;simp only[Act.put,lE4,lE5,lE6];refine aaF (l:= ?finWbaac) (t:= []) ?hfinWbaac ?htfinWbaac ?_
     case hfinWbaac=>simp only[pick,lE1,lE2,lE3];rfl
     case htfinWbaac=>rfl
     repeat (go_big_quiet_step (fail))
     refine wpQuiet_nil ?_;go_wp2_with fail
     go_meet
     case rel=>exact HF9.out
    case wayWbab=>
     refine aaf (vs:= #[.int .u64 (ll:Int)]) Tryz.call114 rfl rfl rfl (R:=fun r w'=>r= .slice (some ⟨v2.heap.size,0,none⟩) 8 8/\w'.heap[v2.heap.size]?=some (.cells (rowB (aat 8 ll)) 5 (0,0))/\Below v2.heap.size v2 w') ((HPUT.out v2 ll (by omega)).mono ?_) wd.heap.size (Nat.le_refl _) ?_
     · rintro e w' ⟨rfl,hf,hb⟩;exact⟨_,rfl,hb.mono cb2.size,rfl,hf,hb⟩
     rintro r v3 _ ⟨rfl,fcv3,hbv3⟩;have lsv3:v2.heap.size<v3.heap.size:=aaA fcv3;have cb3:Below wd.heap.size wd v3:=cb2.trans (hbv3.mono cb2.size);have ff20:=((hbv3.block _ (aaA fmv2)).trans fmv2);have ff21:=((hbv3.block _ (aaA ff15)).trans ff15);simp only[Act.put,lE4,lE5,lE6];refine aal (l:= []) rfl (wpQuiet_nil ?_);obtain⟨v4,hrv4,fmv4,szv4,kpv4,blv4⟩:=acZ (P:=Tryz.prog) v3 37 5 v1.heap.size (rowB imMarkB) 8 8 Tryz.underlying37 Tryz.underlying5 ff20;refine aag (some 15) rfl rfl rfl (adI rfl rfl hrv4) (blv4 wd.heap.size lmv2) ⟨wd.heap.size,Nat.le_refl _,?_⟩;have cb4:Below wd.heap.size wd v4:=cb3.trans (blv4 wd.heap.size lmv2);have lsv4:v4.heap.size=v3.heap.size:=szv4;clear hrv4;have ne23:wd.heap.size≠v1.heap.size:=by omega
     have ff22:=((kpv4 _ ne23).trans ff21);have ne25:v2.heap.size≠v1.heap.size:=by omega
     have ff24:=((kpv4 _ ne25).trans fcv3);simp only[Act.put,lE4,lE5,lE6];refine aal (l:= []) rfl (wpQuiet_nil ?_);obtain⟨w8,hw8⟩:=nmE (v4.alloc (.cells #[.slice (some ⟨v1.heap.size,0,none⟩) 8 8, .slice (some ⟨wd.heap.size,0,none⟩) 8 8, .slice (some ⟨v2.heap.size,0,none⟩) 8 8] 37));have hb8:=abE hw8;have n8:=anE hw8;have hd8:DtRd w8 w8.heap.size (some ⟨v4.heap.size,0,none⟩) [imMarkB,aat 8 n,aat 8 ll]:=by
      refine aew (a:=8) (b:=8) (c:=8) (A:=some ⟨v1.heap.size,0,none⟩) (B:=some ⟨wd.heap.size,0,none⟩) (C:=some ⟨v2.heap.size,0,none⟩) ?_ ?_ ?_ ?_ ⟨Nat.le_refl _,fun e=>by cases e⟩ ⟨by rw[aab];exact Nat.le_refl _,fun e=>by cases e⟩ ⟨by rw[aab];exact Nat.le_refl _,fun e=>by cases e⟩ ⟨by unfold maxLen imMarkB;simp,by rw[aab];unfold maxLen;omega,by rw[aab];unfold maxLen;omega⟩
      · rw[aab,aab];exact n8
      · exact((aaH fmv4).below hb8).more hb8.size
      · exact((aaH ff22).below hb8).more hb8.size
      · exact((aaH ff24).below hb8).more hb8.size
     have hc8:=ab7 w8 (some ⟨v4.heap.size,0,none⟩) 3 [imMarkB,aat 8 n,aat 8 ll] hd8 (by simp) (by simp[imMarkB,aab]);have e8:([imMarkB,aat 8 n,aat 8 ll]:List (List UInt8)).flatten=abR n ll:=by unfold abR;simp
     rw[e8,acd]at hc8;have HC8:=hE0 hc8;have HBW8:=hE0 cb4;have HB8:=hE0 hb8;refine aag (some 25) (w1:=w8) (v:= .slice (some ⟨v4.heap.size,0,none⟩) 3 3) rfl rfl rfl (by rw[<-hw8];exact aah rfl rfl (adt v4 _ _ _ _ _ _ _ _ _)) (hb8.mono HBW8.out.size) ⟨wd.heap.size,Nat.le_refl _,?_⟩;clear hw8 hb8 n8 hd8 hc8 e8;simp only[Act.put,lE4,lE5,lE6];refine aal (l:= []) rfl (wpQuiet_nil ?_);refine aaf (vs:= #[.slice (some ⟨v4.heap.size,0,none⟩) 3 3]) Tryz.call113 rfl rfl rfl (R:=fun r w'=>w'.ownsRow w8.heap.size 5 1 r 24 ((abR n ll).map bv)/\Below w8.heap.size w8 w') (HC8.out.mono ?_) wd.heap.size (Nat.le_refl _) ?_
     · rintro e w' ⟨v,rfl,ho,hb⟩;exact⟨_,rfl,hb.mono (Nat.le_trans HBW8.out.size HB8.out.size),ho,hb⟩
     rintro r w9 _ ⟨ho9,hb9⟩;have HF9:=hE0 (And.intro (aaY ho9 (Nat.le_trans HBW8.out.size HB8.out.size)) ((HBW8.out.trans (HB8.out.mono HBW8.out.size)).trans (hb9.mono (Nat.le_trans HBW8.out.size HB8.out.size))));clear ho9 hb9;simp only[Act.put,lE4,lE5,lE6];refine aaF (l:= ?finWbabc) (t:= []) ?hfinWbabc ?htfinWbabc ?_
     case hfinWbabc=>simp only[pick,lE1,lE2,lE3];rfl
     case htfinWbabc=>rfl
     repeat (go_big_quiet_step (fail))
     refine wpQuiet_nil ?_;go_wp2_with fail
     go_meet
     case rel=>exact HF9.out
   case wayWbb=>
    refine aaf (vs:= #[.int .u64 (ll:Int)]) Tryz.call114 rfl rfl rfl (R:=fun r w'=>r= .slice (some ⟨v1.heap.size,0,none⟩) 8 8/\w'.heap[v1.heap.size]?=some (.cells (rowB (aat 8 ll)) 5 (0,0))/\Below v1.heap.size v1 w') ((HPUT.out v1 ll (by omega)).mono ?_) wd.heap.size (Nat.le_refl _) ?_
    · rintro e w' ⟨rfl,hf,hb⟩;exact⟨_,rfl,hb.mono cb1.size,rfl,hf,hb⟩
    rintro r v2 _ ⟨rfl,fcv2,hbv2⟩;have lsv2:v1.heap.size<v2.heap.size:=aaA fcv2;have cb2:Below wd.heap.size wd v2:=cb1.trans (hbv2.mono cb1.size);have ff26:=((hbv2.block _ (aaA flv1)).trans flv1);simp only[Act.put,lE4,lE5,lE6];refine aal (l:= []) rfl (wpQuiet_nil ?_);refine aag (some 14) (w1:=v2.alloc (.cells (rowB imMarkB) 5)) (v:= .slice (some ⟨v2.heap.size,0,none⟩) 8 8) rfl rfl rfl (aah rfl rfl (aid v2)) ((Below.refl _ _).alloc cb2.size _) ⟨wd.heap.size,Nat.le_refl _,?_⟩;obtain⟨v3,hv3⟩:=nmE (v2.alloc (.cells (rowB imMarkB) 5));have hbv3:=abE hv3;have fmv3:=anE hv3;have cb3:Below wd.heap.size wd v3:=cb2.trans (hbv3.mono cb2.size);have lmv3:wd.heap.size<=v2.heap.size:=cb2.size;have lsv3:v2.heap.size<v3.heap.size:=aaA fmv3;rw[hv3];clear hv3;have ff27:=((hbv3.block _ (aaA ff26)).trans ff26);have ff28:=((hbv3.block _ (aaA fcv2)).trans fcv2);simp only[Act.put,lE4,lE5,lE6];refine aal (l:= []) rfl (wpQuiet_nil ?_);obtain⟨v4,hrv4,fmv4,szv4,kpv4,blv4⟩:=acZ (P:=Tryz.prog) v3 37 5 v2.heap.size (rowB imMarkB) 8 8 Tryz.underlying37 Tryz.underlying5 fmv3;refine aag (some 15) rfl rfl rfl (adI rfl rfl hrv4) (blv4 wd.heap.size lmv3) ⟨wd.heap.size,Nat.le_refl _,?_⟩;have cb4:Below wd.heap.size wd v4:=cb3.trans (blv4 wd.heap.size lmv3);have lsv4:v4.heap.size=v3.heap.size:=szv4;clear hrv4;have ne30:wd.heap.size≠v2.heap.size:=by omega
    have ff29:=((kpv4 _ ne30).trans ff27);have ne32:v1.heap.size≠v2.heap.size:=by omega
    have ff31:=((kpv4 _ ne32).trans ff28);simp only[Act.put,lE4,lE5,lE6];refine aal (l:= []) rfl (wpQuiet_nil ?_);obtain⟨w8,hw8⟩:=nmE (v4.alloc (.cells #[.slice (some ⟨v2.heap.size,0,none⟩) 8 8, .slice (some ⟨wd.heap.size,0,none⟩) 8 8, .slice (some ⟨v1.heap.size,0,none⟩) 8 8] 37));have hb8:=abE hw8;have n8:=anE hw8;have hd8:DtRd w8 w8.heap.size (some ⟨v4.heap.size,0,none⟩) [imMarkB,aat 8 n,aat 8 ll]:=by
     refine aew (a:=8) (b:=8) (c:=8) (A:=some ⟨v2.heap.size,0,none⟩) (B:=some ⟨wd.heap.size,0,none⟩) (C:=some ⟨v1.heap.size,0,none⟩) ?_ ?_ ?_ ?_ ⟨Nat.le_refl _,fun e=>by cases e⟩ ⟨by rw[aab];exact Nat.le_refl _,fun e=>by cases e⟩ ⟨by rw[aab];exact Nat.le_refl _,fun e=>by cases e⟩ ⟨by unfold maxLen imMarkB;simp,by rw[aab];unfold maxLen;omega,by rw[aab];unfold maxLen;omega⟩
     · rw[aab,aab];exact n8
     · exact((aaH fmv4).below hb8).more hb8.size
     · exact((aaH ff29).below hb8).more hb8.size
     · exact((aaH ff31).below hb8).more hb8.size
    have hc8:=ab7 w8 (some ⟨v4.heap.size,0,none⟩) 3 [imMarkB,aat 8 n,aat 8 ll] hd8 (by simp) (by simp[imMarkB,aab]);have e8:([imMarkB,aat 8 n,aat 8 ll]:List (List UInt8)).flatten=abR n ll:=by unfold abR;simp
    rw[e8,acd]at hc8;have HC8:=hE0 hc8;have HBW8:=hE0 cb4;have HB8:=hE0 hb8;refine aag (some 25) (w1:=w8) (v:= .slice (some ⟨v4.heap.size,0,none⟩) 3 3) rfl rfl rfl (by rw[<-hw8];exact aah rfl rfl (adt v4 _ _ _ _ _ _ _ _ _)) (hb8.mono HBW8.out.size) ⟨wd.heap.size,Nat.le_refl _,?_⟩;clear hw8 hb8 n8 hd8 hc8 e8;simp only[Act.put,lE4,lE5,lE6];refine aal (l:= []) rfl (wpQuiet_nil ?_);refine aaf (vs:= #[.slice (some ⟨v4.heap.size,0,none⟩) 3 3]) Tryz.call113 rfl rfl rfl (R:=fun r w'=>w'.ownsRow w8.heap.size 5 1 r 24 ((abR n ll).map bv)/\Below w8.heap.size w8 w') (HC8.out.mono ?_) wd.heap.size (Nat.le_refl _) ?_
    · rintro e w' ⟨v,rfl,ho,hb⟩;exact⟨_,rfl,hb.mono (Nat.le_trans HBW8.out.size HB8.out.size),ho,hb⟩
    rintro r w9 _ ⟨ho9,hb9⟩;have HF9:=hE0 (And.intro (aaY ho9 (Nat.le_trans HBW8.out.size HB8.out.size)) ((HBW8.out.trans (HB8.out.mono HBW8.out.size)).trans (hb9.mono (Nat.le_trans HBW8.out.size HB8.out.size))));clear ho9 hb9;simp only[Act.put,lE4,lE5,lE6];refine aaF (l:= ?finWbbcc) (t:= []) ?hfinWbbcc ?htfinWbbcc ?_
    case hfinWbbcc=>simp only[pick,lE1,lE2,lE3];rfl
    case htfinWbbcc=>rfl
    repeat (go_big_quiet_step (fail))
    refine wpQuiet_nil ?_;go_wp2_with fail
    go_meet
    case rel=>exact HF9.out
 case rest=>
  obtain⟨ho,hb⟩:=hcut;have HO:=hE0 ho;have HBC:=hE0 hb;clear ho hb;have HW1S:=hE0 (af2 wc wd.heap.size _ (abR n ll) 24 0 (acd n ll) HO.out HBC.out.size (by omega) (by omega) (by omega));go_wp2_with fail
  refine HW1S.out.mono ?_;rintro e w2 ⟨x2,rfl,ho2,hb2⟩;have HO2:Hid (w2.ownsRow wd.heap.size 5 1 x2 28 ((agu n ll).map bv)):=ho2;have HB2:=hE0 (HBC.out.trans hb2);clear ho2 hb2 HW1S HO HBC;have e1:=(HB2.out.cell (p:=⟨w.heap.size,1,none⟩) hld).trans c1;have hl2:w.heap.size<w2.heap.size:=Nat.lt_of_lt_of_le hld HB2.out.size;go_wp2
  go_loopw [4,32] (fun v t wr=>∃(j:Nat),t= .int .i64 (j:Int)/\j<=ll/\wr.ownsRow wd.heap.size 5 1 v (28+(abv (l.take j)).length) ((agu n ll++abv (l.take j)).map bv)/\Below wd.heap.size wd wr) (fun _ t _=>ll-(intOf t).toNat)
  case atStart=>
   refine⟨0,rfl,Nat.zero_le _,?_,HB2.out⟩;have e:agu n ll++abv (l.take 0)=agu n ll:=by rw[List.take_zero];exact List.append_nil _
   rw[e];exact HO2.out
  case round=>
   obtain⟨j,rfl,hj,hown,hb⟩:=hrel;by_cases hlt:j<ll
   · obtain⟨x,hx⟩:∃x,l[j]?=some x:=⟨l[j]'(by rw[HLL.out];exact hlt),List.getElem?_eq_getElem _⟩;obtain⟨b2,o,rfl,hbb,hcl⟩:=HR.out (by rw[HLL.out];omega);obtain⟨p0,p1,p2,hxo,hxs⟩:=hcl j x hx;have hb1w:=HBD.out.trans (hb.mono HBD.out.size);have r0:=(hb1w.cell (p:=⟨b2,o+j*3,none⟩) hbb).trans p0;have r1:=(hb1w.cell (p:=⟨b2,o+j*3+1,none⟩) hbb).trans p1;have r2:=(hb1w.cell (p:=⟨b2,o+j*3+2,none⟩) hbb).trans p2;have HTG:=hE0 (aho hx);have HT1:=HPT.out j;obtain⟨xo,xs,xu⟩:=x;dsimp only at p0 p1 p2 r0 r1 r2 hxs HTG;obtain⟨w4,hw4⟩:=nmE (wr.alloc (.cells #[.int .i64 xo, .int .i64 xs, .bool xu] 132));have hb4:=abE hw4;have n4:=anE hw4;obtain⟨x0,x1,x2⟩:=aac n4;have hl4:=aaa n4;obtain⟨pk,hpk⟩:=nmE (ab0 xs xu);have hpkl:pk<18446744073709551616:=by have:=aeQ xs xu;omega
     have HPK:=hE0 (fun W=>adk (w:=W) xs xu hxs pk hpk);have HTB:Hid (alj ⟨xo,xs,xu⟩=aat 8 pk):=(show _=_ by unfold alj;dsimp only;rw[hpk]);obtain⟨tn,htn⟩:=nmE ((abv (l.take j)).length);rw[htn]at hown HT1;have HTN:=hE0 htn;have HO4:=hE0 (aax hown hb4);have HB4:=hE0 (hb.trans (hb4.mono hb.size));have HW4:=hE0 hw4;clear hx hcl p0 p1 p2 hown hb hb1w hb4 n4 hw4 hpk htn;go_wp2_with (first | (rw[HW4.out]) | fail)
     refine(HPK.out _).mono ?_;rintro e w5 ⟨rfl,rfl⟩;go_wp2_with fail
     refine(HPUT.out _ pk hpkl).mono ?_;rintro e w6 ⟨rfl,hf6,hb6⟩;have HR6:Hid (Rd w6 w6.heap.size (some ⟨w4.heap.size,0,none⟩) 8 (aat 8 pk)):=(show Rd _ _ _ _ _ by have:=hf6.reads;rw[aab]at this;exact this);have HO6:=hE0 (aax HO4.out hb6);have HB6:=hE0 (HB4.out.trans (hb6.mono HB4.out.size));clear hf6 hb6;go_wp2_with (first
      | (at_builtin;go_must (refine aaj rfl (.tmp 36) (.tmp 42) 37 5 rfl Tryz.underlying37 aaR wd.heap.size _ (28+tn) (agu n ll++abv (l.take j)) rfl HO6.out _ (some ⟨w4.heap.size,0,none⟩) 8 8 (aat 8 pk) rfl HR6.out (fun e=>by cases e) (by omega) HB6.out.size ?_);intro x7 w7 own7 hb7 gr7
         have HX7:Hid (w7.ownsRow wd.heap.size 5 1 x7 ((28+tn)+8) (((agu n ll++abv (l.take j))++(aat 8 pk)).map bv)/\Below wd.heap.size w6 w7):=⟨own7,hb7⟩;clear own7 hb7 gr7)
      | fail)
     go_roundw
     case rel=>
      refine⟨j+1,by go_num,by omega,?_,HB6.out.trans HX7.out.2⟩;rw[HTG.out,HTB.out,List.length_append,HTN.out,aab,<-List.append_assoc];exact HX7.out.1
     case measure=>simp only[intOf];omega
   · have e:l.take j=l:=List.take_of_length_le (by rw[HLL.out];omega);rw[e,HTL.out]at hown;have HWS:=hE0 (af2 wr wd.heap.size _ (agu n ll++abv l) (28+8*ll) 28 (by rw[List.length_append,HAL.out,HTL.out]) hown hb.size (by omega) (by omega) (by omega));rw[HPTE.out]at HWS;have HB:=hE0 hb;clear hown hb e;go_wp2_with fail
     refine HWS.out.mono ?_;rintro e w5 ⟨x5,rfl,ho5,hb5⟩;rw[HTE.out]at ho5;have hT100:T<=10000:=by have:=HTE.out;omega
     have hT0:0<T:=by have:=HTE.out;omega
     have hb5':=HB.out.trans hb5;obtain⟨A5,c5,rfl,hA5⟩:=aaU ho5;have HO5:=hE0 ho5;have HB5:=hE0 hb5';have e2:=(hb5'.cell (p:=⟨w.heap.size,2,none⟩) hld).trans c2;have hl5:w.heap.size<w5.heap.size:=Nat.lt_of_lt_of_le hld hb5'.size;clear ho5 hb5 hb5' HWS;go_wp2
     go_loopw [4,52] (fun v t wr=>∃(j:Nat),t= .int .i64 (j:Int)/\j<=dl/\wr.ownsRow wd.heap.size 5 1 v (T+(d.take j).flatten.length) ((aft n l++(d.take j).flatten).map bv)/\Below wd.heap.size wd wr) (fun _ t _=>dl-(intOf t).toNat)
     case atStart=>
      refine⟨0,rfl,Nat.zero_le _,?_,HB5.out⟩;have e:aft n l++(d.take 0).flatten=aft n l:=by rw[List.take_zero];exact List.append_nil _
      rw[e];exact HO5.out
     case round=>
      obtain⟨i,rfl,hi,hown,hb⟩:=hrel;have hb1w:=HBD.out.trans (hb.mono HBD.out.size);by_cases hlt2:i<dl
      · obtain⟨y,hy⟩:∃y,d[i]?=some y:=⟨d[i]'(by rw[HDLL.out];exact hlt2),List.getElem?_eq_getElem _⟩;obtain⟨b,o,rfl,hbb,hc⟩:=HD.out (by rw[HDLL.out];omega);obtain⟨A',k',z0,hrd,_,_,hA⟩:=hc i y hy;have z1:=(hb1w.cell (p:=⟨b,o+i,none⟩) hbb).trans z0;have hs1:=HFT.out (i+1);rw[ace hy,List.length_append]at hs1;have HFT2:=hE0 (ace hy);have HRD:=hE0 ((hrd.below hb1w).more hb1w.size);obtain⟨yn,hn'⟩:∃yn,y.length=yn:=⟨_,rfl⟩;have HYN:=hE0 hn';obtain⟨q,hq⟩:=nmE ((d.take i).flatten.length);rw[hq]at hown hs1;have HQ:=hE0 hq;rw[hn']at z0 z1 hs1 HRD;have HO:=hE0 hown;have HB6:=hE0 hb;clear hc hy hn' hown hb hrd hq hb1w z0;go_wp2_with (first
         | (at_builtin;go_must (refine aaj rfl (.tmp 56) (.tmp 57) 37 5 rfl Tryz.underlying37 aaR wd.heap.size _ (T+q) (aft n l++(d.take i).flatten) rfl HO.out _ A' yn k' y rfl HRD.out hA (by omega) HB6.out.size ?_);intro x30 w30 own30 hb30 gr30
            have HX30:Hid (w30.ownsRow wd.heap.size 5 1 x30 ((T+q)+yn) (((aft n l++(d.take i).flatten)++y).map bv)/\Below wd.heap.size wr w30):=⟨own30,hb30⟩;clear own30 hb30 gr30)
         | fail)
        go_roundw
        case rel=>
         refine⟨i+1,by go_num,by omega,?_,HB6.out.trans HX30.out.2⟩;rw[HFT2.out,List.length_append,HQ.out,HYN.out,<-List.append_assoc,<-Nat.add_assoc];exact HX30.out.1
        case measure=>simp only[intOf];omega
      · have e:d.take i=d:=List.take_of_length_le (by rw[HDLL.out];omega);rw[e,HFL.out]at hown;have HWS2:=hE0 (af2 wr wd.heap.size _ (aft n l++d.flatten) (T+fl) T (by rw[List.length_append,HFL.out,HTL2.out]) hown hb.size (by omega) (by omega) (by omega));rw[HPDE.out]at HWS2;have HB6:=hE0 hb;clear hown hb e hb1w;go_wp2_with fail
        refine HWS2.out.mono ?_;rintro e w7 ⟨x7,rfl,ho7,hb7⟩;have HB7:=hE0 (HB6.out.trans hb7);have HWS3:=hE0 (af2 w7 wd.heap.size x7 (ag4 n l d) (T+fl+4) 0 (by rw[HDL2.out];have:=HTE.out;omega) ho7 HB7.out.size (by omega) (by omega) (by omega));clear ho7 hb7 HWS2;go_wp2_with fail
        refine HWS3.out.mono ?_;rintro e w8 ⟨x8,rfl,ho8,hb8⟩;have hfin:w8.ownsRow w.heap.size 5 1 x8 (40+8*ll+fl) ((aaM n l d).map bv):=by
         rw[show T+fl+4+4=40+8*ll+fl by have:=HTE.out;omega]at ho8;exact aaY ho8 (Nat.le_trans HB1.out.size HBD.out.size)
        have hbfin:Below w.heap.size w w8:=HB1.out.trans ((HBD.out.trans ((HB7.out.trans hb8).mono HBD.out.size)).mono HB1.out.size);obtain⟨A8,c8,rfl,_⟩:=aaU hfin;have HFIN:=hE0 (And.intro hfin hbfin);clear hfin hbfin ho8 hb8;go_wp2
        go_ret2
        exact⟨A8,c8,rfl,HFIN.out⟩
theorem acu (w:World) (A:Option Addr) (n c B:Nat) (b:List UInt8) (i j:Nat) (hr:Rd w B A n b) (hnc:n<=c) (hc:c<=9223372036854775807) (hn:n<=900000) (hij:i<=j) (hj:j+4<=n) (y:Bool) (hy:(abC ((b.drop j).take 4)==abn 0 ((b.drop i).take (j-i)))=y):
 Calls Tryz.prog 251 #[.slice A n c, .int .i64 (i:Int), .int .i64 (j:Int)] w fun e w'=>e= .returned (.bool y)/\w=w':=by
 have HG:=hE0 (akX A n c B b j w hr hnc (by omega) hj);obtain⟨g,off,rfl,_⟩:=hr.2 (by omega);have HSM:=hE0 (agh (some ⟨g,off+i,none⟩) (j-i) (c-i) B _ w (hr.sub i (j-i) (by omega)) (by omega));obtain⟨p,hp⟩:=nmE (abC ((b.drop j).take 4));obtain⟨q,hq⟩:=nmE (abn 0 ((b.drop i).take (j-i)));rw[hp]at HG;rw[hq]at HSM;rw[hp,hq]at hy;have HY:Hid (((p:Int)==(q:Int))=y):=(show _=y by
  rw[<-hy];by_cases h:p=q
  · rw[h];simp
  · have e:(p==q)=false:=by rw[beq_eq_false_iff_ne];exact h
    rw[e,beq_eq_false_iff_ne];omega)
 have h1:(i:Int)<=(j:Int):=by omega
 have h2:(j:Int)<=(c:Int):=by omega
 have h3:(i:Int)<(c:Int):=by omega
 clear hr hp hq hy;go_enter Tryz.func251,Tryz.ntmps251
 go_wp2_with fail
 refine HG.out.mono ?_;rintro e w2 ⟨rfl,rfl⟩;go_wp2_with fail
 refine HSM.out.mono ?_;rintro e w2 ⟨rfl,rfl⟩;go_wp2
 go_ret
 exact⟨aaE HY.out,rfl⟩
theorem akg:adh imMarkB=⟨#[67,78,84,76,1,0,0,0]⟩:=by rfl
theorem anP (w:World) (A:Option Addr) (n c B:Nat) (b:List UInt8) (hr:Rd w B A n b) (hnc:n<=c) (hc:c<=9223372036854775807) (hn:n<=900000) (h28:28<=n) (hm:b.take 8=imMarkB) (hs:(abC ((b.drop 24).take 4)==abn 0 ((b.drop 0).take (24-0)))=true) (N K:Nat) (hN:abC ((b.drop 8).take 8)=N) (hK:abC ((b.drop 16).take 8)=K) (hlen:ab3 (N:Int)=true) (hk:K<=1024):
 Calls Tryz.prog 243 #[.slice A n c] w fun e w'=>e= .returned (.tuple #[.int .i64 (N:Int), .int .i64 (K:Int), .nilIface])/\w=w':=by
 have HS:=hE0 (acu w A n c B b 0 24 hr hnc hc hn (by omega) (by omega) true hs);have HG1:=hE0 (adY A n c B b 8 w hr hnc (by omega) (by omega));have HG2:=hE0 (adY A n c B b 16 w hr hnc (by omega) (by omega));rw[hN]at HG1;rw[hK]at HG2;have h3:=(aaN (N:Int)).1 hlen;have HL:=hE0 (agw w N (by omega) true hlen);obtain⟨g,off,rfl,_⟩:=hr.2 (by omega);have q1:(convert 37 9 (.slice (some ⟨g,off,none⟩) 8 c)).run Tryz.prog w= .ok (.string ⟨#[67,78,84,76,1,0,0,0]⟩) w:=by
  have h:=hr.sub 0 8 (by omega);rw[List.drop_zero,hm,Nat.add_zero]at h;have h2:=aaJ (c:=c) h;rw[akg]at h2;exact h2
 have g1:decide (n<28)=false:=decide_eq_false (by omega);have g2:decide (1024<K)=false:=decide_eq_false (by omega);have g3:(8:Int)<=(c:Int):=by omega
 clear hr hm hs hN hK hlen;go_enter Tryz.func243,Tryz.ntmps243
 go_wp2_with fail
 refine HS.out.mono ?_;rintro e w2 ⟨rfl,rfl⟩;go_wp2_with fail
 refine HG1.out.mono ?_;rintro e w2 ⟨rfl,rfl⟩;go_wp2_with fail
 refine HG2.out.mono ?_;rintro e w2 ⟨rfl,rfl⟩;go_wp2_with fail
 refine HL.out.mono ?_;rintro e w2 ⟨rfl,rfl⟩;go_wp2
 go_ret3
 exact⟨rfl,rfl⟩
theorem aie (w:World) (k:Nat) (hk:k<=100000):
 Calls Tryz.prog 252 #[.int .i64 (k:Int)] w fun e w'=>e= .returned (.int .i64 ((28+k*8:Nat):Int))/\w=w':=by
 go_enter Tryz.func252,Tryz.ntmps252
 go_wp2
 go_ret
 exact⟨by congr 2,rfl⟩
theorem arD:(Tryz.prog.info? 132).map (fun i=>(i.zero,i.size,i.bytes))=some (some (.agg #[.int .i64 0, .int .i64 0, .bool false]),3,24):=by kernel_rfl
theorem ajg{fn:Func}{R:Ending->World->Prop}{a:Act}{w:World}{p u:Tmp}{g:Nat}{x:Value}{n:Int}{A1 A2:Option Addr}{a1 b1 a2 b2:Nat}(hres:fn.results= #[.cell p 110, .tmp u]) (hp:a.tmps.getD p undef= .pointer (some ⟨g,0,none⟩)) (hx:a.tmps.getD u undef=x) (hd:a.defers= [])
 (hg:w.heap[g]?=some (.cells #[.int .i64 n, .slice A1 a1 b1, .slice A2 a2 b2] 110 (0,0))) (hR:R (.returned (.tuple #[.agg #[.int .i64 n, .slice A1 a1 b1, .slice A2 a2 b2],x])) w):bodyPost Tryz.prog fn R .ret a w:=by
 obtain⟨c0,c1,c2⟩:=aac hg;refine bodyPost_ret (v:= .tuple #[.agg #[.int .i64 n, .slice A1 a1 b1, .slice A2 a2 b2],x]) ?_ hd hR;rw[results_cell_tmp hres,hp,hx];simp[go_sem,c0,c1,c2]
theorem aa5{y0 y1 y2:Value}{w:World}{g:Nat}{t:TypeId}(h:w.heap[g]?=some (.cells #[y0,y1,y2] t (0,0))) (x0 x1 x2:Value):
 (((w.setCell ⟨g,0,none⟩ x0).setCell ⟨g,1,none⟩ x1).setCell ⟨g,2,none⟩ x2).heap[g]?=some (.cells #[x0,x1,x2] t (0,0)):=by
 have h1:=heap_setCell_same w g 0 _ _ x0 h;have h2:=heap_setCell_same _ g 1 _ _ x1 h1;have h3:=heap_setCell_same _ g 2 _ _ x2 h2;rw[h3];rfl
theorem aay{w:World}{g:Nat}{cs:Array Value}{t:TypeId}(h:w.heap[g]?=some (.cells cs t (0,0))):w.frozen? ⟨g,0,none⟩=false/\w.frozen? ⟨g,1,none⟩=false/\w.frozen? ⟨g,2,none⟩=false:=
 ⟨frozen_of_row w g 0 _ _ h,frozen_of_row w g 1 _ _ h,frozen_of_row w g 2 _ _ h⟩
def DtO (w:World) (d:List (List UInt8)) (xs:List Value):Prop:=∀(i:Nat) (y:List UInt8),d[i]?=some y->y.length<=100000/\∃A k,xs[i]?=some (.slice A y.length k)/\w.ownsRow 0 5 1 (.slice A y.length k) y.length (y.map bv)
theorem DtO.rd{w:World}{B:Nat}{A:Option Addr}{c:Nat}{d:List (List UInt8)}{xs:List Value}(h:DtO w d xs) (ho:w.ownsRow B 37 1 (.slice A d.length c) d.length xs):DtRd w w.heap.size A d:=fun hn=>by
 rcases ho.2 with⟨hv,h0⟩ | ⟨g,cap,cur,hv,hbg,hg,hnc,hcm,hsz,htk⟩
 · omega
 · injection hv with e1 e2 e3;refine⟨g,0,e1,aaa hg,fun j y hy=> ?_⟩;obtain⟨hyl,A',k,hx,hr⟩:=h j y hy;have hj:j<d.length:=(List.getElem?_eq_some_iff.1 hy).1;obtain⟨A2,k2,e,hk0⟩:=aaU hr;injection e with e4 e5 e6;subst e4 e6;refine⟨A',k,?_,aak hr,by unfold maxLen;omega,?_,hk0⟩
   · rw[Nat.zero_add,cell_of_row _ _ _ _ _ _ hg];rw[<-htk,List.getElem?_take,if_pos (by omega)]at hx;rw[<-hx];simp
   · rcases hr.2 with⟨hv2,h02⟩ | ⟨g2,cap2,cur2,hv2,_,_,hnc2,_⟩
     · omega
     · injection hv2 with _ _ e7;omega
theorem DtO.grown{w w':World}{d:List (List UInt8)}{xs:List Value}{r:Option Nat}(h:DtO w d xs) (hg:w.grownBy w' r) (hr:∀k,r=some k->∃cs t fz,t≠5/\w.heap[k]?=some (.cells cs t fz)):DtO w' d xs:=by
 intro i y hy;obtain⟨hyl,A,k,hx,ho⟩:=h i y hy;refine⟨hyl,A,k,hx,aa0 ho hg fun q hq hrq=> ?_⟩;obtain⟨cs,t,fz,hne,hc⟩:=hr q hrq;rcases ho.2 with⟨hv,_⟩ | ⟨g,cap,cur,hv,_,hgc,_⟩
 · rw[hv]at hq;cases hq
 · rw[hv]at hq;unfold Value.ownBlock at hq;injection hq with hq;subst hq;rw[hgc]at hc;injection hc with hc;injection hc with _ e _;exact absurd e.symm hne
theorem DtO.snoc{w:World}{d:List (List UInt8)}{xs:List Value}(h:DtO w d xs) (hl:xs.length=d.length){y:List UInt8}{A:Option Addr}{k:Nat}(hy:y.length<=100000) (ho:w.ownsRow 0 5 1 (.slice A y.length k) y.length (y.map bv)):DtO w (d++ [y]) (xs++ [.slice A y.length k]):=by
 intro i z hz;by_cases hi:i<d.length
 · rw[List.getElem?_append_left hi]at hz;rw[List.getElem?_append_left (by omega)];exact h i z hz
 · rw[List.getElem?_append_right (by omega)]at hz;rw[List.getElem?_append_right (by omega),hl];have e:i-d.length=0:=by
    have:=(List.getElem?_eq_some_iff.1 hz).1;simp at this;omega
   rw[e]at hz ⊢;simp at hz;subst hz;exact⟨hy,A,k,rfl,ho⟩
theorem abl{w:World}{base n size:Nat}{t:TypeId}{v:Value}{xs:List Value}(h:w.ownsRow base t size v n xs):∀k,v.ownBlock=some k->k<w.heap.size:=by
 intro k hk;rcases h.2 with⟨hv,_⟩ | ⟨g,cap,cur,hv,_,hg,_⟩
 · rw[hv]at hk;cases hk
 · rw[hv]at hk;unfold Value.ownBlock at hk;injection hk with hk;subst hk;exact aaa hg
theorem abi{w:World}{base n size k:Nat}{t t':TypeId}{v:Value}{xs:List Value}{cs:Array Value}{fz:Nat × Nat}(h:w.ownsRow base t size v n xs) (hk:v.ownBlock=some k) (hc:w.heap[k]?=some (.cells cs t' fz)) (hne:t≠t'):False:=by
 rcases h.2 with⟨hv,_⟩ | ⟨g,cap,cur,hv,_,hg,_⟩
 · rw[hv]at hk;cases hk
 · rw[hv]at hk;unfold Value.ownBlock at hk;injection hk with hk;subst hk;rw[hg]at hc;injection hc with hc;injection hc with _ e _;exact hne e
theorem aif{w:World}{base n size:Nat}{t:TypeId}{v:Value}{xs:List Value}(h:w.ownsRow base t size v n xs):∀k,v.ownBlock=some k->∃cs fz,w.heap[k]?=some (.cells cs t fz):=by
 intro k hk;rcases h.2 with⟨hv,_⟩ | ⟨g,cap,cur,hv,_,hg,_⟩
 · rw[hv]at hk;cases hk
 · rw[hv]at hk;unfold Value.ownBlock at hk;injection hk with hk;subst hk;exact⟨_,_,hg⟩
theorem abS{w:World}{base n size:Nat}{t:TypeId}{v:Value}{xs:List Value}(h:w.ownsRow base t size v n xs):∀k,v.ownBlock=some k->base<=k:=by
 intro k hk;rcases h.2 with⟨hv,_⟩ | ⟨g,cap,cur,hv,hb,_,_⟩
 · rw[hv]at hk;cases hk
 · rw[hv]at hk;unfold Value.ownBlock at hk;injection hk with hk;subst hk;exact hb
theorem abf (w:World) (g i:Nat) (v:Value):w.grownBy (w.setCell ⟨g,i,none⟩ v) (some g):=
 ⟨rfl,rfl,rfl,by simp,fun k _ hne=>heap_setCell_other _ _ _ _ (fun e=>hne (by rw[e]))⟩
theorem RkRd.off{w w':World}{B g:Nat}{A:Option Addr}{l:List Rk}{t:TypeId}{fr:Nat × Nat}(h:RkRd w B A l) (hg:w.heap[g]?=some (.cells #[.int .i64 0, .slice none 0 0, .slice none 0 0] t fr)) (hk:∀k,k≠g->w'.heap[k]?=w.heap[k]?):RkRd w' B A l:=fun hn=>by
 obtain⟨b,o,e,hB,hc⟩:=h hn;have hbg:b≠g:=by
  intro e2;subst e2;obtain⟨x,hx⟩:∃x,l[0]?=some x:=⟨l[0]'hn,List.getElem?_eq_getElem _⟩;obtain⟨_,h1,_⟩:=hc 0 x hx;rw[cell_of_row _ _ _ _ _ _ hg]at h1;rcases o with _ | _ | o<;>simp at h1
 refine⟨b,o,e,hB,fun j x hx=> ?_⟩;obtain⟨h0,h1,h2,h3⟩:=hc j x hx;have hh:=hk b hbg;refine⟨?_,?_,?_,h3⟩
 · rw[<-h0];simp[World.cell?,hh]
 · rw[<-h1];simp[World.cell?,hh]
 · rw[<-h2];simp[World.cell?,hh]
theorem DtO.stay{w w':World}{d:List (List UInt8)}{xs:List Value}(h:DtO w d xs) (hb:Below w.heap.size w w'):DtO w' d xs:=by
 intro i y hy;obtain⟨hyl,A,k,hx,ho⟩:=h i y hy;exact⟨hyl,A,k,hx,aaO ho hb (abl ho)⟩
theorem ajh:(Tryz.prog.info? 37).map (fun i=>(i.zero,i.size,i.bytes))=some (some (.slice none 0 0),1,24):=by kernel_rfl
theorem ad9 (w:World) (A:Option Addr) (n c:Nat):(Instr.buildSlice 57 1 #[(0, .slice A n c)]).run Tryz.prog w= .ok (.slice (some ⟨w.heap.size,0,none⟩) 1 1) (w.alloc (.cells #[.slice A n c] 37)):=by
 obtain⟨i0,hi,hz0,hz1,hz2⟩:=info_parts ajh;refine run_buildSlice w 57 37 1 _ _ i0 _ Tryz.underlying57 hi hz0 (by omega) (by omega) ?_;rw[hz1];have e:Array.range (1*1)= #[0]:=by decide
 rw[e];simp[Instr.fill,Value.cells]
end Go.Proofs.YthnfclimjmmckaaGreatDoor
