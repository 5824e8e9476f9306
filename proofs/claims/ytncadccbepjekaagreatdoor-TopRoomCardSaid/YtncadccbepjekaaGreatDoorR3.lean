/- Texts of mine, joined. -/
import Derived.Deep.QuietTactic
import Derived.BigQuiet
import Derived.Deep.DeepMust
import Derived.Deep.Cut
import Derived.Great.BuildSlice
import Derived.Test.YtncadccbepjekaaGreatDoorR2
set_option maxRecDepth 100000
set_option maxHeartbeats 8000000
namespace Go.Proofs.YtncadccbepjekaaGreatDoor
structure Rk where
 o:Int
 s:Int
 u:Bool
def abT (n:Int):Bool:=decide (184<=n)&&(decide (n<=16384)&&(n-184)%16==0)
theorem aaR (n:Int):abT n=true ↔ 184<=n/\n<=16384/\(n-184)%16=0:=by simp[abT]
theorem acF (n:Int):abT n=false ↔ ¬(184<=n/\n<=16384/\(n-184)%16=0):=by rw[<-aaR];simp
def abc (n:Int):Int->Bool->List Rk->Bool
 | e,_,[]=>e==n
 | e,f,x::r=>(x.o==e)&&(aaD x.s&&(decide (x.s<=n-e)&&(!(f&& !x.u)&&abc n (e+x.s) (!x.u) r)))
def datOk:List Rk->List (List UInt8)->Bool
 | [],d=>d.isEmpty
 | x::r,d=>if x.u=true then (match d with
  | []=>false
  | y::d'=>((y.length:Int)==x.s-16)&&datOk r d') else datOk r d
def aea (n:Int) (l:List Rk) (d:List (List UInt8)):Bool:=abT n&&(abc n 184 false l&&datOk l d)
theorem ajg{n:Int}:∀{l:List Rk}{e:Int}{f:Bool},abc n e f l=true->e+32*l.length<=n
 | [],e,f,h=>by
  unfold abc at h;have:e=n:=by simpa using h
  simp;omega
 | x::r,e,f,h=>by
  unfold abc at h;simp only[Bool.and_eq_true]at h;have h3:=(aac _).1 h.2.1;have h4:=ajg h.2.2.2.2;rw[List.length_cons];omega
theorem aeE{n:Int}:∀{l:List Rk}{e:Int}{f:Bool},abc n e f l=true->∀x∈l,aaD x.s=true
 | [],e,f,h,x,hx=>by cases hx
 | y::r,e,f,h,x,hx=>by
  unfold abc at h;simp only[Bool.and_eq_true]at h;rcases List.mem_cons.1 hx with rfl | hx
  · exact h.2.1
  · exact aeE h.2.2.2.2 x hx
def anS (x:Rk):List UInt8:=aaF 8 (ab9 x.s x.u)
def acp (l:List Rk):List UInt8:=(l.map anS).flatten
def ahf (b:List UInt8):List UInt8:=aaF 4 (abS 0 b)
def imMarkB:List UInt8:= [67,78,84,76,1,0,0,0]
def aeb (n k:Nat):List UInt8:=imMarkB++aaF 8 n++aaF 8 k
def afH (b:List UInt8) (k:Nat):List UInt8:=b++ahf (b.drop k)
def akD (n k:Nat):List UInt8:=afH (aeb n k) 0
def ahg (n:Nat) (l:List Rk):List UInt8:=afH (akD n l.length++acp l) 28
def akk (n:Nat) (l:List Rk) (d:List (List UInt8)):List UInt8:=afH (ahg n l++d.flatten) (ahg n l).length
def aaU (n:Nat) (l:List Rk) (d:List (List UInt8)):List UInt8:=afH (akk n l d) 0
theorem ab1 (b:List UInt8):(ahf b).length=4:=aag _ _
theorem aeF (n k:Nat):(aeb n k).length=24:=by unfold aeb imMarkB;simp[aag]
theorem afI (n k:Nat):(akD n k).length=28:=by unfold akD afH;rw[List.length_append,aeF,ab1]
theorem adL:∀l:List Rk,(acp l).length=8*l.length
 | []=>rfl
 | x::r=>by
  have ih:=adL r;unfold acp at ih ⊢;rw[List.map_cons,List.flatten_cons,List.length_append,ih,List.length_cons];unfold anS;rw[aag];omega
theorem adk (n:Nat) (l:List Rk):(ahg n l).length=32+8*l.length:=by
 unfold ahg afH;rw[List.length_append,List.length_append,afI,adL,ab1];omega
theorem ajh{α:Type}{l:List α}{j:Nat}{x:α}(h:l[j]?=some x):l.take (j+1)=l.take j++ [x]:=by
 rw[List.take_add_one,h];rfl
theorem amQ{l:List Rk}{j:Nat}{x:Rk}(h:l[j]?=some x):acp (l.take (j+1))=acp (l.take j)++anS x:=by
 rw[ajh h];unfold acp;rw[List.map_append,List.flatten_append];simp
theorem ac3{d:List (List UInt8)}{j:Nat}{x:List UInt8}(h:d[j]?=some x):(d.take (j+1)).flatten=(d.take j).flatten++x:=by
 rw[ajh h,List.flatten_append];simp
theorem adM{α:Type}{l:List α}{j:Nat}{x:α}(h:l[j]?=some x):l.drop j=x::l.drop (j+1):=by
 obtain⟨hj,e⟩:=List.getElem?_eq_some_iff.1 h;rw[List.drop_eq_getElem_cons hj,e]
open Go.RowKit
def RkRd (w:World) (B:Nat) (A:Option Addr) (l:List Rk):Prop:=0<l.length->∃b o,A=some ⟨b,o,none⟩/\b<B/\∀j x,l[j]?=some x->
 w.cell? ⟨b,o+j*3,none⟩=some (.int .i64 x.o)/\w.cell? ⟨b,o+j*3+1,none⟩=some (.int .i64 x.s)/\w.cell? ⟨b,o+j*3+2,none⟩=some (.bool x.u)/\
 (-9223372036854775808<=x.o/\x.o<=9223372036854775807)/\(-9223372036854775808<=x.s/\x.s<=9223372036854775807)
def DtRd (w:World) (B:Nat) (A:Option Addr) (d:List (List UInt8)):Prop:=0<d.length->∃b o,A=some ⟨b,o,none⟩/\b<B/\∀j y,d[j]?=some y->
 ∃A' k,w.cell? ⟨b,o+j,none⟩=some (.slice A' y.length k)/\Rd w B A' y.length y/\y.length<=maxLen/\y.length<=k/\(A'=none->k=0)
section
variable {w w':World} {B B':Nat} {A:Option Addr} {l:List Rk} {d:List (List UInt8)}
theorem RkRd.below (h:RkRd w B A l) (hb:Below B w w'):RkRd w' B A l:=fun hn=>by
 obtain⟨b,o,e,hB,hc⟩:=h hn;refine⟨b,o,e,hB,fun j x hx=> ?_⟩;obtain⟨h0,h1,h2,h3⟩:=hc j x hx;exact⟨(hb.cell (p:=⟨b,o+j*3,none⟩) hB).trans h0,(hb.cell (p:=⟨b,o+j*3+1,none⟩) hB).trans h1,(hb.cell (p:=⟨b,o+j*3+2,none⟩) hB).trans h2,h3⟩
theorem RkRd.more (h:RkRd w B A l) (hB:B<=B'):RkRd w B' A l:=fun hn=>by
 obtain⟨b,o,e,hb,hc⟩:=h hn;exact⟨b,o,e,Nat.lt_of_lt_of_le hb hB,hc⟩
theorem DtRd.below (h:DtRd w B A d) (hb:Below B w w'):DtRd w' B A d:=fun hn=>by
 obtain⟨b,o,e,hB,hc⟩:=h hn;refine⟨b,o,e,hB,fun j x hx=> ?_⟩;obtain⟨A',k,h0,h1,h2⟩:=hc j x hx;exact⟨A',k,(hb.cell (p:=⟨b,o+j,none⟩) hB).trans h0,h1.below hb,h2⟩
theorem DtRd.more (h:DtRd w B A d) (hB:B<=B'):DtRd w B' A d:=fun hn=>by
 obtain⟨b,o,e,hb,hc⟩:=h hn;refine⟨b,o,e,Nat.lt_of_lt_of_le hb hB,fun j x hx=> ?_⟩;obtain⟨A',k,h0,h1,h2⟩:=hc j x hx;exact⟨A',k,h0,h1.more hB,h2⟩
end
theorem alW (w:World) (k:Nat):Below w.heap.size w (w.drewN k):=⟨rfl,rfl,rfl,Nat.le_refl _,fun _ _=>rfl⟩
theorem asA{P:Program}{ops:Array Oper}{Q:Exit->Act->World->Prop}{i B:Nat}{o:Oper}{a:Act}{w:World}{K:Act->World->Prop}(ho:ops[i]?=some o) (d:Option Tmp) (hd:o.dst=d) (hw:Region.wanted o (yielded ops a.tmps)=false) (hk:K (a.put d undef) w):wpOp P ops Q i (fun a'' w''=>Below B w w''/\K a'' w'') a w:=by
 subst hd;unfold wpOp;simp only[ho];rw[if_neg (by rw[hw];decide)];exact⟨Below.refl _ _,hk⟩
def imV (n:Int) (A1:Option Addr) (ll k1:Nat) (A2:Option Addr) (dl k2:Nat):Value:= .agg #[.int .i64 n, .slice A1 ll k1, .slice A2 dl k2]
theorem aal{w:World}{x0 x1 x2:Value}{g:Nat}{t:TypeId}(h:w.heap[g]?=some (.cells #[x0,x1,x2] t (0,0))):
 w.cell? ⟨g,0,none⟩=some x0/\w.cell? ⟨g,1,none⟩=some x1/\w.cell? ⟨g,2,none⟩=some x2:=by
 refine⟨?_,?_,?_⟩
 · rw[cell_of_row w g 0 _ _ (0,0) h];rfl
 · rw[cell_of_row w g 1 _ _ (0,0) h];rfl
 · rw[cell_of_row w g 2 _ _ (0,0) h];rfl
theorem aab{w:World}{g:Nat}{cs:Array Value}{t:TypeId}(h:w.heap[g]?=some (.cells cs t (0,0))):g<w.heap.size:=by
 rcases Nat.lt_or_ge g w.heap.size with h' | h'
 · exact h'
 · rw[Array.getElem?_eq_none h']at h;cases h
def atG (n:Int):Nat:=(n%18446744073709551616).toNat
theorem aou (n:Int) (hn: -9223372036854775808<=n/\n<=9223372036854775807):abT ((atG n:Nat):Int)=abT n:=by
 unfold atG;rcases Int.lt_or_le n 0 with h | h
 · have e1:abT n=false:=(acF n).2 (by omega);rw[e1];exact(acF _).2 (by omega)
 · rw[Int.emod_eq_of_lt h (by omega),Int.toNat_of_nonneg h]
theorem agc (w:World) (v:Nat) (hv:v<18446744073709551616) (b:Bool) (hb:abT (v:Int)=b):
 Calls Tryz.prog 178 #[.int .u64 (v:Int)] w fun e w'=>e= .returned (.bool b)/\w=w':=by
 by_cases h1:184<=v
 · by_cases h2:v<=16384
   · by_cases h3:(v-184)%16=0
     · obtain rfl:true=b:=by rw[<-hb];exact((aaR _).2 (by omega)).symm
       clear hb;go_enter Tryz.func178,Tryz.ntmps178
       go_wp2
       go_ret
       exact⟨abe (by rw[beq_iff_eq];omega),rfl⟩
     · obtain rfl:false=b:=by rw[<-hb];exact((acF _).2 (by omega)).symm
       clear hb;go_enter Tryz.func178,Tryz.ntmps178
       go_wp2
       go_ret
       exact⟨abe (by rw[beq_eq_false_iff_ne];omega),rfl⟩
   · obtain rfl:false=b:=by rw[<-hb];exact((acF _).2 (by omega)).symm
     clear hb;go_enter Tryz.func178,Tryz.ntmps178
     go_wp2
     go_ret
     exact⟨rfl,rfl⟩
 · obtain rfl:false=b:=by rw[<-hb];exact((acF _).2 (by omega)).symm
   clear hb;go_enter Tryz.func178,Tryz.ntmps178
   go_wp2
   go_ret
   exact⟨rfl,rfl⟩
theorem aji (w:World) (A:Option Addr) (k1:Nat) (l:List Rk) (hr:RkRd w w.heap.size A l) (hl:l.length<=1000000) (n:Int) (hn:184<=n/\n<=16384) (y:Bool) (hy:abc n 184 false l=y):
 Calls Tryz.prog 179 #[.slice A l.length k1, .int .i64 n] w fun e w'=>e= .returned (.bool y)/\Below w.heap.size w w':=by
 have HR:=hE0 hr;have HY:=hE0 hy;obtain⟨m,hm⟩:=nmE l.length;rw[hm]at hl ⊢;have HM:=hE0 hm;clear hr hy hm;go_enter Tryz.func179,Tryz.ntmps179
 go_wp2
 go_loopw [5,6,11] (fun e f t wr=>∃(j:Nat) (z:Int) (b:Bool),t= .int .i64 (j:Int)/\e= .int .i64 z/\f= .bool b/\j<=m/\(184<=z/\z<=n)/\abc n z b (l.drop j)=y/\Below w.heap.size w wr) (fun _ _ t _=>m-(intOf t).toNat)
 case atStart=>exact⟨0,184,false,rfl,rfl,rfl,Nat.zero_le _,⟨Int.le_refl _,hn.1⟩,HY.out,Below.refl _ _⟩
 case round=>
  obtain⟨j,z,b,rfl,rfl,rfl,hj,hz,hyy,hb⟩:=hrel;by_cases hlt:j<m
  · obtain⟨x,hx⟩:∃x,l[j]?=some x:=⟨l[j]'(by rw[HM.out];exact hlt),List.getElem?_eq_getElem _⟩;obtain⟨b2,o,rfl,hbb,hcl⟩:=HR.out (by rw[HM.out];omega);obtain⟨p0,p1,p2,hxo,hxs⟩:=hcl j x hx;have r0:=(hb.cell (p:=⟨b2,o+j*3,none⟩) hbb).trans p0;have r1:=(hb.cell (p:=⟨b2,o+j*3+1,none⟩) hbb).trans p1;have r2:=(hb.cell (p:=⟨b2,o+j*3+2,none⟩) hbb).trans p2;rw[adM hx]at hyy;unfold abc at hyy;obtain⟨xo,xs,xu⟩:=x;dsimp only at p0 p1 p2 r0 r1 r2 hyy hxo hxs;obtain⟨w4,hw4⟩:=nmE (wr.alloc (.cells #[.int .i64 xo, .int .i64 xs, .bool xu] 112));have hb4:Below w.heap.size w w4:=by rw[<-hw4];exact hb.alloc hb.size _
    have n4:=anE hw4;obtain⟨d0,d1,d2⟩:=aal n4;have hl4:=aab n4;have HW4:=hE0 hw4;have HB4:=hE0 hb4;have HYY:=hE0 hyy;clear hx hb p0 p1 p2 hb4 n4 hw4 hcl hyy;by_cases ho:xo=z
    · have g0:(xo !=z)=false:=by rw[bne_eq_false_iff_eq];exact ho
      obtain⟨pk,hpk⟩:=nmE (ab9 xs xu);have HPK:=hE0 (fun W=>acY (w:=W) xs xu hxs pk hpk);by_cases hsz:aaD xs=true
      · have h3:=(aac _).1 hsz;have hpk0:pk≠0:=by
         rw[<-hpk];unfold ab9;rw[if_pos hsz];omega
        have g1:((pk:Int)==0)=false:=by rw[beq_eq_false_iff_ne];omega
        by_cases hle:xs<=n-z
        · have g2:decide (n-z<xs)=false:=decide_eq_false (by omega);by_cases hfu:b=true/\xu=false
          · obtain⟨rfl,rfl⟩:=hfu;have HF:Hid (y=false):=(show y=false by
             have e:=HYY.out;simp at e;first | exact e.symm | exact e)
            clear hsz h3 hpk ho;go_wp2_with (first | (rw[HW4.out]) | fail)
            refine(HPK.out _).mono ?_;rintro e w5 ⟨rfl,rfl⟩;go_wp2
            go_ret
            exact⟨abe HF.out.symm,HB4.out⟩
          · have HF:Hid (abc n (z+xs) (!xu) (l.drop (j+1))=y):=(show _=y by
             have e:=HYY.out;have e1:(b&& !xu)=false:=by
              cases b<;>cases xu<;>first | rfl | exact absurd ⟨rfl,rfl⟩ hfu
             have e2:(xo==z)=true:=by rw[beq_iff_eq];exact ho
             rw[e2,hsz,decide_eq_true hle,e1]at e;simpa using e)
            clear hsz hpk ho
            cases b<;>cases xu;all_goals first | exact absurd ⟨rfl,rfl⟩ hfu | skip
            all_goals
             clear hfu;go_wp2_with (first | (rw[HW4.out]) | fail)
             refine(HPK.out _).mono ?_;rintro e w5 ⟨rfl,rfl⟩;go_wp2_with fail
             go_quiet (fail)
             go_wp2
             go_roundw
             case rel=>exact⟨j+1,z+xs,_,by go_num,by go_num,rfl,by omega,by omega,HF.out,HB4.out.trans ((alW _ _).mono HB4.out.size)⟩
             case measure=>simp only[intOf];omega
        · have g2:decide (n-z<xs)=true:=decide_eq_true (by omega);have HF:Hid (y=false):=(show y=false by
           have e:=HYY.out;rw[decide_eq_false hle]at e;simp at e;first | exact e.symm | exact e)
          clear hsz hpk ho;go_wp2_with (first | (rw[HW4.out]) | fail)
          refine(HPK.out _).mono ?_;rintro e w5 ⟨rfl,rfl⟩;go_wp2
          go_ret
          exact⟨abe HF.out.symm,HB4.out⟩
      · have hpk0:pk=0:=by rw[<-hpk];unfold ab9;rw[if_neg hsz]
        subst hpk0;have HF:Hid (y=false):=(show y=false by
         have e:=HYY.out;have hs2:aaD xs=false:=by simpa using hsz
         rw[hs2]at e;simp at e;first | exact e.symm | exact e)
        clear hsz hpk ho;go_wp2_with (first | (rw[HW4.out]) | fail)
        refine(HPK.out _).mono ?_;rintro e w5 ⟨rfl,rfl⟩;go_wp2
        go_ret
        exact⟨abe HF.out.symm,HB4.out⟩
    · have g0:(xo !=z)=true:=by rw[bne_iff_ne];exact ho
      have HF:Hid (y=false):=(show y=false by
       have e:=HYY.out;have e2:(xo==z)=false:=by rw[beq_eq_false_iff_ne];exact ho
       rw[e2]at e;simp at e;first | exact e.symm | exact e)
      clear ho;go_wp2_with (first | (rw[HW4.out]) | fail)
      go_ret
      exact⟨abe HF.out.symm,HB4.out⟩
  · have hd:l.drop j= []:=List.drop_eq_nil_of_le (by rw[HM.out];omega);rw[hd]at hyy;unfold abc at hyy;have HYY:=hE0 hyy;have HBB:=hE0 hb;clear hyy hb hd;go_wp2
    go_ret
    exact⟨abe HYY.out,HBB.out⟩
theorem ac4 (w:World) (o s:Int) (u:Bool) (hs:aaD s=true):
 Calls Tryz.prog 117 #[.agg #[.int .i64 o, .int .i64 s, .bool u]] w fun e w'=>e= .returned (.int .i64 (s-16))/\Below w.heap.size w w':=by
 have h3:=(aac _).1 hs;obtain⟨w1,hw1⟩:=nmE (w.alloc (.cells #[.int .i64 o, .int .i64 s, .bool u] 112));have hb1:=abE hw1;have n1:=anE hw1;obtain⟨_,d1,_⟩:=aal n1;have hl:=aab n1;have HW1:=hE0 hw1;have HB1:=hE0 hb1;clear hw1 hb1 n1 hs;go_enter Tryz.func117,Tryz.ntmps117
 go_wp2_with (first | (rw[HW1.out]) | fail)
 go_ret
 exact⟨rfl,HB1.out⟩
theorem aov (w:World) (A1 A2:Option Addr) (k1 k2:Nat) (l:List Rk) (d:List (List UInt8)) (hr:RkRd w w.heap.size A1 l) (hd:DtRd w w.heap.size A2 d) (hl:l.length<=1000000) (hdl:d.length<=1000000) (hs:∀x∈l,aaD x.s=true) (y:Bool) (hy:datOk l d=y):
 Calls Tryz.prog 180 #[.slice A2 d.length k2, .slice A1 l.length k1] w fun e w'=>e= .returned (.bool y)/\Below w.heap.size w w':=by
 have HR:=hE0 hr;have HD:=hE0 hd;have HY:=hE0 hy;have HS:=hE0 hs;obtain⟨m,hm⟩:=nmE l.length;obtain⟨n,hn⟩:=nmE d.length;rw[hm]at hl ⊢;rw[hn]at hdl ⊢;have HM:=hE0 hm;have HN:=hE0 hn;clear hr hd hy hs hm hn;go_enter Tryz.func180,Tryz.ntmps180
 go_wp2
 go_loopw [5,10] (fun v t wr=>∃(j i:Nat),t= .int .i64 (j:Int)/\v= .int .i64 (i:Int)/\j<=m/\i<=n/\datOk (l.drop j) (d.drop i)=y/\Below w.heap.size w wr) (fun _ t _=>m-(intOf t).toNat)
 case atStart=>exact⟨0,0,rfl,rfl,Nat.zero_le _,Nat.zero_le _,HY.out,Below.refl _ _⟩
 case round=>
  obtain⟨j,i,rfl,rfl,hj,hi,hyy,hb⟩:=hrel;by_cases hlt:j<m
  · obtain⟨x,hx⟩:∃x,l[j]?=some x:=⟨l[j]'(by rw[HM.out];exact hlt),List.getElem?_eq_getElem _⟩;obtain⟨b2,o,rfl,hbb,hcl⟩:=HR.out (by rw[HM.out];omega);obtain⟨p0,p1,p2,hxo,hxs⟩:=hcl j x hx;have r0:=(hb.cell (p:=⟨b2,o+j*3,none⟩) hbb).trans p0;have r1:=(hb.cell (p:=⟨b2,o+j*3+1,none⟩) hbb).trans p1;have r2:=(hb.cell (p:=⟨b2,o+j*3+2,none⟩) hbb).trans p2;have hsx:=HS.out x (List.mem_of_getElem? hx);rw[adM hx]at hyy;unfold datOk at hyy;obtain⟨xo,xs,xu⟩:=x;dsimp only at p0 p1 p2 r0 r1 r2 hyy hxo hxs hsx;obtain⟨w4,hw4⟩:=nmE (wr.alloc (.cells #[.int .i64 xo, .int .i64 xs, .bool xu] 112));have hb4:Below w.heap.size w w4:=by rw[<-hw4];exact hb.alloc hb.size _
    have n4:=anE hw4;obtain⟨d0,d1,d2⟩:=aal n4;have hl4:=aab n4;have HW4:=hE0 hw4;have HB4:=hE0 hb4;have HYY:=hE0 hyy;have HN4:=hE0 n4;clear hx hb p0 p1 p2 hb4 n4 hw4 hcl hyy
    cases xu with
    | false=>
     have HF:Hid (datOk (l.drop (j+1)) (d.drop i)=y):=(show _=y from by
      have e:=HYY.out;rw[if_neg (by decide)]at e;exact e)
     go_wp2_with (first | (rw[HW4.out]) | fail)
     go_roundw
     case rel=>exact⟨j+1,i,by go_num,rfl,by omega,hi,HF.out,HB4.out⟩
     case measure=>simp only[intOf];omega
    | true=>
     by_cases hin:i=n
     · have g0:((i:Int)==(n:Int))=true:=by rw[beq_iff_eq];omega
       have HF:Hid (y=false):=(show y=false from by
        have e:=HYY.out;rw[if_pos rfl,List.drop_eq_nil_of_le (by rw[HN.out];omega)]at e;exact e.symm)
       obtain⟨wd,hwd⟩:=nmE w4.drew;have HWD:=hE0 hwd;have HBD:Hid (Below w.heap.size w wd):=(show Below _ _ _ by rw[<-hwd];exact HB4.out.drew);clear hwd;go_wp2_with (first | (rw[HW4.out]) | fail)
       refine aaq wd.heap.size [([0,1,2,3,4,5,6,7,8,9,10],11)] [12,13] [] (by kernel_rfl) (by kernel_rfl) (by kernel_rfl) (fun _ _ _ _ _ h=>h) ?_;rw[HWD.out];refine tail_cons (l:= ?segA) ?hsegA ?_
       case hsegA=>simp only[pick,lE1,lE2,lE3];rfl
       repeat (go_big_quiet_step (fail))
       refine wpQuiet_nil ?_;refine asA rfl (some 28) rfl rfl ⟨wd.heap.size,Nat.le_refl _,?_⟩;simp only[Act.put,lE4,lE5,lE6];refine aaN (l:= ?lastA) (t:= []) ?hlastA ?htlastA ?_
       case hlastA=>simp only[pick,lE1,lE2,lE3];rfl
       case htlastA=>rfl
       repeat (go_big_quiet_step (fail))
       refine wpQuiet_nil ?_;go_wp2
       go_ret
       exact⟨abe HF.out.symm,HBD.out⟩
     · have g0:((i:Int)==(n:Int))=false:=by rw[beq_eq_false_iff_ne];omega
       have hi2:(i:Int)<(n:Int):=by omega
       obtain⟨z,hz⟩:∃z,d[i]?=some z:=⟨d[i]'(by rw[HN.out];omega),List.getElem?_eq_getElem _⟩;obtain⟨b3,o3,rfl,hb3,hc3⟩:=HD.out (by rw[HN.out];omega);obtain⟨A',kz,z0,_,zl,_,_⟩:=hc3 i z hz;obtain⟨zn,hzn⟩:=nmE z.length;rw[hzn]at z0 zl;unfold maxLen at zl;obtain⟨wd,hwd⟩:=nmE w4.drew;have hwb:=adE hwd;have hbd:=HB4.out.trans (hwb.mono HB4.out.size);have nd:=(hwb.block _ (aab HN4.out)).trans HN4.out;have zd:=(hbd.cell (p:=⟨b3,o3+i,none⟩) hb3).trans z0;have l3:b3<wd.heap.size:=Nat.lt_of_lt_of_le hb3 hbd.size;obtain⟨e0,e1,e2⟩:=aal nd;have le:=aab nd;have hyy:=HYY.out;rw[if_pos rfl,adM hz]at hyy;dsimp only at hyy;rw[hzn]at hyy;have HYZ:=hE0 hyy;have HHELD:=hE0 (ac4 wd xo xs true hsx);have HWD:=hE0 hwd;have HBD:=hE0 hbd;clear hwd hwb hbd nd hyy hz hc3 z0;by_cases hzz:(zn:Int)=xs-16
       · have g1:((zn:Int) !=xs-16)=false:=by rw[bne_eq_false_iff_eq];exact hzz
         have HF:Hid (datOk (l.drop (j+1)) (d.drop (i+1))=y):=(show _=y from by
          have e:=HYZ.out;have e2:((zn:Int)==xs-16)=true:=by rw[beq_iff_eq];exact hzz
          rw[e2,Bool.true_and]at e;exact e)
         clear hzz;go_wp2_with (first | (rw[HW4.out]) | fail)
         refine aaq wd.heap.size [([0,1,2,3,4,5,6,7,8,9,10],11)] [12,13] [] (by kernel_rfl) (by kernel_rfl) (by kernel_rfl) (fun _ _ _ _ _ h=>h) ?_;rw[HWD.out];have q0:=tfE zd l3;have q1:=tfE e0 le;have q2:=tfE e1 le;have q3:=tfE e2 le;refine tail_cons (l:= ?segB) ?hsegB ?_
         case hsegB=>simp only[pick,lE1,lE2,lE3];rfl
         repeat (go_big_quiet_step (fail))
         refine wpQuiet_nil ?_;clear q0 q1 q2 q3;refine aau (vs:= #[.agg #[.int .i64 xo, .int .i64 xs, .bool true]]) Tryz.call117 rfl rfl rfl (R:=fun r w'=>r= .int .i64 (xs-16)/\Below wd.heap.size wd w') (HHELD.out.mono ?_) wd.heap.size (Nat.le_refl _) ?_
         · rintro e w' ⟨rfl,hb⟩;exact⟨_,rfl,hb,rfl,hb⟩
         rintro r w5 hb5 ⟨rfl,_⟩;have HB5:=hE0 (HBD.out.trans (hb5.mono HBD.out.size));clear hb5;simp only[Act.put,lE4,lE5,lE6];refine aaN (l:= ?lastB) (t:= []) ?hlastB ?htlastB ?_
         case hlastB=>simp only[pick,lE1,lE2,lE3];rfl
         case htlastB=>rfl
         repeat (go_big_quiet_step (fail))
         refine wpQuiet_nil ?_;go_wp2
         go_roundw
         case rel=>exact⟨j+1,i+1,by go_num,by go_num,by omega,by omega,HF.out,HB5.out⟩
         case measure=>simp only[intOf];omega
       · have g1:((zn:Int) !=xs-16)=true:=by rw[bne_iff_ne];exact hzz
         have HF:Hid (y=false):=(show y=false from by
          have e:=HYZ.out;have e2:((zn:Int)==xs-16)=false:=by rw[beq_eq_false_iff_ne];exact hzz
          rw[e2,Bool.false_and]at e;exact e.symm)
         clear hzz;go_wp2_with (first | (rw[HW4.out]) | fail)
         refine aaq wd.heap.size [([0,1,2,3,4,5,6,7,8,9,10],11)] [12,13] [] (by kernel_rfl) (by kernel_rfl) (by kernel_rfl) (fun _ _ _ _ _ h=>h) ?_;rw[HWD.out];have q0:=tfE zd l3;have q1:=tfE e0 le;have q2:=tfE e1 le;have q3:=tfE e2 le;refine tail_cons (l:= ?segC) ?hsegC ?_
         case hsegC=>simp only[pick,lE1,lE2,lE3];rfl
         repeat (go_big_quiet_step (fail))
         refine wpQuiet_nil ?_;clear q0 q1 q2 q3;refine aau (vs:= #[.agg #[.int .i64 xo, .int .i64 xs, .bool true]]) Tryz.call117 rfl rfl rfl (R:=fun r w'=>r= .int .i64 (xs-16)/\Below wd.heap.size wd w') (HHELD.out.mono ?_) wd.heap.size (Nat.le_refl _) ?_
         · rintro e w' ⟨rfl,hb⟩;exact⟨_,rfl,hb,rfl,hb⟩
         rintro r w5 hb5 ⟨rfl,_⟩;have HB5:=hE0 (HBD.out.trans (hb5.mono HBD.out.size));clear hb5;simp only[Act.put,lE4,lE5,lE6];refine aaN (l:= ?lastC) (t:= []) ?hlastC ?htlastC ?_
         case hlastC=>simp only[pick,lE1,lE2,lE3];rfl
         case htlastC=>rfl
         repeat (go_big_quiet_step (fail))
         refine wpQuiet_nil ?_;go_wp2
         go_ret
         exact⟨abe HF.out.symm,HB5.out⟩
  · have hdn:l.drop j= []:=List.drop_eq_nil_of_le (by rw[HM.out];omega);rw[hdn]at hyy;unfold datOk at hyy;have HYY:=hE0 hyy;have HBB:=hE0 hb;clear hyy hb hdn;go_wp2
    go_ret
    exact⟨abe (by
     rw[<-HYY.out];by_cases hin:i=n
     · rw[List.drop_eq_nil_of_le (by rw[HN.out];omega)];rw[List.isEmpty_nil,beq_iff_eq];omega
     · have e:((i:Int)==(n:Int))=false:=by rw[beq_eq_false_iff_ne];omega
       rw[e]
       cases hd2:d.drop i with
       | nil=>have:=congrArg List.length hd2;rw[List.length_drop,HN.out]at this;simp at this;omega
       | cons _ _=>rfl),HBB.out⟩
theorem aow (n:Int):((atG n:Nat):Int)=n%18446744073709551616:=by unfold atG;omega
theorem aeG (w:World) (n:Int) (hn: -9223372036854775808<=n/\n<=9223372036854775807) (A1 A2:Option Addr) (k1 k2:Nat) (l:List Rk) (d:List (List UInt8)) (hr:RkRd w w.heap.size A1 l) (hd:DtRd w w.heap.size A2 d) (hl:l.length<=1000000) (hdl:d.length<=1000000) (y:Bool) (hy:aea n l d=y):
 Calls Tryz.prog 118 #[imV n A1 l.length k1 A2 d.length k2] w fun e w'=>e= .returned (.bool y)/\Below w.heap.size w w':=by
 unfold imV;obtain⟨w1,hw1⟩:=nmE (w.alloc (.cells #[.int .i64 n, .slice A1 l.length k1, .slice A2 d.length k2] 107));have hb1:=abE hw1;have n1:=anE hw1;obtain⟨d0,d1,d2⟩:=aal n1;have hl1:=aab n1;have HLEN:Hid (∀W,Calls Tryz.prog 178 #[.int .u64 (n%18446744073709551616)] W fun e w'=>e= .returned (.bool (abT n))/\W=w'):=fun W=>by
  have h:=agc W (atG n) (by unfold atG;omega) (abT n) (aou n hn);rw[aow]at h;exact h
 have HB1:=hE0 hb1;have HR:=hE0 hr;have HD:=hE0 hd;have HY:=hE0 hy;obtain⟨ll,hll⟩:=nmE l.length;obtain⟨dl,hdll⟩:=nmE d.length;have HROW:Hid (abT n=true->Calls Tryz.prog 179 #[.slice A1 ll k1, .int .i64 n] w1 fun e w'=>e= .returned (.bool (abc n 184 false l))/\Below w1.heap.size w1 w'):=fun hk=>by
  have h3:=(aaR n).1 hk;have:=aji w1 A1 k1 l ((hr.below hb1).more hb1.size) hl n ⟨h3.1,h3.2.1⟩ _ rfl;rw[hll]at this;exact this
 have HDAT:Hid (∀W,Below w.heap.size w W->abc n 184 false l=true->Calls Tryz.prog 180 #[.slice A2 dl k2, .slice A1 ll k1] W fun e w'=>e= .returned (.bool (datOk l d))/\Below W.heap.size W w'):=fun W hW hk=>by
  have:=aov W A1 A2 k1 k2 l d ((hr.below hW).more hW.size) ((hd.below hW).more hW.size) hl hdl (aeE hk) _ rfl;rw[hll,hdll]at this;exact this
 rw[hll]at d1;rw[hdll]at d2;rw[hll,hdll];rw[hll,hdll]at hw1 n1;have HN1:=hE0 n1;have HW1:=hE0 hw1;clear hw1 hb1 n1 hr hd hy hll hdll
 cases hlo:abT n with
 | false=>
  have HF:Hid (false=y):=(show false=y by rw[<-HY.out];unfold aea;rw[hlo];rfl);rw[hlo]at HLEN;clear hlo;go_enter Tryz.func118,Tryz.ntmps118
  go_wp2_with (first | (rw[HW1.out]) | fail)
  refine(HLEN.out _).mono ?_;rintro e w2 ⟨rfl,rfl⟩;go_wp2
  go_ret
  exact⟨abe HF.out,HB1.out⟩
 | true=>
  have HROW2:=hE0 (HROW.out hlo);rw[hlo]at HLEN
  cases hro:abc n 184 false l with
  | false=>
   have HF:Hid (false=y):=(show false=y by rw[<-HY.out];unfold aea;rw[hlo,hro];rfl);rw[hro]at HROW2;clear hlo hro;go_enter Tryz.func118,Tryz.ntmps118
   go_wp2_with (first | (rw[HW1.out]) | fail)
   refine(HLEN.out _).mono ?_;rintro e w2 ⟨rfl,rfl⟩;go_wp2_with fail
   refine HROW2.out.mono ?_;rintro e w2 ⟨rfl,hb2⟩;have HF2:=hE0 (HB1.out.trans (hb2.mono HB1.out.size));clear hb2;go_wp2
   go_ret
   exact⟨abe HF.out,HF2.out⟩
  | true=>
   have HDAT2:=hE0 (fun W hW=>HDAT.out W hW hro);have HF:Hid (datOk l d=y):=(show datOk l d=y by rw[<-HY.out];unfold aea;rw[hlo,hro];rfl);rw[hro]at HROW2;clear hlo hro;go_enter Tryz.func118,Tryz.ntmps118
   go_wp2_with (first | (rw[HW1.out]) | fail)
   refine(HLEN.out _).mono ?_;rintro e w2 ⟨rfl,rfl⟩;go_wp2_with fail
   refine HROW2.out.mono ?_;rintro e w2 ⟨rfl,hb2⟩;have hb02:=HB1.out.trans (hb2.mono HB1.out.size);have HD3:=hE0 (HDAT2.out w2 hb02);have n2:=(hb2.block _ (aab HN1.out)).trans HN1.out;obtain⟨e0,e1,e2⟩:=aal n2;have hl2:=aab n2;have HF2:=hE0 hb02;clear hb2 hb02 n2;go_wp2_with fail
   refine HD3.out.mono ?_;rintro e w3 ⟨rfl,hb3⟩;have HF3:=hE0 (HF2.out.trans (hb3.mono HF2.out.size));clear hb3;go_wp2
   go_ret
   exact⟨abe HF.out,HF3.out⟩
theorem aeh:(Tryz.prog.info? 5).map (fun i=>(i.zero,i.size,i.bytes))=some (some (.int .u8 0),1,1):=by kernel_rfl
theorem aqR{w:World}{B n c:Nat}{A:Option Addr}{xs:List Value}{t:TypeId}(h:w.ownsRow B t 1 (.slice A n c) n xs) (hn:0<n):w.ownsRow B t 1 (.slice A 0 c) 0 []:=by
 rcases h.2 with⟨_,h0⟩ | ⟨g,cap,cur,hv,hg,hh,hnc,hcm,hcs,ht⟩
 · omega
 · injection hv with e1 e2 e3;subst e1 e3;exact⟨rfl, .inr ⟨g,c,cur,rfl,hg,hh,Nat.zero_le _,hcm,hcs,by simp⟩⟩
theorem aox (w:World) (n:Nat) (hn:n<=1000000):
 Calls Tryz.prog 181 #[.slice none 0 0, .int .i64 (n:Int)] w fun e w'=>∃A c,e= .returned (.slice A 0 c)/\w'.ownsRow w.heap.size 5 1 (.slice A 0 c) 0 (([]:List UInt8).map bv)/\Below w.heap.size w w':=by
 by_cases h0:n=0
 · subst h0;go_enter Tryz.func181,Tryz.ntmps181
   go_wp2
   go_ret
   exact⟨none,0,rfl,World.ownsRow_nil _ _ _ _,Below.refl _ _⟩
 · obtain⟨A',c',w2,hr,hown,hgr,_⟩:=adw (P:=Tryz.prog) w 37 3 37 5 .i64 Tryz.underlying37 Tryz.underlying3 aeh w.heap.size none 0 [] (World.ownsRow_nil _ _ _ _) n (by simp;omega) (Nat.le_refl _);simp only[List.length_nil,Nat.zero_add]at hr hown;have hfin:w2.ownsRow w.heap.size 5 1 (.slice A' 0 c') 0 (([]:List UInt8).map bv):=aqR hown (by omega);have hbel:Below w.heap.size w w2:=(Below.refl _ _).grown hgr (Nat.le_refl _) (fun k hk=>by cases hk);have hnc:n<=c':=by
    rcases hown.2 with⟨_,h'⟩ | ⟨g,cap,cur,hv,_,_,h',_⟩
    · omega
    · injection hv with _ _ e3;subst e3;exact h'
   have hA:∃g,A'=some ⟨g,0,none⟩:=by
    rcases hown.2 with⟨_,h'⟩ | ⟨g,cap,cur,hv,_⟩
    · omega
    · injection hv with e1 _ _;exact⟨g,e1⟩
   obtain⟨g,rfl⟩:=hA;have h1:decide (0<n)=true:=decide_eq_true (by omega);have HR:=hE0 hr;have HF:=hE0 hfin;have HB:=hE0 hbel;clear hr hfin hbel hown hgr h0;go_enter Tryz.func181,Tryz.ntmps181
   go_wp2_with (at_builtin;refine Lib.wpList_append_run _ rfl (.tmp 20) (.tmp 21) 37 3 rfl _ _ rfl rfl _ _ HR.out ?_)
   go_ret
   exact⟨some ⟨g,0,none⟩,c',rfl,HF.out,HB.out⟩
theorem aeH (d:List (List UInt8)) (j:Nat):(d.take j).flatten.length<=d.flatten.length:=by
 have h:=congrArg (fun l:List (List UInt8)=>l.flatten.length) (List.take_append_drop j d);simp only[List.flatten_append,List.length_append]at h;omega
theorem ae7 (w:World) (A:Option Addr) (k:Nat) (d:List (List UInt8)) (hd:DtRd w w.heap.size A d) (hl:d.length<=1000) (hs:d.flatten.length<=1000000):
 Calls Tryz.prog 119 #[.slice A d.length k] w fun e w'=>∃v,e= .returned v/\w'.ownsRow w.heap.size 5 1 v d.flatten.length (d.flatten.map bv)/\Below w.heap.size w w':=by
 have HD:=hE0 hd;have HS:=hE0 (fun j=>Nat.le_trans (aeH d j) hs);have HGR:=hE0 (aox w d.flatten.length hs);obtain⟨m,hm⟩:=nmE d.length;rw[hm]at hl ⊢;have HM:=hE0 hm;obtain⟨sz,hsz⟩:=nmE d.flatten.length;rw[hsz]at HGR hs ⊢;have HSZ:=hE0 hsz;clear hd hm hsz;go_enter Tryz.func119,Tryz.ntmps119
 go_wp2
 go_loopw [3,11] (fun v t wr=>∃(j s:Nat),t= .int .i64 (j:Int)/\v= .int .i64 (s:Int)/\j<=m/\s=(d.take j).flatten.length/\w=wr) (fun _ t _=>m-(intOf t).toNat)
 case atStart=>exact⟨0,0,rfl,rfl,Nat.zero_le _,rfl,rfl⟩
 case round=>
  obtain⟨j,s,rfl,rfl,hj,hss,rfl⟩:=hrel;by_cases hlt:j<m
  · obtain⟨y,hy⟩:∃y,d[j]?=some y:=⟨d[j]'(by rw[HM.out];exact hlt),List.getElem?_eq_getElem _⟩;obtain⟨b,o,rfl,hb,hc⟩:=HD.out (by rw[HM.out];omega);obtain⟨A',k',c0,_⟩:=hc j y hy;obtain⟨n,hn⟩:=nmE y.length;rw[hn]at c0;have hs1:=HS.out (j+1);rw[ac3 hy,List.length_append,hn,<-hss]at hs1;have HN:Hid (s+n=(d.take (j+1)).flatten.length):=(show _=_ by rw[ac3 hy,List.length_append,hn,<-hss]);have h0:decide ((s:Int)+(n:Int)<0)=false:=decide_eq_false (by omega);clear hc hy hn hss;go_wp2
    go_roundw
    case rel=>exact⟨j+1,s+n,by go_num,by go_num,by omega,HN.out,trivial⟩
    case measure=>simp only[intOf];omega
  · have e:s=sz:=by rw[hss,List.take_of_length_le (by rw[HM.out];omega),HSZ.out]
    subst e;clear hss;go_wp2_with fail
    refine HGR.out.mono ?_;rintro e w2 ⟨A2,c2,rfl,hown2,hb2⟩;have HO2:=hE0 hown2;have HB2:=hE0 hb2;clear hown2 hb2 HGR;go_wp2
    go_loopw [6,27] (fun v t wr=>∃(j:Nat),t= .int .i64 (j:Int)/\j<=m/\wr.ownsRow w.heap.size 5 1 v (d.take j).flatten.length ((d.take j).flatten.map bv)/\Below w.heap.size w wr) (fun _ t _=>m-(intOf t).toNat)
    case atStart=>exact⟨0,rfl,Nat.zero_le _,HO2.out,HB2.out⟩
    case round=>
     obtain⟨i,rfl,hi,hown,hb⟩:=hrel;by_cases hlt2:i<m
     · obtain⟨y,hy⟩:∃y,d[i]?=some y:=⟨d[i]'(by rw[HM.out];exact hlt2),List.getElem?_eq_getElem _⟩;obtain⟨b,o,rfl,hbb,hc⟩:=HD.out (by rw[HM.out];omega);obtain⟨A',k',c0,hrd,_,_,hA⟩:=hc i y hy;have c1:=(hb.cell (p:=⟨b,o+i,none⟩) hbb).trans c0;have hs1:=HS.out (i+1);rw[ac3 hy,List.length_append]at hs1;have HFL:=hE0 (ac3 hy);have HRD:=hE0 ((hrd.below hb).more hb.size);obtain⟨n,hn⟩:=nmE y.length;have HYN:=hE0 hn;obtain⟨q,hq⟩:=nmE ((d.take i).flatten.length);rw[hq]at hown hs1;have HQ:=hE0 hq;rw[hn]at c0 c1 hs1 HRD;have HO:=hE0 hown;have HB:=hE0 hb;clear hc hy hn hown hb hrd hq;go_wp2_with (first
        | (at_builtin;go_must (refine abL rfl (.tmp 31) (.tmp 32) 37 5 rfl Tryz.underlying37 aeh w.heap.size _ q (d.take i).flatten rfl HO.out _ A' n k' y rfl HRD.out hA (by omega) HB.out.size ?_);intro x4 w4 own4 hb4 _
           have HX4:Hid (w4.ownsRow w.heap.size 5 1 x4 (q+n) (((d.take i).flatten++y).map bv)/\Below w.heap.size w w4):=⟨own4,HB.out.trans hb4⟩;clear own4 hb4)
        | fail)
       go_roundw
       case rel=>
        refine⟨i+1,by go_num,by omega,?_,HX4.out.2⟩;rw[HFL.out,List.length_append,HQ.out,HYN.out];exact HX4.out.1
       case measure=>simp only[intOf];omega
     · have e:d.take i=d:=List.take_of_length_le (by rw[HM.out];omega);rw[e,HSZ.out]at hown;have HO:=hE0 hown;have HB:=hE0 hb;clear hown hb e;go_wp2
       go_ret
       exact⟨_,rfl,HO.out,HB.out⟩
theorem afJ (w:World) (B:Nat) (v:Value) (b:List UInt8) (n j:Nat) (hn:b.length=n) (hown:w.ownsRow B 5 1 v n (b.map bv)) (hB:B<=w.heap.size) (hj:j<=n) (hn0:0<n) (hl:n<=900000):
 Calls Tryz.prog 121 #[v, .int .i64 (j:Int)] w fun e w'=>∃v',e= .returned v'/\w'.ownsRow B 5 1 v' (n+4) ((afH b j).map bv)/\Below B w w':=by
 obtain⟨g,c,rfl,hnc,hrd⟩:=alE hown hn0;have hcm:c<=9223372036854775807:=by
  rcases hown.2 with⟨_,h'⟩ | ⟨g,cap,cur,hv,_,_,_,h',_⟩
  · omega
  · injection hv with _ _ e3;subst e3;unfold maxLen at h';exact h'
 have hdl:(b.drop j).length=n-j:=by rw[List.length_drop,hn]
 obtain⟨s,hs⟩:=nmE (abS 0 (b.drop j));have hs32:s<4294967296:=by rw[<-hs];exact ad2 _ _
 have hfin:b++aaF 4 s=afH b j:=by unfold afH ahf;rw[hs]
 have HP4:=hE0 (ahV s w hs32);have HOWN:=hE0 hown;have HFIN:=hE0 hfin;have HSUM:Hid (∀A2 c2,Rd w w.heap.size A2 (n-j) (b.drop j)->Calls Tryz.prog 146 #[.slice A2 (n-j) c2] w fun e w'=>e= .returned (.int .u32 (s:Int))/\w=w'):=fun A2 c2 h=>by
  have:=af3 A2 (n-j) c2 _ _ w h (by omega);rw[hs]at this;exact this
 by_cases hjc:j<c
 · have HR:Hid (Rd w w.heap.size (some ⟨g,j,none⟩) (n-j) (b.drop j)):=(show Rd _ _ _ _ _ by
    have h:=hrd.sub j (n-j) (by omega);rw[List.take_of_length_le (by rw[hdl];exact Nat.le_refl _),Nat.zero_add]at h;exact h)
   have HS:=hE0 (HSUM.out _ (c-j) HR.out);have h1:(j:Int)<(c:Int):=by omega
   clear hown hrd hdl hs hfin HSUM;go_enter Tryz.func121,Tryz.ntmps121
   go_wp2_with fail
   refine HS.out.mono ?_;rintro e w2 ⟨rfl,rfl⟩;go_wp2_with fail
   refine HP4.out.mono ?_;rintro e w2 ⟨rfl,hf,hb⟩;have HRD:Hid (Rd w2 w2.heap.size (some ⟨w.heap.size,0,none⟩) 4 (aaF 4 s)):=(show Rd _ _ _ _ _ by
    have:=hf.reads;rw[aag]at this;exact this)
   have HO2:=hE0 (acg HOWN.out hb);have HB2:=hE0 hb;have HBS:=hE0 (Nat.le_trans hB hb.size);clear hf hb;go_wp2_with (first
    | (at_builtin;go_must (refine abL rfl (.tmp 5) (.tmp 10) 37 5 rfl Tryz.underlying37 aeh B _ n b rfl HO2.out _ (some ⟨w.heap.size,0,none⟩) 4 4 (aaF 4 s) rfl HRD.out (fun e=>by cases e) (by omega) HBS.out ?_);intro x4 w4 own4 hb4 _
       have HX4:Hid (w4.ownsRow B 5 1 x4 (n+4) ((b++aaF 4 s).map bv)/\Below B w w4):=⟨own4,(HB2.out.mono hB).trans hb4⟩;clear own4 hb4)
    | fail)
   go_ret
   exact⟨_,rfl,HFIN.out▸HX4.out.1,HX4.out.2⟩
 · obtain rfl:n=j:=by omega
   obtain rfl:n=c:=by omega
   have HR:Hid (Rd w w.heap.size (some ⟨g,0,none⟩) (n-n) (b.drop n)):=(show Rd _ _ _ _ _ by
    have:b.drop n= []:=List.eq_nil_of_length_eq_zero (by rw[hdl];omega);rw[this,Nat.sub_self];exact Rd.nil_)
   have HS:=hE0 (HSUM.out _ (n-n) HR.out);rw[Nat.sub_self]at HS;clear hown hrd hdl hs hfin HSUM;go_enter Tryz.func121,Tryz.ntmps121
   go_wp2_with fail
   refine HS.out.mono ?_;rintro e w2 ⟨rfl,rfl⟩;go_wp2_with fail
   refine HP4.out.mono ?_;rintro e w2 ⟨rfl,hf,hb⟩;have HRD:Hid (Rd w2 w2.heap.size (some ⟨w.heap.size,0,none⟩) 4 (aaF 4 s)):=(show Rd _ _ _ _ _ by
    have:=hf.reads;rw[aag]at this;exact this)
   have HO2:=hE0 (acg HOWN.out hb);have HB2:=hE0 hb;have HBS:=hE0 (Nat.le_trans hB hb.size);clear hf hb;go_wp2_with (first
    | (at_builtin;go_must (refine abL rfl (.tmp 5) (.tmp 10) 37 5 rfl Tryz.underlying37 aeh B _ n b rfl HO2.out _ (some ⟨w.heap.size,0,none⟩) 4 4 (aaF 4 s) rfl HRD.out (fun e=>by cases e) (by omega) HBS.out ?_);intro x4 w4 own4 hb4 _
       have HX4:Hid (w4.ownsRow B 5 1 x4 (n+4) ((b++aaF 4 s).map bv)/\Below B w w4):=⟨own4,(HB2.out.mono hB).trans hb4⟩;clear own4 hb4)
    | fail)
   go_ret
   exact⟨_,rfl,HFIN.out▸HX4.out.1,HX4.out.2⟩
theorem ab2{w w':World}{B' base n size:Nat}{t:TypeId}{v:Value}{xs:List Value}(h:w.ownsRow base t size v n xs) (hb:Below B' w w') (hlt:∀k,v.ownBlock=some k->k<B'):w'.ownsRow base t size v n xs:=by
 refine⟨h.1,?_⟩;rcases h.2 with h2 | ⟨g,cap,cur,hv,hg,hh,r⟩
 · exact .inl h2
 · exact .inr ⟨g,cap,cur,hv,hg,(hb.block g (hlt g (by rw[hv];rfl))).trans hh,r⟩
theorem acG{w w':World}{base n size:Nat}{t:TypeId}{v:Value}{xs:List Value}{r:Option Nat}(h:w.ownsRow base t size v n xs) (hg:w.grownBy w' r) (hne:∀k,v.ownBlock=some k->r≠some k):w'.ownsRow base t size v n xs:=by
 refine⟨h.1,?_⟩;rcases h.2 with h2 | ⟨g,cap,cur,hv,hb,hh,q⟩
 · exact .inl h2
 · have hk:v.ownBlock=some g:=by rw[hv];rfl
   refine .inr ⟨g,cap,cur,hv,hb,?_,q⟩;obtain⟨_,_,_,_,h5⟩:=hg;exact(h5 g (h.lt g hk).2 (fun e=>hne g hk e.symm)).trans hh
theorem ad6{w:World}{base base' n size:Nat}{t:TypeId}{v:Value}{xs:List Value}(h:w.ownsRow base t size v n xs) (hb:base'<=base):w.ownsRow base' t size v n xs:=by
 refine⟨h.1,?_⟩;rcases h.2 with h2 | ⟨g,cap,cur,hv,hg,r⟩
 · exact .inl h2
 · exact .inr ⟨g,cap,cur,hv,Nat.le_trans hb hg,r⟩
theorem aei{w:World}{base n size:Nat}{t:TypeId}{v:Value}{xs:List Value}(h:w.ownsRow base t size v n xs):∃A c,v= .slice A n c/\(A=none->c=0):=by
 rcases h.2 with⟨rfl,h0⟩ | ⟨g,cap,cur,rfl,_⟩
 · exact⟨none,0,by rw[h0],fun _=>rfl⟩
 · exact⟨_,cap,rfl,fun e=>by cases e⟩
theorem acH{w:World}{base n c:Nat}{A:Option Addr}{bs:List UInt8}(h:w.ownsRow base 5 1 (.slice A n c) n (bs.map bv)):Rd w w.heap.size A n bs:=by
 obtain⟨A',c',e,_,hr⟩:=ahS h;injection e with e1 _ _;subst e1;exact hr
theorem amR (n:Nat) (l:List Rk) (d:List (List UInt8)):ahg n l++d.flatten++ahf d.flatten=akk n l d:=by
 unfold akk afH;rw[List.drop_left' rfl]
theorem amS (n:Nat) (l:List Rk) (d:List (List UInt8)):akk n l d++ahf (akk n l d)=aaU n l d:=by unfold aaU afH;rw[List.drop_zero]
theorem alX (n:Nat) (l:List Rk) (d:List (List UInt8)):(akk n l d).length=36+8*l.length+d.flatten.length:=by
 rw[<-amR,List.length_append,List.length_append,adk,ab1];omega
theorem ahh (n:Nat) (l:List Rk) (d:List (List UInt8)):(aaU n l d).length=40+8*l.length+d.flatten.length:=by
 rw[<-amS,List.length_append,alX,ab1];omega
theorem aqS (l:List Rk) (j:Nat):(acp (l.take j)).length<=8*l.length:=by rw[adL,List.length_take];omega
section
variable {P:Program}
theorem ajj (v:World) (t e:TypeId) (g:Nat) (C:Array Value) (n c:Nat) (ht:P.underlying t=some (.slice e)) (he:P.underlying e=some (.int .u8)) (hg:v.heap[g]?=some (.cells C e (0,0))):
 ∃v',(convert t t (.slice (some ⟨g,0,none⟩) n c)).run P v= .ok (.slice (some ⟨g,0,none⟩) n c) v'/\v'.heap[g]?=some (.cells C e (C.size,C.size+1))/\v'.heap.size=v.heap.size/\(∀k,k≠g->v'.heap[k]?=v.heap[k]?)/\∀B,B<=g->Below B v v':=by
 have hsh:v.shape? g=some (e,C.size):=by
  unfold World.shape?;rw[hg]
 refine⟨v.freeze ⟨g,C.size,none⟩ 1,?_,?_,?_,fun k hk=> ?_,fun B hB=> ?_⟩
 · simp[convert,run_underlying ht,run_underlying he,markStringish,hsh]
 · unfold World.freeze;rw[if_neg (by decide)];show(v.heap.modify g _)[g]?=_;rw[Array.getElem?_modify,if_pos rfl,hg];rfl
 · unfold World.freeze;rw[if_neg (by decide)];simp
 · unfold World.freeze;rw[if_neg (by decide)];show(v.heap.modify g _)[k]?=_;rw[Array.getElem?_modify,if_neg (fun e=>hk e.symm)]
 · unfold World.freeze;rw[if_neg (by decide)];refine⟨rfl,rfl,rfl,by simp,fun k hk=> ?_⟩;show(v.heap.modify g _)[k]?=_;rw[Array.getElem?_modify,if_neg (by omega)]
theorem alY{o:Oper}{a:Act}{w w1:World}{f t:TypeId}{x:Operand}{V V':Value}(ho:o.op= .convert f t x) (hx:a.eval x=V) (h:(convert f t V).run P w= .ok V' w1):(execOp a.eval o).run P w= .ok (.value V') w1:=by
 unfold execOp;simp only[ho];rw[hx,Sem.run_bind,h];rfl
end
theorem acj{w:World}{g:Nat}{t:TypeId}{fz:Nat × Nat}{bs:List UInt8}(h:w.heap[g]?=some (.cells (ab6 bs) t fz)):Rd w w.heap.size (some ⟨g,0,none⟩) bs.length bs:=by
 have hlt:g<w.heap.size:=by
  rcases Nat.lt_or_ge g w.heap.size with h' | h'
  · exact h'
  · rw[Array.getElem?_eq_none h']at h;cases h
 refine⟨rfl,fun _=>⟨g,0,rfl,hlt,fun j u hu=> ?_⟩⟩;rw[Nat.zero_add,cell_of_row w g j _ _ fz h];unfold ab6;simp[hu];rfl
theorem afK{w:World}{g:Nat}{cs:Array Value}{t:TypeId}{fz:Nat × Nat}(h:w.heap[g]?=some (.cells cs t fz)):g<w.heap.size:=by
 rcases Nat.lt_or_ge g w.heap.size with h' | h'
 · exact h'
 · rw[Array.getElem?_eq_none h']at h;cases h
theorem aqT (w:World):(Instr.buildSlice 37 8 #[(0, .int .u8 67),(1, .int .u8 78),(2, .int .u8 84),(3, .int .u8 76),(4, .int .u8 1),(5, .int .u8 0),(6, .int .u8 0),(7, .int .u8 0)]).run Tryz.prog w= .ok (.slice (some ⟨w.heap.size,0,none⟩) 8 8) (w.alloc (.cells (ab6 imMarkB) 5)):=by
 have e:ab6 imMarkB= #[.int .u8 67, .int .u8 78, .int .u8 84, .int .u8 76, .int .u8 1, .int .u8 0, .int .u8 0, .int .u8 0]:=by rfl
 rw[e];simp[go_sem]
theorem aoy (w:World) (A B C:Option Addr) (a b c d e f:Nat):(Instr.buildSlice 57 3 #[(0, .slice A a b),(1, .slice B c d),(2, .slice C e f)]).run Tryz.prog w= .ok (.slice (some ⟨w.heap.size,0,none⟩) 3 3) (w.alloc (.cells #[.slice A a b, .slice B c d, .slice C e f] 37)):=by
 simp[go_sem]
theorem aqU{w:World}{g:Nat}{A B C:Option Addr}{a b c:Nat}{x y z:List UInt8}(hg:w.heap[g]?=some (.cells #[.slice A x.length a, .slice B y.length b, .slice C z.length c] 37 (0,0)))
 (hx:Rd w w.heap.size A x.length x) (hy:Rd w w.heap.size B y.length y) (hz:Rd w w.heap.size C z.length z) (ha:x.length<=a/\(A=none->a=0)) (hb:y.length<=b/\(B=none->b=0)) (hc:z.length<=c/\(C=none->c=0)) (hl:x.length<=maxLen/\y.length<=maxLen/\z.length<=maxLen):
 DtRd w w.heap.size (some ⟨g,0,none⟩) [x,y,z]:=fun _=>by
 obtain⟨c0,c1,c2⟩:=aal hg;refine⟨g,0,rfl,aab hg,fun j u hu=> ?_⟩;match j,hu with
 | 0,hu=>injection hu with hu;subst hu;exact⟨A,a,c0,hx,hl.1,ha⟩
 | 1,hu=>injection hu with hu;subst hu;exact⟨B,b,c1,hy,hl.2.1,hb⟩
 | 2,hu=>injection hu with hu;subst hu;exact⟨C,c,c2,hz,hl.2.2,hc⟩
 | j+3,hu=>cases hu
theorem amT (n ll:Nat) (w8:World) (r a b c:Nat) (n8:w8.heap[r]?=some (.cells #[.slice (some ⟨a,0,none⟩) 8 8, .slice (some ⟨b,0,none⟩) 8 8, .slice (some ⟨c,0,none⟩) 8 8] 37 (0,0)))
 (h1:Rd w8 w8.heap.size (some ⟨a,0,none⟩) imMarkB.length imMarkB) (h2:Rd w8 w8.heap.size (some ⟨b,0,none⟩) (aaF 8 n).length (aaF 8 n)) (h3:Rd w8 w8.heap.size (some ⟨c,0,none⟩) (aaF 8 ll).length (aaF 8 ll)):
 Calls Tryz.prog 119 #[.slice (some ⟨r,0,none⟩) 3 3] w8 fun e w'=>∃v,e= .returned v/\w'.ownsRow w8.heap.size 5 1 v 24 ((aeb n ll).map bv)/\Below w8.heap.size w8 w':=by
 have hd8:DtRd w8 w8.heap.size (some ⟨r,0,none⟩) [imMarkB,aaF 8 n,aaF 8 ll]:=by
  refine aqU (a:=8) (b:=8) (c:=8) (A:=some ⟨a,0,none⟩) (B:=some ⟨b,0,none⟩) (C:=some ⟨c,0,none⟩) ?_ h1 h2 h3 ⟨Nat.le_refl _,fun e=>by cases e⟩ ⟨by rw[aag];exact Nat.le_refl _,fun e=>by cases e⟩ ⟨by rw[aag];exact Nat.le_refl _,fun e=>by cases e⟩ ⟨by unfold maxLen imMarkB;simp,by rw[aag];unfold maxLen;omega,by rw[aag];unfold maxLen;omega⟩;rw[aag,aag];exact n8
 have hc8:=ae7 w8 (some ⟨r,0,none⟩) 3 [imMarkB,aaF 8 n,aaF 8 ll] hd8 (by simp) (by simp[imMarkB,aag]);have e8:([imMarkB,aaF 8 n,aaF 8 ll]:List (List UInt8)).flatten=aeb n ll:=by unfold aeb;simp
 rw[e8,aeF]at hc8;exact hc8
def imR (B n ll:Nat) (i:Nat) (D:Nat->Prop) (v:Value) (w:World):Prop:=match i with
 | 0=>¬D 1->∃r,v= .slice (some ⟨r,0,none⟩) 8 8/\B<=r/\w.heap[r]?=some (.cells (ab6 imMarkB) 5 (0,0))
 | 1=>∃r,v= .slice (some ⟨r,0,none⟩) 8 8/\Rd w w.heap.size (some ⟨r,0,none⟩) imMarkB.length imMarkB
 | 5=>∃r,v= .slice (some ⟨r,0,none⟩) 8 8/\Rd w w.heap.size (some ⟨r,0,none⟩) (aaF 8 n).length (aaF 8 n)
 | 10=>∃r,v= .slice (some ⟨r,0,none⟩) 8 8/\Rd w w.heap.size (some ⟨r,0,none⟩) (aaF 8 ll).length (aaF 8 ll)
 | 11=>D 1/\∃r a b c,v= .slice (some ⟨r,0,none⟩) 3 3/\w.heap[r]?=some (.cells #[.slice (some ⟨a,0,none⟩) 8 8, .slice (some ⟨b,0,none⟩) 8 8, .slice (some ⟨c,0,none⟩) 8 8] 37 (0,0))/\
  Rd w w.heap.size (some ⟨a,0,none⟩) imMarkB.length imMarkB/\Rd w w.heap.size (some ⟨b,0,none⟩) (aaF 8 n).length (aaF 8 n)/\Rd w w.heap.size (some ⟨c,0,none⟩) (aaF 8 ll).length (aaF 8 ll)
 | 12=>D 11/\w.ownsRow B 5 1 v 24 ((aeb n ll).map bv)
 | _=>True
def imI:List Nat:= [0,1,5,10,11,12]
def avn (i:Nat):List Nat:=match i with
 | 1=> [0]
 | 10=> [5]
 | 11=> [1,5,10]
 | 12=> [11]
 | _=> []
theorem aqV{B n ll:Nat}{D D':Nat->Prop}{v:Value}{w w':World}(hD:∀k,D k->D' k) (hb:Below w.heap.size w w'){i:Nat}(hi:i∈imI) (h:imR B n ll i D v w):imR B n ll i D' v w':=by
 have k:∀{A:Option Addr} {m:Nat} {bs:List UInt8},Rd w w.heap.size A m bs->Rd w' w'.heap.size A m bs:=fun h=>(h.below hb).more hb.size;unfold imI at hi;simp only[List.mem_cons,List.not_mem_nil,or_false]at hi;rcases hi with rfl | rfl | rfl | rfl | rfl | rfl
 · exact fun h1=>(h fun x=>h1 (hD 1 x)).imp fun r h=>⟨h.1,h.2.1,(hb.block _ (afK h.2.2)).trans h.2.2⟩
 · exact h.imp fun r h=>⟨h.1,k h.2⟩
 · exact h.imp fun r h=>⟨h.1,k h.2⟩
 · exact h.imp fun r h=>⟨h.1,k h.2⟩
 · obtain⟨h0,r,a,b,c,h1,h2,h3,h4,h5⟩:=h;exact⟨hD 1 h0,r,a,b,c,h1,(hb.block _ (afK h2)).trans h2,k h3,k h4,k h5⟩
 · exact⟨hD 11 h.1,acg h.2 hb⟩
theorem aqW (w:World) (n:Nat) (hn:n<9223372036854775808) (A1 A2:Option Addr) (k1 k2:Nat) (l:List Rk) (d:List (List UInt8)) (hr:RkRd w w.heap.size A1 l) (hd:DtRd w w.heap.size A2 d) (hl:l.length<=1000) (hdl:d.length<=1000) (hfl:d.flatten.length<=100000) (hm:aea (n:Int) l d=true):
 Calls Tryz.prog 59 #[imV (n:Int) A1 l.length k1 A2 d.length k2] w fun e w'=>∃A c,e= .returned (.tuple #[.slice A (aaU n l d).length c, .nilIface])/\w'.ownsRow w.heap.size 5 1 (.slice A (aaU n l d).length c) (aaU n l d).length ((aaU n l d).map bv)/\Below w.heap.size w w':=by
 rw[ahh];have HPT:=hE0 (fun j=>aqS l j);have HFT:=hE0 (fun j=>Nat.le_trans (aeH d j) hfl);have HTL:=hE0 (adL l);obtain⟨fl,hfl'⟩:∃fl,d.flatten.length=fl:=⟨_,rfl⟩;rw[hfl']at hfl;rw[hfl'];have HFL:=hE0 hfl';have HAL:=hE0 (afI n l.length);have HTTL:=hE0 (adk n l);have HDL2:=hE0 (alX n l d);obtain⟨w1,hw1⟩:=nmE (w.alloc (.cells #[.int .i64 (n:Int), .slice A1 l.length k1, .slice A2 d.length k2] 107));have hb1:=abE hw1;have n1:=anE hw1;have HM:=hE0 (aeG w1 (n:Int) (by omega) A1 A2 k1 k2 l d ((hr.below hb1).more hb1.size) ((hd.below hb1).more hb1.size) (by omega) (by omega) _ hm);unfold imV at HM ⊢;obtain⟨ll,hll⟩:=nmE l.length;obtain⟨dl,hdll⟩:=nmE d.length;have HLL:=hE0 hll;have HDLL:=hE0 hdll;have HPTE:Hid (afH (akD n ll++acp l) 28=ahg n l):=(show _=_ by rw[<-hll];rfl);obtain⟨T,hT⟩:=nmE ((ahg n l).length);have HTL2:=hE0 hT;have HPDE:Hid (afH (ahg n l++d.flatten) T=akk n l d):=(show _=_ by rw[<-hT];rfl);have HTE:Hid (28+8*ll+4=T):=(show _=_ by rw[<-hT,adk,hll];omega);rw[hll]at hl HPT HTL HAL HTTL HDL2;rw[hfl']at HDL2;rw[hdll]at hdl;rw[hll,hdll]at n1 hw1 HM;rw[hll,hdll];obtain⟨d0,d1,d2⟩:=aal n1;have hl1:=aab n1;have HB1:=hE0 hb1;have HW1:=hE0 hw1;have HR:=hE0 ((hr.below hb1).more hb1.size);have HD:=hE0 ((hd.below hb1).more hb1.size);have HN1:=hE0 n1;clear hw1 hb1 n1 hr hd hll hdll hfl' hm;go_enter Tryz.func59,Tryz.ntmps59
 go_wp2_with (first | (rw[HW1.out]) | fail)
 refine HM.out.mono ?_;rintro e w2 ⟨rfl,hb2⟩;obtain⟨wd,hwd⟩:=nmE w2.drew;have hbd:Below w1.heap.size w1 wd:=by rw[<-hwd];exact hb2.drew
 have nd:=(hbd.block _ (aab HN1.out)).trans HN1.out;obtain⟨c0,c1,c2⟩:=aal nd;have hld:=aab nd;have HBD:=hE0 hbd;have HWD:=hE0 hwd;have HND:=hE0 nd;have HPUT:=hE0 (fun W v (hv:v<18446744073709551616)=>af1 v W hv);clear hb2 hwd hbd nd d0 d1 d2 HM;go_wp2_with fail
 go_cut [4] from 10 (fun b wx=>wx.ownsRow wd.heap.size 5 1 b 24 ((aeb n ll).map bv)/\Below wd.heap.size wd wx)
 case first=>
  refine acU wd.heap.size (.two [2,3,4,6,7,8,9] 0 (.two [] 1 (.one [] 5 (.one [] 10 (.one [] 11 (.one [] 12 (.fin [13]))))) 5 (.two [] 1 (.one [] 10 (.one [] 11 (.one [] 12 (.fin [13])))) 10 (.one [] 1 (.one [] 11 (.one [] 12 (.fin [13])))))) 5 (.two [] 0 (.two [] 1 (.one [] 10 (.one [] 11 (.one [] 12 (.fin [13])))) 10 (.one [] 1 (.one [] 11 (.one [] 12 (.fin [13]))))) 10 (.one [] 0 (.one [] 1 (.one [] 11 (.one [] 12 (.fin [13]))))))) [] (by kernel_rfl) (by kernel_rfl) (by kernel_rfl) (fun _ _ _ _ _ h=>h) ?_;rw[HWD.out];have q0:=tfE c0 hld;have q1:=tfE c1 hld;refine aev (l:= ?segA) ?hsegA ?_
  case hsegA=>simp only[pick,lE1,lE2,lE3];rfl
  repeat (go_big_quiet_step (fail))
  refine wpQuiet_nil ?_;clear q0 q1;refine alM (PT.any_inv (I:=imI) (d:=fun i=>14+i) (dp:=avn) (Inv:=fun D f w=>∀j,D j->imR wd.heap.size n ll j D (f j) w) (w0:=wd) (last:= [13]) (fun i _ j _ e=>Nat.add_left_cancel (show 14+i=14+j from e)) (fun i hi=>alL fun dn f W hn hI hdp hR hb=> ?_) (fun f W hI hb=> ?_) _ [] (fun _=>undef) wd (by kernel_rfl) (fun _ h=>by cases h) (fun _ h=>by cases h) (Below.refl _ _))
  · have hk:∀w',Below W.heap.size W w'->∀j∈dn,imR wd.heap.size n ll j (fun j=>j=i\/j∈dn) (f j) w':=fun w' b j hj=>aqV (fun k h=> .inr h) b (hI j hj) (hR j hj);generalize hX:abb (fun i=>14+i) f dn _=X;have ev:∀j∈dn,j<13->X.eval (.tmp (14+j))=f j:=fun j hj h13=>by
     rw[<-hX];exact ag7 (d:=fun i=>14+i) (I:=imI) (fun i _ j _ e=>Nat.add_left_cancel (show 14+i=14+j from e)) hI hj _ (by show 14+j<_;simp;omega)
    have old:=fun(t:Nat) (ht:∀i∈imI,14+i≠t)=>aiZ (d:=fun i=>14+i) (f:=f) (l:=dn) (t:=t) fun i hi=>ht i (hI i hi);unfold imI at hi;simp only[List.mem_cons,List.not_mem_nil,or_false]at hi;rcases hi with rfl | rfl | rfl | rfl | rfl | rfl
    · have hb1:Below W.heap.size W (W.alloc (.cells (ab6 imMarkB) 5)):=(Below.refl _ _).alloc (Nat.le_refl _) _;exact abX (some 14) (w1:=W.alloc (.cells (ab6 imMarkB) 5)) (v:= .slice (some ⟨W.heap.size,0,none⟩) 8 8) rfl rfl rfl (acA rfl rfl (aqT W)) (hb1.mono hb.size) ⟨wd.heap.size,Nat.le_refl _,_,rfl,fun _=>⟨W.heap.size,rfl,hb.size,heap_alloc_new W _⟩,hk _ hb1⟩
    · have h0:=hdp 0 (by decide);obtain⟨r,e,hr,hg⟩:=hR 0 h0 hn;obtain⟨v',hrun,fm,sz,kp,bl⟩:=ajj (P:=Tryz.prog) W 37 5 r (ab6 imMarkB) 8 8 Tryz.underlying37 Tryz.underlying5 hg;have k:∀{A:Option Addr} {m:Nat} {bs:List UInt8},Rd W W.heap.size A m bs->Rd v' v'.heap.size A m bs:=fun h=>by
       rw[sz];refine h.keep fun p _=> ?_;by_cases ep:p.block=r
       · obtain⟨pb,po,ps⟩:=p;dsimp only at ep;subst ep;simp[World.cell?,hg,fm]
       · exact World.cell?_of_block (kp _ ep)
      refine abX (some 15) rfl rfl rfl (alY rfl ((ev 0 h0 (by omega)).trans e) hrun) (bl wd.heap.size hr) ⟨wd.heap.size,Nat.le_refl _,_,rfl,⟨r,rfl,acj fm⟩,fun j hj=> ?_⟩;have hj2:=hI j hj;unfold imI at hj2;simp only[List.mem_cons,List.not_mem_nil,or_false]at hj2;rcases hj2 with rfl | rfl | rfl | rfl | rfl | rfl
      · exact fun h=>absurd (.inl rfl) h
      · exact absurd hj hn
      · exact(hR 5 hj).imp fun r h=>⟨h.1,k h.2⟩
      · exact(hR 10 hj).imp fun r h=>⟨h.1,k h.2⟩
      · exact absurd (hR 11 hj).1 hn
      · exact absurd (hR 11 (hR 12 hj).1).1 hn
    · refine aau (vs:= #[.int .u64 (n:Int)]) Tryz.call120 rfl rfl (congrArg (fun x=> [x]) (by rw[<-hX];exact old 18 (by decide) _)) (R:=fun r w'=>(∃x,r= .slice (some ⟨x,0,none⟩) 8 8/\Rd w' w'.heap.size (some ⟨x,0,none⟩) (aaF 8 n).length (aaF 8 n))/\Below W.heap.size W w') ((HPUT.out W n (by omega)).mono ?_) wd.heap.size (Nat.le_refl _) ?_
      · rintro e w' ⟨rfl,hf,hb'⟩;exact⟨_,rfl,hb'.mono hb.size,⟨_,rfl,acj hf⟩,hb'⟩
      · rintro r w' _ ⟨hx,hb'⟩;exact⟨_,rfl,hx,hk _ hb'⟩
    · refine aau (vs:= #[.int .u64 (ll:Int)]) Tryz.call120 rfl rfl (congrArg (fun x=> [x]) (by rw[<-hX];exact old 23 (by decide) _)) (R:=fun r w'=>(∃x,r= .slice (some ⟨x,0,none⟩) 8 8/\Rd w' w'.heap.size (some ⟨x,0,none⟩) (aaF 8 ll).length (aaF 8 ll))/\Below W.heap.size W w') ((HPUT.out W ll (by omega)).mono ?_) wd.heap.size (Nat.le_refl _) ?_
      · rintro e w' ⟨rfl,hf,hb'⟩;exact⟨_,rfl,hb'.mono hb.size,⟨_,rfl,acj hf⟩,hb'⟩
      · rintro r w' _ ⟨hx,hb'⟩;exact⟨_,rfl,hx,hk _ hb'⟩
    · have h1:=hdp 1 (by decide);have h5:=hdp 5 (by decide);have h10:=hdp 10 (by decide);obtain⟨a,ea,ra⟩:=hR 1 h1;obtain⟨b,eb,rb⟩:=hR 5 h5;obtain⟨c,ec,rc⟩:=hR 10 h10;obtain⟨w8,hw8⟩:=nmE (W.alloc (.cells #[.slice (some ⟨a,0,none⟩) 8 8, .slice (some ⟨b,0,none⟩) 8 8, .slice (some ⟨c,0,none⟩) 8 8] 37));have hb8:=abE hw8;have n8:=anE hw8;have k:∀{A:Option Addr} {m:Nat} {bs:List UInt8},Rd W W.heap.size A m bs->Rd w8 w8.heap.size A m bs:=fun h=>(h.below hb8).more hb8.size;have x1:X.eval (.tmp 15)=_:=(ev 1 h1 (by omega)).trans ea;have x5:X.eval (.tmp 19)=_:=(ev 5 h5 (by omega)).trans eb;have x10:X.eval (.tmp 24)=_:=(ev 10 h10 (by omega)).trans ec;refine abX (some 25) (w1:=w8) (v:= .slice (some ⟨W.heap.size,0,none⟩) 3 3) rfl rfl rfl (by rw[<-hw8];exact acA rfl (by simp only[List.map_cons,List.map_nil];rw[x1,x5,x10]) (aoy W _ _ _ _ _ _ _ _ _)) (hb8.mono hb.size) ⟨wd.heap.size,Nat.le_refl _,_,rfl,⟨.inr h1,W.heap.size,a,b,c,rfl,n8,k ra,k rb,k rc⟩,hk _ hb8⟩
    · have h11:=hdp 11 (by decide);obtain⟨_,r,a,b,c,er,hg,r1,r2,r3⟩:=hR 11 h11;refine aau (vs:= #[.slice (some ⟨r,0,none⟩) 3 3]) Tryz.call119 rfl rfl (congrArg (fun x=> [x]) ((ev 11 h11 (by omega)).trans er)) (R:=fun q w'=>w'.ownsRow W.heap.size 5 1 q 24 ((aeb n ll).map bv)/\Below W.heap.size W w') ((amT n ll W r a b c hg r1 r2 r3).mono ?_) wd.heap.size (Nat.le_refl _) ?_
      · rintro e w' ⟨v,rfl,ho,hb'⟩;exact⟨_,rfl,hb'.mono hb.size,ho,hb'⟩
      · rintro q w' _ ⟨ho,hb'⟩;exact⟨_,rfl,⟨.inr h11,ad6 ho hb.size⟩,hk _ hb'⟩
  · obtain⟨_,ho⟩:=hI 12 (by decide);have HO:=hE0 ho;have HB:=hE0 hb;clear hI ho hb;unfold imI;simp only[abb,Act.put,List.setIfInBounds_toArray,List.set_cons_zero,List.set_cons_succ,Nat.reduceAdd];refine aew (l:= ?finA) (t:= []) ?hfinA ?htfinA ?_
    case hfinA=>simp only[pick,lE1,lE2,lE3];rfl
    case htfinA=>rfl
    repeat (go_big_quiet_step (fail))
    refine wpQuiet_nil ?_;go_wp2_with fail
    go_meet
    case rel=>exact⟨HO.out,HB.out⟩
 case rest=>
  obtain⟨ho,hb⟩:=hcut;have HO:=hE0 ho;have HBC:=hE0 hb;clear ho hb;have HW1S:=hE0 (afJ wc wd.heap.size _ (aeb n ll) 24 0 (aeF n ll) HO.out HBC.out.size (by omega) (by omega) (by omega));go_wp2_with fail
  refine HW1S.out.mono ?_;rintro e w2 ⟨x2,rfl,ho2,hb2⟩;have HO2:Hid (w2.ownsRow wd.heap.size 5 1 x2 28 ((akD n ll).map bv)):=ho2;have HB2:=hE0 (HBC.out.trans hb2);clear ho2 hb2 HW1S HO HBC;have e1:=(HB2.out.cell (p:=⟨w.heap.size,1,none⟩) hld).trans c1;have hl2:w.heap.size<w2.heap.size:=Nat.lt_of_lt_of_le hld HB2.out.size;go_wp2
  go_loopw [4,32] (fun v t wr=>∃(j:Nat),t= .int .i64 (j:Int)/\j<=ll/\wr.ownsRow wd.heap.size 5 1 v (28+(acp (l.take j)).length) ((akD n ll++acp (l.take j)).map bv)/\Below wd.heap.size wd wr) (fun _ t _=>ll-(intOf t).toNat)
  case atStart=>
   refine⟨0,rfl,Nat.zero_le _,?_,HB2.out⟩;have e:akD n ll++acp (l.take 0)=akD n ll:=by rw[List.take_zero];exact List.append_nil _
   rw[e];exact HO2.out
  case round=>
   obtain⟨j,rfl,hj,hown,hb⟩:=hrel;by_cases hlt:j<ll
   · obtain⟨x,hx⟩:∃x,l[j]?=some x:=⟨l[j]'(by rw[HLL.out];exact hlt),List.getElem?_eq_getElem _⟩;obtain⟨b2,o,rfl,hbb,hcl⟩:=HR.out (by rw[HLL.out];omega);obtain⟨p0,p1,p2,hxo,hxs⟩:=hcl j x hx;have hb1w:=HBD.out.trans (hb.mono HBD.out.size);have r0:=(hb1w.cell (p:=⟨b2,o+j*3,none⟩) hbb).trans p0;have r1:=(hb1w.cell (p:=⟨b2,o+j*3+1,none⟩) hbb).trans p1;have r2:=(hb1w.cell (p:=⟨b2,o+j*3+2,none⟩) hbb).trans p2;have HTG:=hE0 (amQ hx);have HT1:=HPT.out j;obtain⟨xo,xs,xu⟩:=x;dsimp only at p0 p1 p2 r0 r1 r2 hxs HTG;obtain⟨w4,hw4⟩:=nmE (wr.alloc (.cells #[.int .i64 xo, .int .i64 xs, .bool xu] 112));have hb4:=abE hw4;have n4:=anE hw4;obtain⟨x0,x1,x2⟩:=aal n4;have hl4:=aab n4;obtain⟨pk,hpk⟩:=nmE (ab9 xs xu);have hpkl:pk<18446744073709551616:=by have:=afB xs xu;omega
     have HPK:=hE0 (fun W=>acY (w:=W) xs xu hxs pk hpk);have HTB:Hid (anS ⟨xo,xs,xu⟩=aaF 8 pk):=(show _=_ by unfold anS;dsimp only;rw[hpk]);obtain⟨tn,htn⟩:=nmE ((acp (l.take j)).length);rw[htn]at hown HT1;have HTN:=hE0 htn;have HO4:=hE0 (acg hown hb4);have HB4:=hE0 (hb.trans (hb4.mono hb.size));have HW4:=hE0 hw4;clear hx hcl p0 p1 p2 hown hb hb1w hb4 n4 hw4 hpk htn;go_wp2_with (first | (rw[HW4.out]) | fail)
     refine(HPK.out _).mono ?_;rintro e w5 ⟨rfl,rfl⟩;go_wp2_with fail
     refine(HPUT.out _ pk hpkl).mono ?_;rintro e w6 ⟨rfl,hf6,hb6⟩;have HR6:Hid (Rd w6 w6.heap.size (some ⟨w4.heap.size,0,none⟩) 8 (aaF 8 pk)):=(show Rd _ _ _ _ _ by have:=hf6.reads;rw[aag]at this;exact this);have HO6:=hE0 (acg HO4.out hb6);have HB6:=hE0 (HB4.out.trans (hb6.mono HB4.out.size));clear hf6 hb6;go_wp2_with (first
      | (at_builtin;go_must (refine abL rfl (.tmp 36) (.tmp 42) 37 5 rfl Tryz.underlying37 aeh wd.heap.size _ (28+tn) (akD n ll++acp (l.take j)) rfl HO6.out _ (some ⟨w4.heap.size,0,none⟩) 8 8 (aaF 8 pk) rfl HR6.out (fun e=>by cases e) (by omega) HB6.out.size ?_);intro x7 w7 own7 hb7 gr7
         have HX7:Hid (w7.ownsRow wd.heap.size 5 1 x7 ((28+tn)+8) (((akD n ll++acp (l.take j))++(aaF 8 pk)).map bv)/\Below wd.heap.size w6 w7):=⟨own7,hb7⟩;clear own7 hb7 gr7)
      | fail)
     go_roundw
     case rel=>
      refine⟨j+1,by go_num,by omega,?_,HB6.out.trans HX7.out.2⟩;rw[HTG.out,HTB.out,List.length_append,HTN.out,aag,<-List.append_assoc];exact HX7.out.1
     case measure=>simp only[intOf];omega
   · have e:l.take j=l:=List.take_of_length_le (by rw[HLL.out];omega);rw[e,HTL.out]at hown;have HWS:=hE0 (afJ wr wd.heap.size _ (akD n ll++acp l) (28+8*ll) 28 (by rw[List.length_append,HAL.out,HTL.out]) hown hb.size (by omega) (by omega) (by omega));rw[HPTE.out]at HWS;have HB:=hE0 hb;clear hown hb e;go_wp2_with fail
     refine HWS.out.mono ?_;rintro e w5 ⟨x5,rfl,ho5,hb5⟩;rw[HTE.out]at ho5;have hT100:T<=10000:=by have:=HTE.out;omega
     have hT0:0<T:=by have:=HTE.out;omega
     have hb5':=HB.out.trans hb5;obtain⟨A5,c5,rfl,hA5⟩:=aei ho5;have HO5:=hE0 ho5;have HB5:=hE0 hb5';have e2:=(hb5'.cell (p:=⟨w.heap.size,2,none⟩) hld).trans c2;have hl5:w.heap.size<w5.heap.size:=Nat.lt_of_lt_of_le hld hb5'.size;clear ho5 hb5 hb5' HWS;go_wp2
     go_loopw [4,52] (fun v t wr=>∃(j:Nat),t= .int .i64 (j:Int)/\j<=dl/\wr.ownsRow wd.heap.size 5 1 v (T+(d.take j).flatten.length) ((ahg n l++(d.take j).flatten).map bv)/\Below wd.heap.size wd wr) (fun _ t _=>dl-(intOf t).toNat)
     case atStart=>
      refine⟨0,rfl,Nat.zero_le _,?_,HB5.out⟩;have e:ahg n l++(d.take 0).flatten=ahg n l:=by rw[List.take_zero];exact List.append_nil _
      rw[e];exact HO5.out
     case round=>
      obtain⟨i,rfl,hi,hown,hb⟩:=hrel;have hb1w:=HBD.out.trans (hb.mono HBD.out.size);by_cases hlt2:i<dl
      · obtain⟨y,hy⟩:∃y,d[i]?=some y:=⟨d[i]'(by rw[HDLL.out];exact hlt2),List.getElem?_eq_getElem _⟩;obtain⟨b,o,rfl,hbb,hc⟩:=HD.out (by rw[HDLL.out];omega);obtain⟨A',k',z0,hrd,_,_,hA⟩:=hc i y hy;have z1:=(hb1w.cell (p:=⟨b,o+i,none⟩) hbb).trans z0;have hs1:=HFT.out (i+1);rw[ac3 hy,List.length_append]at hs1;have HFT2:=hE0 (ac3 hy);have HRD:=hE0 ((hrd.below hb1w).more hb1w.size);obtain⟨yn,hn'⟩:∃yn,y.length=yn:=⟨_,rfl⟩;have HYN:=hE0 hn';obtain⟨q,hq⟩:=nmE ((d.take i).flatten.length);rw[hq]at hown hs1;have HQ:=hE0 hq;rw[hn']at z0 z1 hs1 HRD;have HO:=hE0 hown;have HB6:=hE0 hb;clear hc hy hn' hown hb hrd hq hb1w z0;go_wp2_with (first
         | (at_builtin;go_must (refine abL rfl (.tmp 56) (.tmp 57) 37 5 rfl Tryz.underlying37 aeh wd.heap.size _ (T+q) (ahg n l++(d.take i).flatten) rfl HO.out _ A' yn k' y rfl HRD.out hA (by omega) HB6.out.size ?_);intro x30 w30 own30 hb30 gr30
            have HX30:Hid (w30.ownsRow wd.heap.size 5 1 x30 ((T+q)+yn) (((ahg n l++(d.take i).flatten)++y).map bv)/\Below wd.heap.size wr w30):=⟨own30,hb30⟩;clear own30 hb30 gr30)
         | fail)
        go_roundw
        case rel=>
         refine⟨i+1,by go_num,by omega,?_,HB6.out.trans HX30.out.2⟩;rw[HFT2.out,List.length_append,HQ.out,HYN.out,<-List.append_assoc,<-Nat.add_assoc];exact HX30.out.1
        case measure=>simp only[intOf];omega
      · have e:d.take i=d:=List.take_of_length_le (by rw[HDLL.out];omega);rw[e,HFL.out]at hown;have HWS2:=hE0 (afJ wr wd.heap.size _ (ahg n l++d.flatten) (T+fl) T (by rw[List.length_append,HFL.out,HTL2.out]) hown hb.size (by omega) (by omega) (by omega));rw[HPDE.out]at HWS2;have HB6:=hE0 hb;clear hown hb e hb1w;go_wp2_with fail
        refine HWS2.out.mono ?_;rintro e w7 ⟨x7,rfl,ho7,hb7⟩;have HB7:=hE0 (HB6.out.trans hb7);have HWS3:=hE0 (afJ w7 wd.heap.size x7 (akk n l d) (T+fl+4) 0 (by rw[HDL2.out];have:=HTE.out;omega) ho7 HB7.out.size (by omega) (by omega) (by omega));clear ho7 hb7 HWS2;go_wp2_with fail
        refine HWS3.out.mono ?_;rintro e w8 ⟨x8,rfl,ho8,hb8⟩;have hfin:w8.ownsRow w.heap.size 5 1 x8 (40+8*ll+fl) ((aaU n l d).map bv):=by
         rw[show T+fl+4+4=40+8*ll+fl by have:=HTE.out;omega]at ho8;exact ad6 ho8 (Nat.le_trans HB1.out.size HBD.out.size)
        have hbfin:Below w.heap.size w w8:=HB1.out.trans ((HBD.out.trans ((HB7.out.trans hb8).mono HBD.out.size)).mono HB1.out.size);obtain⟨A8,c8,rfl,_⟩:=aei hfin;have HFIN:=hE0 (And.intro hfin hbfin);clear hfin hbfin ho8 hb8;go_wp2
        go_ret2
        exact⟨A8,c8,rfl,HFIN.out⟩
theorem ack (w:World) (A:Option Addr) (n c B:Nat) (b:List UInt8) (i j:Nat) (hr:Rd w B A n b) (hnc:n<=c) (hc:c<=9223372036854775807) (hn:n<=900000) (hij:i<=j) (hj:j+4<=n) (y:Bool) (hy:(abV ((b.drop j).take 4)==abS 0 ((b.drop i).take (j-i)))=y):
 Calls Tryz.prog 279 #[.slice A n c, .int .i64 (i:Int), .int .i64 (j:Int)] w fun e w'=>e= .returned (.bool y)/\w=w':=by
 have HG:=hE0 (alF A n c B b j w hr hnc (by omega) hj);obtain⟨g,off,rfl,_⟩:=hr.2 (by omega);have HSM:=hE0 (af3 (some ⟨g,off+i,none⟩) (j-i) (c-i) B _ w (hr.sub i (j-i) (by omega)) (by omega));obtain⟨p,hp⟩:=nmE (abV ((b.drop j).take 4));obtain⟨q,hq⟩:=nmE (abS 0 ((b.drop i).take (j-i)));rw[hp]at HG;rw[hq]at HSM;rw[hp,hq]at hy;have HY:Hid (((p:Int)==(q:Int))=y):=(show _=y by
  rw[<-hy];by_cases h:p=q
  · rw[h];simp
  · have e:(p==q)=false:=by rw[beq_eq_false_iff_ne];exact h
    rw[e,beq_eq_false_iff_ne];omega)
 have h1:(i:Int)<=(j:Int):=by omega
 have h2:(j:Int)<=(c:Int):=by omega
 have h3:(i:Int)<(c:Int):=by omega
 clear hr hp hq hy;go_enter Tryz.func279,Tryz.ntmps279
 go_wp2_with fail
 refine HG.out.mono ?_;rintro e w2 ⟨rfl,rfl⟩;go_wp2_with fail
 refine HSM.out.mono ?_;rintro e w2 ⟨rfl,rfl⟩;go_wp2
 go_ret
 exact⟨abe HY.out,rfl⟩
theorem akE:amG imMarkB=⟨#[67,78,84,76,1,0,0,0]⟩:=by rfl
theorem aoz (w:World) (A:Option Addr) (n c B:Nat) (b:List UInt8) (hr:Rd w B A n b) (hnc:n<=c) (hc:c<=9223372036854775807) (hn:n<=900000) (h28:28<=n) (hm:b.take 8=imMarkB) (hs:(abV ((b.drop 24).take 4)==abS 0 ((b.drop 0).take (24-0)))=true) (N K:Nat) (hN:abV ((b.drop 8).take 8)=N) (hK:abV ((b.drop 16).take 8)=K) (hlen:abT (N:Int)=true) (hk:K<=1024):
 Calls Tryz.prog 275 #[.slice A n c] w fun e w'=>e= .returned (.tuple #[.int .i64 (N:Int), .int .i64 (K:Int), .nilIface])/\w=w':=by
 have HS:=hE0 (ack w A n c B b 0 24 hr hnc hc hn (by omega) (by omega) true hs);have HG1:=hE0 (adD A n c B b 8 w hr hnc (by omega) (by omega));have HG2:=hE0 (adD A n c B b 16 w hr hnc (by omega) (by omega));rw[hN]at HG1;rw[hK]at HG2;have h3:=(aaR (N:Int)).1 hlen;have HL:=hE0 (agc w N (by omega) true hlen);obtain⟨g,off,rfl,_⟩:=hr.2 (by omega);have q1:(convert 37 9 (.slice (some ⟨g,off,none⟩) 8 c)).run Tryz.prog w= .ok (.string ⟨#[67,78,84,76,1,0,0,0]⟩) w:=by
  have h:=hr.sub 0 8 (by omega);rw[List.drop_zero,hm,Nat.add_zero]at h;have h2:=adG (c:=c) h;rw[akE]at h2;exact h2
 have g1:decide (n<28)=false:=decide_eq_false (by omega);have g2:decide (1024<K)=false:=decide_eq_false (by omega);have g3:(8:Int)<=(c:Int):=by omega
 clear hr hm hs hN hK hlen;go_enter Tryz.func275,Tryz.ntmps275
 go_wp2_with fail
 refine HS.out.mono ?_;rintro e w2 ⟨rfl,rfl⟩;go_wp2_with fail
 refine HG1.out.mono ?_;rintro e w2 ⟨rfl,rfl⟩;go_wp2_with fail
 refine HG2.out.mono ?_;rintro e w2 ⟨rfl,rfl⟩;go_wp2_with fail
 refine HL.out.mono ?_;rintro e w2 ⟨rfl,rfl⟩;go_wp2
 go_ret3
 exact⟨rfl,rfl⟩
theorem aib (w:World) (k:Nat) (hk:k<=100000):
 Calls Tryz.prog 280 #[.int .i64 (k:Int)] w fun e w'=>e= .returned (.int .i64 ((28+k*8:Nat):Int))/\w=w':=by
 go_enter Tryz.func280,Tryz.ntmps280
 go_wp2
 go_ret
 exact⟨by congr 2,rfl⟩
theorem asB:(Tryz.prog.info? 112).map (fun i=>(i.zero,i.size,i.bytes))=some (some (.agg #[.int .i64 0, .int .i64 0, .bool false]),3,24):=by kernel_rfl
theorem ajk{fn:Func}{R:Ending->World->Prop}{a:Act}{w:World}{p u:Tmp}{g:Nat}{x:Value}{n:Int}{A1 A2:Option Addr}{a1 b1 a2 b2:Nat}(hres:fn.results= #[.cell p 107, .tmp u]) (hp:a.tmps.getD p undef= .pointer (some ⟨g,0,none⟩)) (hx:a.tmps.getD u undef=x) (hd:a.defers= [])
 (hg:w.heap[g]?=some (.cells #[.int .i64 n, .slice A1 a1 b1, .slice A2 a2 b2] 107 (0,0))) (hR:R (.returned (.tuple #[.agg #[.int .i64 n, .slice A1 a1 b1, .slice A2 a2 b2],x])) w):bodyPost Tryz.prog fn R .ret a w:=by
 obtain⟨c0,c1,c2⟩:=aal hg;refine bodyPost_ret (v:= .tuple #[.agg #[.int .i64 n, .slice A1 a1 b1, .slice A2 a2 b2],x]) ?_ hd hR;rw[results_cell_tmp hres,hp,hx];simp[go_sem,c0,c1,c2]
theorem aeI{y0 y1 y2:Value}{w:World}{g:Nat}{t:TypeId}(h:w.heap[g]?=some (.cells #[y0,y1,y2] t (0,0))) (x0 x1 x2:Value):
 (((w.setCell ⟨g,0,none⟩ x0).setCell ⟨g,1,none⟩ x1).setCell ⟨g,2,none⟩ x2).heap[g]?=some (.cells #[x0,x1,x2] t (0,0)):=by
 have h1:=heap_setCell_same w g 0 _ _ x0 h;have h2:=heap_setCell_same _ g 1 _ _ x1 h1;have h3:=heap_setCell_same _ g 2 _ _ x2 h2;rw[h3];rfl
theorem acI{w:World}{g:Nat}{cs:Array Value}{t:TypeId}(h:w.heap[g]?=some (.cells cs t (0,0))):w.frozen? ⟨g,0,none⟩=false/\w.frozen? ⟨g,1,none⟩=false/\w.frozen? ⟨g,2,none⟩=false:=
 ⟨frozen_of_row w g 0 _ _ h,frozen_of_row w g 1 _ _ h,frozen_of_row w g 2 _ _ h⟩
def DtO (w:World) (d:List (List UInt8)) (xs:List Value):Prop:=∀(i:Nat) (y:List UInt8),d[i]?=some y->y.length<=100000/\∃A k,xs[i]?=some (.slice A y.length k)/\w.ownsRow 0 5 1 (.slice A y.length k) y.length (y.map bv)
theorem DtO.rd{w:World}{B:Nat}{A:Option Addr}{c:Nat}{d:List (List UInt8)}{xs:List Value}(h:DtO w d xs) (ho:w.ownsRow B 37 1 (.slice A d.length c) d.length xs):DtRd w w.heap.size A d:=fun hn=>by
 rcases ho.2 with⟨hv,h0⟩ | ⟨g,cap,cur,hv,hbg,hg,hnc,hcm,hsz,htk⟩
 · omega
 · injection hv with e1 e2 e3;refine⟨g,0,e1,aab hg,fun j y hy=> ?_⟩;obtain⟨hyl,A',k,hx,hr⟩:=h j y hy;have hj:j<d.length:=(List.getElem?_eq_some_iff.1 hy).1;obtain⟨A2,k2,e,hk0⟩:=aei hr;injection e with e4 e5 e6;subst e4 e6;refine⟨A',k,?_,acH hr,by unfold maxLen;omega,?_,hk0⟩
   · rw[Nat.zero_add,cell_of_row _ _ _ _ _ _ hg];rw[<-htk,List.getElem?_take,if_pos (by omega)]at hx;rw[<-hx];simp
   · rcases hr.2 with⟨hv2,h02⟩ | ⟨g2,cap2,cur2,hv2,_,_,hnc2,_⟩
     · omega
     · injection hv2 with _ _ e7;omega
theorem DtO.grown{w w':World}{d:List (List UInt8)}{xs:List Value}{r:Option Nat}(h:DtO w d xs) (hg:w.grownBy w' r) (hr:∀k,r=some k->∃cs t fz,t≠5/\w.heap[k]?=some (.cells cs t fz)):DtO w' d xs:=by
 intro i y hy;obtain⟨hyl,A,k,hx,ho⟩:=h i y hy;refine⟨hyl,A,k,hx,acG ho hg fun q hq hrq=> ?_⟩;obtain⟨cs,t,fz,hne,hc⟩:=hr q hrq;rcases ho.2 with⟨hv,_⟩ | ⟨g,cap,cur,hv,_,hgc,_⟩
 · rw[hv]at hq;cases hq
 · rw[hv]at hq;unfold Value.ownBlock at hq;injection hq with hq;subst hq;rw[hgc]at hc;injection hc with hc;injection hc with _ e _;exact absurd e.symm hne
theorem DtO.snoc{w:World}{d:List (List UInt8)}{xs:List Value}(h:DtO w d xs) (hl:xs.length=d.length){y:List UInt8}{A:Option Addr}{k:Nat}(hy:y.length<=100000) (ho:w.ownsRow 0 5 1 (.slice A y.length k) y.length (y.map bv)):DtO w (d++ [y]) (xs++ [.slice A y.length k]):=by
 intro i z hz;by_cases hi:i<d.length
 · rw[List.getElem?_append_left hi]at hz;rw[List.getElem?_append_left (by omega)];exact h i z hz
 · rw[List.getElem?_append_right (by omega)]at hz;rw[List.getElem?_append_right (by omega),hl];have e:i-d.length=0:=by
    have:=(List.getElem?_eq_some_iff.1 hz).1;simp at this;omega
   rw[e]at hz ⊢;simp at hz;subst hz;exact⟨hy,A,k,rfl,ho⟩
theorem acJ{w:World}{base n size:Nat}{t:TypeId}{v:Value}{xs:List Value}(h:w.ownsRow base t size v n xs):∀k,v.ownBlock=some k->k<w.heap.size:=by
 intro k hk;rcases h.2 with⟨hv,_⟩ | ⟨g,cap,cur,hv,_,hg,_⟩
 · rw[hv]at hk;cases hk
 · rw[hv]at hk;unfold Value.ownBlock at hk;injection hk with hk;subst hk;exact aab hg
theorem adl{w:World}{base n size k:Nat}{t t':TypeId}{v:Value}{xs:List Value}{cs:Array Value}{fz:Nat × Nat}(h:w.ownsRow base t size v n xs) (hk:v.ownBlock=some k) (hc:w.heap[k]?=some (.cells cs t' fz)) (hne:t≠t'):False:=by
 rcases h.2 with⟨hv,_⟩ | ⟨g,cap,cur,hv,_,hg,_⟩
 · rw[hv]at hk;cases hk
 · rw[hv]at hk;unfold Value.ownBlock at hk;injection hk with hk;subst hk;rw[hg]at hc;injection hc with hc;injection hc with _ e _;exact hne e
theorem aoA{w:World}{base n size:Nat}{t:TypeId}{v:Value}{xs:List Value}(h:w.ownsRow base t size v n xs):∀k,v.ownBlock=some k->∃cs fz,w.heap[k]?=some (.cells cs t fz):=by
 intro k hk;rcases h.2 with⟨hv,_⟩ | ⟨g,cap,cur,hv,_,hg,_⟩
 · rw[hv]at hk;cases hk
 · rw[hv]at hk;unfold Value.ownBlock at hk;injection hk with hk;subst hk;exact⟨_,_,hg⟩
theorem ajl{w:World}{base n size:Nat}{t:TypeId}{v:Value}{xs:List Value}(h:w.ownsRow base t size v n xs):∀k,v.ownBlock=some k->base<=k:=by
 intro k hk;rcases h.2 with⟨hv,_⟩ | ⟨g,cap,cur,hv,hb,_,_⟩
 · rw[hv]at hk;cases hk
 · rw[hv]at hk;unfold Value.ownBlock at hk;injection hk with hk;subst hk;exact hb
theorem acl (w:World) (g i:Nat) (v:Value):w.grownBy (w.setCell ⟨g,i,none⟩ v) (some g):=
 ⟨rfl,rfl,rfl,by simp,fun k _ hne=>heap_setCell_other _ _ _ _ (fun e=>hne (by rw[e]))⟩
theorem RkRd.off{w w':World}{B g:Nat}{A:Option Addr}{l:List Rk}{t:TypeId}{fr:Nat × Nat}(h:RkRd w B A l) (hg:w.heap[g]?=some (.cells #[.int .i64 0, .slice none 0 0, .slice none 0 0] t fr)) (hk:∀k,k≠g->w'.heap[k]?=w.heap[k]?):RkRd w' B A l:=fun hn=>by
 obtain⟨b,o,e,hB,hc⟩:=h hn;have hbg:b≠g:=by
  intro e2;subst e2;obtain⟨x,hx⟩:∃x,l[0]?=some x:=⟨l[0]'hn,List.getElem?_eq_getElem _⟩;obtain⟨_,h1,_⟩:=hc 0 x hx;rw[cell_of_row _ _ _ _ _ _ hg]at h1;rcases o with _ | _ | o<;>simp at h1
 refine⟨b,o,e,hB,fun j x hx=> ?_⟩;obtain⟨h0,h1,h2,h3⟩:=hc j x hx;have hh:=hk b hbg;refine⟨?_,?_,?_,h3⟩
 · rw[<-h0];simp[World.cell?,hh]
 · rw[<-h1];simp[World.cell?,hh]
 · rw[<-h2];simp[World.cell?,hh]
theorem DtO.stay{w w':World}{d:List (List UInt8)}{xs:List Value}(h:DtO w d xs) (hb:Below w.heap.size w w'):DtO w' d xs:=by
 intro i y hy;obtain⟨hyl,A,k,hx,ho⟩:=h i y hy;exact⟨hyl,A,k,hx,ab2 ho hb (acJ ho)⟩
theorem aoB:(Tryz.prog.info? 37).map (fun i=>(i.zero,i.size,i.bytes))=some (some (.slice none 0 0),1,24):=by kernel_rfl
theorem ajm (w:World) (A:Option Addr) (n c:Nat):(Instr.buildSlice 57 1 #[(0, .slice A n c)]).run Tryz.prog w= .ok (.slice (some ⟨w.heap.size,0,none⟩) 1 1) (w.alloc (.cells #[.slice A n c] 37)):=by
 obtain⟨i0,hi,hz0,hz1,hz2⟩:=info_parts aoB;refine run_buildSlice w 57 37 1 _ _ i0 _ Tryz.underlying57 hi hz0 (by omega) (by omega) ?_;rw[hz1];have e:Array.range (1*1)= #[0]:=by decide
 rw[e];simp[Instr.fill,Value.cells]
theorem afL{n:Int}:∀{l:List Rk}{e:Int}{f:Bool}{d:List (List UInt8)},abc n e f l=true->datOk l d=true->(d.flatten.length:Int)+e<=n
 | [],e,f,d,h,h2=>by
  unfold abc at h;unfold datOk at h2;rw[beq_iff_eq]at h;have:d= []:=by simpa using h2
  subst this;simp;omega
 | x::r,e,f,d,h,h2=>by
  unfold abc at h;simp only[Bool.and_eq_true,beq_iff_eq,decide_eq_true_eq]at h;obtain⟨_,h3,_,_,h4⟩:=h;have h5:=(aac _).1 h3;unfold datOk at h2;split at h2
  · cases d with
    | nil=>cases h2
    | cons y d'=>
     simp only[Bool.and_eq_true,beq_iff_eq]at h2;have:=afL h4 h2.2;rw[List.flatten_cons,List.length_append];omega
  · have:=afL h4 h2;omega
theorem aqX{n:Int}{l:List Rk}{d:List (List UInt8)}(h:aea n l d=true):d.flatten.length<=16384/\184<=n/\n<=16384:=by
 unfold aea at h;simp only[Bool.and_eq_true]at h;have h1:=(aaR n).1 h.1;have h2:=afL h.2.1 h.2.2;omega
def slMark:List UInt8:= [83,76,79,84,0,0,0,0]
def abm (g n s:Nat):List UInt8:=slMark++aaF 8 g++aaF 8 n++aaF 4 s
def abG (g n s:Nat):List UInt8:=abm g n s++ahf (abm g n s)++List.replicate 480 0
theorem abQ (g n s:Nat):(abm g n s).length=28:=by unfold abm slMark;simp[aag]
theorem adN (g n s:Nat):(abG g n s).length=512:=by unfold abG;rw[List.length_append,List.length_append,abQ,ab1,List.length_replicate]
theorem asC (w:World):(Instr.buildSlice 37 8 #[(0, .int .u8 83),(1, .int .u8 76),(2, .int .u8 79),(3, .int .u8 84),(4, .int .u8 0),(5, .int .u8 0),(6, .int .u8 0),(7, .int .u8 0)]).run Tryz.prog w= .ok (.slice (some ⟨w.heap.size,0,none⟩) 8 8) (w.alloc (.cells #[.int .u8 83, .int .u8 76, .int .u8 79, .int .u8 84, .int .u8 0, .int .u8 0, .int .u8 0, .int .u8 0] 5)):=by
 obtain⟨i0,hi,hz0,hz1,hz2⟩:=info_parts aeh;refine run_buildSlice w 37 5 8 _ _ i0 _ Tryz.underlying37 hi hz0 (by omega) (by omega) ?_;rw[hz1];have e:Array.range (8*1)= #[0,1,2,3,4,5,6,7]:=by decide
 rw[e];simp[Instr.fill,Value.cells]
def slG (b:List UInt8):Nat:=abV ((b.drop 8).take 8)
def slN (b:List UInt8):Nat:=abV ((b.drop 16).take 8)
def slS (b:List UInt8):Nat:=abV ((b.drop 24).take 4)
def akl (g n:Nat):Bool:=decide (1<=g)&&(decide (g<=4611686018427387904)&&decide (n<=65536))
def anT (g n s:Nat):List UInt8:=if akl g n=true then abG g n s else []
theorem aoC{g n s:Nat}(hg:g<18446744073709551616) (hn:n<18446744073709551616) (hs:s<4294967296):slG (abG g n s)=g/\slN (abG g n s)=n/\slS (abG g n s)=s:=by
 have hm:slMark.length=8:=rfl;have l8:∀v,(aaF 8 v).length=8:=fun v=>aag 8 v;have l4:∀v,(aaF 4 v).length=4:=fun v=>aag 4 v;have e:abG g n s=slMark++(aaF 8 g++(aaF 8 n++(aaF 4 s++(ahf (abm g n s)++List.replicate 480 0)))):=by
  unfold abG;obtain⟨X,hX⟩:=nmE (ahf (abm g n s));rw[hX];unfold abm;simp only[List.append_assoc]
 have d8:(abG g n s).drop 8=aaF 8 g++(aaF 8 n++(aaF 4 s++(ahf (abm g n s)++List.replicate 480 0))):=by rw[e,<-hm,List.drop_left]
 have d16:(abG g n s).drop 16=aaF 8 n++(aaF 4 s++(ahf (abm g n s)++List.replicate 480 0)):=by
  rw[show(16:Nat)=8+8 from rfl,<-List.drop_drop,d8];have:=List.drop_left (l₁:=aaF 8 g) (l₂:=aaF 8 n++(aaF 4 s++(ahf (abm g n s)++List.replicate 480 0)));rw[l8]at this;exact this
 have d24:(abG g n s).drop 24=aaF 4 s++(ahf (abm g n s)++List.replicate 480 0):=by
  rw[show(24:Nat)=16+8 from rfl,<-List.drop_drop,d16];have:=List.drop_left (l₁:=aaF 8 n) (l₂:=aaF 4 s++(ahf (abm g n s)++List.replicate 480 0));rw[l8]at this;exact this
 have tk:∀(k:Nat) (x y:List UInt8),x.length=k->(x++y).take k=x:=fun k x y h=>by rw[<-h,List.take_left]
 refine⟨?_,?_,?_⟩
 · unfold slG;rw[d8,tk 8 _ _ (l8 g),acf,Nat.mod_eq_of_lt hg]
 · unfold slN;rw[d16,tk 8 _ _ (l8 n),acf,Nat.mod_eq_of_lt hn]
 · unfold slS;rw[d24,tk 4 _ _ (l4 s),acf,Nat.mod_eq_of_lt hs]
theorem ajn (w:World) (g n s:Nat) (y:Bool) (hy:akl g n=y):
 Calls Tryz.prog 210 #[.agg #[.int .u64 (g:Int), .int .u64 (n:Int), .int .u32 (s:Int)]] w fun e w'=>e= .returned (.bool y)/\Below w.heap.size w w':=by
 obtain⟨w1,hw1⟩:=nmE (w.alloc (.cells #[.int .u64 (g:Int), .int .u64 (n:Int), .int .u32 (s:Int)] 146));have hb1:=abE hw1;have n1:=anE hw1;obtain⟨c0,c1,c2⟩:=aal n1;have hl1:=aab n1;have HW1:=hE0 hw1;have HB1:=hE0 hb1;clear hw1 hb1 n1;unfold akl at hy;by_cases h1:1<=g
 · have g1:decide ((1:Int)<=(g:Int))=true:=decide_eq_true (by omega);rw[decide_eq_true h1,Bool.true_and]at hy;by_cases h2:g<=4611686018427387904
   · have g2:decide ((g:Int)<=4611686018427387904)=true:=decide_eq_true (by omega);rw[decide_eq_true h2,Bool.true_and]at hy;have g3:decide ((n:Int)<=65536)=y:=by rw[<-hy];exact decide_eq_decide.mpr (by omega)
     clear hy;go_enter Tryz.func210,Tryz.ntmps210
     go_wp2_with (first | (rw[HW1.out]) | fail)
     go_ret
     exact⟨rfl,HB1.out⟩
   · have g2:decide ((g:Int)<=4611686018427387904)=false:=decide_eq_false (by omega);rw[decide_eq_false h2,Bool.false_and]at hy;subst hy;go_enter Tryz.func210,Tryz.ntmps210
     go_wp2_with (first | (rw[HW1.out]) | fail)
     go_ret
     exact⟨rfl,HB1.out⟩
 · have g1:decide ((1:Int)<=(g:Int))=false:=decide_eq_false (by omega);rw[decide_eq_false h1,Bool.false_and]at hy;subst hy;go_enter Tryz.func210,Tryz.ntmps210
   go_wp2_with (first | (rw[HW1.out]) | fail)
   go_ret
   exact⟨rfl,HB1.out⟩
theorem aqY (w:World) (g n s:Nat) (hy:akl g n=false):
 Calls Tryz.prog 145 #[.agg #[.int .u64 (g:Int), .int .u64 (n:Int), .int .u32 (s:Int)]] w fun e w'=>e= .returned (.slice none 0 0)/\Below w.heap.size w w':=by
 obtain⟨w1,hw1⟩:=nmE (w.alloc (.cells #[.int .u64 (g:Int), .int .u64 (n:Int), .int .u32 (s:Int)] 146));have hb1:=abE hw1;have n1:=anE hw1;obtain⟨c0,c1,c2⟩:=aal n1;have hl1:=aab n1;have HM:=hE0 (ajn w1 g n s _ hy);have HW1:=hE0 hw1;have HB1:=hE0 hb1;clear hw1 hb1 n1 hy;go_enter Tryz.func145,Tryz.ntmps145
 go_wp2_with (first | (rw[HW1.out]) | fail)
 refine HM.out.mono ?_;rintro e w2 ⟨rfl,hb2⟩;have HF:=hE0 (HB1.out.trans (hb2.mono HB1.out.size));clear hb2;go_wp2
 go_ret
 exact⟨rfl,HF.out⟩
theorem aoD (w:World):(Instr.buildSlice 37 8 #[(0, .int .u8 83),(1, .int .u8 76),(2, .int .u8 79),(3, .int .u8 84),(4, .int .u8 0),(5, .int .u8 0),(6, .int .u8 0),(7, .int .u8 0)]).run Tryz.prog w= .ok (.slice (some ⟨w.heap.size,0,none⟩) 8 8) (w.alloc (.cells (ab6 slMark) 5)):=by
 have e:ab6 slMark= #[.int .u8 83, .int .u8 76, .int .u8 79, .int .u8 84, .int .u8 0, .int .u8 0, .int .u8 0, .int .u8 0]:=by rfl
 rw[e];exact asC w
theorem aoE (w:World) (A B C D:Option Addr) (a b c d e f g h:Nat):(Instr.buildSlice 57 4 #[(0, .slice A a b),(1, .slice B c d),(2, .slice C e f),(3, .slice D g h)]).run Tryz.prog w= .ok (.slice (some ⟨w.heap.size,0,none⟩) 4 4) (w.alloc (.cells #[.slice A a b, .slice B c d, .slice C e f, .slice D g h] 37)):=by
 simp[go_sem]
theorem aqZ (w:World) (A B:Option Addr) (a b c d:Nat):(Instr.buildSlice 57 2 #[(0, .slice A a b),(1, .slice B c d)]).run Tryz.prog w= .ok (.slice (some ⟨w.heap.size,0,none⟩) 2 2) (w.alloc (.cells #[.slice A a b, .slice B c d] 37)):=by
 simp[go_sem]
theorem ar6{w:World}{g:Nat}{C:Array Value}{l:List (List UInt8)}(hg:w.heap[g]?=some (.cells C 37 (0,0)))
 (h:∀(j:Nat) (u:List UInt8),l[j]?=some u->∃(A:Option Addr) (k:Nat),C[j]?=some (Value.slice A u.length k)/\Rd w w.heap.size A u.length u/\u.length<=maxLen/\u.length<=k/\(A=none->k=0)):
 DtRd w w.heap.size (some ⟨g,0,none⟩) l:=fun _=>by
 refine⟨g,0,rfl,aab hg,fun j u hu=> ?_⟩;obtain⟨A,k,hC,hr,h1,h2,h3⟩:=h j u hu;exact⟨A,k,by rw[Nat.zero_add,cell_of_row w g j _ _ (0,0) hg];exact hC,hr,h1,h2,h3⟩
theorem amU (g n s:Nat) (w8:World) (r a b c d:Nat) (hn8:w8.heap[r]?=some (.cells #[.slice (some ⟨a,0,none⟩) 8 8, .slice (some ⟨b,0,none⟩) 8 8, .slice (some ⟨c,0,none⟩) 8 8, .slice (some ⟨d,0,none⟩) 4 4] 37 (0,0)))
 (h1:Rd w8 w8.heap.size (some ⟨a,0,none⟩) slMark.length slMark) (h2:Rd w8 w8.heap.size (some ⟨b,0,none⟩) (aaF 8 g).length (aaF 8 g)) (h3:Rd w8 w8.heap.size (some ⟨c,0,none⟩) (aaF 8 n).length (aaF 8 n)) (h4:Rd w8 w8.heap.size (some ⟨d,0,none⟩) (aaF 4 s).length (aaF 4 s)):
 Calls Tryz.prog 119 #[.slice (some ⟨r,0,none⟩) 4 4] w8 fun e w'=>∃v,e= .returned v/\w'.ownsRow w8.heap.size 5 1 v 28 ((abm g n s).map bv)/\Below w8.heap.size w8 w':=by
 have hd:DtRd w8 w8.heap.size (some ⟨r,0,none⟩) [slMark,aaF 8 g,aaF 8 n,aaF 4 s]:=ar6 hn8 (fun j u hu=>by
  match j,hu with
  | 0,hu=>injection hu with hu;subst hu;exact⟨_,8,rfl,h1,by decide,by decide,fun e=>by cases e⟩
  | 1,hu=>injection hu with hu;subst hu;exact⟨some ⟨b,0,none⟩,8,by rw[aag];rfl,h2,by rw[aag];decide,by rw[aag];decide,fun e=>by cases e⟩
  | 2,hu=>injection hu with hu;subst hu;exact⟨some ⟨c,0,none⟩,8,by rw[aag];rfl,h3,by rw[aag];decide,by rw[aag];decide,fun e=>by cases e⟩
  | 3,hu=>injection hu with hu;subst hu;exact⟨some ⟨d,0,none⟩,4,by rw[aag];rfl,h4,by rw[aag];decide,by rw[aag];decide,fun e=>by cases e⟩
  | j+4,hu=>cases hu)
 have hc:=ae7 w8 (some ⟨r,0,none⟩) 4 [slMark,aaF 8 g,aaF 8 n,aaF 4 s] hd (by simp) (by simp[slMark,aag]);have e:([slMark,aaF 8 g,aaF 8 n,aaF 4 s]:List (List UInt8)).flatten=abm g n s:=by unfold abm;simp
 rw[e,abQ]at hc;exact hc
theorem aoF{B:Nat}{w0 w:World}{g:Nat}{t:TypeId}{z cs:List UInt8}(h:Fill w g t (cs++z)) (hb:Below B w0 w) (hB:B<=g) (ds:List UInt8) (hl:ds.length=cs.length):
 Fill (w.setRow g (((ab6 (cs++z)).toList.take 0++(ds.map bv++(ab6 (cs++z)).toList.drop (0+(ds.map bv).length))).toArray)) g t (ds++z)/\Below B w0 (w.setRow g (((ab6 (cs++z)).toList.take 0++(ds.map bv++(ab6 (cs++z)).toList.drop (0+(ds.map bv).length))).toArray)):=by
 refine⟨?_,below_setRow hb hB _⟩;unfold Fill at h ⊢;rw[setRow_heap w g _ _ t _ h];have e:List.drop ds.length (cs++z)=z:=by rw[hl,List.drop_left]
 simp only[ab6,List.take_zero,List.nil_append,Nat.zero_add,List.length_map,<-List.map_drop];rw[e,List.map_append]
def slR (B g n s:Nat) (i:Nat) (D:Nat->Prop) (v:Value) (w:World):Prop:=match i with
 | 0=>¬D 1->∃r,v= .slice (some ⟨r,0,none⟩) 8 8/\B<=r/\w.heap[r]?=some (.cells (ab6 slMark) 5 (0,0))
 | 1=>∃r,v= .slice (some ⟨r,0,none⟩) 8 8/\Rd w w.heap.size (some ⟨r,0,none⟩) slMark.length slMark
 | 4=>∃r,v= .slice (some ⟨r,0,none⟩) 8 8/\Rd w w.heap.size (some ⟨r,0,none⟩) (aaF 8 g).length (aaF 8 g)
 | 7=>∃r,v= .slice (some ⟨r,0,none⟩) 8 8/\Rd w w.heap.size (some ⟨r,0,none⟩) (aaF 8 n).length (aaF 8 n)
 | 10=>∃r,v= .slice (some ⟨r,0,none⟩) 4 4/\Rd w w.heap.size (some ⟨r,0,none⟩) (aaF 4 s).length (aaF 4 s)
 | 11=>D 1/\∃r a b c d,v= .slice (some ⟨r,0,none⟩) 4 4/\w.heap[r]?=some (.cells #[.slice (some ⟨a,0,none⟩) 8 8, .slice (some ⟨b,0,none⟩) 8 8, .slice (some ⟨c,0,none⟩) 8 8, .slice (some ⟨d,0,none⟩) 4 4] 37 (0,0))/\
  Rd w w.heap.size (some ⟨a,0,none⟩) slMark.length slMark/\Rd w w.heap.size (some ⟨b,0,none⟩) (aaF 8 g).length (aaF 8 g)/\Rd w w.heap.size (some ⟨c,0,none⟩) (aaF 8 n).length (aaF 8 n)/\Rd w w.heap.size (some ⟨d,0,none⟩) (aaF 4 s).length (aaF 4 s)
 | 12=>D 11/\w.ownsRow B 5 1 v 28 ((abm g n s).map bv)
 | _=>True
def slI:List Nat:= [0,1,4,7,10,11,12]
def avo (i:Nat):List Nat:=match i with
 | 1=> [0]
 | 7=> [4]
 | 10=> [7]
 | 11=> [1,4,7,10]
 | 12=> [11]
 | _=> []
theorem aq0{B g n s:Nat}{D D':Nat->Prop}{v:Value}{w w':World}(hD:∀k,D k->D' k) (hb:Below w.heap.size w w'){i:Nat}(hi:i∈slI) (h:slR B g n s i D v w):slR B g n s i D' v w':=by
 have k:∀{A:Option Addr} {m:Nat} {bs:List UInt8},Rd w w.heap.size A m bs->Rd w' w'.heap.size A m bs:=fun h=>(h.below hb).more hb.size;unfold slI at hi;simp only[List.mem_cons,List.not_mem_nil,or_false]at hi;rcases hi with rfl | rfl | rfl | rfl | rfl | rfl | rfl
 · exact fun h1=>(h fun x=>h1 (hD 1 x)).imp fun r h=>⟨h.1,h.2.1,(hb.block _ (afK h.2.2)).trans h.2.2⟩
 · exact h.imp fun r h=>⟨h.1,k h.2⟩
 · exact h.imp fun r h=>⟨h.1,k h.2⟩
 · exact h.imp fun r h=>⟨h.1,k h.2⟩
 · exact h.imp fun r h=>⟨h.1,k h.2⟩
 · obtain⟨h0,r,a,b,c,d,h1,h2,h3,h4,h5,h6⟩:=h;exact⟨hD 1 h0,r,a,b,c,d,h1,(hb.block _ (afK h2)).trans h2,k h3,k h4,k h5,k h6⟩
 · exact⟨hD 11 h.1,acg h.2 hb⟩
theorem alZ (w:World) (g n s:Nat) (hs:s<4294967296) (hy:akl g n=true):
 Calls Tryz.prog 145 #[.agg #[.int .u64 (g:Int), .int .u64 (n:Int), .int .u32 (s:Int)]] w fun e w'=>∃b,e= .returned (.slice (some ⟨b,0,none⟩) 512 512)/\w.heap.size<=b/\Fill w' b 5 (abG g n s)/\Below w.heap.size w w':=by
 obtain⟨w1,hw1⟩:=nmE (w.alloc (.cells #[.int .u64 (g:Int), .int .u64 (n:Int), .int .u32 (s:Int)] 146));have hb1:=abE hw1;have n1:=anE hw1;have HM:=hE0 (ajn w1 g n s _ hy);unfold akl at hy;simp only[Bool.and_eq_true,decide_eq_true_eq]at hy;have hg64:g<18446744073709551616:=by omega
 have hn64:n<18446744073709551616:=by omega
 obtain⟨d0,d1,d2⟩:=aal n1;have hl1:=aab n1;have HB1:=hE0 hb1;have HW1:=hE0 hw1;have HN1:=hE0 n1;have HPUTg:=hE0 (fun W=>af1 g W hg64);have HPUTn:=hE0 (fun W=>af1 n W hn64);have HPUT4:=hE0 (fun W=>ahV s W hs);have HEND:=hE0 (fun w8 r a b c d=>amU g n s w8 r a b c d);clear hw1 hb1 n1 hy;go_enter Tryz.func145,Tryz.ntmps145
 go_wp2_with (first | (rw[HW1.out]) | fail)
 refine HM.out.mono ?_;rintro e w2 ⟨rfl,hb2⟩;obtain⟨wd,hwd⟩:=nmE w2.drew;have hbd:Below w1.heap.size w1 wd:=by rw[<-hwd];exact hb2.drew
 have nd:=(hbd.block _ (aab HN1.out)).trans HN1.out;obtain⟨c0,c1,c2⟩:=aal nd;have hld:=aab nd;have HBD:=hE0 hbd;have HWD:=hE0 hwd;clear hb2 hwd hbd nd d0 d1 d2 HM;go_wp2_with fail
 go_cut [3] from 8 (fun b wx=>wx.ownsRow wd.heap.size 5 1 b 28 ((abm g n s).map bv)/\Below wd.heap.size wd wx)
 case first=>
  refine acU wd.heap.size (.two [2,3,5,6,8,9] 0 (.two [] 1 (.one [] 4 (.one [] 7 (.one [] 10 (.one [] 11 (.one [] 12 (.fin [13])))))) 4 (.two [] 1 (.one [] 7 (.one [] 10 (.one [] 11 (.one [] 12 (.fin [13]))))) 7 (.two [] 1 (.one [] 10 (.one [] 11 (.one [] 12 (.fin [13])))) 10 (.one [] 1 (.one [] 11 (.one [] 12 (.fin [13]))))))) 4 (.two [] 0 (.two [] 1 (.one [] 7 (.one [] 10 (.one [] 11 (.one [] 12 (.fin [13]))))) 7 (.two [] 1 (.one [] 10 (.one [] 11 (.one [] 12 (.fin [13])))) 10 (.one [] 1 (.one [] 11 (.one [] 12 (.fin [13])))))) 7 (.two [] 0 (.two [] 1 (.one [] 10 (.one [] 11 (.one [] 12 (.fin [13])))) 10 (.one [] 1 (.one [] 11 (.one [] 12 (.fin [13]))))) 10 (.one [] 0 (.one [] 1 (.one [] 11 (.one [] 12 (.fin [13])))))))) [] (by kernel_rfl) (by kernel_rfl) (by kernel_rfl) (fun _ _ _ _ _ h=>h) ?_;rw[HWD.out];have q0:=tfE c0 hld;have q1:=tfE c1 hld;have q2:=tfE c2 hld;refine aev (l:= ?segA) ?hsegA ?_
  case hsegA=>simp only[pick,lE1,lE2,lE3];rfl
  repeat (go_big_quiet_step (fail))
  refine wpQuiet_nil ?_;clear q0 q1 q2;refine alM (PT.any_inv (I:=slI) (d:=fun i=>8+i) (dp:=avo) (Inv:=fun D f w=>∀j,D j->slR wd.heap.size g n s j D (f j) w) (w0:=wd) (last:= [13]) (fun i _ j _ e=>Nat.add_left_cancel (show 8+i=8+j from e)) (fun i hi=>alL fun dn f W hn hI hdp hR hb=> ?_) (fun f W hI hb=> ?_) _ [] (fun _=>undef) wd (by kernel_rfl) (fun _ h=>by cases h) (fun _ h=>by cases h) (Below.refl _ _))
  · have hk:∀w',Below W.heap.size W w'->∀j∈dn,slR wd.heap.size g n s j (fun j=>j=i\/j∈dn) (f j) w':=fun w' b j hj=>aq0 (fun k h=> .inr h) b (hI j hj) (hR j hj);generalize hX:abb (fun i=>8+i) f dn _=X;have ev:∀j∈dn,j<13->X.eval (.tmp (8+j))=f j:=fun j hj h13=>by
     rw[<-hX];exact ag7 (d:=fun i=>8+i) (I:=slI) (fun i _ j _ e=>Nat.add_left_cancel (show 8+i=8+j from e)) hI hj _ (by show 8+j<_;simp;omega)
    have old:=fun(t:Nat) (ht:∀i∈slI,8+i≠t)=>aiZ (d:=fun i=>8+i) (f:=f) (l:=dn) (t:=t) fun i hi=>ht i (hI i hi);unfold slI at hi;simp only[List.mem_cons,List.not_mem_nil,or_false]at hi;rcases hi with rfl | rfl | rfl | rfl | rfl | rfl | rfl
    · have hb1:Below W.heap.size W (W.alloc (.cells (ab6 slMark) 5)):=(Below.refl _ _).alloc (Nat.le_refl _) _;exact abX (some 8) (w1:=W.alloc (.cells (ab6 slMark) 5)) (v:= .slice (some ⟨W.heap.size,0,none⟩) 8 8) rfl rfl rfl (acA rfl rfl (aoD W)) (hb1.mono hb.size) ⟨wd.heap.size,Nat.le_refl _,_,rfl,fun _=>⟨W.heap.size,rfl,hb.size,heap_alloc_new W _⟩,hk _ hb1⟩
    · have h0:=hdp 0 (by decide);obtain⟨r,e,hr,hg⟩:=hR 0 h0 hn;obtain⟨v',hrun,fm,sz,kp,bl⟩:=ajj (P:=Tryz.prog) W 37 5 r (ab6 slMark) 8 8 Tryz.underlying37 Tryz.underlying5 hg;have k:∀{A:Option Addr} {m:Nat} {bs:List UInt8},Rd W W.heap.size A m bs->Rd v' v'.heap.size A m bs:=fun h=>by
       rw[sz];refine h.keep fun p _=> ?_;by_cases ep:p.block=r
       · obtain⟨pb,po,ps⟩:=p;dsimp only at ep;subst ep;simp[World.cell?,hg,fm]
       · exact World.cell?_of_block (kp _ ep)
      refine abX (some 9) rfl rfl rfl (alY rfl ((ev 0 h0 (by omega)).trans e) hrun) (bl wd.heap.size hr) ⟨wd.heap.size,Nat.le_refl _,_,rfl,⟨r,rfl,acj fm⟩,fun j hj=> ?_⟩;have hj2:=hI j hj;unfold slI at hj2;simp only[List.mem_cons,List.not_mem_nil,or_false]at hj2;rcases hj2 with rfl | rfl | rfl | rfl | rfl | rfl | rfl
      · exact fun h=>absurd (.inl rfl) h
      · exact absurd hj hn
      · exact(hR 4 hj).imp fun r h=>⟨h.1,k h.2⟩
      · exact(hR 7 hj).imp fun r h=>⟨h.1,k h.2⟩
      · exact(hR 10 hj).imp fun r h=>⟨h.1,k h.2⟩
      · exact absurd (hR 11 hj).1 hn
      · exact absurd (hR 11 (hR 12 hj).1).1 hn
    · refine aau (vs:= #[.int .u64 (g:Int)]) Tryz.call120 rfl rfl (congrArg (fun x=> [x]) (by rw[<-hX];exact old 11 (by decide) _)) (R:=fun r w'=>(∃x,r= .slice (some ⟨x,0,none⟩) 8 8/\Rd w' w'.heap.size (some ⟨x,0,none⟩) (aaF 8 g).length (aaF 8 g))/\Below W.heap.size W w') ((HPUTg.out W).mono ?_) wd.heap.size (Nat.le_refl _) ?_
      · rintro e w' ⟨rfl,hf,hb'⟩;exact⟨_,rfl,hb'.mono hb.size,⟨_,rfl,acj hf⟩,hb'⟩
      · rintro r w' _ ⟨hx,hb'⟩;exact⟨_,rfl,hx,hk _ hb'⟩
    · refine aau (vs:= #[.int .u64 (n:Int)]) Tryz.call120 rfl rfl (congrArg (fun x=> [x]) (by rw[<-hX];exact old 14 (by decide) _)) (R:=fun r w'=>(∃x,r= .slice (some ⟨x,0,none⟩) 8 8/\Rd w' w'.heap.size (some ⟨x,0,none⟩) (aaF 8 n).length (aaF 8 n))/\Below W.heap.size W w') ((HPUTn.out W).mono ?_) wd.heap.size (Nat.le_refl _) ?_
      · rintro e w' ⟨rfl,hf,hb'⟩;exact⟨_,rfl,hb'.mono hb.size,⟨_,rfl,acj hf⟩,hb'⟩
      · rintro r w' _ ⟨hx,hb'⟩;exact⟨_,rfl,hx,hk _ hb'⟩
    · refine aau (vs:= #[.int .u32 (s:Int)]) Tryz.call183 rfl rfl (congrArg (fun x=> [x]) (by rw[<-hX];exact old 17 (by decide) _)) (R:=fun r w'=>(∃x,r= .slice (some ⟨x,0,none⟩) 4 4/\Rd w' w'.heap.size (some ⟨x,0,none⟩) (aaF 4 s).length (aaF 4 s))/\Below W.heap.size W w') ((HPUT4.out W).mono ?_) wd.heap.size (Nat.le_refl _) ?_
      · rintro e w' ⟨rfl,hf,hb'⟩;exact⟨_,rfl,hb'.mono hb.size,⟨_,rfl,acj hf⟩,hb'⟩
      · rintro r w' _ ⟨hx,hb'⟩;exact⟨_,rfl,hx,hk _ hb'⟩
    · have h1:=hdp 1 (by decide);have h4:=hdp 4 (by decide);have h7:=hdp 7 (by decide);have h10:=hdp 10 (by decide);obtain⟨a,ea,ra⟩:=hR 1 h1;obtain⟨b,eb,rb⟩:=hR 4 h4;obtain⟨c,ec,rc⟩:=hR 7 h7;obtain⟨d,ed,rd⟩:=hR 10 h10;obtain⟨w8,hw8⟩:=nmE (W.alloc (.cells #[.slice (some ⟨a,0,none⟩) 8 8, .slice (some ⟨b,0,none⟩) 8 8, .slice (some ⟨c,0,none⟩) 8 8, .slice (some ⟨d,0,none⟩) 4 4] 37));have hb8:=abE hw8;have n8:=anE hw8;have k:∀{A:Option Addr} {m:Nat} {bs:List UInt8},Rd W W.heap.size A m bs->Rd w8 w8.heap.size A m bs:=fun h=>(h.below hb8).more hb8.size;have x1:X.eval (.tmp 9)=_:=(ev 1 h1 (by omega)).trans ea;have x4:X.eval (.tmp 12)=_:=(ev 4 h4 (by omega)).trans eb;have x7:X.eval (.tmp 15)=_:=(ev 7 h7 (by omega)).trans ec;have x10:X.eval (.tmp 18)=_:=(ev 10 h10 (by omega)).trans ed;refine abX (some 19) (w1:=w8) (v:= .slice (some ⟨W.heap.size,0,none⟩) 4 4) rfl rfl rfl (by rw[<-hw8];exact acA rfl (by simp only[List.map_cons,List.map_nil];rw[x1,x4,x7,x10]) (aoE W _ _ _ _ _ _ _ _ _ _ _ _)) (hb8.mono hb.size) ⟨wd.heap.size,Nat.le_refl _,_,rfl,⟨.inr h1,W.heap.size,a,b,c,d,rfl,n8,k ra,k rb,k rc,k rd⟩,hk _ hb8⟩
    · have h11:=hdp 11 (by decide);obtain⟨_,r,a,b,c,d,er,hg,r1,r2,r3,r4⟩:=hR 11 h11;refine aau (vs:= #[.slice (some ⟨r,0,none⟩) 4 4]) Tryz.call119 rfl rfl (congrArg (fun x=> [x]) ((ev 11 h11 (by omega)).trans er)) (R:=fun q w'=>w'.ownsRow W.heap.size 5 1 q 28 ((abm g n s).map bv)/\Below W.heap.size W w') ((HEND.out W r a b c d hg r1 r2 r3 r4).mono ?_) wd.heap.size (Nat.le_refl _) ?_
      · rintro e w' ⟨v,rfl,ho,hb'⟩;exact⟨_,rfl,hb'.mono hb.size,ho,hb'⟩
      · rintro q w' _ ⟨ho,hb'⟩;exact⟨_,rfl,⟨.inr h11,ad6 ho hb.size⟩,hk _ hb'⟩
  · obtain⟨_,ho⟩:=hI 12 (by decide);have HO:=hE0 ho;have HB:=hE0 hb;clear hI ho hb;unfold slI;simp only[abb,Act.put,List.setIfInBounds_toArray,List.set_cons_zero,List.set_cons_succ,Nat.reduceAdd];refine aew (l:= ?finA) (t:= []) ?hfinA ?htfinA ?_
    case hfinA=>simp only[pick,lE1,lE2,lE3];rfl
    case htfinA=>rfl
    repeat (go_big_quiet_step (fail))
    refine wpQuiet_nil ?_;go_wp2_with fail
    go_meet
    case rel=>exact⟨HO.out,HB.out⟩
 case rest=>
  obtain⟨ho,hb⟩:=hcut;obtain⟨A0,k0,rfl,hA0⟩:=aei ho;obtain⟨z,hz⟩:=nmE (List.replicate 32 (0:UInt8)++List.replicate 480 0);have hmk:(Instr.makeSlice 37 (.int .i64 512) (.int .i64 512)).run Tryz.prog wc= .ok (.slice (some ⟨wc.heap.size,0,none⟩) 512 512) (wc.alloc (.cells (ab6 z) 5)):=by
   have:=run_make_row' (P:=Tryz.prog) 37 5 (.int .u8 0) 1 Tryz.underlying37 aeZ rfl .i64 .i64 512 (by omega) (by omega) wc;rw[acz,show(512:Nat)=32+480 from rfl,<-List.replicate_append_replicate,hz]at this;exact this
  obtain⟨w3,hw3⟩:=nmE (wc.alloc (.cells (ab6 z) 5));have hf3:Fill w3 wc.heap.size 5 z:=by rw[<-hw3];exact Fill.made wc 5 _
  have hb3:=abE hw3;have HR0:=hE0 (((acH ho).below hb3).more hb3.size);have HK0:=hE0 hA0;obtain⟨u,hu⟩:=nmE (abS 0 (abm g n s));have hul:u<4294967296:=by rw[<-hu];exact ad2 _ _
  have hsum:=af3 A0 28 k0 w3.heap.size (abm g n s) w3 HR0.out (by omega);rw[hu]at hsum;have HS:=hE0 hsum;have HU:=hE0 hu;have HF3:=hE0 hf3;have HBC:=hE0 hb;have HB3:=hE0 hb3;have HW3:=hE0 hw3;have HZ:=hE0 hz;have h28:28<=k0:=by
   rcases ho.2 with⟨h',_⟩ | ⟨_,_,_,hv,_,_,h',_,_⟩
   · omega
   · injection hv with _ _ e3;subst e3;exact h'
  clear ho hb hf3 hb3 hw3 hA0 hsum hu hz HPUTg HPUTn HPUT4 HEND;go_wp2_with (first | (rw[HW3.out]) | fail)
  refine HS.out.mono ?_;rintro e w4 ⟨rfl,rfl⟩;go_wp2_with fail
  refine(ahV u _ hul).mono ?_;rintro e w5 ⟨rfl,hf5,hb5⟩;have hf5':w5.heap[w3.heap.size]?=some (.cells (ab6 (aaF 4 u)) 5 (0,0)):=hf5;obtain⟨w6,hw6⟩:=nmE (w5.alloc (.cells #[.slice A0 28 k0, .slice (some ⟨w3.heap.size,0,none⟩) 4 4] 37));have hb6:=abE hw6;have n6:=anE hw6;have hb56:=hb5.trans (hb6.mono hb5.size);have hd6:DtRd w6 w6.heap.size (some ⟨w5.heap.size,0,none⟩) [abm g n s,aaF 4 u]:=ar6 n6 (fun j x hx=>by
   match j,hx with
   | 0,hx=>injection hx with hx;subst hx;exact⟨A0,k0,by rw[abQ];rfl,by rw[abQ];exact(HR0.out.below hb56).more hb56.size,by rw[abQ];decide,by rw[abQ];exact h28,HK0.out⟩
   | 1,hx=>injection hx with hx;subst hx;exact⟨some ⟨w3.heap.size,0,none⟩,4,by rw[aag];rfl,((acj hf5').below hb6).more hb6.size,by rw[aag];decide,by rw[aag];decide,fun e=>by cases e⟩
   | j+2,hx=>cases hx)
  have hc6:=ae7 w6 (some ⟨w5.heap.size,0,none⟩) 2 [abm g n s,aaF 4 u] hd6 (by simp) (by simp[abQ,aag]);obtain⟨H,hH⟩:=nmE (abm g n s++ahf (abm g n s));have hHl:H.length=32:=by rw[<-hH,List.length_append,abQ,ab1]
  have e6:([abm g n s,aaF 4 u]:List (List UInt8)).flatten=H:=by rw[<-hH];unfold ahf;rw[HU.out];simp
  rw[e6,hHl]at hc6;have HC6:=hE0 hc6;have HB6:=hE0 hb56;have HW6:=hE0 hw6;have HHL:=hE0 hHl;have HH:=hE0 hH;clear hf5 hf5' hb5 hb6 n6 hd6 hc6 e6 hb56 hw6 hHl hH HS HR0 HK0 HU;have hbs2:=aqZ w5 A0 (some ⟨w3.heap.size,0,none⟩) 28 k0 4 4;go_wp2_with (first | (rw[HW6.out]) | fail)
  clear hbs2;refine HC6.out.mono ?_;rintro e w7 ⟨v7,rfl,ho7,hb7⟩;obtain⟨A7,k7,rfl,_⟩:=aei ho7;have hB7:=HB6.out.trans (hb7.mono HB6.out.size);have hf7:Fill w7 wc.heap.size 5 (List.replicate 32 (0:UInt8)++List.replicate 480 0):=by
   rw[HZ.out];exact HF3.out.below hB7 HF3.out.lt
  have hbb:=HBC.out.trans ((HB3.out.trans (hB7.mono HB3.out.size)).mono HBC.out.size);have hr7:=acH ho7;obtain⟨b7,o7,e7,_⟩:=hr7.2 (by omega);subst e7;have hov:=aoF hf7 hbb HBC.out.size H (by rw[HHL.out];rfl);have hsrc:∀j v,(H.map bv)[j]?=some v->w7.cell? ((⟨b7,o7,none⟩:Addr).add j)=some v:=fun j v hj=>adc hr7 j v hj;have HOV:=hE0 hov;have HSRC:=hE0 hsrc;have HN:Hid ((H.map bv).length=Nat.min 32 512):=(show _=_ by rw[List.length_map,HHL.out];rfl);have HF7:=hE0 hf7;have HFIT:Hid (0+(H.map bv).length<=(ab6 (List.replicate 32 (0:UInt8)++List.replicate 480 0)).size):=(show _<=_ by rw[adC,List.length_map,HHL.out];simp);clear hov hsrc hf7 hbb hr7 ho7 hb7 hB7;go_wp2_with ((refine wpList_copy_own rfl (.tmp 22) (.tmp 28) 37 37 rfl 5 Tryz.underlying37 (by kernel_rfl) wc.heap.size 0 512 512 ⟨b7,o7,none⟩ 32 k7 rfl rfl _ 5 HF7.out (H.map bv) HN.out HSRC.out HFIT.out (afj _) ?_);generalize w7.setRow _ _=w9 at HOV ⊢)
  go_ret
  have hw1d:=Nat.le_trans HB1.out.size HBD.out.size;refine⟨wc.heap.size,rfl,Nat.le_trans hw1d HBC.out.size,?_,HB1.out.trans ((HBD.out.trans (HOV.out.2.mono HBD.out.size)).mono HB1.out.size)⟩;have e:abG g n s=H++List.replicate 480 0:=by rw[<-HH.out];rfl
  rw[e];exact HOV.out.1
theorem aoG (w:World) (g n s:Nat) (hs:s<4294967296):
 Calls Tryz.prog 145 #[.agg #[.int .u64 (g:Int), .int .u64 (n:Int), .int .u32 (s:Int)]] w fun e w'=>∃A m c,e= .returned (.slice A m c)/\(A=none->c=0)/\Rd w' w'.heap.size A m (anT g n s)/\Below w.heap.size w w':=by
 cases h:akl g n with
 | false=>
  refine(aqY w g n s h).mono ?_;rintro e w' ⟨rfl,hb⟩;refine⟨none,0,0,rfl,fun _=>rfl,?_,hb⟩;unfold anT;rw[if_neg (by rw[h];simp)];exact Rd.nil_
 | true=>
  refine(alZ w g n s hs h).mono ?_;rintro e w' ⟨b,rfl,_,hf,hb⟩;refine⟨_,512,512,rfl,(fun e=>by cases e),?_,hb⟩;unfold anT;rw[if_pos h];have:=hf.reads;rw[adN]at this;exact this
theorem aq1 (a b:List UInt8):((amG a).toList==(amG b).toList)=decide (a=b):=by
 unfold amG;simp;by_cases h:a=b<;>simp[h]
theorem agS (w:World) (A1 A2:Option Addr) (n1 c1 n2 c2 B:Nat) (x y:List UInt8) (h1:Rd w B A1 n1 x) (h2:Rd w B A2 n2 y) (t:Bool) (ht:decide (x=y)=t):
 Calls Tryz.prog 251 #[.slice A1 n1 c1, .slice A2 n2 c2] w fun e w'=>e= .returned (.bool t)/\w=w':=by
 have q1:=adG (c:=c1) h1;have q2:=adG (c:=c2) h2;have gy:=aq1 x y;obtain⟨S,hS⟩:=nmE (amG x);obtain⟨T,hT⟩:=nmE (amG y);rw[hS]at q1;rw[hT]at q2;rw[hS,hT,ht]at gy;clear h1 h2 hS hT ht;go_enter Tryz.func251,Tryz.ntmps251
 go_wp2
 go_ret
 exact⟨rfl,rfl⟩
theorem akF{fn:Func}{R:Ending->World->Prop}{a:Act}{w:World}{p u:Tmp}{g:Nat}{x y0 y1 y2:Value}(hres:fn.results= #[.cell p 146, .tmp u]) (hp:a.tmps.getD p undef= .pointer (some ⟨g,0,none⟩)) (hx:a.tmps.getD u undef=x) (hd:a.defers= [])
 (hg:w.heap[g]?=some (.cells #[y0,y1,y2] 146 (0,0))) (hR:R (.returned (.tuple #[.agg #[y0,y1,y2],x])) w):bodyPost Tryz.prog fn R .ret a w:=by
 obtain⟨c0,c1,c2⟩:=aal hg;refine bodyPost_ret (v:= .tuple #[.agg #[y0,y1,y2],x]) ?_ hd hR;rw[results_cell_tmp hres,hp,hx];simp[go_sem,c0,c1,c2]
theorem aq2{fn:Func}{R:Ending->World->Prop}{a:Act}{w:World}{p:Tmp}{g:Nat}{n s:Int}{k:Int}(hres:fn.results= #[.cell p 146]) (hp:a.tmps.getD p undef= .pointer (some ⟨g,0,none⟩)) (hd:a.defers= [])
 (hg:w.heap[g]?=some (.cells #[.int .u64 n, .int .u64 s, .int .u32 k] 146 (0,0))) (hR:R (.returned (.agg #[.int .u64 n, .int .u64 s, .int .u32 k])) w):bodyPost Tryz.prog fn R .ret a w:=by
 refine bodyPost_ret (v:= .agg #[.int .u64 n, .int .u64 s, .int .u32 k]) ?_ hd hR;exact results_cell_row hres _ _ g _ _ _ _ hp hg rfl rfl rfl
theorem aic (w:World) (A:Option Addr) (c:Nat) (b:List UInt8) (hr:Rd w w.heap.size A 512 b) (hc:512<=c) (G N S:Nat) (hG:slG b=G) (hN:slN b=N) (hS:slS b=S):
 Calls Tryz.prog 250 #[.slice A 512 c] w fun e w'=>e= .returned (.agg #[.int .u64 (G:Int), .int .u64 (N:Int), .int .u32 (S:Int)])/\Below w.heap.size w w':=by
 obtain⟨w1,hw1⟩:=nmE (w.alloc (.cells #[.int .u64 0, .int .u64 0, .int .u32 0] 146));have hb1:=abE hw1;have n1:=anE hw1;have hr1:=hr.below hb1;have HG:=hE0 (adD A 512 c w.heap.size b 8 w1 hr1 hc (by omega) (by omega));have HN:=hE0 (adD A 512 c w.heap.size b 16 w1 hr1 hc (by omega) (by omega));have HS:=hE0 (alF A 512 c w.heap.size b 24 w1 hr1 hc (by omega) (by omega));unfold slG at hG;unfold slN at hN;unfold slS at hS;rw[hG]at HG;rw[hN]at HN;rw[hS]at HS;obtain⟨z0,z1,z2⟩:=aal n1;obtain⟨f0,f1,f2⟩:=acI n1;have hl1:=aab n1;have HW1:=hE0 hw1;have HM:=hE0 (aeI n1 (.int .u64 (G:Int)) (.int .u64 (N:Int)) (.int .u32 (S:Int)));have HF:=hE0 (((hb1.setCell (p:=⟨w.heap.size,0,none⟩) (Nat.le_refl _) (.int .u64 (G:Int))).setCell (p:=⟨w.heap.size,1,none⟩) (Nat.le_refl _) (.int .u64 (N:Int))).setCell (p:=⟨w.heap.size,2,none⟩) (Nat.le_refl _) (.int .u32 (S:Int)));clear hw1 hb1 n1 hr hr1 hG hN hS;go_enter Tryz.func250,Tryz.ntmps250
 go_wp2_with (first | (rw[HW1.out]) | fail)
 refine HG.out.mono ?_;rintro e w2 ⟨rfl,rfl⟩;go_wp2_with fail
 refine HN.out.mono ?_;rintro e w2 ⟨rfl,rfl⟩;go_wp2_with fail
 refine HS.out.mono ?_;rintro e w2 ⟨rfl,rfl⟩;go_wp2_with fail
 (try simp only[Exit.inBlock,Exit.then])
 refine aq2 (g:=w.heap.size) Tryz.results250 ?_ ?_ HM.out ?_
 · rfl
 · rfl
 · exact⟨rfl,HF.out⟩
theorem aoH (w:World) (A:Option Addr) (n c:Nat) (hn:n≠512):
 Calls Tryz.prog 205 #[.slice A n c] w fun e w'=>e= .returned (.tuple #[.agg #[.int .u64 0, .int .u64 0, .int .u32 0], .bool false])/\Below w.heap.size w w':=by
 obtain⟨w1,hw1⟩:=nmE (w.alloc (.cells #[.int .u64 0, .int .u64 0, .int .u32 0] 146));have hb1:=abE hw1;have n1:=anE hw1;obtain⟨z0,z1,z2⟩:=aal n1;obtain⟨f0,f1,f2⟩:=acI n1;have hl1:=aab n1;have g1:(n !=512)=true:=by rw[bne_iff_ne];exact hn
 have g2:((n:Int) !=512)=true:=by rw[bne_iff_ne];omega
 have HW1:=hE0 hw1;have HM:=hE0 (aeI n1 (.int .u64 0) (.int .u64 0) (.int .u32 0));have HF:=hE0 (((hb1.setCell (p:=⟨w.heap.size,0,none⟩) (Nat.le_refl _) (.int .u64 0)).setCell (p:=⟨w.heap.size,1,none⟩) (Nat.le_refl _) (.int .u64 0)).setCell (p:=⟨w.heap.size,2,none⟩) (Nat.le_refl _) (.int .u32 0));clear hw1 hb1 n1;go_enter Tryz.func205,Tryz.ntmps205
 go_wp2_with (first | (rw[HW1.out]) | fail)
 (try simp only[Exit.inBlock,Exit.then])
 refine akF (g:=w.heap.size) (x:= .bool false) Tryz.results205 ?_ ?_ ?_ HM.out ?_
 · rfl
 · rfl
 · rfl
 · exact⟨rfl,HF.out⟩
theorem aoI (w:World) (A:Option Addr) (c:Nat) (b:List UInt8) (hr:Rd w w.heap.size A 512 b) (hc:512<=c) (G N S:Nat) (hG:slG b=G) (hN:slN b=N) (hS:slS b=S) (y:Bool) (hy:decide (anT G N S≠b)=y):
 Calls Tryz.prog 205 #[.slice A 512 c] w fun e w'=>e= .returned (.tuple #[.agg #[.int .u64 (if y=true then 0 else (G:Int)), .int .u64 (if y=true then 0 else (N:Int)), .int .u32 (if y=true then 0 else (S:Int))], .bool (!y)])/\Below w.heap.size w w':=by
 have hSl:S<4294967296:=by
  have h:=afX ((b.drop 24).take 4);have e:((b.drop 24).take 4).length=4:=by rw[List.length_take,List.length_drop,hr.1];rfl
  rw[e]at h;rw[<-hS];exact h
 obtain⟨w1,hw1⟩:=nmE (w.alloc (.cells #[.int .u64 0, .int .u64 0, .int .u32 0] 146));have hb1:=abE hw1;have n1:=anE hw1;have HNUM:=hE0 (aic w1 A c b ((hr.below hb1).more hb1.size) hc G N S hG hN hS);have HPUT:=hE0 (fun V=>aoG V G N S hSl);obtain⟨P,hP⟩:=nmE (anT G N S);rw[hP]at hy HPUT;have ht:decide (b=P)= !y:=by
  rw[<-hy];by_cases e:P=b
  · subst e;simp
  · rw[decide_eq_false (fun h=>e h.symm),decide_eq_true e];rfl
 have HT:=hE0 ht;have HR:=hE0 hr;have HB1:=hE0 hb1;have HN1:=hE0 n1;have HW1:=hE0 hw1;clear hw1 hb1 n1 hr hP hy hG hN hS ht;go_enter Tryz.func205,Tryz.ntmps205
 go_wp2_with (first | (rw[HW1.out]) | fail)
 refine HNUM.out.mono ?_;rintro e w2 ⟨rfl,hb2⟩;obtain⟨w3,hw3⟩:=nmE (w2.alloc (.cells #[.int .u64 0, .int .u64 0, .int .u32 0] 146));have hb3:=abE hw3;have n3:=anE hw3;obtain⟨w5,hw5⟩:=nmE ((((w3.setCell ⟨w2.heap.size,0,none⟩ (.int .u64 (G:Int))).setCell ⟨w2.heap.size,1,none⟩ (.int .u64 (N:Int))).setCell ⟨w2.heap.size,2,none⟩ (.int .u32 (S:Int))));have n5:w5.heap[w2.heap.size]?=some (.cells #[.int .u64 (G:Int), .int .u64 (N:Int), .int .u32 (S:Int)] 146 (0,0)):=by rw[<-hw5];exact aeI n3 _ _ _
 have hb5:Below w2.heap.size w2 w5:=by rw[<-hw5];exact((hb3.setCell (p:=⟨w2.heap.size,0,none⟩) (Nat.le_refl _) _).setCell (p:=⟨w2.heap.size,1,none⟩) (Nat.le_refl _) _).setCell (p:=⟨w2.heap.size,2,none⟩) (Nat.le_refl _) _
 obtain⟨z0,z1,z2⟩:=aal n3;obtain⟨f0,f1,f2⟩:=acI n3;have hlz:=aab n3;have hb25:=hb2.trans (hb5.mono hb2.size);have HNR:=hE0 ((hb25.block _ (aab HN1.out)).trans HN1.out);have HB5:=hE0 (HB1.out.trans (hb25.mono HB1.out.size));have HN5:=hE0 n5;have HW3:=hE0 hw3;have HW5:=hE0 hw5;obtain⟨c0,c1,c2⟩:=aal n5;have hl5:=aab n5;clear hb2 hw3 hb3 n3 hw5 n5 hb5 hb25 HNUM;go_wp2_with (first | (rw[HW3.out]) | (rw[HW5.out]) | fail)
 clear z0 z1 z2 f0 f1 f2 hlz c0 c1 c2 hl5;refine(HPUT.out w5).mono ?_;rintro e w6 ⟨A6,m6,c6,rfl,_,hr6,hb6⟩;have HB6:=hE0 (HB5.out.trans (hb6.mono HB5.out.size));have HEQ:=hE0 (agS w6 A A6 512 c m6 c6 w6.heap.size b P ((HR.out.below HB6.out).more HB6.out.size) hr6 _ HT.out);have e6:=(hb6.block _ (aab HN5.out)).trans HN5.out;have e7:=(hb6.block _ (aab HNR.out)).trans HNR.out;clear hr6 hb6;go_wp2_with fail
 refine HEQ.out.mono ?_;rintro e w7 ⟨rfl,rfl⟩;obtain⟨r0,r1,r2⟩:=aal e6;have hle:=aab e6;obtain⟨q0,q1,q2⟩:=aal e7;obtain⟨f0,f1,f2⟩:=acI e7;have hlq:=aab e7;have HM:=hE0 (aeI e7 (.int .u64 (if y=true then 0 else (G:Int))) (.int .u64 (if y=true then 0 else (N:Int))) (.int .u32 (if y=true then 0 else (S:Int))));have HF:=hE0 (((HB6.out.setCell (p:=⟨w.heap.size,0,none⟩) (Nat.le_refl _) (.int .u64 (if y=true then 0 else (G:Int)))).setCell (p:=⟨w.heap.size,1,none⟩) (Nat.le_refl _) (.int .u64 (if y=true then 0 else (N:Int)))).setCell (p:=⟨w.heap.size,2,none⟩) (Nat.le_refl _) (.int .u32 (if y=true then 0 else (S:Int))));clear e6 e7 HEQ
 cases y with
 | true=>
  simp only[if_true]at HM HF;go_wp2
  (try simp only[Exit.inBlock,Exit.then])
  refine akF (g:=w.heap.size) (x:= .bool false) Tryz.results205 ?_ ?_ ?_ HM.out ?_
  · rfl
  · rfl
  · rfl
  · exact⟨rfl,HF.out⟩
 | false=>
  simp only[Bool.false_eq_true,if_false]at HM HF;go_wp2
  (try simp only[Exit.inBlock,Exit.then])
  refine akF (g:=w.heap.size) (x:= .bool true) Tryz.results205 ?_ ?_ ?_ HM.out ?_
  · rfl
  · rfl
  · rfl
  · exact⟨rfl,HF.out⟩
def acv (b:List UInt8):Bool:=decide (b.length=512)&&decide (anT (slG b) (slN b) (slS b)=b)
def agT (b:List UInt8) (v:Nat):Nat:=if acv b=true then v else 0
theorem akG (b:List UInt8) (v:Nat) (y:Bool) (h:acv b= !y):(if y=true then (0:Int) else (v:Int))=((agT b v:Nat):Int):=by
 unfold agT;rw[h]
 cases y<;>rfl
theorem ae8 (b:List UInt8) (v:Nat) (h:acv b=false):(0:Int)=((agT b v:Nat):Int):=by
 unfold agT;rw[h];rfl
theorem aoJ{b:List UInt8}(h:b.length=512):decide (anT (slG b) (slN b) (slS b)≠b)= !acv b:=by
 unfold acv;rw[decide_eq_true h,Bool.true_and];by_cases e:anT (slG b) (slN b) (slS b)=b
 · rw[decide_eq_true e,decide_eq_false (fun k=>k e)];rfl
 · rw[decide_eq_false e,decide_eq_true e];rfl
theorem aoK (w:World) (A:Option Addr) (n c:Nat) (b:List UInt8) (hr:Rd w w.heap.size A n b) (hnc:n<=c):
 Calls Tryz.prog 205 #[.slice A n c] w fun e w'=>e= .returned (.tuple #[.agg #[.int .u64 (agT b (slG b):Int), .int .u64 (agT b (slN b):Int), .int .u32 (agT b (slS b):Int)], .bool (acv b)])/\Below w.heap.size w w':=by
 by_cases hn:n=512
 · subst hn;refine(aoI w A c b hr hnc _ _ _ rfl rfl rfl _ (aoJ hr.1)).mono ?_;rintro e w' ⟨rfl,hb⟩;refine⟨?_,hb⟩;rw[akG b _ _ (Bool.not_not _).symm,akG b _ _ (Bool.not_not _).symm,akG b _ _ (Bool.not_not _).symm,Bool.not_not]
 · refine(aoH w A n c hn).mono ?_;rintro e w' ⟨rfl,hb⟩;have h:acv b=false:=by unfold acv;rw[decide_eq_false (by rw[hr.1];exact hn)];rfl
   refine⟨?_,hb⟩;rw[<-ae8 b _ h,<-ae8 b _ h,<-ae8 b _ h,h]
theorem aoL{g n s:Nat}(hy:akl g n=true) (hs:s<4294967296):acv (abG g n s)=true/\agT (abG g n s) (slG (abG g n s))=g/\agT (abG g n s) (slN (abG g n s))=n/\agT (abG g n s) (slS (abG g n s))=s:=by
 have h:=hy;unfold akl at h;simp only[Bool.and_eq_true,decide_eq_true_eq]at h;obtain⟨e1,e2,e3⟩:=aoC (g:=g) (n:=n) (s:=s) (by omega) (by omega) hs;have hr:acv (abG g n s)=true:=by
  unfold acv;rw[e1,e2,e3,decide_eq_true (adN g n s),Bool.true_and];unfold anT;rw[if_pos hy,decide_eq_true rfl]
 unfold agT;rw[if_pos hr,if_pos hr,if_pos hr];exact⟨hr,e1,e2,e3⟩
theorem akH:acv (List.replicate 512 0)=false:=by
 have e:slG (List.replicate 512 0)=0:=by unfold slG;rw[List.drop_replicate,List.take_replicate];rfl
 have hk:∀n,¬akl 0 n=true:=fun n h=>by unfold akl at h;cases h
 unfold acv anT;rw[e,if_neg (hk _)];rw[decide_eq_false (fun h: []=List.replicate 512 (0:UInt8)=>by have:=congrArg List.length h;rw[List.length_replicate]at this;cases this),Bool.and_false]
theorem aid{b:List UInt8}(h:acv b=true):anT (slG b) (slN b) (slS b)=b/\agT b (slG b)=slG b/\agT b (slN b)=slN b/\agT b (slS b)=slS b:=by
 unfold agT;rw[if_pos h,if_pos h,if_pos h];unfold acv at h;rw[Bool.and_eq_true]at h;exact⟨of_decide_eq_true h.2,rfl,rfl,rfl⟩
theorem atR (b:List UInt8):slS b<4294967296:=by
 have h:=afX ((b.drop 24).take 4);have e:((b.drop 24).take 4).length<=4:=by rw[List.length_take];omega
 have:(256:Nat)^((b.drop 24).take 4).length<=256^4:=Nat.pow_le_pow_right (by omega) e;unfold slS;omega
theorem adO{w:World}{g:Nat}{t:TypeId}{y0 y1 y2:Value}(h:w.heap[g]?=some (.cells #[y0,y1,y2] t (0,0))):(w.cell? ⟨g,0,none⟩=some y0/\w.cell? ⟨g,1,none⟩=some y1/\w.cell? ⟨g,2,none⟩=some y2)/\(w.frozen? ⟨g,0,none⟩=false/\w.frozen? ⟨g,1,none⟩=false/\w.frozen? ⟨g,2,none⟩=false)/\g<w.heap.size:=
 ⟨⟨by rw[cell_of_row w g 0 _ _ (0,0) h];rfl,by rw[cell_of_row w g 1 _ _ (0,0) h];rfl,by rw[cell_of_row w g 2 _ _ (0,0) h];rfl⟩,⟨frozen_of_row w g 0 _ _ h,frozen_of_row w g 1 _ _ h,frozen_of_row w g 2 _ _ h⟩,aab h⟩
theorem ajo (w:World) (t:TypeId) (y0 y1 y2:Value):∃w',Hid (w.alloc (.cells #[y0,y1,y2] t)=w')/\Hid (w'.heap[w.heap.size]?=some (.cells #[y0,y1,y2] t (0,0)))/\Hid (Below w.heap.size w w'):=
 ⟨_,hE0 rfl,hE0 (heap_alloc_new w _),hE0 ((Below.refl _ _).alloc (Nat.le_refl _) _)⟩
theorem atH{w:World}{g:Nat}{t:TypeId}{y0 y1 y2:Value}(h:Hid (w.heap[g]?=some (.cells #[y0,y1,y2] t (0,0)))) (x0 x1 x2:Value):∃w',Hid ((((w.setCell ⟨g,0,none⟩ x0).setCell ⟨g,1,none⟩ x1).setCell ⟨g,2,none⟩ x2)=w')/\Hid (w'.heap[g]?=some (.cells #[x0,x1,x2] t (0,0)))/\Hid (∀B v,B<=g->Below B v w->Below B v w')/\(w.cell? ⟨g,0,none⟩=some y0/\w.cell? ⟨g,1,none⟩=some y1/\w.cell? ⟨g,2,none⟩=some y2)/\(w.frozen? ⟨g,0,none⟩=false/\w.frozen? ⟨g,1,none⟩=false/\w.frozen? ⟨g,2,none⟩=false)/\g<w.heap.size:=by
 have h0:=h.out;have h1:(_:Option Obj)=some (.cells #[x0,y1,y2] t (0,0)):=heap_setCell_same _ g 0 _ _ x0 h0;have h2:(_:Option Obj)=some (.cells #[x0,x1,y2] t (0,0)):=heap_setCell_same _ g 1 _ _ x1 h1;have h3:(_:Option Obj)=some (.cells #[x0,x1,x2] t (0,0)):=heap_setCell_same _ g 2 _ _ x2 h2;exact⟨_,hE0 rfl,hE0 h3,hE0 (fun B v hB hv=>(Below.setCell (Below.setCell (Below.setCell hv (p:=⟨g,0,none⟩) hB _) (p:=⟨g,1,none⟩) hB _) (p:=⟨g,2,none⟩) hB _)),adO h0⟩
theorem ahi{w:World}{g:Nat}{t:TypeId}{y0 y1 y2 y3 y4 y5 y6:Value}(h:w.heap[g]?=some (.cells #[y0,y1,y2,y3,y4,y5,y6] t (0,0))):(w.cell? ⟨g,0,none⟩=some y0/\w.cell? ⟨g,1,none⟩=some y1/\w.cell? ⟨g,2,none⟩=some y2/\w.cell? ⟨g,3,none⟩=some y3/\w.cell? ⟨g,4,none⟩=some y4/\w.cell? ⟨g,5,none⟩=some y5/\w.cell? ⟨g,6,none⟩=some y6)/\(w.frozen? ⟨g,0,none⟩=false/\w.frozen? ⟨g,1,none⟩=false/\w.frozen? ⟨g,2,none⟩=false/\w.frozen? ⟨g,3,none⟩=false/\w.frozen? ⟨g,4,none⟩=false/\w.frozen? ⟨g,5,none⟩=false/\w.frozen? ⟨g,6,none⟩=false)/\g<w.heap.size:=
 ⟨⟨by rw[cell_of_row w g 0 _ _ (0,0) h];rfl,by rw[cell_of_row w g 1 _ _ (0,0) h];rfl,by rw[cell_of_row w g 2 _ _ (0,0) h];rfl,by rw[cell_of_row w g 3 _ _ (0,0) h];rfl,by rw[cell_of_row w g 4 _ _ (0,0) h];rfl,by rw[cell_of_row w g 5 _ _ (0,0) h];rfl,by rw[cell_of_row w g 6 _ _ (0,0) h];rfl⟩,⟨frozen_of_row w g 0 _ _ h,frozen_of_row w g 1 _ _ h,frozen_of_row w g 2 _ _ h,frozen_of_row w g 3 _ _ h,frozen_of_row w g 4 _ _ h,frozen_of_row w g 5 _ _ h,frozen_of_row w g 6 _ _ h⟩,aab h⟩
theorem aoM (w:World) (t:TypeId) (y0 y1 y2 y3 y4 y5 y6:Value):∃w',Hid (w.alloc (.cells #[y0,y1,y2,y3,y4,y5,y6] t)=w')/\Hid (w'.heap[w.heap.size]?=some (.cells #[y0,y1,y2,y3,y4,y5,y6] t (0,0)))/\Hid (Below w.heap.size w w'):=
 ⟨_,hE0 rfl,hE0 (heap_alloc_new w _),hE0 ((Below.refl _ _).alloc (Nat.le_refl _) _)⟩
theorem atS{w:World}{g:Nat}{t:TypeId}{y0 y1 y2 y3 y4 y5 y6:Value}(h:Hid (w.heap[g]?=some (.cells #[y0,y1,y2,y3,y4,y5,y6] t (0,0)))) (x0 x1 x2 x3 x4 x5 x6:Value):∃w',Hid ((((((((w.setCell ⟨g,0,none⟩ x0).setCell ⟨g,1,none⟩ x1).setCell ⟨g,2,none⟩ x2).setCell ⟨g,3,none⟩ x3).setCell ⟨g,4,none⟩ x4).setCell ⟨g,5,none⟩ x5).setCell ⟨g,6,none⟩ x6)=w')/\Hid (w'.heap[g]?=some (.cells #[x0,x1,x2,x3,x4,x5,x6] t (0,0)))/\Hid (∀B v,B<=g->Below B v w->Below B v w')/\(w.cell? ⟨g,0,none⟩=some y0/\w.cell? ⟨g,1,none⟩=some y1/\w.cell? ⟨g,2,none⟩=some y2/\w.cell? ⟨g,3,none⟩=some y3/\w.cell? ⟨g,4,none⟩=some y4/\w.cell? ⟨g,5,none⟩=some y5/\w.cell? ⟨g,6,none⟩=some y6)/\(w.frozen? ⟨g,0,none⟩=false/\w.frozen? ⟨g,1,none⟩=false/\w.frozen? ⟨g,2,none⟩=false/\w.frozen? ⟨g,3,none⟩=false/\w.frozen? ⟨g,4,none⟩=false/\w.frozen? ⟨g,5,none⟩=false/\w.frozen? ⟨g,6,none⟩=false)/\g<w.heap.size:=by
 have h0:=h.out;have h1:(_:Option Obj)=some (.cells #[x0,y1,y2,y3,y4,y5,y6] t (0,0)):=heap_setCell_same _ g 0 _ _ x0 h0;have h2:(_:Option Obj)=some (.cells #[x0,x1,y2,y3,y4,y5,y6] t (0,0)):=heap_setCell_same _ g 1 _ _ x1 h1;have h3:(_:Option Obj)=some (.cells #[x0,x1,x2,y3,y4,y5,y6] t (0,0)):=heap_setCell_same _ g 2 _ _ x2 h2;have h4:(_:Option Obj)=some (.cells #[x0,x1,x2,x3,y4,y5,y6] t (0,0)):=heap_setCell_same _ g 3 _ _ x3 h3;have h5:(_:Option Obj)=some (.cells #[x0,x1,x2,x3,x4,y5,y6] t (0,0)):=heap_setCell_same _ g 4 _ _ x4 h4;have h6:(_:Option Obj)=some (.cells #[x0,x1,x2,x3,x4,x5,y6] t (0,0)):=heap_setCell_same _ g 5 _ _ x5 h5;have h7:(_:Option Obj)=some (.cells #[x0,x1,x2,x3,x4,x5,x6] t (0,0)):=heap_setCell_same _ g 6 _ _ x6 h6;exact⟨_,hE0 rfl,hE0 h7,hE0 (fun B v hB hv=>(Below.setCell (Below.setCell (Below.setCell (Below.setCell (Below.setCell (Below.setCell (Below.setCell hv (p:=⟨g,0,none⟩) hB _) (p:=⟨g,1,none⟩) hB _) (p:=⟨g,2,none⟩) hB _) (p:=⟨g,3,none⟩) hB _) (p:=⟨g,4,none⟩) hB _) (p:=⟨g,5,none⟩) hB _) (p:=⟨g,6,none⟩) hB _)),ahi h0⟩
end Go.Proofs.YtncadccbepjekaaGreatDoor
