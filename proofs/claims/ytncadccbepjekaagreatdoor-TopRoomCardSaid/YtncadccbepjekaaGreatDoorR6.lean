/- Texts of mine, joined. -/
import Derived.Maps.OwnSet
import Derived.DeepKeys4
import Derived.Test.YtncadccbepjekaaGreatDoorR5
set_option maxRecDepth 100000
set_option maxHeartbeats 4000000
namespace Go.Proofs.YtncadccbepjekaaGreatDoor
open Go.RowKit
theorem auG:avs:=by
 intro w g base cap c A bs k x h hb hl hk hx;have hk1:¬(k:Int)<0:=by omega
 have hk2:¬22<=(k:Int):=by omega
 by_cases h0:bs.length<184
 · obtain rfl:none=x:=by rw[<-hx];unfold afk;rw[if_pos h0]
   have HL:=hE0 (abF h);clear hx h;go_enter Tryz.func102,Tryz.ntmps102
   go_wp2_with fail
   with_reducible refine HL.out.mono ?_
   rintro e w1 ⟨rfl,rfl⟩;go_wp2
   go_ret2
   exact⟨none,0,rfl,World.ownsRow_nil _ _ _ _,Below.refl _ _⟩
 · obtain⟨f,hf⟩:=nmE (aaf bs (8+8*k));obtain⟨b,hbt⟩:=nmE (acq (aaf bs 0) k);have hfl:f<18446744073709551616:=by rw[<-hf];exact aan _ _
   have hx':(if b≠decide (f≠0) then none else aes bs k 1024 0 f)=x:=by rw[<-hx];unfold afk;rw[if_neg h0,hf,hbt]
   have HL:=hE0 (abF h);have HFA:=hE0 (aaE w k hk);have HNF:=hE0 (aai h hb hl (8+8*(k:Int)) (8+8*k) (by omega) (by omega) f hf);have HBT:=hE0 (akQ h hb hl (by omega) k hk b hbt);have HAR:=hE0 h;have HBASE:=hE0 hb;obtain⟨d,hd⟩:=nmE (decide (f≠0));have hd2:((f:Int) !=0)=d:=by
    rw[<-hd,Bool.eq_iff_iff,bne_iff_ne,decide_eq_true_eq];omega
   rw[hd]at hx';clear hf hbt hx h hb;by_cases hbd:b=d
   · subst hbd;rw[if_neg (by simp)]at hx';obtain⟨i0,hi,hz0,hz1,hz2⟩:=info_parts asy;have HX:=hE0 hx';obtain⟨B0,hB0⟩:=nmE w.heap.size;have HB0:=hE0 hB0;have hbb:(b !=b)=false:=by simp
     clear hx' hB0 hd;go_enter Tryz.func102,Tryz.ntmps102
     go_wp2_with fail
     with_reducible refine HL.out.mono ?_
     rintro e w1 ⟨rfl,rfl⟩;go_wp2_with fail
     with_reducible refine HFA.out.mono ?_
     rintro e w1 ⟨rfl,rfl⟩;go_wp2_with fail
     with_reducible refine HNF.out.mono ?_
     rintro e w1 ⟨rfl,rfl⟩;go_wp2_with fail
     with_reducible refine HBT.out.mono ?_
     rintro e w1 ⟨rfl,rfl⟩;clear HL HFA HNF HBT;go_wp2
     clear hd2;go_loopw [6,7,8] (fun q o t wr=>∃(p last n:Nat) (l:List Nat),q= .int .u64 (p:Int)/\t= .int .u64 (last:Int)/\p<18446744073709551616/\last<18446744073709551616/\n+l.length=1024/\x=(aes bs k n last p).map (l++ ·)/\wr.ownsRow B0 3 1 o l.length (l.map iV)/\Below B0 w wr) (fun _ o _ _=>match o with | .slice _ n _=>1024-n | _=>0)
     case atStart=>exact⟨f,0,1024,[],rfl,rfl,hfl,by omega,rfl,by rw[HX.out];simp,World.ownsRow_nil _ _ _ _,Below.refl _ _⟩
     case round=>
      obtain⟨p,last,n,l,rfl,rfl,hp,hlast,hn,hxl,hown,hbw⟩:=hrel;obtain⟨A7,c7,rfl⟩:=alV hown;have hBw:B0<=wr.heap.size:=by have:=hbw.size;have:=HB0.out;omega
      by_cases hp0:p=0
      · subst hp0;obtain rfl:x=some l:=by rw[hxl];cases n<;>simp[aes]
        have HB:=hE0 hbw;have HO:=hE0 hown;clear hxl hown hbw HX HAR HBASE;go_wp2
        go_ret2
        exact⟨A7,c7,rfl,by rw[HB0.out];exact HO.out,by rw[HB0.out];exact HB.out⟩
      · have hq0:((p:Int) !=0)=true:=by rw[bne_iff_ne];omega
        have har:=HAR.out.below (by rw[HB0.out];exact hbw);by_cases hn0:n=0
        · subst hn0;obtain rfl:x=none:=by rw[hxl];simp[aes,hp0]
          have e1:((l.length:Int)==1024)=true:=by rw[beq_iff_eq];omega
          have HB:=hE0 hbw;clear hxl hown hbw HX HAR HBASE har;go_wp2
          go_ret2
          exact⟨none,0,rfl,World.ownsRow_nil _ _ _ _,by rw[HB0.out];exact HB.out⟩
        · obtain⟨n,rfl⟩:∃n',n=n'+1:=⟨n-1,by omega⟩;have e1:((l.length:Int)==1024)=false:=by rw[beq_eq_false_iff_ne];omega
          have hstep:x=(if aao bs p (k:Int)=true/\aaf bs (p+16)=last then (aes bs k n p (aaf bs (p+8))).map (p:: ·) else none).map (l++ ·):=by
           rw[hxl];conv=>lhs;unfold aes
           rw[if_neg hp0]
          cases hm:abl bs k p 16 last with
          | false=>
           rw[if_neg (by
            rintro⟨h1,h2⟩;unfold abl at hm;rw[h1,h2]at hm;simp at hm)]at hstep
           obtain rfl:x=none:=hstep;have HM:=hE0 (aby har HBASE.out hl k p 16 last hk hp (by omega) false hm);have HB:=hE0 hbw;clear hxl hown hbw HX HAR HBASE har hm;go_wp2_with fail
           refine HM.out.mono ?_;rintro e w2 ⟨rfl,hb2⟩;have HB2:=hE0 (HB.out.trans (hb2.mono hBw));clear hb2;go_wp2
           go_ret2
           exact⟨none,0,rfl,World.ownsRow_nil _ _ _ _,by rw[HB0.out];exact HB2.out⟩
          | true=>
           obtain⟨hm1,hm2⟩:aao bs p (k:Int)=true/\aaf bs (p+16)=last:=by
            unfold abl at hm;rw[Bool.and_eq_true,beq_iff_eq]at hm;exact hm
           have hpf:=aaK hm1;obtain⟨nx,hnx⟩:=nmE (aaf bs (p+8));have hnl:nx<18446744073709551616:=by rw[<-hnx];exact aan _ _
           rw[if_pos ⟨hm1,hm2⟩,hnx]at hstep;have hstep':x=(aes bs k n p nx).map ((l++ [p])++ ·):=by
            rw[hstep,Option.map_map];congr 1;funext r;simp
           have hp16:p<=16384:=by omega
           have hww:w.heap.size<=wr.heap.size:=by have:=HB0.out;omega
           have HN:=hE0 (fun W (hB:Below w.heap.size w W)=>aai (HAR.out.below hB) HBASE.out hl ((p:Int)+8) (p+8) (by omega) (by omega) nx hnx);have HM:=hE0 (aby har HBASE.out hl k p 16 last hk hp (by omega) true hm);have HB:=hE0 hbw;have HS:=hE0 hstep';have HOWN:=hE0 hown;have HALT:Hid (∀k,(Value.slice A7 l.length c7).ownBlock=some k->B0<=k/\k<wr.heap.size):=hown.lt;clear hxl hstep hstep' hown hbw HX hm hm1 hm2 hnx har HAR HBASE;go_wp2_with fail
           refine HM.out.mono ?_;rintro e w2 ⟨rfl,hb2⟩;have H2:=hE0 hb2;have own4:=aaM (aaM HOWN.out hb2) ((Below.refl w2.heap.size w2).alloc (Nat.le_refl _) (.cells #[.int .i64 (p:Int)] 3));have n4:(w2.alloc (.cells #[.int .i64 (p:Int)] 3)).heap[w2.heap.size]?=some (.cells #[.int .i64 (p:Int)] 3 (0,0)):=heap_alloc_new w2 _;have HNEW:Hid (∀j u,[Value.int .i64 (p:Int)][j]?=some u->(w2.alloc (.cells #[.int .i64 (p:Int)] 3)).cell? ((⟨w2.heap.size,0,none⟩:Addr).add j)=some u):=fun j u hu=>by
            have e:(⟨w2.heap.size,0,none⟩:Addr).add j=⟨w2.heap.size,j,none⟩:=by unfold Addr.add;split<;>simp_all
            rw[e,cell_of_row _ _ j _ _ (0,0) n4];simpa using hu
           have HONE:Hid (∀u∈ [Value.int .i64 (p:Int)],u.oneCell'=true):=fun u hu=>by
            simp at hu;subst hu;rfl
           have hB4:B0<=(w2.alloc (.cells #[.int .i64 (p:Int)] 3)).heap.size:=by simp;have:=hb2.size;omega
           have HB4:Hid (Below w2.heap.size w2 (w2.alloc (.cells #[.int .i64 (p:Int)] 3))):=(Below.refl w2.heap.size w2).alloc (Nat.le_refl _) _;have OWN4:=hE0 own4;have hsz2:=hb2.size;clear own4 n4 hb2 HOWN HM;go_wp2_with (first
            | (at_builtin;go_must (refine wpList_append_own _ rfl _ _ 23 rfl B0 3 i0 _ 1 8 Tryz.underlying23 hi hz0 hz1 hz2 rfl (by decide) _ l.length (l.map iV) rfl OWN4.out ⟨w2.heap.size,0,none⟩ 1 1 [.int .i64 (p:Int)] rfl rfl HNEW.out HONE.out (by unfold maxLen;omega) (by omega) hB4 ?_);intro x5 w5 own5 gr5 at5
               have gr5':(w2.alloc (.cells #[.int .i64 (p:Int)] 3)).grownBy w5 (Value.slice A7 l.length c7).ownBlock:=gr5;have HB5:Hid (Below B0 wr w5):=((H2.out.mono hBw).trans (HB4.out.mono (by omega))).grown gr5' hB4 (fun k hk=>(HALT.out k hk).1);have HW5:Hid (Below w.heap.size w w5):=(show Below w.heap.size w w5 by rw[HB0.out];exact HB.out.trans HB5.out);have OWN5:Hid (w5.ownsRow B0 3 1 x5 (l.length+1) ((l++ [p]).map iV)):=(show World.ownsRow _ _ _ _ _ _ _ by rw[List.map_append];exact own5);clear own5 gr5 gr5' at5)
            | fail)
           refine(HN.out w5 HW5.out).mono ?_;rintro e w6 ⟨rfl,rfl⟩;have HBE:=hE0 (HB.out.trans HB5.out);clear HN H2 HB4 OWN4 HNEW HONE;go_wp2
           go_roundw
           case rel=>exact⟨nx,p,n,l++ [p],rfl,rfl,hnl,hp,by rw[List.length_append,List.length_singleton];omega,HS.out,by rw[List.length_append,List.length_singleton];exact OWN5.out,HBE.out⟩
           case measure=>
            obtain⟨A8,c8,rfl⟩:=alV OWN5.out;simp;omega
   · rw[if_pos hbd]at hx';obtain rfl:none=x:=hx';have hcs:(b=true/\d=false)\/(b=false/\d=true):=by cases b<;>cases d<;>simp_all
     clear hd hbd HAR HBASE;rcases hcs with⟨rfl,rfl⟩ | ⟨rfl,rfl⟩;all_goals
      go_enter Tryz.func102,Tryz.ntmps102
      go_wp2_with fail
      with_reducible refine HL.out.mono ?_
      rintro e w1 ⟨rfl,rfl⟩;go_wp2_with fail
      with_reducible refine HFA.out.mono ?_
      rintro e w1 ⟨rfl,rfl⟩;go_wp2_with fail
      with_reducible refine HNF.out.mono ?_
      rintro e w1 ⟨rfl,rfl⟩;go_wp2_with fail
      with_reducible refine HBT.out.mono ?_
      rintro e w1 ⟨rfl,rfl⟩;clear HL HFA HNF HBT;go_wp2
      go_ret2
      exact⟨none,0,rfl,World.ownsRow_nil _ _ _ _,Below.refl _ _⟩
def ajA (bs:List UInt8) (s:Int):Value:=if aaD s=true then .tuple #[.int .i64 (((aoh bs s).getD 0:Nat):Int),aat (aoh bs s).isSome 3] else .tuple #[.int .i64 0,aat false 1]
def auZ:Prop:=∀(w:World) (g base cap c:Nat) (A:Option Addr) (bs:List UInt8) (s:Int),Ar w 195 g base cap A c bs->base<=4611686018427387904->bs.length<=16384->(-9223372036854775808<=s/\s<=9223372036854775807)->
 Calls Tryz.prog 233 #[.pointer (some ⟨g,0,none⟩), .int .i64 s] w fun e w'=>e= .returned (ajA bs s)/\Below w.heap.size w w'
def arf:Prop:=∀(w:World) (g base cap c:Nat) (A:Option Addr) (bs:List UInt8) (y:Option (List UInt8)),Ar w 195 g base cap A c bs->base<=4611686018427387904->bs.length<=16384->abZ bs=y->
 Calls Tryz.prog 109 #[.pointer (some ⟨g,0,none⟩)] w fun e w'=>ao1 3 195 g base cap A y w e w'
section
variable {w:World} {g base cap c:Nat} {A:Option Addr} {bs:List UInt8}
theorem anb (h:Ar w 195 g base cap A c bs) (hb:base<=4611686018427387904) (hl:bs.length<=16384) (h184:184<=bs.length) (z:List UInt8) (hz:List.replicate 184 (0:UInt8)++bs.drop 184=z):
 Calls Tryz.prog 173 #[.pointer (some ⟨g,0,none⟩)] w fun e w'=>e= .returned .nilIface/\Became 195 g base cap A z w w':=by
 have HA:=hE0 (acc h);have hf:=an8 h (by omega) base 184 0 0 (by omega) (by omega) (by omega) (by omega);have e:lay bs 0 (List.replicate 184 (0:UInt8))=z:=by
  have e1:(List.replicate 184 (0:UInt8)).length=184:=List.length_replicate;rw[<-hz];unfold lay;rw[e1,Nat.zero_add,List.take_zero,List.nil_append]
 rw[e]at hf;have HF:Hid (Calls Tryz.prog 194 #[.pointer (some ⟨g,0,none⟩), .int .u64 (base:Int), .int .u64 184, .int .u8 0] w fun e w'=>e= .returned .nilIface/\Became 195 g base cap A z w w'):=hf;clear hf e hz h;go_enter Tryz.func173,Tryz.ntmps173
 go_wp2_with fail
 with_reducible refine HA.out.mono ?_
 rintro e w1 ⟨rfl,rfl⟩;go_wp2_with fail
 refine HF.out.mono ?_;rintro e w1 ⟨rfl,hbe⟩;have HB:=hE0 hbe;clear hbe;go_wp2
 go_ret
 exact⟨rfl,HB.out⟩
end
section
variable {w w1 w2:World} {g base cap:Nat} {A:Option Addr} {out:List UInt8}
theorem aaA (h:Became 195 g base cap A out w w1) (hb:Below w1.heap.size w1 w2):Became 195 g base cap A out w w2:=by
 obtain⟨A',c',a,tc,k⟩:=h;exact Became.trans a tc k (abn a hb)
theorem arg (h:184<=out.length) (o:Int):((ag8 out o).getD out).length=out.length:=by
 cases hp:ag8 out o with
 | none=>rfl
 | some y=>exact(af8 h hp).1
theorem anc (h:Became 195 g base cap A out w w1) (hb:base<=4611686018427387904) (hl:out.length<=16384) (o:Int) (ho: -9223372036854775808<=o/\o<=9223372036854775807):
 Calls Tryz.prog 174 #[.pointer (some ⟨g,0,none⟩), .int .i64 o] w1 fun e w2=>(∃v,e= .returned v)/\Became 195 g base cap A ((ag8 out o).getD out) w w2:=by
 obtain⟨A',c',a,tc,k⟩:=h;refine(avl w1 g base cap c' A' out o _ a hb hl ho rfl).mono ?_;intro e w2 hd;unfold ao1 at hd
 cases hp:ag8 out o with
 | none=>
  rw[hp]at hd;exact⟨⟨_,hd.1⟩,Became.trans a tc k (abn a hd.2)⟩
 | some y=>
  rw[hp]at hd;exact⟨⟨_,hd.1⟩,Became.trans a tc k hd.2⟩
end
section
variable {w:World} {g base cap c:Nat} {A:Option Addr} {bs:List UInt8}
theorem ane (h:Ar w 195 g base cap A c bs) (hb:base<=4611686018427387904) (hl:bs.length<=16384) (A2:Option Addr) (c2 B1:Nat) (l:List Nat) (ho:w.ownsRow B1 3 1 (.slice A2 l.length c2) l.length (l.map iV)) (hm:∀o∈l,o<=20000/\∃x,aa2 bs (o:Int)=some x) (s:Int) (x:Nat) (hx:(l.find? fun o=>decide (s<=(szB bs o:Int))).getD 0=x):
 Calls Tryz.prog 269 #[.pointer (some ⟨g,0,none⟩), .slice A2 l.length c2, .int .i64 s] w fun e w'=>e= .returned (.int .i64 (x:Int))/\Below w.heap.size w w':=by
 have hcl:l.length<=c2/\c2<=9223372036854775807:=by
  rcases ho.2 with⟨h',h0⟩ | ⟨_,_,_,h',_,_,h1,h2,_⟩
  · injection h' with _ _ e;rw[h0,e];omega
  · injection h' with _ _ e;unfold maxLen at h2;omega
 have HX:=hE0 hx;have HAR:=hE0 h;have HO:=hE0 ho;have HMEM:=hE0 hm;have HBASE:=hE0 hb;obtain⟨B0,hB0⟩:=nmE w.heap.size;have HB0:=hE0 hB0;clear hx h ho hm hb hB0;go_enter Tryz.func269,Tryz.ntmps269
 go_wp2
 go_loopw [13] (fun i wr=>∃j:Nat,j<=l.length/\i= .int .i64 (j:Int)/\(∀q∈l.take j,decide (s<=(szB bs q:Int))=false)/\Below B0 w wr) (fun i _=>l.length-(intOf i).toNat)
 case atStart=>exact⟨0,Nat.zero_le _,rfl,by simp,Below.refl _ _⟩
 case round=>
  obtain⟨j,hj,rfl,hall,hb3⟩:=hrel;have hBw:B0<=wr.heap.size:=by have:=hb3.size;have:=HB0.out;omega
  by_cases hlt:j<l.length
  · obtain⟨o,ho⟩:∃o,l[j]?=some o:=⟨l[j],List.getElem?_eq_getElem hlt⟩;have hb4:Below w.heap.size w wr:=by rw[HB0.out];exact hb3
    have own3:=aaM HO.out hb4;obtain⟨b2,rfl⟩:∃b2,A2=some ⟨b2,0,none⟩:=by
     rcases own3.2 with⟨_,h0⟩ | ⟨g,_,_,h',_⟩
     · omega
     · injection h' with e;exact⟨g,e⟩
    have hcell:wr.cell? ⟨b2,j,none⟩=some (.int .i64 (o:Int)):=by
     rw[own3.cellAt j (by omega),List.getElem?_map,ho];rfl
    have har:=HAR.out.below hb4;obtain⟨ho20,⟨xo,xs,xu⟩,hg⟩:=HMEM.out o (List.mem_of_getElem? ho);have hsz:=ar4 hg;dsimp only at hsz;have hG:=ajv wr g base cap c A bs (o:Int) _ har HBASE.out hl (by omega) hg;dsimp only[aay,bkV,Bk.val,Option.isSome,aat]at hG;have q:=(aac _).1 (aaw hg).2.2.2.2.1;dsimp only at q;have HG:=hE0 hG;have HALL:=hE0 hall;have HOO:=hE0 ho;have HB2R:=hE0 hb3;clear hG hg hb3 hb4 own3 hall har ho;by_cases hge:s<=(xs:Int)
    · have hx1:x=o:=by
       rw[<-HX.out,aop HALL.out HOO.out (by rw[hsz];simpa using hge)];rfl
      subst hx1;clear HX;go_wp2_with fail
      with_reducible refine HG.out.mono ?_
      rintro e w4 ⟨rfl,hb4⟩;have HB4:=hE0 (HB2R.out.trans (hb4.mono hBw));have HS4:=hE0 hb4.size;clear hb4;go_wp2
      go_ret
      exact⟨rfl,by rw[HB0.out];exact HB4.out.alloc (by have:=HS4.out;omega) _⟩
    · go_wp2_with fail
      with_reducible refine HG.out.mono ?_
      rintro e w4 ⟨rfl,hb4⟩;have HB4:=hE0 (HB2R.out.trans (hb4.mono hBw));have HS4:=hE0 hb4.size;clear hb4;go_wp2
      go_roundw
      case rel=>exact⟨j+1,by omega,rfl,by
       intro q hq;rw[List.take_add_one,HOO.out]at hq;rcases List.mem_append.1 hq with hq | hq
       · exact HALL.out q hq
       · simp at hq;rw[hq,hsz];simpa using hge,HB4.out.alloc (by have:=HS4.out;omega) _⟩
      case measure=>simp only[intOf];omega
  · obtain rfl:j=l.length:=by omega
    have hx2:x=0:=by
     rw[<-HX.out,amN (by rw[List.take_length]at hall;exact hall)];rfl
    subst hx2;have HB4:=hE0 hb3;clear HX hall hb3;go_wp2
    go_ret
    exact⟨rfl,by rw[HB0.out];exact HB4.out⟩
end
theorem findC:auZ:=by
 intro w g base cap c A bs s h hb hl hs
 cases hz:aaD s
 · have hv:ajA bs s= .tuple #[.int .i64 0,aat false 1]:=by unfold ajA;rw[if_neg (by rw[hz];simp)]
   have hc:aap s= -1:=by simp[aap,hz]
   rw[hv];have hC:=ajf w s hs;rw[hc]at hC;have HC:=hE0 hC;clear hz hv hc hC h hb;go_enter Tryz.func233,Tryz.ntmps233
   go_wp2_with fail
   with_reducible refine HC.out.mono ?_
   rintro e w1 ⟨rfl,hb1⟩;have HB:=hE0 hb1;clear hb1;go_wp2
   go_ret2
   exact⟨rfl,HB.out⟩
 · obtain⟨k0,hk0,hk22⟩:∃k0:Nat,aap s=(k0:Int)/\k0<22:=by
    have h1:=acs s;have h2:¬aap s<0:=by rw[ag4];simp[hz]
    exact⟨(aap s).toNat,by omega,by omega⟩
   obtain⟨x,hx⟩:=nmE (agQ bs s (22-k0) k0);have hv:ajA bs s= .tuple #[.int .i64 ((x.getD 0:Nat):Int),aat x.isSome 3]:=by
    unfold ajA aoh;rw[if_pos hz,hk0,Int.toNat_natCast,hx]
   rw[hv];have hC:=ajf w s hs;rw[hk0]at hC;have HC:=hE0 hC;have HX:=hE0 hx;have HAR:=hE0 h;have HBASE:=hE0 hb;obtain⟨B0,hB0⟩:=nmE w.heap.size;have HB0:=hE0 hB0;clear hz hv hk0 hC h hx hB0 hb;go_enter Tryz.func233,Tryz.ntmps233
   go_wp2_with fail
   with_reducible refine HC.out.mono ?_
   rintro e w1 ⟨rfl,hb1⟩;have HB1:=hE0 hb1;clear hb1 HC;go_wp2
   go_loopw [7] (fun t wr=>∃d k:Nat,t= .int .i64 (d:Int)/\d+k=22/\x=agQ bs s k d/\Below B0 w wr) (fun t _=>22-(intOf t).toNat)
   case atStart=>exact⟨k0,22-k0,rfl,by omega,HX.out.symm,by rw[<-HB0.out];exact HB1.out⟩
   case round=>
    obtain⟨d,k,rfl,hdk,hxf,hb2⟩:=hrel;have hBw:B0<=wr.heap.size:=by have:=hb2.size;have:=HB0.out;omega
    by_cases hd22:d<22
    · obtain⟨k,rfl⟩:∃k',k=k'+1:=⟨k-1,by omega⟩;have har:Ar wr 195 g base cap A c bs:=HAR.out.below (by rw[HB0.out];exact hb2)
      cases ha:afk bs d with
      | none=>
       obtain rfl:x=none:=by rw[hxf];simp[agQ,ha]
       have hA:=auG wr g base cap c A bs d _ har HBASE.out hl hd22 ha;dsimp only[aeO,Option.isSome,Option.getD,aat]at hA;have HA:=hE0 hA;have HB:=hE0 hb2;clear hA hb2 hxf har HX ha HAR;go_wp2_with fail
       with_reducible refine HA.out.mono ?_
       rintro e w2 ⟨A',c',rfl,_,hb3⟩;have HB2:=hE0 (HB.out.trans (hb3.mono hBw));clear hb3;go_wp2
       go_ret2
       exact⟨rfl,by rw[HB0.out];exact HB2.out⟩
      | some l=>
       have hA:=auG wr g base cap c A bs d _ har HBASE.out hl hd22 ha;dsimp only[aeO,Option.isSome,Option.getD,aat]at hA;have hxf':x=(match l.find? (fun o=>decide (s<=(szB bs o:Int)))with
        | some o=>some o
        | none=>agQ bs s k (d+1)):=by
        rw[hxf];conv=>lhs;unfold agQ
        rw[ha]<;>rfl
       have hmem:∀o∈l,184<=o/\o<=20000/\∃x,aa2 bs (o:Int)=some x:=fun o ho=>by
        have hm:=acE ha o ho;obtain⟨h1,x,h2⟩:=aeg hm;have:=(aaK hm);exact⟨by omega,h1,x,h2⟩
       have HF:=hE0 (fun(W:World) (hB:Below wr.heap.size wr W) (A2:Option Addr) (c2 B1:Nat) (ho:W.ownsRow B1 3 1 (.slice A2 l.length c2) l.length (l.map iV))=>ane (har.below hB) HBASE.out hl A2 c2 B1 l ho (fun o ho=>(hmem o ho).2) s);have HA:=hE0 hA;have HB:=hE0 hb2;have HXF:=hE0 hxf';have HMEM:=hE0 hmem;clear hA hb2 hxf hxf' har HX ha hmem HAR
       cases hfd:l.find? (fun o=>decide (s<=(szB bs o:Int)))with
       | some o=>
        obtain rfl:x=some o:=by rw[HXF.out,hfd]
        obtain⟨o184,o20,_⟩:=HMEM.out o (List.mem_of_find?_eq_some hfd);have ho0:((o:Int) !=0)=true:=by rw[bne_iff_ne];omega
        have HF2:=hE0 (fun W hB A2 c2 B1 ho=>HF.out W hB A2 c2 B1 ho o (by rw[hfd];rfl));clear HF HXF hfd HMEM;go_wp2_with fail
        with_reducible refine HA.out.mono ?_
        rintro e w2 ⟨A2,c2,rfl,ho2,hb3⟩;have HFF:=hE0 (HF2.out w2 hb3 A2 c2 _ ho2);have HB2:=hE0 (HB.out.trans (hb3.mono hBw));have hs2:=hb3.size;clear hb3 ho2 HA HF2;go_wp2_with fail
        with_reducible refine HFF.out.mono ?_
        rintro e w3 ⟨rfl,hb4⟩;have HB3:=hE0 (HB2.out.trans (hb4.mono (by omega)));clear hb4 HFF;go_wp2
        go_ret2
        exact⟨rfl,by rw[HB0.out];exact HB3.out⟩
       | none=>
        have hx2:x=agQ bs s k (d+1):=by rw[HXF.out,hfd]
        have HF2:=hE0 (fun W hB A2 c2 B1 ho=>HF.out W hB A2 c2 B1 ho 0 (by rw[hfd];rfl));have HX2:=hE0 hx2;clear HF HXF hfd HMEM hx2;go_wp2_with fail
        with_reducible refine HA.out.mono ?_
        rintro e w2 ⟨A2,c2,rfl,ho2,hb3⟩;have HFF:Hid (Calls Tryz.prog 269 #[.pointer (some ⟨g,0,none⟩), .slice A2 l.length c2, .int .i64 s] w2 fun e w'=>e= .returned (.int .i64 0)/\Below w2.heap.size w2 w'):=HF2.out w2 hb3 A2 c2 _ ho2;have HB2:=hE0 (HB.out.trans (hb3.mono hBw));have hs2:=hb3.size;clear hb3 ho2 HA HF2;go_wp2_with fail
        with_reducible refine HFF.out.mono ?_
        rintro e w3 ⟨rfl,hb4⟩;have HB3:=hE0 (HB2.out.trans (hb4.mono (by omega)));clear hb4 HFF;go_wp2
        go_roundw
        case rel=>exact⟨d+1,k,by go_num,by omega,HX2.out,HB3.out⟩
        case measure=>simp only[intOf];omega
    · obtain⟨rfl,rfl⟩:d=22/\k=0:=by omega
      obtain rfl:x=some 0:=by rw[hxf];rfl
      have HB:=hE0 hb2;clear hxf hb2 HX;go_wp2
      go_ret2
      exact⟨rfl,by rw[HB0.out];exact HB.out⟩
theorem al6{out:List UInt8}(h:184<=out.length) (x:Bk):(afw out x).length=out.length:=by
 unfold afw;split
 · rfl
 · exact arg h _
theorem al7:∀(l:List Bk){out:List UInt8},184<=out.length->(l.foldl afw out).length=out.length
 | [],_,_=>rfl
 | x::r,out,h=>by
  rw[List.foldl_cons,al7 r (by rw[al6 h];exact h),al6 h]
theorem aim{S:Nat->Prop}{w w':World}(h:Tch S w w'){b j:Nat}{v:Value}(hc:w.cell? ⟨b,j,none⟩=some v) (hb:b<w.heap.size) (hn:¬S b):w'.cell? ⟨b,j,none⟩=some v:=
 (World.cell?_of_block (w:=w) (a:=⟨b,j,none⟩) (h.block b hb hn)).trans hc
theorem arh:arf:=by
 intro w g base cap c A bs y h hb hl hy
 cases hw:abA bs with
 | none=>
  obtain rfl:none=y:=by rw[<-hy];unfold abZ;rw[hw];rfl
  have hW:=ajx w g base cap c A bs _ h hb hl hw;dsimp only[acR,Option.isSome,Option.getD,aat]at hW;dsimp only[ao1,aat];have HW:=hE0 hW;clear hW hw hy h hb;go_enter Tryz.func109,Tryz.ntmps109
  go_wp2_with fail
  with_reducible refine HW.out.mono ?_
  rintro e w2 ⟨A',c',rfl,_,hb2⟩;have HB2:=hE0 hb2;clear hb2;go_wp2
  go_ret
  exact⟨rfl,HB2.out⟩
 | some l=>
  obtain⟨h184,hmem⟩:=aoq hw;obtain⟨z,hz⟩:=nmE (List.replicate 184 (0:UInt8)++bs.drop 184);have hzl:z.length=bs.length:=by rw[<-hz,List.length_append,List.length_replicate,List.length_drop];omega
  obtain rfl:some (l.foldl afw z)=y:=by rw[<-hy,<-hz];unfold abZ;rw[hw];rfl
  have hW:=ajx w g base cap c A bs _ h hb hl hw;dsimp only[acR,Option.isSome,Option.getD,aat]at hW;dsimp only[ao1,aat];have HCL:=hE0 (fun(W:World) (hB:Below w.heap.size w W)=>anb (h.below hB) hb hl h184 z hz);have HW:=hE0 hW;have HMEM:=hE0 hmem;have HAR:=hE0 h;have HBASE:=hE0 hb;have HZL:=hE0 hzl;obtain⟨B0,hB0⟩:=nmE w.heap.size;have HB0:=hE0 hB0;clear hW hw hy h hb hz hmem hzl hB0;go_enter Tryz.func109,Tryz.ntmps109
  go_wp2_with fail
  with_reducible refine HW.out.mono ?_
  rintro e w2 ⟨A2,c2,rfl,ho2,hb2⟩;have hcl:l.length<=c2/\c2<=9223372036854775807:=by
   rcases ho2.2 with⟨h',h0⟩ | ⟨_,_,_,h',_,_,h1,h2,_⟩
   · injection h' with _ _ e;rw[h0,e];omega
   · injection h' with _ _ e;unfold maxLen at h2;omega
  have HO2:=hE0 ho2;have HB2:=hE0 hb2;have HAR2:=hE0 (HAR.out.below hb2);have HCL2:=hE0 (HCL.out w2 hb2);clear hb2 ho2 HW HCL;go_wp2_with fail
  refine HCL2.out.mono ?_;rintro e w3 ⟨rfl,hbe⟩;have HBE:=hE0 hbe;clear hbe HCL2;go_wp2
  go_loopw [19] (fun t wr=>∃j:Nat,t= .int .i64 (j:Int)/\j<=l.length/\Became 195 g base cap A ((l.take j).foldl afw z) w2 wr) (fun t _=>l.length-(intOf t).toNat)
  case atStart=>exact⟨0,rfl,Nat.zero_le _,HBE.out⟩
  case round=>
   obtain⟨j,rfl,hj,hbe⟩:=hrel;by_cases hlt:j<l.length
   · obtain⟨x,hx⟩:∃x,l[j]?=some x:=⟨l[j],List.getElem?_eq_getElem hlt⟩;obtain⟨b,o,rfl,hbb,hc⟩:=aor HO2.out rfl (by omega);have hbB:B0<=b:=by have:=(HO2.out.lt b rfl).1;have:=HB0.out;omega
     have hnf:¬foot g A b:=fun hf=>by
      have h1:b<w.heap.size:=HAR.out.foot_lt hf;have:=HB0.out;omega
     obtain⟨p0,p1,p2⟩:=hc j x hx;have hg:=HMEM.out x (List.mem_of_getElem? hx);obtain⟨_,_,_,q3,_⟩:=aaw hg;obtain⟨out,hout⟩:=nmE ((l.take j).foldl afw z);have hol:out.length=bs.length:=by rw[<-hout,al7 _ (by have:=HZL.out;omega)];exact HZL.out
     have hnext:(l.take (j+1)).foldl afw z=afw out x:=by
      rw[List.take_add_one,hx,List.foldl_append,hout];rfl
     rw[hout]at hbe;have htc:Tch (foot g A) w2 wr:=by obtain⟨_,_,_,t,_⟩:=hbe;exact t
     have r0:=aim htc p0 hbb hnf;have r1:=aim htc p1 hbb hnf;have r2:=aim htc p2 hbb hnf;obtain⟨xo,xs,xu⟩:=x;dsimp only at p0 p1 p2 q3 r0 r1 r2;have hq:=(aac _).1 (aaw hg).2.2.2.2.1;dsimp only at hq;obtain⟨w4,hw4⟩:=nmE (wr.alloc (.cells #[.int .i64 (xo:Int), .int .i64 (xs:Int), .bool xu] 112));have hb4:=abE hw4;have n4:=anE hw4;obtain⟨⟨d0,d1,d2⟩,_⟩:=aad n4;have HBE4:=hE0 (aaA hbe hb4);have HW4:=hE0 hw4;have HP:=hE0 (anc HBE4.out HBASE.out (by rw[hol];exact hl) (xo:Int) (by omega))
     cases xu with
     | true=>
      have HN:Hid ((l.take (j+1)).foldl afw z=out):=hnext;clear hnext hx hc hbe hout htc hg p0 p1 p2 hb4 n4 HP hw4 HAR HAR2;go_wp2_with (first | (rw[HW4.out]) | fail)
      go_roundw
      case rel=>exact⟨j+1,by go_num,by omega,by rw[HN.out];exact HBE4.out⟩
      case measure=>simp only[intOf];omega
     | false=>
      have HN:Hid ((l.take (j+1)).foldl afw z=(ag8 out (xo:Int)).getD out):=hnext;clear hnext hx hc hbe hout htc hg p0 p1 p2 hb4 n4 hw4 HAR HAR2;go_wp2_with (first | (rw[HW4.out]) | fail)
      refine HP.out.mono ?_;rintro e w5 ⟨⟨v,rfl⟩,hbe5⟩;have HBE5:=hE0 hbe5;clear hbe5 HP;go_wp2
      go_roundw
      case rel=>exact⟨j+1,by go_num,by omega,by rw[HN.out];exact HBE5.out⟩
      case measure=>simp only[intOf];omega
   · obtain hjl:j=l.length:=by omega
     rw[hjl,List.take_length]at hbe;have HF:=hE0 (hbe.after HB2.out);clear hbe hjl;go_wp2
     go_ret
     exact⟨rfl,HF.out⟩
def atY:Prop:=∀(w:World) (g base cap c:Nat) (A:Option Addr) (bs:List UInt8) (x:Bool),Ar w 195 g base cap A c bs->base<=4611686018427387904->bs.length<=16384->ab8 bs=x->
 Calls Tryz.prog 55 #[.pointer (some ⟨g,0,none⟩)] w fun e w'=>e= .returned (aat x 3)/\Below w.heap.size w w'
theorem ari:laidOutB Tryz.prog=true:=by kernel_rfl
theorem plc_law:Maps.Keyed Tryz.prog 251:=
 Maps.Keyed.of_law (deep_law_laid ari (m:=2) (by omega) (of_decide_eq_true (by kernel_rfl)) (by kernel_rfl) (by rw[Tryz.underlying251]))
def pk (o k:Nat):Lit:= .string (keyBytes [.int .i64 (o:Int), .int .i64 (k:Int)])
abbrev pv (o k:Nat):Value:= .agg #[.int .i64 (o:Int), .int .i64 (k:Int)]
theorem ahq{o k:Nat}(ho:o<=100000) (hk:k<=100):keyOf Tryz.prog 251 (pv o k)=some (pk o k):=by
 have w1:(Lit.int .i64 (o:Int)).wf=true:=WalkArith.wf_i64 (by omega);have w2:(Lit.int .i64 (k:Int)).wf=true:=WalkArith.wf_i64 (by omega);have hkt:Tryz.prog.keyType 251=true:=by kernel_rfl
 have hc:Tryz.prog.cellsOf 251=2:=by kernel_rfl
 have hi:Tryz.prog.cellsOf 3=1:=by kernel_rfl
 obtain⟨m,hm⟩:∃m,Tryz.prog.types.size=m+1:=⟨Tryz.prog.types.size-1,by have:0<Tryz.prog.types.size:=of_decide_eq_true (by kernel_rfl);omega⟩;unfold keyOf;simp only[Tryz.underlying251];rw[if_pos (by simp[hkt,Value.formed,Tryz.underlying251,hc]),hm];unfold Program.keyLits;simp only[Tryz.underlying251,Value.cells];rw[if_pos ⟨by rw[hc];rfl,by kernel_rfl⟩];simp[hi,Program.keyLits,Tryz.underlying3,w1,w2,pk]
theorem ar9{o k o' k':Nat}(ho:o<=100000) (hk:k<=100) (ho':o'<=100000) (hk':k'<=100) (h:pk o k=pk o' k'):o=o'/\k=k':=by
 have h1:=ahq ho hk;rw[h]at h1;have h2:=plc_law.inj h1 (ahq ho' hk');simp only[pv,Value.agg.injEq,Array.mk.injEq,List.cons.injEq,Value.int.injEq,and_true,true_and]at h2;omega
theorem atZ{o k:Nat}(ho:o<=100000) (hk:k<=100):WideAt.IsKeyLit (pk o k):=plc_law.key (ahq ho hk)
def PSet (w:World) (B n:Nat) (f:Nat->Nat->Bool) (z:Nat):Prop:=∃D:DataW Unit,w.ownsMap Tryz.prog 251 (plainElem Tryz.prog 4) B n D/\
 (∀kl,Maps.has D kl=true->∀y,D.atKey kl y= .lit (.bool true))/\(∀o k,o<=100000->k<=100->Maps.has D (pk o k)=f o k)/\Maps.size D=z
theorem ajB (b:Bool):plainElem (H:=Unit) Tryz.prog 4 (.bool b)=some (.lit (.bool b),[]):=plainElem_bool Tryz.underlying4 b
theorem apd (w:World):(zeroValue 4).run Tryz.prog w= .ok (.bool false) w:=by kernel_rfl
theorem ain{P:Program}{e:TypeId}(he:P.underlying e=some .bool){v:Value}{d:DataW Unit}{ps:List MemPlace}(h:plainElem P e v=some (d,ps)):∃b,v= .bool b/\d= .lit (.bool b):=by
 unfold plainElem at h;rw[he]at h
 cases v<;>simp at h;exact⟨_,rfl,h.1.symm⟩
theorem arj{v:Value}{d:DataW Unit}{ps:List MemPlace}(h:plainElem Tryz.prog 4 v=some (d,ps)):∃b,v= .bool b/\d= .lit (.bool b):=ain Tryz.underlying4 h
section
variable {w w':World} {B n z:Nat} {f:Nat->Nat->Bool}
theorem PSet.made (w:World):PSet (w.alloc (.map #[] 0)) w.heap.size 0 (fun _ _=>false) 0:=
 ⟨.map [],World.ownsMap_made _ _ _ _,fun kl h=>absurd h (by simp[Maps.has]),fun _ _ _ _=>rfl,rfl⟩
theorem PSet.lt (h:PSet w B n f z):B<w.heap.size:=by
 obtain⟨D,ho,_⟩:=h;exact ho.lt
theorem PSet.keep (h:PSet w B n f z) (hb:w'.heap[B]?=w.heap[B]?):PSet w' B n f z:=by
 obtain⟨D,⟨es,clock,h1,h2⟩,h3⟩:=h;exact⟨D,⟨es,clock,hb.trans h1,h2⟩,h3⟩
theorem PSet.mono{n':Nat}(h:PSet w B n f z) (hn:n<=n'):PSet w B n' f z:=by
 obtain⟨D,h1,h2⟩:=h;exact⟨D,h1.mono hn,h2⟩
theorem PSet.below{B0:Nat}(h:PSet w B n f z) (hb:Below B0 w w') (hB:B<B0):PSet w' B n f z:=h.keep (hb.block B hB)
theorem PSet.same{f':Nat->Nat->Bool}(h:PSet w B n f z) (hf:∀o k,o<=100000->k<=100->f o k=f' o k):PSet w B n f' z:=by
 obtain⟨D,h1,h2,h3,h4⟩:=h;exact⟨D,h1,h2,fun o k ho hk=>(h3 o k ho hk).trans (hf o k ho hk),h4⟩
end
section
variable {w:World} {ops:Array Oper} {rest:List Oper} {o:Oper} {a:Act} {Q:Exit->Act->World->Prop} {B n z:Nat} {f:Nat->Nat->Bool}
theorem ahr (hg:o.guard=none) (m x:Operand) (hop:o.op=Op.lookup 192 m x false) (hm:a.eval m= .map (some B)) (h:PSet w B n f z) (p c:Nat) (hp:p<=100000) (hc:c<=100)
 (hx:a.eval x=pv p c) (b:Bool) (hb:f p c=b) (hK:wpList Tryz.prog ops Q rest (a.put o.dst (.bool b)) w):wpList Tryz.prog ops Q (o::rest) a w:=by
 refine wpList_plain hg fun K' hK'=> ?_;obtain⟨D,hown,hall,hf,hz⟩:=h;obtain⟨v,ps,hrun,hv⟩:=hown.lookup plc_law Tryz.underlying192 (apd w) (ajB false) (ahq hp hc);obtain⟨b',rfl,hd⟩:=arj hv;have e:b'=b:=by
  rw[<-hb,<-hf p c hp hc]
  cases hh:Maps.has D (pk p c)
  · rw[Maps.atKey_of_not_has hh]at hd;simpa using hd.symm
  · rw[hall _ hh]at hd;simpa using hd.symm
 subst e;unfold Oper.wp;simp[execOp,hop,hm,hx,hrun,Result.andThen];exact hK' _ _ hK
theorem ape (hg:o.guard=none) (m x v:Operand) (hop:o.op=Op.mapUpdate 192 m x v) (hm:a.eval m= .map (some B)) (h:PSet w B n f z) (hn:n<maxLen) (p c:Nat) (hp:p<=100000) (hc:c<=100)
 (hx:a.eval x=pv p c) (hv:a.eval v= .bool true) (hf0:f p c=false)
 (hK:∀w',PSet w' B (n+1) (fun p' c'=>f p' c' || (p'==p&&c'==c)) (z+1)->Tch (fun j=>j=B) w w'->wpList Tryz.prog ops Q rest (a.put o.dst undef) w'):wpList Tryz.prog ops Q (o::rest) a w:=by
 obtain⟨D,hown,hall,hf,hz⟩:=h;have hkl:=atZ hp hc;have hno:Maps.has D (pk p c)=false:=(hf p c hp hc).trans hf0;refine wpList_mapUpdate_own w hg m x v _ hop _ _ plc_law Tryz.underlying192 _ B n D hm hown hn _ _ (pk p c) hx hv (ahq hp hc) _ _ (ajB true) (fun w' h1 h2=> ?_);have hI:=(hown.tidy plc_law).isMap;refine hK w' ⟨_,h1,fun kl hh y=> ?_,fun p' c' hp' hc'=> ?_,?_⟩ (Tch.grown h2 (fun k hk=>by injection hk with hk;exact hk.symm))
 · by_cases e:kl=pk p c
   · subst e;exact Maps.atKey_put_same hI hkl _ _
   · rw[Maps.has_put_other e]at hh;rw[Maps.atKey_put_other e];exact hall _ hh y
 · by_cases e:pk p' c'=pk p c
   · obtain⟨rfl,rfl⟩:=ar9 hp' hc' hp hc e;rw[Maps.has_put_same hI hkl];simp
   · rw[Maps.has_put_other e,hf p' c' hp' hc'];have:(p'==p&&c'==c)=false:=by
      rw[Bool.and_eq_false_iff,beq_eq_false_iff_ne,beq_eq_false_iff_ne];by_cases e1:p'=p
      · exact .inr fun e2=>e (by rw[e1,e2])
      · exact .inl e1
     show _=(f p' c' || (p'==p&&c'==c));rw[this,Bool.or_false]
 · rw[Maps.size_put (hown.tidy plc_law),hno,hz];rfl
theorem apf (hg:o.guard=none) (m x:Operand) (hop:o.op=Op.call {callee:=Callee.builtin Builtin.delete,args:= #[m,x],argTypes:= #[192,251]}) (hm:a.eval m= .map (some B)) (h:PSet w B n f z) (p c:Nat) (hp:p<=100000) (hc:c<=100)
 (hx:a.eval x=pv p c) (hf1:f p c=true)
 (hK:∀w' z',z'+1=z->PSet w' B n (fun p' c'=>f p' c'&& !(p'==p&&c'==c)) z'->Tch (fun j=>j=B) w w'->wpList Tryz.prog ops Q rest (a.put o.dst (.tuple #[])) w'):wpList Tryz.prog ops Q (o::rest) a w:=by
 obtain⟨D,hown,hall,hf,hz⟩:=h;have hyes:Maps.has D (pk p c)=true:=(hf p c hp hc).trans hf1;refine wpList_delete_own w hg m x _ _ hop _ plc_law Tryz.underlying192 _ B n D hm hown _ (pk p c) hx (ahq hp hc) (fun w' h1 h2=> ?_);have hs:=Maps.size_del (k:=pk p c) (hown.tidy plc_law);rw[hyes,if_pos rfl,hz]at hs;refine hK w' _ hs ⟨_,h1,fun kl hh y=> ?_,fun p' c' hp' hc'=> ?_,rfl⟩ (Tch.grown h2.grown (fun k hk=>by injection hk with hk;exact hk.symm))
 · by_cases e:kl=pk p c
   · subst e;rw[Maps.has_del_same]at hh;cases hh
   · rw[Maps.has_del_other e]at hh;rw[Maps.atKey_del_other e];exact hall _ hh y
 · by_cases e:pk p' c'=pk p c
   · obtain⟨rfl,rfl⟩:=ar9 hp' hc' hp hc e;rw[Maps.has_del_same];simp
   · rw[Maps.has_del_other e,hf p' c' hp' hc'];have:(p'==p&&c'==c)=false:=by
      rw[Bool.and_eq_false_iff,beq_eq_false_iff_ne,beq_eq_false_iff_ne];by_cases e1:p'=p
      · exact .inr fun e2=>e (by rw[e1,e2])
      · exact .inl e1
     show _=(f p' c'&& !(p'==p&&c'==c));rw[this,Bool.not_false,Bool.and_true]
theorem apg (hg:o.guard=none) (m:Operand) (hop:o.op=Op.call {callee:=Callee.builtin Builtin.len,args:= #[m],argTypes:= #[192]}) (hm:a.eval m= .map (some B)) (h:PSet w B n f z)
 (hK:wpList Tryz.prog ops Q rest (a.put o.dst (.int .i64 (z:Int))) w):wpList Tryz.prog ops Q (o::rest) a w:=by
 obtain⟨D,hown,_,_,hz⟩:=h;refine wpList_len_own w hg m _ hop _ _ Tryz.underlying192 _ B n D hm hown ?_;rw[hz];exact hK
end
def atJ (l:List Bk):Nat->Bool
 | 0=>false
 | j+1=> !ac1 l j
theorem ajC{l:List Bk}{j:Nat}{x:Bk}(h:l[j]?=some x):ac1 l j=x.used:=by unfold ac1;rw[h]
theorem anf (l:List Bk) (j:Nat):(List.range (j+1)).all (ac2 l)=((List.range j).all (ac2 l)&&ac2 l j):=by
 rw[List.range_succ,List.all_append];simp
theorem aph{l:List Bk}{j:Nat}(hj:j<l.length) (h:ac2 l j=false):adx l=false:=by
 unfold adx;rw[List.all_eq_false];exact⟨j,List.mem_range.2 hj,by rw[h];decide⟩
theorem ark{l:List Bk}{j:Nat}{x:Bk}(h:l[j]?=some x):ac2 l j= !(atJ l j&& !x.used):=by
 unfold ac2;rw[ajC h]
 cases j with
 | zero=>rfl
 | succ j=>
  simp only[atJ,Nat.add_sub_cancel]
  cases x.used<;>cases ac1 l j<;>rfl
section
variable {w:World} {g base cap c:Nat} {A:Option Addr} {bs:List UInt8}
theorem aaW{B:Nat}{w w':World}(h:Below B w w'){b j:Nat}{v:Value}(hc:w.cell? ⟨b,j,none⟩=some v) (hb:b<B):w'.cell? ⟨b,j,none⟩=some v:=
 (h.cell (p:=⟨b,j,none⟩) hb).trans hc
theorem arl (w:World) (A2:Option Addr) (c2:Nat) (l:List Bk) (hr:BkRd w w.heap.size A2 l) (hc:l.length<=c2/\c2<=9223372036854775807) (y:Bool) (hy:adx l=y):
 Calls Tryz.prog 113 #[.slice A2 l.length c2] w fun e w'=>e= .returned (.bool (!y))/\Below w.heap.size w w':=by
 have HR:=hE0 hr;have HY:=hE0 hy;clear hr hy;go_enter Tryz.func113,Tryz.ntmps113
 go_wp2
 go_loopw [3,8] (fun v t wr=>∃(j:Nat) (b:Bool),t= .int .i64 (j:Int)/\v= .bool b/\b=atJ l j/\j<=l.length/\(List.range j).all (ac2 l)=true/\Below w.heap.size w wr) (fun _ t _=>l.length-(intOf t).toNat)
 case atStart=>exact⟨0,false,rfl,rfl,rfl,Nat.zero_le _,rfl,Below.refl _ _⟩
 case round=>
  obtain⟨j,b,rfl,rfl,hbw,hj,hall,hbe⟩:=hrel;by_cases hlt:j<l.length
  · obtain⟨x,hx⟩:∃x,l[j]?=some x:=⟨l[j],List.getElem?_eq_getElem hlt⟩;obtain⟨b2,o,rfl,hbb,hcl⟩:=HR.out (by omega);obtain⟨p0,p1,p2⟩:=hcl j x hx;have hp:=ark hx;have hs:=anf l j;rw[hall,Bool.true_and]at hs;have hu:=ajC hx;have r0:=aaW hbe p0 hbb;have r1:=aaW hbe p1 hbb;have r2:=aaW hbe p2 hbb;obtain⟨xo,xs,xu⟩:=x;dsimp only at p0 p1 p2 r0 r1 r2 hp hu;rw[<-hbw]at hp;obtain⟨w4,hw4⟩:=nmE (wr.alloc (.cells #[.int .i64 (xo:Int), .int .i64 (xs:Int), .bool xu] 112));have hb4:Below w.heap.size w w4:=by rw[<-hw4];exact hbe.alloc hbe.size _
    have n4:=anE hw4;obtain⟨⟨d0,d1,d2⟩,_⟩:=aad n4;have HW4:=hE0 hw4;have HB4:=hE0 hb4;have HP:=hE0 hp;have HS:=hE0 hs;have HU:=hE0 hu;clear hp hs hu hx hbe p0 p1 p2 hb4 n4 hw4 hcl hall hbw
    cases b<;>cases xu
    · go_wp2_with (first | (rw[HW4.out]) | fail)
      go_roundw
      case rel=>exact⟨j+1,true,by go_num,rfl,by simp[atJ,HU.out],by omega,by rw[HS.out,HP.out];rfl,HB4.out⟩
      case measure=>simp only[intOf];omega
    · go_wp2_with (first | (rw[HW4.out]) | fail)
      go_roundw
      case rel=>exact⟨j+1,false,by go_num,rfl,by simp[atJ,HU.out],by omega,by rw[HS.out,HP.out];rfl,HB4.out⟩
      case measure=>simp only[intOf];omega
    · obtain rfl:y=false:=by rw[<-HY.out];exact aph hlt HP.out
      go_wp2_with (first | (rw[HW4.out]) | fail)
      go_ret
      exact⟨rfl,HB4.out⟩
    · go_wp2_with (first | (rw[HW4.out]) | fail)
      go_roundw
      case rel=>exact⟨j+1,false,by go_num,rfl,by simp[atJ,HU.out],by omega,by rw[HS.out,HP.out];rfl,HB4.out⟩
      case measure=>simp only[intOf];omega
  · obtain rfl:y=true:=by
     rw[<-HY.out];unfold adx;rw[show l.length=j by omega];exact hall
    have HB:=hE0 hbe;clear hbe hall hbw;go_wp2
    go_ret
    exact⟨rfl,HB.out⟩
theorem api (h:Ar w 195 g base cap A c bs) (hb:base<=4611686018427387904) (hl:bs.length<=16384) (h184:184<=bs.length) (y:Bool) (hy:decide (aaf bs 0<4194304)=y):
 Calls Tryz.prog 114 #[.pointer (some ⟨g,0,none⟩)] w fun e w'=>e= .returned (.bool (!y))/\w=w':=by
 obtain⟨v,hv⟩:=nmE (aaf bs 0);have hvl:v<18446744073709551616:=by rw[<-hv];exact aan _ _
 have hW:=abH h hb hl 0 (by omega) (some v) (by unfold word?;rw[if_pos (by omega)];simp[hv]);have e0:adr base 0=base:=by unfold adr;omega
 rw[e0]at hW;dsimp only[wdV]at hW;rw[hv]at hy;have HBS:=hE0 (acc h);have HW:=hE0 hW;have HY:=hE0 hy;clear hW hy hv h;go_enter Tryz.func114,Tryz.ntmps114
 go_wp2_with fail
 with_reducible refine HBS.out.mono ?_
 rintro e w1 ⟨rfl,rfl⟩;go_wp2_with fail
 with_reducible refine HW.out.mono ?_
 rintro e w1 ⟨rfl,rfl⟩;go_wp2
 go_ret
 exact⟨ar3 (by rw[<-HY.out,Bool.eq_iff_iff];simp;omega),rfl⟩
end
def ab3 (l:List Bk) (o k:Nat):Bool:=l.any fun x=>x.off==o&& !x.used&&aap (x.size:Int)==(k:Int)
theorem ahs:∀(l:List Bk) (o e:Nat),abr o l e->l.Pairwise (fun a b=>a.off<b.off)
 | [],_,_,_=>List.Pairwise.nil
 | x::r,o,e,⟨a,b,c⟩=>by
  have q:=(aac _).1 b;refine List.pairwise_cons.2 ⟨fun y hy=> ?_,ahs r _ _ c⟩;have:=((aak r _ _ c).2 y hy).1;omega
theorem akV{l:List Bk}{j:Nat}{x:Bk}(h:l[j]?=some x) (o k:Nat):ab3 (l.take (j+1)) o k=(ab3 (l.take j) o k || (x.off==o&& !x.used&&aap (x.size:Int)==(k:Int))):=aqP h
theorem ang{l:List Bk}{j:Nat}{x:Bk}(hp:l.Pairwise (fun a b=>a.off<b.off)) (h:l[j]?=some x) (k:Nat):ab3 (l.take j) x.off k=false:=by
 unfold ab3;rw[List.any_eq_false];intro y hy hc;obtain⟨i,hi,e⟩:=List.getElem_of_mem hy;rw[List.length_take]at hi;rw[List.getElem_take]at e;obtain⟨hj,e2⟩:=List.getElem?_eq_some_iff.1 h;have:=List.pairwise_iff_getElem.1 hp i j (by omega) hj (by omega);rw[e,e2]at this;simp at hc;omega
theorem arm{l:List Bk}{j:Nat}{x:Bk}(h:l[j]?=some x):abh (l.take (j+1))=abh (l.take j)+if x.used=true then 0 else 1:=by
 unfold abh;rw[akC h]
 cases x.used<;>rfl
theorem akW (w:World) (A2:Option Addr) (c2:Nat) (l:List Bk) (hr:BkRd w w.heap.size A2 l) (hl:l.length<=100000) (hp:l.Pairwise (fun a b=>a.off<b.off))
 (hg:∀x∈l,aaD (x.size:Int)=true/\x.off<=100000):
 Calls Tryz.prog 116 #[.slice A2 l.length c2] w fun e w'=>e= .returned (.map (some w.heap.size))/\PSet w' w.heap.size l.length (ab3 l) (abh l)/\Below w.heap.size w w':=by
 have HR:=hE0 hr;have HG:=hE0 hg;have HP:=hE0 hp;have hmm:= @run_makeMap Tryz.prog;obtain⟨B0,hB0⟩:=nmE w.heap.size;have HB0:=hE0 hB0;have hP0:=PSet.made w;rw[hB0]at hP0;obtain⟨w1,hw1⟩:=nmE (w.alloc (.map #[] 0));have hb1:=abE hw1;rw[hw1]at hP0;have HW1:=hE0 hw1;have HB1:=hE0 hb1;have HP0:=hE0 hP0;clear hr hg hp hP0 hw1 hb1;go_enter Tryz.func116,Tryz.ntmps116
 go_wp2_with (first | (rw[HW1.out]) | fail)
 clear hmm hB0;go_loopw [9] (fun t wr=>∃j:Nat,t= .int .i64 (j:Int)/\j<=l.length/\PSet wr B0 j (ab3 (l.take j)) (abh (l.take j))/\Below B0 w wr) (fun t _=>l.length-(intOf t).toNat)
 case atStart=>exact⟨0,rfl,Nat.zero_le _,HP0.out,by rw[<-HB0.out];exact HB1.out⟩
 case round=>
  obtain⟨j,rfl,hj,hps,hbe⟩:=hrel;by_cases hlt:j<l.length
  · obtain⟨x,hx⟩:∃x,l[j]?=some x:=⟨l[j],List.getElem?_eq_getElem hlt⟩;obtain⟨b2,o,rfl,hbb,hcl⟩:=HR.out (by omega);rw[HB0.out]at hbb;obtain⟨p0,p1,p2⟩:=hcl j x hx;have ht:=akV hx;have hn:=ang HP.out hx;have hct:=arm hx;obtain⟨hsz,hoff⟩:=HG.out x (List.mem_of_getElem? hx);obtain⟨k,hk,hk22⟩:=abs hsz;have hq:=(aac _).1 hsz;have r0:=aaW hbe p0 hbb;have r1:=aaW hbe p1 hbb;have r2:=aaW hbe p2 hbb;obtain⟨xo,xs,xu⟩:=x;dsimp only at p0 p1 p2 r0 r1 r2 ht hn hct hoff hk hq;have hBr:=hps.lt;obtain⟨w4,hw4⟩:=nmE (wr.alloc (.cells #[.int .i64 (xo:Int), .int .i64 (xs:Int), .bool xu] 112));have hb4:=abE hw4;have n4:=anE hw4;obtain⟨⟨d0,d1,d2⟩,_⟩:=aad n4;have hlt4:=aae n4;have ps4:=hps.below hb4 hBr;have HW4:=hE0 hw4;have HB4:=hE0 (hbe.trans (hb4.mono (by omega)))
    cases xu with
    | true=>
     have hP:PSet w4 B0 (j+1) (ab3 (l.take (j+1))) (abh (l.take (j+1))):=by
      rw[hct];exact(ps4.mono (Nat.le_succ j)).same fun o k _ _=>by rw[ht];simp
     have HPN:=hE0 hP;clear hx hbe hps p0 p1 p2 hb4 n4 hw4 hcl hk hsz ht hn hct ps4 hP;go_wp2_with (first | (rw[HW4.out]) | fail)
     go_roundw
     case rel=>exact⟨j+1,by go_num,by omega,HPN.out,HB4.out⟩
     case measure=>simp only[intOf];omega
    | false=>
     have hC:=fun W=>ajf W (xs:Int) (by omega);rw[hk]at hC;have HC:=hE0 (hC w4.drew);have HPS:=hE0 (⟨ps4,hlt4⟩:PSet w4 B0 j (ab3 (l.take j)) (abh (l.take j))/\wr.heap.size<w4.heap.size);have hP:∀W,PSet W B0 (j+1) (fun p' c'=>ab3 (l.take j) p' c' || (p'==xo&&c'==k)) (abh (l.take j)+1)->PSet W B0 (j+1) (ab3 (l.take (j+1))) (abh (l.take (j+1))):=fun W h=>by
      rw[hct];refine h.same fun o k' _ _=> ?_;rw[ht,hk];congr 1;rw[Bool.eq_iff_iff];simp;omega
     have HPN:=hE0 hP;have HN:=hE0 (hn k);clear hx hbe hps p0 p1 p2 hb4 n4 hw4 hcl hk hsz ht hn hct ps4 hP hC;go_wp2_with (first | (rw[HW4.out]) | fail)
     refine aaq w4.heap.size [([0,1,2,3,4],5)] [6] [7] (by kernel_rfl) (by kernel_rfl) (by kernel_rfl) (fun _ _ _ _ _ h=>h) ?_;have q0:∀z:LaterB w4.heap.size w4.drew,z.val.cell? ⟨wr.heap.size,0,none⟩=some (.int .i64 (xo:Int)):=fun z=>aaW z.ext d0 hlt4;have q1:∀z:LaterB w4.heap.size w4.drew,z.val.cell? ⟨wr.heap.size,1,none⟩=some (.int .i64 (xs:Int)):=fun z=>aaW z.ext d1 hlt4;refine tail_cons (l:= ?seg1) ?hseg1 ?_
     case hseg1=>simp only[pick,lE1,lE2,lE3];rfl
     repeat (go_big_quiet_step (fail))
     refine wpQuiet_nil ?_;clear q0 q1;refine aau (vs:= #[.int .i64 (xs:Int)]) Tryz.call177 rfl rfl rfl (R:=fun r w'=>r= .int .i64 (k:Int)/\Below w4.heap.size w4.drew w') (HC.out.mono ?_) w4.heap.size (Nat.le_refl _) ?_
     · rintro e w' ⟨rfl,hb⟩;exact⟨_,rfl,hb,rfl,hb⟩
     rintro r w5 _ ⟨rfl,hb5⟩;have hb6:Below w4.heap.size w4 w5:=⟨hb5.os,hb5.tape,hb5.output,hb5.size,hb5.block⟩;have hs6:w4.heap.size<=w5.heap.size:=hb6.size;have hps5:=HPS.out.1.below hb6 (by omega);refine aaN (l:= ?la1) (t:= ?tl1) ?hla1 ?htl1 ?_
     case hla1=>simp only[pick,lE1,lE2,lE3];rfl
     case htl1=>simp only[pick,lE1,lE2,lE3];rfl
     simp only[Act.put,lE4,lE5,lE6];repeat (go_big_quiet_step (fail))
     refine wpQuiet_nil ?_;refine ape rfl _ _ _ rfl rfl hps5 (by unfold maxLen;omega) xo k (by omega) (by omega) rfl rfl HN.out ?_;intro w6 hp6 ht6;have HP6:=hE0 (HPN.out w6 hp6);have HB6:=hE0 ((HB4.out.trans (hb6.mono (by omega))).trans (ht6.below (B:=B0) (fun q hq=>by omega) (by omega)));clear hp6 ht6 hps5 hb5 hb6 hs6;go_wp2
     go_roundw
     case rel=>exact⟨j+1,by go_num,by omega,HP6.out,HB6.out⟩
     case measure=>simp only[intOf];omega
  · have e:l.take j=l:=List.take_of_length_le (by omega);rw[e]at hps;have HPS:=hE0 (hps.mono (n':=l.length) (by omega));have HB:=hE0 hbe;clear hbe hps e;go_wp2
    go_ret
    exact⟨by rw[HB0.out];rfl,by rw[HB0.out];exact HPS.out,by rw[HB0.out];exact HB.out⟩
theorem at0{l:List Bk}{all:List Nat}{j o:Nat}(ho:all[j]?=some o) (h:(acr l o&& !(all.take j).contains o)=false):all.all (okO l all)=false:=by
 rw[List.all_eq_false];refine⟨o,List.mem_of_getElem? ho,?_⟩;unfold okO
 cases hf:acr l o
 · simp
 · rw[hf,Bool.true_and,Bool.not_eq_false',List.contains_iff_mem]at h;obtain⟨hj,e⟩:=List.getElem?_eq_some_iff.1 ho;have h1:0<(all.take j).count o:=List.count_pos_iff.2 h;have h2:0<(all.drop j).count o:=List.count_pos_iff.2 (by rw[List.drop_eq_getElem_cons hj,e];exact List.mem_cons_self);have h3:all.count o=(all.take j).count o+(all.drop j).count o:=by
    rw[<-List.count_append,List.take_append_drop]
   have:(all.count o==1)=false:=by rw[beq_eq_false_iff_ne];omega
   rw[this];simp
theorem asR{l:List Bk}{all:List Nat}(hn:all.Nodup) (h:∀o∈all,acr l o=true):all.all (okO l all)=true:=by
 rw[List.all_eq_true];intro o ho;unfold okO;have h1:0<all.count o:=List.count_pos_iff.2 ho;have h2:=List.nodup_iff_count.1 hn o;rw[h o ho,show all.count o=1 by omega];rfl
theorem aio{all:List Nat}{j o:Nat}(ho:all[j]?=some o):all.take (j+1)=all.take j++ [o]:=by
 rw[List.take_add_one,ho];rfl
theorem apj{all:List Nat}{j o:Nat}(ho:all[j]?=some o) (hn:(all.take j).Nodup) (h:(all.take j).contains o=false):(all.take (j+1)).Nodup:=by
 rw[aio ho,List.nodup_append];refine⟨hn,by simp,fun a ha b hb e=> ?_⟩;obtain rfl:b=o:=by simpa using hb
 subst e;rw[List.contains_iff_mem.2 ha]at h
 cases h
theorem aip{bs:List UInt8}{l:List Bk}(hg:∀x∈l,aa2 bs (x.off:Int)=some x){o k:Nat}(h:aao bs o (k:Int)=true):ab3 l o k=acr l o:=by
 unfold ab3 acr;rw[Bool.eq_iff_iff,List.any_eq_true,List.any_eq_true];unfold aao at h;refine exists_congr fun x=>and_congr_right fun hx=> ?_;have h1:=hg x hx;by_cases e:x.off=o
 · rw[<-e,h1]at h;dsimp only at h;rw[Bool.and_eq_true,Bool.and_eq_true]at h;rw[h.2.1,h.2.2];simp
 · have:(x.off==o)=false:=by rw[beq_eq_false_iff_ne];exact e
   rw[this];simp
theorem BkRd.later{w w':World}{B B':Nat}{A:Option Addr}{l:List Bk}(h:BkRd w B A l) (hb:Below B w w') (hB:B<=B'):BkRd w' B' A l:=fun h0=>by
 obtain⟨b,o,e,hbb,hc⟩:=h h0;refine⟨b,o,e,by omega,fun j x hx=> ?_⟩;obtain⟨p0,p1,p2⟩:=hc j x hx;exact⟨aaW hb p0 hbb,aaW hb p1 hbb,aaW hb p2 hbb⟩
theorem apk{S:Nat->Prop}{w w':World}(h:Tch S w w'){b j:Nat}{v:Value}(hc:w.cell? ⟨b,j,none⟩=some v) (hb:b<w.heap.size) (hn:¬S b):w'.cell? ⟨b,j,none⟩=some v:=
 (World.cell?_of_block (w:=w) (a:=⟨b,j,none⟩) (h.block b hb hn)).trans hc
def akX (f:Nat->Nat->Bool) (d:Nat) (m:List Nat):Nat->Nat->Bool:=fun o k=>f o k&& !(k==d&&m.contains o)
theorem anh (w0 w:World) (g base cap c:Nat) (A:Option Addr) (bs:List UInt8) (h:Ar w0 195 g base cap A c bs) (hb:base<=4611686018427387904) (hl:bs.length<=16384) (hw:Below w0.heap.size w0 w)
 (B n z:Nat) (f:Nat->Nat->Bool) (hps:PSet w B n f z) (hB:w0.heap.size<=B) (l:List Bk) (hf:∀k:Nat,k<22->∀o,aao bs o (k:Int)=true->f o k=acr l o) (y:Bool) (hy:afF bs l 22 0 (z:Int)=y):
 Calls Tryz.prog 115 #[.pointer (some ⟨g,0,none⟩), .map (some B)] w fun e w'=>e= .returned (.bool y)/\Below w0.heap.size w0 w':=by
 have HAR:=hE0 h;have HBASE:=hE0 hb;have HW:=hE0 hw;have HPS:=hE0 hps;have HF:=hE0 hf;have HY:=hE0 hy;clear h hb hw hps hf hy;go_enter Tryz.func115,Tryz.ntmps115
 go_wp2
 go_loopw [11] (fun t wr=>∃(d k z:Nat) (f:Nat->Nat->Bool),t= .int .i64 (d:Int)/\d+k=22/\y=afF bs l k d (z:Int)/\PSet wr B n f z/\(∀k':Nat,d<=k'->k'<22->∀o,aao bs o (k':Int)=true->f o k'=acr l o)/\Below w0.heap.size w0 wr) (fun t _=>22-(intOf t).toNat)
 case atStart=>exact⟨0,22,z,f,rfl,rfl,HY.out.symm,HPS.out,fun k' _ h=>HF.out k' h,HW.out⟩
 case round=>
  clear HPS HF HY HW;obtain⟨d,k,z,f,rfl,hdk,hyk,hps,hfm,hbe⟩:=hrel;generalize wr=wq at*;by_cases hd22:d<22
  · obtain⟨k,rfl⟩:∃k',k=k'+1:=⟨k-1,by omega⟩;have har:Ar wq 195 g base cap A c bs:=HAR.out.below hbe;have hBq:=hps.lt
    cases ha:afk bs d with
    | none=>
     obtain rfl:y=false:=by rw[hyk];simp[afF,ha]
     have hA:=auG wq g base cap c A bs d _ har HBASE.out hl hd22 ha;dsimp only[aeO,Option.isSome,Option.getD,aat]at hA;have HA:=hE0 hA;have HB:=hE0 hbe;clear hA hbe hyk har ha HAR hps hfm;go_wp2_with fail
     with_reducible refine HA.out.mono ?_
     rintro e w2 ⟨A',c',rfl,_,hb3⟩;have HB2:=hE0 (HB.out.trans (hb3.mono (by omega)));clear hb3;go_wp2
     go_ret
     exact⟨rfl,HB2.out⟩
    | some all=>
     have hA:=auG wq g base cap c A bs d _ har HBASE.out hl hd22 ha;dsimp only[aeO,Option.isSome,Option.getD,aat]at hA;have hyk':y=(all.all (okO l all)&&afF bs l k (d+1) ((z:Int)-all.length)):=by
      rw[hyk];conv=>lhs;unfold afF
      rw[ha]<;>rfl
     have hmem:∀o∈all,aao bs o (d:Int)=true/\o<=20000:=fun o ho=>⟨acE ha o ho,(aeg (acE ha o ho)).1⟩;have hal:=aqL ha;have HA:=hE0 hA;have HB:=hE0 hbe;have HYK:=hE0 hyk';have HMEM:=hE0 hmem;have HPS:=hE0 hps;have HFM:=hE0 hfm;clear hA hbe hyk hyk' har ha hps hfm hmem;go_wp2_with fail
     with_reducible refine HA.out.mono ?_
     rintro e w2 ⟨A2,c2,rfl,ho2,hb3⟩;have HO2:=hE0 ho2;have HB2:=hE0 (HB.out.trans (hb3.mono (by omega)));have HPS2:=hE0 (HPS.out.below hb3 hBq);have hs2:=hb3.size;clear hb3 ho2 HA HB HPS;go_wp2
     go_loopw [24] (fun t wi=>∃j z':Nat,t= .int .i64 (j:Int)/\j<=all.length/\z'+j=z/\(all.take j).Nodup/\(∀o∈all.take j,acr l o=true)/\PSet wi B n (akX f d (all.take j)) z'/\Tch (fun q=>q=B) w2 wi) (fun t _=>all.length-(intOf t).toNat)
     case atStart=>exact⟨0,z,rfl,Nat.zero_le _,by omega,by simp,by simp,HPS2.out.same (fun o k _ _=>by simp[akX]),Tch.refl _ _⟩
     case round=>
      clear HPS2;obtain⟨j,z',rfl,hj,hz,hnd,hfd,hps,htc⟩:=hrel;by_cases hlt:j<all.length
      · obtain⟨o,ho⟩:∃o,all[j]?=some o:=⟨all[j],List.getElem?_eq_getElem hlt⟩;obtain⟨hmo,ho2⟩:=HMEM.out o (List.mem_of_getElem? ho);obtain⟨b2,o2,rfl,hbb,hcl⟩:=aqO HO2.out rfl (by simp[atF];omega);have hbB:wq.heap.size<=b2:=(HO2.out.lt b2 rfl).1;have p0:=hcl j (o:Int) (by simp[atF,ho]);have r0:=apk htc p0 hbb (by omega);have hff:=HFM.out d (Nat.le_refl _) hd22 o hmo;obtain⟨bb,hbbv⟩:=nmE ((acr l o&& !(all.take j).contains o));have hlook:akX f d (all.take j) o d=bb:=by
         unfold akX;rw[hff,<-hbbv];simp
        have hBi:=hps.lt;obtain⟨w4,hw4⟩:=nmE (wr.alloc (.cells #[.int .i64 (o:Int), .int .i64 (d:Int)] 251));have hb4:=abE hw4;have n4:=anE hw4;have d0:=cell_of_row w4 wr.heap.size 0 _ _ (0,0) n4;have d1:=cell_of_row w4 wr.heap.size 1 _ _ (0,0) n4;simp only[List.getElem?_toArray,List.getElem?_cons_zero,List.getElem?_cons_succ]at d0 d1;have HW4:=hE0 hw4;have HP4:=hE0 (hps.below hb4 hBi);have HT4:=hE0 (htc.trans (S':=fun q=>q=B) (Tch.of_below hb4) (fun _ _ h=>h));have HLK:=hE0 hlook;have HBBV:=hE0 hbbv;have HND:=hE0 hnd;have HFD:=hE0 hfd;have HO:=hE0 ho;clear ho hmo hcl p0 hff hlook hbbv hps htc hb4 n4 hw4 hnd hfd HAR HO2 HMEM HFM
        cases bb with
        | false=>
         obtain rfl:y=false:=by rw[HYK.out,at0 HO.out HBBV.out];rfl
         have HE:=hE0 (HB2.out.trans (HT4.out.below (B:=w0.heap.size) (fun q hq=>by omega) (by omega)));clear HB2 HT4 HYK;go_wp2_with (first | (rw[HW4.out]) | (at_lookup;refine ahr rfl _ _ rfl rfl HP4.out o d (by omega) (by omega) rfl false HLK.out ?_) | fail)
         go_ret
         exact⟨rfl,HE.out⟩
        | true=>
         go_wp2_with (first | (rw[HW4.out]) | (at_lookup;refine ahr rfl _ _ rfl rfl HP4.out o d (by omega) (by omega) rfl true HLK.out ?_) | (at_delete;refine apf rfl _ _ rfl rfl HP4.out o d (by omega) (by omega) rfl HLK.out ?_;intro w5 z5 hz5 hp5 ht5;have HP5:=hE0 hp5;have HT5:=hE0 (HT4.out.trans ht5 (fun _ _ h=>h));have HZ5:=hE0 hz5;clear hp5 ht5 hz5) | fail)
         go_roundw
         case rel=>
          have hno:(all.take j).contains o=false:=by
           have:=HBBV.out;rw[Bool.and_eq_true,Bool.not_eq_true']at this;exact this.2
          have hyes:acr l o=true:=by
           have:=HBBV.out;rw[Bool.and_eq_true]at this;exact this.1
          refine⟨j+1,z5,by go_num,by omega,by have:=HZ5.out;omega,apj HO.out HND.out hno,fun q hq=> ?_,?_,HT5.out⟩
          · rw[aio HO.out,List.mem_append]at hq;rcases hq with hq | hq
            · exact HFD.out q hq
            · obtain rfl:q=o:=by simpa using hq
              exact hyes
          · refine HP5.out.same fun q k' _ _=> ?_;unfold akX;rw[aio HO.out,Bool.and_assoc];congr 1;rw[Bool.eq_iff_iff];simp;by_cases e1:k'=d<;>by_cases e2:q=o<;>simp[e1,e2]
         case measure=>simp only[intOf];omega
      · have ejl:j=all.length:=by omega
        have et:all.take j=all:=List.take_of_length_le (by omega);rw[et]at hnd hfd hps;have hyn:y=afF bs l k (d+1) (z':Int):=by
         rw[HYK.out,asR hnd hfd,Bool.true_and];congr 1;omega
        have HYN:=hE0 hyn;have HP:=hE0 hps;have HE:=hE0 (HB2.out.trans (htc.below (B:=w0.heap.size) (fun q hq=>by omega) (by omega)));clear hyn hps htc hnd hfd et ejl HYK HB2 HO2;go_wp2
        go_roundw
        case rel=>
         refine⟨d+1,k,z',akX f d all,by go_num,by omega,HYN.out,HP.out,fun k' h1 h2 q hq=> ?_,HE.out⟩;have:(k'==d)=false:=by rw[beq_eq_false_iff_ne];omega
         unfold akX;rw[this,Bool.false_and,Bool.not_false,Bool.and_true];exact HFM.out k' (by omega) h2 q hq
        case measure=>simp only[intOf];omega
  · obtain⟨rfl,rfl⟩:d=22/\k=0:=by omega
    have hyz:y=((z:Int)==0):=hyk;have HYZ:=hE0 hyz;have HPS:=hE0 hps;have HB:=hE0 hbe;clear hyz hyk hps hbe hfm HAR;go_wp2_with (first | (at_len;refine apg rfl _ rfl rfl HPS.out ?_) | fail)
    go_ret
    exact⟨ar3 HYZ.out.symm,HB.out⟩
theorem apl:atY:=by
 intro w g base cap c A bs x h hb hl hx
 cases hw:abA bs with
 | none=>
  obtain rfl:false=x:=by rw[<-hx];unfold ab8;rw[hw]
  have hW:=ajx w g base cap c A bs _ h hb hl hw;dsimp only[acR,Option.isSome,Option.getD,aat]at hW;dsimp only[aat];have HW:=hE0 hW;clear hW hw hx h hb;go_enter Tryz.func55,Tryz.ntmps55
  go_wp2_with fail
  with_reducible refine HW.out.mono ?_
  rintro e w2 ⟨A',c',rfl,_,hb2⟩;have HB2:=hE0 hb2;clear hb2;go_wp2
  go_ret
  exact⟨rfl,HB2.out⟩
 | some l=>
  obtain⟨h184,ht,hg⟩:=aaj hw;have hm:=aak l _ _ ht;obtain⟨y1,hy1⟩:∃y,adx l=y:=⟨_,rfl⟩;obtain⟨y2,hy2⟩:∃y,decide (aaf bs 0<4194304)=y:=⟨_,rfl⟩;obtain⟨y3,hy3⟩:∃y,afF bs l 22 0 (abh l)=y:=⟨_,rfl⟩;have e0:anQ bs 0=aaf bs 0:=by unfold anQ word?;rw[if_pos (by omega)];rfl
  have hx':(y2&&(y1&&y3))=x:=by
   rw[<-hx];unfold ab8;rw[hw];dsimp only;rw[e0,hy1,hy2,hy3]
  have hll:=ai7 hw;have hW:=ajx w g base cap c A bs _ h hb hl hw;dsimp only[acR,Option.isSome,Option.getD,aat]at hW;have HW:=hE0 hW;have HAR:=hE0 h;have HBASE:=hE0 hb;have HG:Hid (∀x∈l,aaD (x.size:Int)=true/\x.off<=100000):=fun x hx=>⟨(hm.2 x hx).2.2.1,by have:=(hm.2 x hx).2.1;omega⟩;have HPM:Hid (∀k:Nat,k<22->∀o,aao bs o (k:Int)=true->ab3 l o k=acr l o):=fun k _ o ho=>aip hg ho;have HR:=hE0 (ahs l _ _ ht);have HY1:=hE0 hy1;have HY2:=hE0 hy2;have HY3:=hE0 hy3;clear hW hw hx h hb ht hg hm hy1 hy2 hy3 e0;go_enter Tryz.func55,Tryz.ntmps55
  go_wp2_with fail
  with_reducible refine HW.out.mono ?_
  rintro e w2 ⟨A2,c2,rfl,ho2,hb2⟩;have hcl:l.length<=c2/\c2<=9223372036854775807:=by
   rcases ho2.2 with⟨h',h0⟩ | ⟨_,_,_,h',_,_,h1,h2,_⟩
   · injection h' with _ _ e;rw[h0,e];omega
   · injection h' with _ _ e;unfold maxLen at h2;omega
  have hr2:=BkRd.of_own ho2;have HR2:=hE0 hr2;have HB2:=hE0 hb2;have HADJ:=hE0 (arl w2 A2 c2 l hr2 hcl y1 HY1.out);have hs2:=hb2.size;clear ho2 hr2 hb2 HW;go_wp2_with fail
  with_reducible refine HADJ.out.mono ?_
  rintro e w3 ⟨rfl,hb3⟩;have hr3:=HR2.out.later hb3 hb3.size;have HB3:=hE0 (HB2.out.trans (hb3.mono hs2));have hs3:=hb3.size;clear hb3 HR2 HB2 HADJ
  cases y1 with
  | false=>
   obtain rfl:false=x:=by rw[<-hx'];simp
   clear HAR HG HPM hr3 hx';dsimp only[aat];go_wp2
   go_ret
   exact⟨rfl,HB3.out⟩
  | true=>
   have HBT:=hE0 (api (HAR.out.below HB3.out) HBASE.out hl h184 y2 HY2.out);have HPL:=hE0 (akW w3 A2 c2 l hr3 (by omega) HR.out HG.out);clear hr3;go_wp2_with fail
   with_reducible refine HBT.out.mono ?_
   rintro e w4 ⟨rfl,rfl⟩
   cases y2 with
   | false=>
    obtain rfl:false=x:=by rw[<-hx'];simp
    clear HAR HG HPM hx' HBT HPL;dsimp only[aat];go_wp2
    go_ret
    exact⟨rfl,HB3.out⟩
   | true=>
    obtain rfl:y3=x:=by rw[<-hx'];simp
    go_wp2_with fail
    with_reducible refine HPL.out.mono ?_
    rintro e w4 ⟨rfl,hps4,hb4⟩;have HLS:=hE0 (anh w w4 g base cap c A bs HAR.out HBASE.out hl (HB3.out.trans (hb4.mono (by omega))) w3.heap.size l.length (abh l) (ab3 l) hps4 (by omega) l HPM.out y3 HY3.out);clear HAR HG HPM hx' HBT HPL hps4 hb4;go_wp2_with fail
    with_reducible refine HLS.out.mono ?_
    rintro e w5 ⟨rfl,hb5⟩;have HB5:=hE0 hb5;clear hb5 HLS
    cases y3 with
    | false=>
     dsimp only[aat];go_wp2
     go_ret
     exact⟨rfl,HB5.out⟩
    | true=>
     dsimp only[aat];go_wp2
     go_ret
     exact⟨rfl,HB5.out⟩
structure Hm (F:Nat->Prop) (w:World) (p:Nat) (H:Hp) (Vb Vd:Value) (gl:Nat) (cs:List Value):Prop where
 obj:w.heap[p]?=some (.cells #[.int .i64 (H.cap:Int),Vb,Vd, .slice (some ⟨gl,0,none⟩) 22 22] 135 (0,0))
 ob:w.ownsRow 0 112 3 Vb H.blks.length (abC H.blks)
 od:w.ownsRow 0 37 1 Vd H.ds.length (H.ds.map Prod.fst)
 row:w.heap[gl]?=some (.cells cs.toArray 23 (0,0))
 len:cs.length=22
 at_:∀d,d<22->∃v,cs[d]?=some v/\w.ownsRow 0 3 1 v (H.lists d).length ((H.lists d).map iV)
 fp:F p
 fl:F gl
 fb:∀k,Vb.ownBlock=some k->F k
 fd:∀k,Vd.ownBlock=some k->F k
 fi:∀d v k,d<22->cs[d]?=some v->v.ownBlock=some k->F k
 sl:∀d∈H.ds,∃A n c,d.1= .slice A n c
def HM (F:Nat->Prop) (w:World) (p:Nat) (H:Hp):Prop:=∃Vb Vd gl cs,Hm F w p H Vb Vd gl cs
def HT (F:Nat->Prop) (w:World) (p:Nat) (H':Hp) (w':World):Prop:=∃F',HM F' w' p H'/\Tch F w w'/\∀k,F' k->F k\/w.heap.size<=k
theorem afP{w:World}{base base' n size:Nat}{t:TypeId}{v:Value}{xs:List Value}(h:w.ownsRow base t size v n xs) (hb:base'<=base):w.ownsRow base' t size v n xs:=by
 refine⟨h.1,?_⟩;rcases h.2 with h2 | ⟨g,cap,cur,hv,hg,r⟩
 · exact .inl h2
 · exact .inr ⟨g,cap,cur,hv,Nat.le_trans hb hg,r⟩
section
variable {F F':Nat->Prop} {w w' w2:World} {p gl:Nat} {H H':Hp} {Vb Vd:Value} {cs:List Value}
theorem aiq{w:World}{n:Nat}{V:Value}{l:List Bk}(h:w.ownsRow 0 112 3 V n (abC l)){i:Nat}{x:Bk}(hx:l[i]?=some x):∃b c,V= .slice (some ⟨b,0,none⟩) n c/\b<w.heap.size/\n=l.length/\n<=c/\(w.cell? ⟨b,i*3,none⟩=some (.int .i64 (x.off:Int))/\w.cell? ⟨b,i*3+1,none⟩=some (.int .i64 (x.size:Int))/\w.cell? ⟨b,i*3+2,none⟩=some (.bool x.used))/\∀j,w.frozen? ⟨b,j,none⟩=false:=by
 have hi:i<l.length:=by
  rcases Nat.lt_or_ge i l.length with h' | h'
  · exact h'
  · rw[List.getElem?_eq_none h']at hx;cases hx
 have hn:n=l.length:=by
  have h1:=h.1;rw[afn]at h1;omega
 rcases h.2 with⟨_,h0⟩ | ⟨b,c,cur,rfl,_,hh,hnc,_⟩
 · omega
 · obtain⟨f0,f1,f2⟩:=af9 l i x hx;refine⟨b,c,rfl,aae hh,hn,hnc,⟨?_,?_,?_⟩,fun j=>frozen_of_row w b j _ _ hh⟩
   · rw[h.cellAt _ (by omega)];exact f0
   · rw[h.cellAt _ (by omega)];exact f1
   · rw[h.cellAt _ (by omega)];exact f2
end
theorem aeP{l:List Nat}:∀{r:List Nat},l.Nodup->(∀a∈l,a∈r)->l.length<=r.length:=by
 induction l with
 | nil=>intro r _ _;exact Nat.zero_le _
 | cons x l ih=>
  intro r hn hs;obtain⟨h1,h2⟩:=List.nodup_cons.1 hn;have hx:=hs x (by simp);have h3:=ih (r:=r.erase x) h2 (fun a ha=>(List.mem_erase_of_ne (fun e:a=x=>h1 (by rw[<-e];exact ha))).2 (hs a (by simp[ha])));have h4:=List.length_erase_of_mem hx;have h5:0<r.length:=List.length_pos_of_mem hx;rw[List.length_cons];omega
theorem apm{l r:List Nat}(hn:l.Nodup) (hs:∀a∈l,a∈r) (hl:r.length<=l.length):∀b∈r,b∈l:=fun b hb=>by
 by_cases hin:b∈l
 · exact hin
 · have h1:=aeP (r:=r.erase b) hn (fun a ha=>(List.mem_erase_of_ne (fun e:a=b=>hin (by rw[<-e];exact ha))).2 (hs a ha));have h2:=List.length_erase_of_mem hb;have h3:0<r.length:=List.length_pos_of_mem hb;omega
theorem agr:∀{l:List Nat},(∀a∈l,l.count a=1)->l.Nodup
 | [],_=>List.nodup_nil
 | x::r,h=>by
  have h1:=h x (by simp);rw[List.count_cons_self]at h1;have hx:x∉r:=List.count_eq_zero.1 (by omega);refine List.nodup_cons.2 ⟨hx,agr fun a ha=> ?_⟩;have h2:=h a (by simp[ha]);have hne:x≠a:=fun e=>hx (e▸ha);rw[List.count_cons_of_ne hne]at h2;exact h2
section
variable {bs:List UInt8} {H:Hp}
theorem Rt.nfree (h:Rt bs H):(∀c,c<22->(H.lists c).Nodup/\∀o∈H.lists c,o∈aa5 H.blks c)/\adx H.blks=true/\afF bs H.blks 22 0 (abh H.blks)=true:=by
 have hk:=h.chk;unfold ab8 at hk;rw[h.walk]at hk;simp only[Bool.and_eq_true]at hk;refine⟨fun c hc=> ?_,hk.2.1,hk.2.2⟩;obtain⟨al,h1,h2⟩:=aeA 22 0 _ hk.2.2 c (Nat.zero_le _) (by omega);rw[h.all_ c hc]at h1;injection h1 with h1;subst h1;have h2':=List.all_eq_true.1 h2;refine⟨agr fun a ha=> ?_,fun o ho=> ?_⟩
 · have:=h2' a ha;unfold okO at this;rw[Bool.and_eq_true]at this;simpa using this.2
 · have h3:=h2' o ho;unfold okO at h3;rw[Bool.and_eq_true]at h3;have h4:=h3.1;unfold acr at h4;obtain⟨x,hx,hx2⟩:=List.any_eq_true.1 h4;simp only[Bool.and_eq_true,beq_iff_eq]at hx2;have hm:=acE (h.all_ c hc) o ho;have hg:=(aaj h.walk).2.2 x hx;unfold aao at hm;rw[<-hx2.1,hg]at hm;simp only[Bool.and_eq_true,beq_iff_eq]at hm;rw[<-hx2.1];exact aa9 hx (by simpa using hx2.2) hm.2.2
theorem al8{bs:List UInt8}{l:List Bk}{L:Nat->List Nat}(hL:∀c,c<22->afk bs c=some (L c)) (hs:∀c,c<22->(L c).length<=(aa5 l c).length):
 ∀(k c:Nat) (fr:Int),c+k=22->afF bs l k c fr=true->fr<=ae5 l k c/\(fr=ae5 l k c->∀d,c<=d->d<22->(aa5 l d).length<=(L d).length)
 | 0,c,fr,hck,h=>by
  unfold afF at h;have:fr=0:=by simpa using h
  refine⟨by subst this;exact Int.natCast_nonneg _,fun _ d h1 h2=>by omega⟩
 | k+1,c,fr,hck,h=>by
  unfold afF at h;rw[hL c (by omega)]at h;dsimp only at h;rw[Bool.and_eq_true]at h;obtain⟨i1,i2⟩:=al8 hL hs k (c+1) _ (by omega) h.2;have h1:=hs c (by omega);have e:(ae5 l (k+1) c:Int)=((aa5 l c).length:Int)+(ae5 l k (c+1):Int):=by
   show(((aa5 l c).length+ae5 l k (c+1):Nat):Int)=_;omega
  refine⟨by omega,fun hfr d hd1 hd2=> ?_⟩;rcases Nat.lt_or_ge c d with hlt | hge
  · exact i2 (by omega) d hlt hd2
  · obtain rfl:d=c:=by omega
    omega
theorem Rt.complete (h:Rt bs H):∀c,c<22->∀o∈aa5 H.blks c,o∈H.lists c:=fun c hc=>by
 obtain⟨h1,_,h3⟩:=h.nfree;have ht:=(aaj h.walk).2.1;have hsz:∀x∈H.blks,aaD (x.size:Int)=true:=fun x hx=>((aak _ _ _ ht).2 x hx).2.2.1;have hl:=al8 h.all_ (fun c hc=>aeP (h1 c hc).1 (h1 c hc).2) 22 0 _ rfl h3;exact apm (h1 c hc).1 (h1 c hc).2 (hl.2 (by rw[ah4 _ hsz]) c (Nat.zero_le _) hc)
theorem aht{l:List Bk}{s:Nat}:∀{L:List Nat},afy l s L=none->(∀o∈L,∃i,atB (o:Int) l=some i)->∀o∈L,∀i,atB (o:Int) l=some i->(aam l i).size<s
 | [],_,_,o,ho,_,_=>by cases ho
 | q::r,h,hL,o,ho,i,hi=>by
  obtain⟨j,hj⟩:=hL q (by simp);unfold afy at h;rw[hj]at h;dsimp only at h;split at h
  · cases h
  · rename_i hs;rcases List.mem_cons.1 ho with rfl | ho
    · rw[hj]at hi;injection hi with hi;subst hi;omega
    · exact aht h (fun a ha=>hL a (by simp[ha])) o ho i hi
theorem ahu{s:Nat}:∀{k c:Nat},H.findC s k c=none->∀d,c<=d->d<c+k->afy H.blks s (H.lists d)=none
 | 0,c,_,d,h1,h2=>by omega
 | k+1,c,h,d,h1,h2=>by
  unfold Hp.findC at h;split at h
  · cases h
  · rename_i hn;rcases Nat.lt_or_ge c d with hlt | hge
    · exact ahu h d hlt (by omega)
    · obtain rfl:d=c:=by omega
      exact hn
theorem al9{l:List Bk}{o e:Nat}(h:abr o l e){x y:Bk}(hx:x∈l) (hy:y∈l) (he:x.off=y.off):x=y:=by
 have h1:=(aac _).1 ((aak _ _ _ h).2 x hx).2.2.1;have h2:=(aac _).1 ((aak _ _ _ h).2 y hy).2.2.1;rcases aaL l o e h x hx y hy with h' | h' | h'
 · exact h'
 · omega
 · omega
theorem ama{l:List Bk}{o e:Nat}(h:abr o l e){x:Bk}(hx:x∈l):∃i,atB (x.off:Int) l=some i/\i<l.length/\aam l i=x:=by
 obtain⟨i,hi⟩:=ae6 hx;obtain⟨h1,h2⟩:=afm hi;refine⟨i,hi,h1,al9 h (List.mem_of_getElem? (aar h1)) hx (by omega)⟩
theorem Rt.found (h:Rt bs H){s i:Nat}(hs:aaD (s:Int)=true) (hf:H.find s=some i):i<H.blks.length/\s<=(aam H.blks i).size/\(aam H.blks i).used=false:=by
 have ht:=(aaj h.walk).2.1;have one:∀(LL:List Nat),(∀o∈LL,∃x∈H.blks,x.off=o/\x.used=false)->∀i,afy H.blks s LL=some i->i<H.blks.length/\s<=(aam H.blks i).size/\(aam H.blks i).used=false:=by
  intro LL;induction LL with
  | nil=>intro _ i h;cases h
  | cons o r ih=>
   intro hL i h;unfold afy at h;split at h
   · cases h
   · rename_i j hj;split at h
     · rename_i hs;injection h with h;subst h;obtain⟨x,hx,hxo,hxu⟩:=hL o (by simp);obtain⟨h1,h2⟩:=afm hj;have e:=al9 ht (List.mem_of_getElem? (aar h1)) hx (by omega);exact⟨h1,hs,by rw[e];exact hxu⟩
     · exact ih (fun a ha=>hL a (by simp[ha])) i h
 have go:∀(k c i:Nat),c+k<=22->H.findC s k c=some i->i<H.blks.length/\s<=(aam H.blks i).size/\(aam H.blks i).used=false:=by
  intro k;induction k with
  | zero=>intro c i _ h;cases h
  | succ k ih=>
   intro c i hck hh;unfold Hp.findC at hh;split at hh
   · rename_i j hj;injection hh with hh;subst hh;refine one _ (fun o ho=> ?_) _ hj;obtain⟨x,h1,h2,h3,_⟩:=abt ((h.nfree.1 c (by omega)).2 o ho);exact⟨x,h1,h2,h3⟩
   · exact ih _ _ (by omega) hh
 obtain⟨cl,hcl,hcl22⟩:∃c:Nat,aap (s:Int)=(c:Int)/\c<22:=abs (x:=⟨0,s,false⟩) hs;unfold Hp.find at hf;rw[hcl,Int.toNat_natCast]at hf;exact go _ _ _ (by omega) hf
theorem Rt.lost (h:Rt bs H){s:Nat}(hs:aaD (s:Int)=true) (hf:H.find s=none):∀x∈H.blks,x.used=false->x.size<s:=fun x hx hu=>by
 have ht:=(aaj h.walk).2.1;have hxs:=((aak _ _ _ ht).2 x hx).2.2.1;obtain⟨cl,hcl,hcl22⟩:∃c:Nat,aap (s:Int)=(c:Int)/\c<22:=abs (x:=⟨0,s,false⟩) hs;obtain⟨cx,hcx,hcx22⟩:=abs hxs;rcases Nat.lt_or_ge x.size s with h1 | h1
 · exact h1
 · have hm:=akz hs hxs (by omega);unfold Hp.find at hf;rw[hcl,Int.toNat_natCast]at hf;have hl:=ahu hf cx (by omega) (by omega);obtain⟨i,hi,_,hb⟩:=ama ht hx;have:=aht hl (h.listed cx hcx22) x.off (h.complete cx hcx22 _ (aa9 hx hu hcx)) i hi;rw[hb]at this;exact this
theorem asS{l:List Bk}{j:Nat}{x:Bk}(hx:l[j]?=some x):aa7 (l.take (j+1))=aa7 (l.take j)+x.size:=by
 rw[List.take_add_one,hx,aeC];simp[aa7]
def aeX (l:List Bk):Nat:=l.foldl (fun e x=>if x.used=true then x.off+x.size else e) 184
theorem ajD (l:List Bk) (x:Bk):aeX (l++ [x])=if x.used=true then x.off+x.size else aeX l:=by
 unfold aeX;rw[List.foldl_append];rfl
theorem ajE{l:List Bk}{j:Nat}{x:Bk}(hx:l[j]?=some x):aeX (l.take (j+1))=if x.used=true then x.off+x.size else aeX (l.take j):=by
 rw[List.take_add_one,hx];exact ajD _ _
theorem asT{l:List Bk}{k:Nat}(h:l.length=k+1):l=l.take k++ [aam l k]:=by
 have e:=ajc (aar (l:=l) (i:=k) (by omega));rw[List.drop_of_length_le (by omega)]at e;exact e
theorem ajF{l:List Bk}(ht:abr 184 l (lenB l)) (hn:adx l=true):aeX l+aci l=lenB l:=by
 obtain⟨k,hk⟩:∃k,l.length=0\/l.length=k+1:=⟨l.length-1,by omega⟩;rcases hk with hk | hk
 · obtain rfl:=List.eq_nil_of_length_eq_zero hk;rfl
 · have e:=asT hk;have ha:=ah7 ht (aar (l:=l) (i:=k) (by omega));have hlast:(aam l k).off+(aam l k).size=lenB l:=by
    have h4:=ha.2.2.2;rw[List.drop_of_length_le (by omega)]at h4;exact h4
   have he:aeX l=if (aam l k).used=true then (aam l k).off+(aam l k).size else aeX (l.take k):=by
    conv=>lhs;rw[e]
    exact ajD _ _
   unfold aci;rw[if_neg (by omega),show l.length-1=k by omega]
   cases hu:(aam l k).used with
   | true=>
    rw[hu,if_pos rfl]at he;rw[if_pos rfl,he];omega
   | false=>
    rw[hu,if_neg (by decide)]at he;rw[if_neg (by decide),he];have hoff:=ha.2.1
    cases k with
    | zero=>
     rw[List.take_zero];rw[List.take_zero]at hoff;have h0:aeX []=184:=rfl;simp only[aa7]at hoff;rw[h0];omega
    | succ k=>
     have hp:=List.all_eq_true.1 hn (k+1) (List.mem_range.2 (by omega));unfold ac2 ac1 at hp;rw[aar (l:=l) (i:=k+1) (by omega),show k+1-1=k by omega,aar (l:=l) (i:=k) (by omega)]at hp;dsimp only at hp;rw[hu]at hp;have hpu:(aam l k).used=true:=by simpa using hp
     have e2:aeX (l.take (k+1))=(aam l k).off+(aam l k).size:=by
      rw[ajE (aar (l:=l) (i:=k) (by omega)),if_pos hpu]
     have hb:=ah7 ht (aar (l:=l) (i:=k) (by omega));have hs:=asS (aar (l:=l) (i:=k) (by omega));rw[e2];omega
theorem Rt.room (h:Rt bs H){s:Nat}(hs:aaD (s:Int)=true):(H.take s).1.isSome=(H.blks.any (fun x=> !x.used&&decide (s<=x.size)) || decide (s+aeX H.blks<=H.cap)):=by
 have ht:abr 184 H.blks (lenB H.blks):=by rw[h.lenE];exact(aaj h.walk).2.1
 have het:=ajF ht h.nfree.2.1;unfold Hp.take
 cases hf:H.find s with
 | some i=>
  obtain⟨h1,h2,h3⟩:=h.found hs hf;dsimp only;have:H.blks.any (fun x=> !x.used&&decide (s<=x.size))=true:=List.any_eq_true.2 ⟨_,List.mem_of_getElem? (aar h1),by rw[h3,decide_eq_true h2];rfl⟩;rw[this];rfl
 | none=>
  have hno:H.blks.any (fun x=> !x.used&&decide (s<=x.size))=false:=by
   rw[Bool.eq_false_iff];intro hh;obtain⟨x,hx,hx2⟩:=List.any_eq_true.1 hh;simp only[Bool.and_eq_true,decide_eq_true_eq]at hx2;have:=h.lost hs hf x hx (by simpa using hx2.1);omega
  rw[hno,Bool.false_or];dsimp only;by_cases hr:H.cap<lenB H.blks+s-aci H.blks
  · rw[if_pos hr,decide_eq_false (by omega)];rfl
  · rw[if_neg hr,decide_eq_true (by omega)];split<;>rfl
end
section
variable {bs:List UInt8} {H:Hp}
theorem apn{i j:Nat}(hp:(aam H.blks (i-1)).used=true) (hj:j<i):(H.give i).blks[j]?=H.blks[j]?:=by
 have e1:∀k,k<i->((H.use i false).wipe i).blks[k]?=H.blks[k]?:=fun k hk=>by
  show(H.blks.set i _)[k]?=_;exact List.getElem?_set_ne (by omega)
 have l1:((H.use i false).wipe i).blks.length=H.blks.length:=List.length_set ..;unfold Hp.give;obtain⟨H1,hH1⟩:=nmE ((H.use i false).wipe i);rw[hH1]at e1 l1 ⊢;have e2:∀k,k<i->(H1.giveB i).blks[k]?=H.blks[k]?:=fun k hk=>by
  rw[<-e1 k hk];unfold Hp.giveB;split
  · rename_i hn;have hlt:i+1<H1.blks.length:=by
     unfold acC at hn;rw[Bool.and_eq_true,decide_eq_true_eq]at hn;exact hn.1
    rw[acD (H1.out (i+1)) (i:=i) hlt];rw[List.getElem?_append_left (by rw[List.length_take];show k<min i H1.blks.length;omega)];exact List.getElem?_take_of_lt hk
  · rfl
 have hprev:ah6 (H1.giveB i).blks i=false:=by
  unfold ah6;have h1:=e2 (i-1) (by omega);have h2:aam (H1.giveB i).blks (i-1)=aam H.blks (i-1):=by
   unfold aam;rw[List.getD_eq_getElem?_getD,List.getD_eq_getElem?_getD,h1]
  rw[h2,hp,Bool.not_true,Bool.and_false]
 have e3:((H1.giveB i).giveC i).blks=(H1.giveB i).blks:=by
  unfold Hp.giveC;rw[hprev,if_neg (by decide)];rfl
 rw[e3];exact e2 j hj
theorem akY{i s:Nat}(hi:i<H.blks.length) (hle:s<=(aam H.blks i).size):∃x∈(H.cut i s).blks,x.off=(aam H.blks i).off/\x.used=true/\s<=x.size/\x.size<s+32/\x.size<=(aam H.blks i).size:=by
 unfold Hp.cut;split
 · rename_i hlt;refine⟨{aam H.blks i with used:=true},?_,rfl,rfl,hle,hlt,Nat.le_refl _⟩;exact List.mem_of_getElem? (i:=i) (List.getElem?_set_self hi)
 · rename_i hge;obtain⟨y,hy⟩:∃y:Bk,(⟨(aam H.blks i).off+s,(aam H.blks i).size-s,true⟩:Bk)=y:=⟨_,rfl⟩;rw[hy];have hb:=aeD (s:=s) H hi y;have hln:=akA (s:=s) H hi y;obtain⟨H2,hH2⟩:=nmE (((H.use i true).size i s).put (i+1) y);rw[hH2]at hb hln ⊢;have hat:H2.blks[i]?=some {aam H.blks i with used:=true,size:=s}:=by
    rw[hb,List.getElem?_append_right (by rw[List.length_take];omega),List.length_take,show i-min i H.blks.length=0 by omega];rfl
   have hk:=apn (H:=H2) (i:=i+1) (j:=i) (by rw[show i+1-1=i by omega,aa6 hat]) (by omega);refine⟨_,List.mem_of_getElem? (hk.trans hat),rfl,rfl,Nat.le_refl _,by show s<s+32;omega,hle⟩
theorem Rt.what (h:Rt bs H){s o:Nat}(hs:aaD (s:Int)=true) (hx:(H.take s).1=some o):
 ∃x∈(H.take s).2.blks,x.off=o/\x.used=true/\s<=x.size/\x.size<s+32/\∀y∈H.blks,y.used=true->y.off+y.size<=x.off\/x.off+x.size<=y.off:=by
 have ht:abr 184 H.blks (Go.Proofs.YtncadccbepjekaaGreatDoor.lenB H.blks):=by rw[h.lenE];exact(aaj h.walk).2.1
 cases hf:H.find s with
 | some i=>
  obtain⟨h1,h2,h3⟩:=h.found hs hf;have e:H.take s=(some (aam H.blks i).off,(H.out i).cut i s):=by unfold Hp.take;rw[hf]
  rw[e]at hx ⊢;injection hx with hx;obtain⟨x,k1,k2,k3,k4,k5,k6⟩:=akY (H:=H.out i) (i:=i) (s:=s) h1 h2;have hb:aam (H.out i).blks i=aam H.blks i:=rfl;rw[hb]at k2 k6;refine⟨x,k1,by omega,k3,k4,k5,fun y hy hu=> ?_⟩;rcases aaL _ _ _ ht y hy _ (List.mem_of_getElem? (aar h1))with h' | h' | h'
  · rw[h',h3]at hu;cases hu
  · exact .inl (by omega)
  · exact .inr (by omega)
 | none=>
  by_cases hr:H.cap<Go.Proofs.YtncadccbepjekaaGreatDoor.lenB H.blks+s-aci H.blks
  · have e:H.take s=(none,H):=by unfold Hp.take;rw[hf];dsimp only;rw[if_pos hr]
    rw[e]at hx
    cases hx
  · by_cases htl:0<aci H.blks
    · have e:H.take s=(some (aam H.blks (H.blks.length-1)).off,((H.out (H.blks.length-1)).size (H.blks.length-1) s).use (H.blks.length-1) true):=by unfold Hp.take;rw[hf];dsimp only;rw[if_neg hr,if_pos htl]
      have hn:0<H.blks.length:=by
       rcases Nat.eq_zero_or_pos H.blks.length with h0 | h0
       · unfold aci at htl;rw[if_pos h0]at htl;omega
       · exact h0
      have hu0:(aam H.blks (H.blks.length-1)).used=false:=by
       cases hu:(aam H.blks (H.blks.length-1)).used with
       | false=>rfl
       | true=>unfold aci at htl;rw[if_neg (by omega),if_pos hu]at htl;omega
      obtain⟨k,hk⟩:=nmE (H.blks.length-1);rw[hk]at e hu0;have hkl:k<H.blks.length:=by omega
      rw[e]at hx ⊢;injection hx with hx;have ha:=ah7 ht (aar hkl);have hlast:(aam H.blks k).off+(aam H.blks k).size=Go.Proofs.YtncadccbepjekaaGreatDoor.lenB H.blks:=by
       have h4:=ha.2.2.2;rw[List.drop_of_length_le (by omega)]at h4;exact h4
      have hget:(((H.out k).size k s).use k true).blks[k]?=some ⟨(aam H.blks k).off,s,true⟩:=by
       show((H.blks.set k _).set k _)[k]?=_;rw[List.getElem?_set_self (by rw[List.length_set];exact hkl)];have e2:aam ((H.out k).size k s).blks k={aam H.blks k with size:=s}:=by
        show aam (H.blks.set k _) k=_;rw[acu _ _ _ _ hkl,if_pos rfl];rfl
       rw[e2]
      refine⟨_,List.mem_of_getElem? hget,hx,rfl,Nat.le_refl _,by show s<s+32;omega,fun y hy hu=> .inl ?_⟩;have hm:=(aak _ _ _ ht).2 y hy;have hys:=(aac _).1 hm.2.2.1;show y.off+y.size<=(aam H.blks k).off;rcases aaL _ _ _ ht y hy _ (List.mem_of_getElem? (aar hkl))with h' | h' | h'
      · rw[h',hu0]at hu;cases hu
      · exact h'
      · omega
    · have e:H.take s=(some (Go.Proofs.YtncadccbepjekaaGreatDoor.lenB H.blks),H.put H.blks.length ⟨Go.Proofs.YtncadccbepjekaaGreatDoor.lenB H.blks,s,true⟩):=by unfold Hp.take;rw[hf];dsimp only;rw[if_neg hr,if_neg htl]
      rw[e]at hx ⊢;injection hx with hx;refine⟨⟨Go.Proofs.YtncadccbepjekaaGreatDoor.lenB H.blks,s,true⟩,?_,hx,rfl,Nat.le_refl _,by show s<s+32;omega,fun y hy hu=> .inl ((aak _ _ _ ht).2 y hy).2.1⟩;show _∈H.blks.take _++_::H.blks.drop _;simp
end
theorem asU{H:Hp}{s:Nat}:∀{i:Nat},H.find s=some i->i<H.blks.length:=by
 have one:∀(LL:List Nat) (i:Nat),afy H.blks s LL=some i->i<H.blks.length:=by
  intro LL;induction LL with
  | nil=>intro i h;cases h
  | cons o r ih=>
   intro i h;unfold afy at h;split at h
   · cases h
   · rename_i j hj;split at h
     · injection h with h;subst h;exact(afm hj).1
     · exact ih i h
 have go:∀(k c i:Nat),H.findC s k c=some i->i<H.blks.length:=by
  intro k;induction k with
  | zero=>intro c i h;cases h
  | succ k ih=>
   intro c i h;unfold Hp.findC at h;split at h
   · rename_i j hj;injection h with h;subst h;exact one _ _ hj
   · exact ih _ _ h
 intro i h;exact go _ _ _ h
section
variable {H:Hp} {i s N:Nat}
theorem Hp.Ok.giveB (h:H.Ok):(H.giveB i).Ok:=by
 unfold Hp.giveB;split
 · rename_i hn;have hlt:i+1<H.blks.length:=by
    unfold acC at hn;rw[Bool.and_eq_true,decide_eq_true_eq]at hn;exact hn.1
   exact Hp.Ok.join (Hp.Ok.out h) hlt
 · exact h
theorem Hp.Ok.giveC (h:H.Ok) (hi:i<H.blks.length):(H.giveC i).Ok:=by
 unfold Hp.giveC;split
 · rename_i hn;have hlt:i-1+1<H.blks.length:=by
    unfold ah6 at hn;rw[Bool.and_eq_true,decide_eq_true_eq]at hn;have:=hn.1;omega
   exact Hp.Ok.in_ (Hp.Ok.join (Hp.Ok.out h) hlt)
 · exact Hp.Ok.in_ h
theorem amb (hi:i<H.blks.length):i<(H.giveB i).blks.length:=by
 unfold Hp.giveB;split
 · rename_i hn;have hlt:i+1<H.blks.length:=by
    unfold acC at hn;rw[Bool.and_eq_true,decide_eq_true_eq]at hn;exact hn.1
   exact(ah9 (H.out (i+1)) (i:=i) hlt).1
 · exact hi
theorem Hp.Ok.give (h:H.Ok) (hi:i<H.blks.length):(H.give i).Ok:=by
 have h1:((H.use i false).wipe i).Ok:=(h.use hi false).wipe;have l1:i<((H.use i false).wipe i).blks.length:=by
  show i<(H.blks.set i _).length;rw[List.length_set];exact hi
 exact(h1.giveB).giveC (amb l1)
theorem Hp.Ok.cutA (h:H.Ok) (hi:i<H.blks.length) (hs:aaD (s:Int)=true):(H.cut i s).Ok:=by
 unfold Hp.cut;split
 · exact h.use hi true
 · rename_i hge;exact(h.cut hi hs (by omega)).give (by rw[akA H hi];omega)
theorem Hp.Ok.last (h:H.Ok){k:Nat}(hk:H.blks.length=k+1) (u:Bool) (hs:aaD (s:Int)=true) (hle:(aam H.blks k).off+s<=16384):(((H.size k s).use k u)).Ok/\(H.size k s).Ok:=by
 obtain⟨a,b,c⟩:=h.at_ (i:=k) (by omega);have hd:H.blks.drop (k+1)= []:=List.drop_of_length_le (by omega);have go:∀y:Bk,y.off=(aam H.blks k).off->y.size=s->abr 184 (H.blks.set k y) ((aam H.blks k).off+s):=fun y ho hsz=>by
  rw[aoi y (aar (i:=k) (by omega)),hd];exact ah8 (by rw[ho];exact a) (by rw[hsz];exact hs) (by rw[ho,hsz];rfl)
 have e1:((H.size k s).use k u).blks=H.blks.set k {aam H.blks k with size:=s,used:=u}:=by
  show(H.blks.set k _).set k _=_;rw[List.set_set];congr 1;show {aam (H.blks.set k {aam H.blks k with size:=s}) k with used:=u}=_;rw[acu _ _ _ _ (by omega),if_pos rfl]
 have t1:=go {aam H.blks k with size:=s,used:=u} rfl rfl;have t2:=go {aam H.blks k with size:=s} rfl rfl;refine⟨⟨?_,?_,?_⟩,?_,?_,?_⟩
 · rw[e1,ace t1];exact t1
 · rw[e1,ace t1];exact hle
 · show H.ds.length=((H.size k s).use k u).blks.length;rw[e1,List.length_set];exact h.dl
 · show abr 184 (H.blks.set k _) (lenB (H.blks.set k _));rw[ace t2];exact t2
 · show lenB (H.blks.set k _)<=_;rw[ace t2];exact hle
 · show H.ds.length=(H.blks.set k _).length;rw[List.length_set];exact h.dl
theorem arn (h:H.Ok){k:Nat}(hk:H.blks.length=k+1):(aam H.blks k).off+(aam H.blks k).size=lenB H.blks:=by
 have h4:=(h.at_ (i:=k) (by omega)).2.2;rw[List.drop_of_length_le (by omega)]at h4;exact h4
theorem Hp.Ok.take (h:H.Ok) (hc:H.cap<=16384) (hs:aaD (s:Int)=true):(H.take s).2.Ok:=by
 unfold Hp.take;split
 · rename_i i hf;exact Hp.Ok.cutA (Hp.Ok.out h) (asU (H:=H) hf) hs
 · split
   · exact h
   · rename_i hr;split
     · rename_i htl;obtain⟨k,hk⟩:∃k,H.blks.length=0\/H.blks.length=k+1:=⟨H.blks.length-1,by omega⟩;rcases hk with hk | hk
       · unfold aci at htl;rw[if_pos hk]at htl;omega
       · have he:=arn h hk;have htf:aci H.blks=(aam H.blks k).size:=by
          unfold aci at htl ⊢;rw[if_neg (by omega),show H.blks.length-1=k by omega]at htl ⊢;split at htl
          · omega
          · rename_i hu;rw[if_neg hu]
         rw[show H.blks.length-1=k by omega];exact(Hp.Ok.last (Hp.Ok.out (i:=k) h) hk true hs (by show(aam H.blks k).off+s<=_;omega)).1
     · rename_i htl;have ht:abr 184 (H.blks++ [⟨lenB H.blks,s,true⟩]) (lenB H.blks+s):=ai4 _ _ _ _ h.tl rfl hs;have e:(H.put H.blks.length ⟨lenB H.blks,s,true⟩).blks=H.blks++ [⟨lenB H.blks,s,true⟩]:=by
        show H.blks.take _++_::H.blks.drop _=_;rw[List.take_length,List.drop_length]
       refine⟨?_,?_,?_⟩
       · rw[e,ace ht];exact ht
       · rw[e,ace ht];omega
       · rw[e];show(H.ds.take _++aco::H.ds.drop _).length=_;have:=h.dl;simp only[List.length_append,List.length_take,List.length_drop,List.length_cons,List.length_nil];omega
end
def Hp.swallow (H:Hp) (i:Nat):Hp:=if acC H.blks i=true then (H.out (i+1)).drop (i+1) else H
def agV (l:List Bk) (i:Nat):Nat:=(aam l i).size+(if acC l i=true then (aam l (i+1)).size else 0)
def Hp.widen (H:Hp) (i:Nat):Hp:=(H.swallow i).size i (agV H.blks i)
def Hp.copyD (H:Hp) (p o:Nat):Hp:={H with ds:=H.ds.set p (H.ds.getD o aco)}
def Hp.moveD (H:Hp) (p o:Int):Hp:=match atB p H.blks,atB o H.blks with
 | some ip,some io=>H.copyD ip io
 | _,_=>H
def afq (H:Hp) (i s:Nat):Bool:=decide ((aam H.blks i).off+agV H.blks i=lenB H.blks)&&decide (lenB H.blks+s-agV H.blks i<=H.cap)
def Hp.resize (H:Hp) (o:Int) (s:Nat):(Nat × Int) × Hp:=match aaY H.blks o with
 | none=>((0,3),H)
 | some i=>if s<=(aam H.blks i).size then (((aam H.blks i).off,0),H.cut i s)
  else if s<=agV H.blks i then (((aam H.blks i).off,0),(H.widen i).cut i s)
  else if afq H i s=true then (((aam H.blks i).off,0),(H.widen i).size i s)
  else match (H.take s).1 with
   | none=>((0,5),H)
   | some p=>((p,0),(((H.take s).2.moveD (p:Int) o).giveO o).getD ((H.take s).2.moveD (p:Int) o))
section
variable {H:Hp} {i s N:Nat}
theorem ags (h:acC H.blks i=true):H.swallow i=(H.out (i+1)).drop (i+1):=by unfold Hp.swallow;rw[if_pos h]
theorem ahv (h:acC H.blks i=false):H.swallow i=H:=by unfold Hp.swallow;rw[h,if_neg (by decide)]
theorem air (h:acC H.blks i=true):agV H.blks i=(aam H.blks i).size+(aam H.blks (i+1)).size:=by unfold agV;rw[if_pos h]
theorem akZ (h:acC H.blks i=false):agV H.blks i=(aam H.blks i).size:=by unfold agV;rw[h,if_neg (by decide)];rfl
theorem afd (h:acC H.blks i=true):i+1<H.blks.length:=by
 unfold acC at h;rw[Bool.and_eq_true,decide_eq_true_eq]at h;exact h.1
theorem afe (h:acC H.blks i=true):(H.widen i).blks=((H.out (i+1)).join i).blks/\(H.widen i).ds=((H.out (i+1)).join i).ds:=by
 have hlt:=afd h;have hb:aam ((H.out (i+1)).drop (i+1)).blks i=aam H.blks i:=by
  show aam (H.blks.take (i+1)++H.blks.drop (i+1+1)) i=_;unfold aam;rw[List.getD_eq_getElem?_getD,List.getElem?_append_left (by rw[List.length_take];omega),List.getElem?_take_of_lt (by omega),<-List.getD_eq_getElem?_getD]
 unfold Hp.widen;rw[ags h,air h];refine⟨?_,rfl⟩;rw[acD (H.out (i+1)) hlt];show(H.blks.take (i+1)++H.blks.drop (i+1+1)).set i {aam ((H.out (i+1)).drop (i+1)).blks i with size:=_}=_;rw[hb,List.set_append_left _ _ (by rw[List.length_take];omega)];rw[List.take_add_one,List.getElem?_eq_getElem (by omega)];rw[Option.toList_some,List.set_append_right _ _ (by rw[List.length_take];omega),List.length_take,show i-min i H.blks.length=0 by omega];simp;rfl
theorem aff (h:acC H.blks i=false) (hi:i<H.blks.length):(H.widen i).blks=H.blks/\(H.widen i).ds=H.ds:=by
 unfold Hp.widen;rw[ahv h,akZ h];refine⟨?_,rfl⟩;show H.blks.set i {aam H.blks i with size:=(aam H.blks i).size}=H.blks;have e:({aam H.blks i with size:=(aam H.blks i).size}:Bk)=aam H.blks i:=rfl;rw[e];have hg:=aar hi;rw[List.getElem?_eq_getElem hi]at hg;injection hg with hg;rw[<-hg];exact List.set_getElem_self hi
theorem Hp.Ok.widen (h:H.Ok) (hi:i<H.blks.length):(H.widen i).Ok/\i<(H.widen i).blks.length/\aam (H.widen i).blks i={aam H.blks i with size:=agV H.blks i}:=by
 cases hn:acC H.blks i with
 | true=>
  obtain⟨e1,e2⟩:=afe hn;have hj:=Hp.Ok.join (Hp.Ok.out (i:=i+1) h) (afd hn);have ha:=ah9 (H.out (i+1)) (i:=i) (afd hn);refine⟨⟨by rw[e1];exact hj.tl,by rw[e1];exact hj.le,by rw[e1,e2];exact hj.dl⟩,by rw[e1];exact ha.1,?_⟩;rw[e1,ha.2.1,air hn];rfl
 | false=>
  obtain⟨e1,e2⟩:=aff hn hi;refine⟨⟨by rw[e1];exact h.tl,by rw[e1];exact h.le,by rw[e1,e2];exact h.dl⟩,by rw[e1];exact hi,?_⟩;rw[e1,akZ hn]
theorem widen_cap:(H.widen i).cap=H.cap:=by unfold Hp.widen Hp.swallow;split<;>rfl
theorem Hp.Dl.swallow (h:H.Dl):(H.swallow i).Dl:=by
 unfold Hp.swallow;split
 · exact Hp.Dl.drop (Hp.Dl.out h)
 · exact h
theorem Hp.Dl.widen (h:H.Dl):(H.widen i).Dl:=Hp.Dl.size (Hp.Dl.swallow h)
theorem Hp.Dl.moveD{p o:Int}(h:H.Dl):(H.moveD p o).Dl:=by
 unfold Hp.moveD;split
 · show(H.ds.set _ _).length=_;rw[List.length_set];exact h
 · exact h
theorem moveD_cap{p o:Int}:(H.moveD p o).cap=H.cap:=by unfold Hp.moveD;split<;>rfl
theorem Hp.Dl.resize{o:Int}(h:H.Dl):(H.resize o s).2.Dl:=by
 unfold Hp.resize;split
 · exact h
 · split
   · exact h.cut
   · split
     · exact h.widen.cut
     · split
       · exact h.widen.size
       · split
         · exact h
         · rename_i p _
           cases hg:((H.take s).2.moveD (p:Int) o).giveO o with
           | none=>exact h.take.moveD
           | some H2=>exact h.take.moveD.giveO hg
theorem resize_cap{o:Int}:(H.resize o s).2.cap=H.cap:=by
 unfold Hp.resize;split
 · rfl
 · split
   · exact cut_cap
   · split
     · exact cut_cap.trans widen_cap
     · split
       · exact widen_cap
       · split
         · rfl
         · rename_i p _
           cases hg:((H.take s).2.moveD (p:Int) o).giveO o with
           | none=>exact moveD_cap.trans take_cap
           | some H2=>exact(aol hg).trans (moveD_cap.trans take_cap)
end
theorem ad7{l:List Bk}{k:Nat}{v x:Bk}(hx:x∈l) (hne:x≠aam l k):x∈l.set k v:=by
 obtain⟨j,hj⟩:=List.mem_iff_getElem?.1 hx;have hjk:k≠j:=fun e=>by
  subst e;exact hne (aa6 hj).symm
 exact List.mem_of_getElem? ((List.getElem?_set_ne hjk).trans hj)
section
variable {H:Hp} {i s:Nat} {x:Bk}
theorem amc (hi:i+1<H.blks.length) (h1:(aam H.blks i).used=false) (h2:(aam H.blks (i+1)).used=false) (hx:x∈H.blks) (hu:x.used=true):x∈(H.join i).blks:=by
 obtain⟨j,hj⟩:=List.mem_iff_getElem?.1 hx;have e1:j≠i:=fun e=>by subst e;rw[aa6 hj,hu]at h1;cases h1
 have e2:j≠i+1:=fun e=>by subst e;rw[aa6 hj,hu]at h2;cases h2
 rw[acD H hi];rcases Nat.lt_or_ge j i with h | h
 · exact List.mem_append_left _ (List.mem_of_getElem? ((List.getElem?_take_of_lt h).trans hj))
 · refine List.mem_append_right _ (List.mem_cons_of_mem _ ?_);refine List.mem_of_getElem? (i:=j-(i+2)) ?_;rw[List.getElem?_drop,show i+2+(j-(i+2))=j by omega];exact hj
theorem apo (h:acC H.blks i=true):(aam H.blks (i+1)).used=false:=by
 unfold acC at h;rw[Bool.and_eq_true]at h;simpa using h.2
theorem ajG (h:ah6 H.blks i=true):0<i/\(aam H.blks (i-1)).used=false:=by
 unfold ah6 at h;rw[Bool.and_eq_true,decide_eq_true_eq]at h;exact⟨h.1,by simpa using h.2⟩
theorem ais (hi:i<H.blks.length) (hx:x∈H.blks) (hu:x.used=true) (hne:x≠aam H.blks i):x∈(H.give i).blks:=by
 have m1:x∈((H.use i false).wipe i).blks:=ad7 (v:={aam H.blks i with used:=false}) hx hne;have f1:aam ((H.use i false).wipe i).blks i={aam H.blks i with used:=false}:=by
  show aam (H.blks.set i _) i=_;rw[acu _ _ _ _ hi,if_pos rfl]
 have l1:i<((H.use i false).wipe i).blks.length:=by show i<(H.blks.set i _).length;rw[List.length_set];exact hi
 unfold Hp.give;obtain⟨H1,hH1⟩:=nmE ((H.use i false).wipe i);rw[hH1]at m1 f1 l1 ⊢;have f1u:(aam H1.blks i).used=false:=by rw[f1]
 have m2:x∈(H1.giveB i).blks:=by
  unfold Hp.giveB;split
  · rename_i hn;exact amc (H:=H1.out (i+1)) (afd hn) f1u (apo hn) m1 hu
  · exact m1
 have l2:=amb (H:=H1) l1;have f2:(aam (H1.giveB i).blks i).used=false:=by
  unfold Hp.giveB;split
  · rename_i hn;rw[(ah9 (H1.out (i+1)) (i:=i) (afd hn)).2.1];exact f1u
  · exact f1u
 unfold Hp.giveC;split
 · rename_i hp;obtain⟨hp1,hp2⟩:=ajG hp;have e:i-1+1=i:=by omega
   exact amc (H:=(H1.giveB i).out (i-1)) (i:=i-1) (by show i-1+1<(H1.giveB i).blks.length;omega) hp2 (by rw[e];exact f2) m2 hu
 · exact m2
theorem asV (ht:abr 184 H.blks (lenB H.blks)) (hi:i<H.blks.length) (hs:aaD (s:Int)=true) (hx:x∈H.blks) (hu:x.used=true) (hne:x≠aam H.blks i):x∈(H.cut i s).blks:=by
 unfold Hp.cut;split
 · exact ad7 (v:={aam H.blks i with used:=true}) hx hne
 · rename_i hge;obtain⟨y,hy⟩:∃y:Bk,(⟨(aam H.blks i).off+s,(aam H.blks i).size-s,true⟩:Bk)=y:=⟨_,rfl⟩;rw[hy];have hb:=aeD (s:=s) H hi y;have hln:=akA (s:=s) H hi y;obtain⟨H2,hH2⟩:=nmE (((H.use i true).size i s).put (i+1) y);rw[hH2]at hb hln ⊢;have hss:=(aac _).1 hs;have hx2:x∈H2.blks:=by
    rw[hb];obtain⟨j,hj⟩:=List.mem_iff_getElem?.1 hx;have e1:j≠i:=fun e=>by subst e;exact hne (aa6 hj).symm
    rcases Nat.lt_or_ge j i with h | h
    · exact List.mem_append_left _ (List.mem_of_getElem? ((List.getElem?_take_of_lt h).trans hj))
    · refine List.mem_append_right _ (List.mem_cons_of_mem _ (List.mem_cons_of_mem _ ?_));refine List.mem_of_getElem? (i:=j-(i+1)) ?_;rw[List.getElem?_drop,show i+1+(j-(i+1))=j by omega];exact hj
   have hat:aam H2.blks (i+1)=y:=aa6 (by
    rw[hb,List.getElem?_append_right (by rw[List.length_take];omega),List.length_take,show i+1-min i H.blks.length=1 by omega];rfl)
   refine ais (H:=H2) (by omega) hx2 hu (fun e=> ?_);rw[hat,<-hy]at e;have hxs:=(aac _).1 ((aak _ _ _ ht).2 x hx).2.2.1;have e2:x.off=(aam H.blks i).off+s:=by rw[e]
   rcases aaL _ _ _ ht x hx _ (List.mem_of_getElem? (aar hi))with h | h | h
   · exact hne h
   · omega
   · omega
theorem afQ (ht:abr 184 H.blks (lenB H.blks)) (hs:aaD (s:Int)=true) (hfr:∀i,H.find s=some i->i<H.blks.length/\(aam H.blks i).used=false) (hx:x∈H.blks) (hu:x.used=true):x∈(H.take s).2.blks:=by
 unfold Hp.take;split
 · rename_i i hf;obtain⟨h1,h2⟩:=hfr i hf;exact asV (H:=H.out i) ht h1 hs hx hu (fun e=>by
    have e:x=aam H.blks i:=e;rw[e,h2]at hu;cases hu)
 · split
   · exact hx
   · split
     · rename_i htl;have hn:0<H.blks.length:=List.length_pos_of_mem hx;have hu0:(aam H.blks (H.blks.length-1)).used=false:=by
        cases hu':(aam H.blks (H.blks.length-1)).used with
        | false=>rfl
        | true=>unfold aci at htl;rw[if_neg (by omega),if_pos hu']at htl;omega
       obtain⟨k,hk⟩:=nmE (H.blks.length-1);rw[hk]at hu0 ⊢;have hne:x≠aam H.blks k:=fun e=>by rw[e,hu0]at hu;cases hu
       have m1:x∈((H.out k).size k s).blks:=ad7 (v:={aam H.blks k with size:=s}) hx hne;refine ad7 (l:=((H.out k).size k s).blks) (k:=k) (v:={aam ((H.out k).size k s).blks k with used:=true}) m1 (fun e=> ?_);have e2:aam ((H.out k).size k s).blks k={aam H.blks k with size:=s}:=by
        show aam (H.blks.set k _) k=_;rw[acu _ _ _ _ (by omega),if_pos rfl];rfl
       rw[e2]at e;rw[e]at hu;have hu:(aam H.blks k).used=true:=hu;rw[hu0]at hu
       cases hu
     · show x∈H.blks.take _++_::H.blks.drop _;rw[List.take_length];exact List.mem_append_left _ hx
end
section
variable {bs:List UInt8} {H:Hp} {s:Nat}
theorem Rt.moves (h:Rt bs H) (hs:aaD (s:Int)=true){o:Int}:∀i q,aaY H.blks o=some i->(H.take s).1=some q->∃iq io,atB (q:Int) (H.take s).2.blks=some iq/\atB o (H.take s).2.blks=some io:=fun i q hu hq=>by
 have ht:abr 184 H.blks (Go.Proofs.YtncadccbepjekaaGreatDoor.lenB H.blks):=by rw[h.lenE];exact(aaj h.walk).2.1
 obtain⟨x,hx,hxo,_⟩:=h.what hs hq;obtain⟨iq,hiq⟩:=ae6 hx;have hib:i<H.blks.length/\((aam H.blks i).off:Int)=o/\(aam H.blks i).used=true:=by
  unfold aaY at hu;split at hu
  · cases hu
  · rename_i j hj;split at hu
    · rename_i hus;injection hu with hu;subst hu;exact⟨(afm hj).1,(afm hj).2,hus⟩
    · cases hu
 obtain⟨io,hio⟩:=ae6 (afQ ht hs (fun j hj=>by obtain⟨a,_,c⟩:=h.found hs hj;exact⟨a,c⟩) (List.mem_of_getElem? (aar hib.1)) hib.2.2);rw[hxo]at hiq;rw[hib.2.1]at hio;exact⟨iq,io,hiq,hio⟩
end
def ahw (bs bs':List UInt8) (x:Bk):Prop:=bs'.length=bs.length/\∀q,(q<x.off+8\/x.off+x.size<=q+8)->bs'[q]?=bs[q]?
theorem ahx{bs bs':List UInt8}{c:Nat}:∀(k last p:Nat) (l:List Nat),aes bs c k last p=some l->(∀o∈l,aao bs' o (c:Int)=true/\aaf bs' (o+16)=aaf bs (o+16)/\aaf bs' (o+8)=aaf bs (o+8))->aes bs' c k last p=some l
 | 0,last,p,l,h,_=>by
  unfold aes at h ⊢;split at h
  · rename_i hp;rw[if_pos hp];exact h
  · cases h
 | k+1,last,p,l,h,hm=>by
  unfold aes at h ⊢;by_cases hp:p=0
  · rw[if_pos hp]at h ⊢;exact h
  · rw[if_neg hp]at h ⊢;dsimp only at h ⊢;by_cases hc:aao bs p (c:Int)=true/\aaf bs (p+16)=last
    · rw[if_pos hc]at h
      cases hr:aes bs c k p (aaf bs (p+8))with
      | none=>rw[hr]at h;cases h
      | some l'=>
       rw[hr]at h;injection h with h;subst h;obtain⟨m1,m2,m3⟩:=hm p (by simp);rw[if_pos ⟨m1,m2.trans hc.2⟩,m3,ahx k p _ l' hr (fun o ho=>hm o (by simp[ho]))];rfl
    · rw[if_neg hc]at h;cases h
theorem ahy{bs bs':List UInt8}{l:List Bk}(h:∀c,c<22->afk bs' c=afk bs c):∀(k c:Nat) (fr:Int),c+k=22->afF bs' l k c fr=afF bs l k c fr
 | 0,c,fr,_=>rfl
 | k+1,c,fr,hck=>by
  unfold afF;rw[h c (by omega)];split
  · rfl
  · rw[ahy h k (c+1) _ (by omega)]
section
variable {bs bs':List UInt8} {H:Hp} {x:Bk}
theorem Rt.fill (h:Rt bs H) (hx:x∈H.blks) (hu:x.used=true) (ha:ahw bs bs' x):Rt bs' H:=by
 obtain⟨h184,ht,hg⟩:=aaj h.walk;obtain⟨hl,hq⟩:=ha;have hxm:=(aak _ _ _ ht).2 x hx;have hxs:=(aac _).1 hxm.2.2.1;have hw:∀p,(p+8<=x.off+8\/x.off+x.size<=p+8)->aaf bs' p=aaf bs p:=fun p hp=>aaJ bs bs' p fun i h1 h2=>hq i (by omega);have hget:∀y∈H.blks,aa2 bs' (y.off:Int)=some y:=fun y hy=>by
  have hym:=(aac _).1 ((aak _ _ _ ht).2 y hy).2.2.1;refine abO bs bs' y hl (hg y hy) ?_ ?_
  · rcases aaL _ _ _ ht y hy x hx with rfl | h' | h'
    · exact hw _ (.inl (by omega))
    · exact hw _ (.inl (by omega))
    · exact hw _ (.inr (by omega))
  · rcases aaL _ _ _ ht y hy x hx with rfl | h' | h'
    · exact hw _ (.inr (by omega))
    · exact hw _ (.inl (by omega))
    · exact hw _ (.inr (by omega))
 have hwalk:abA bs'=some H.blks:=ac0 (by rw[hl];exact ht) hget;have hall:∀c,c<22->afk bs' c=some (H.lists c):=fun c hc=>by
  have h1:=h.all_ c hc;unfold afk at h1 ⊢;rw[hl,hw 0 (.inl (by omega)),hw (8+8*c) (.inl (by omega))];split at h1
  · cases h1
  · rename_i hn;rw[if_neg hn];split at h1
    · cases h1
    · rename_i hb;rw[if_neg hb];refine ahx _ _ _ _ h1 fun o ho=> ?_;obtain⟨y,hy,hyo,hyu,hyc⟩:=abt ((h.nfree.1 c hc).2 o ho);have hym:=(aac _).1 ((aak _ _ _ ht).2 y hy).2.2.1;have hye:=((aak _ _ _ ht).2 y hy).2.1;have hmm:=aeg (acE (h.all_ c hc) o ho);subst hyo;have hap:y.off+y.size<=x.off\/x.off+x.size<=y.off:=by
       rcases aaL _ _ _ ht y hy x hx with h' | h' | h'
       · rw[h',hu]at hyu;cases hyu
       · exact .inl h'
       · exact .inr h'
      refine⟨?_,?_,?_⟩
      · unfold aao;rw[hget y hy];simp only[Bool.and_eq_true,decide_eq_true_eq,beq_iff_eq,Bool.not_eq_true'];exact⟨hmm.1,hyu,hyc⟩
      · rcases hap with h' | h'
        · exact hw _ (.inl (by omega))
        · exact hw _ (.inr (by omega))
      · rcases hap with h' | h'
        · exact hw _ (.inl (by omega))
        · exact hw _ (.inr (by omega))
 refine⟨hwalk,hall,?_,by rw[hl];exact h.len⟩;have hk:=h.chk;unfold ab8 at hk ⊢;rw[h.walk]at hk;rw[hwalk];dsimp only at hk ⊢;have hn0:anQ bs' 0=anQ bs 0:=by
  unfold anQ word?;rw[hl];split
  · show(some (aaf bs' 0)).getD 0=(some (aaf bs 0)).getD 0;rw[hw 0 (.inl (by omega))]
  · rfl
 rw[hn0,ahy (fun c hc=>(hall c hc).trans (h.all_ c hc).symm) 22 0 _ rfl];exact hk
theorem adV (d:Nat) (cs:List UInt8) (h1:x.off+8<=d) (h2:d+cs.length+8<=x.off+x.size) (h3:x.off+x.size<=bs.length):ahw bs (lay bs d cs) x:=by
 have hle:d<=bs.length:=by omega
 refine⟨?_,fun q hq=> ?_⟩
 · unfold lay;simp only[List.length_append,List.length_take,List.length_drop];omega
 · unfold lay;rcases Nat.lt_or_ge q d with h | h
   · rw[List.getElem?_append_left (by rw[List.length_take];omega),List.getElem?_take_of_lt h]
   · have hq2:d+cs.length<=q:=by omega
     rw[List.getElem?_append_right (by rw[List.length_take];omega),List.length_take,List.getElem?_append_right (by omega),List.getElem?_drop];congr 1;omega
theorem ahz (bs:List UInt8) (d:Nat) (cs:List UInt8) (hd:d<=bs.length) (k:Nat) (hk:k<cs.length):(lay bs d cs)[d+k]?=cs[k]?:=by
 unfold lay;rw[List.getElem?_append_right (by rw[List.length_take];omega),List.length_take,List.getElem?_append_left (by omega),show d+k-min d bs.length=k by omega]
end
section
variable {bs:List UInt8} {H:Hp} {i s:Nat} {x:Bk}
theorem acL{l:List Bk}{o:Int}{i:Nat}(h:aaY l o=some i):i<l.length/\((aam l i).off:Int)=o/\(aam l i).used=true:=by
 unfold aaY at h;split at h
 · cases h
 · rename_i j hj;split at h
   · rename_i hu;injection h with h;subst h;exact⟨(afm hj).1,(afm hj).2,hu⟩
   · cases h
theorem acB{p o:Int}:(H.moveD p o).blks=H.blks:=by unfold Hp.moveD;split<;>rfl
theorem app{o:Int}(hx:x∈H.blks) (hu:x.used=true) (hne:(x.off:Int)≠o):x∈((H.giveO o).getD H).blks:=by
 unfold Hp.giveO
 cases h:aaY H.blks o with
 | none=>exact hx
 | some j=>
  obtain⟨h1,h2,_⟩:=acL h;exact ais h1 hx hu (fun e=>hne (by rw[e];exact h2))
theorem Rt.rezHas (h:Rt bs H) (hok:H.Ok) (hs:aaD (s:Int)=true){o:Int}(he:(H.resize o s).1.2=0):∃y∈(H.resize o s).2.blks,y.used=true/\y.off=(H.resize o s).1.1/\s<=y.size:=by
 unfold Hp.resize at he ⊢;split
 · rename_i hn;rw[hn]at he
   cases he
 · rename_i i hi;obtain⟨h1,h2,h3⟩:=acL hi;rw[hi]at he;dsimp only at he ⊢;split
   · rename_i hle;obtain⟨y,a,b,c,d,_⟩:=akY h1 hle;exact⟨y,a,c,b,d⟩
   · rename_i hlt;rw[if_neg hlt]at he;have hw:=hok.widen h1;split
     · rename_i hb;obtain⟨y,a,b,c,d,_⟩:=akY (H:=H.widen i) (s:=s) hw.2.1 (by rw[hw.2.2];exact hb);rw[hw.2.2]at b;exact⟨y,a,c,b,d⟩
     · rename_i hb;rw[if_neg hb]at he;split
       · have hat:((H.widen i).size i s).blks[i]?=some {aam (H.widen i).blks i with size:=s}:=List.getElem?_set_self hw.2.1;rw[hw.2.2]at hat;exact⟨_,List.mem_of_getElem? hat,h3,rfl,Nat.le_refl _⟩
       · rename_i hg;rw[if_neg hg]at he;split
         · rename_i hn;rw[hn]at he
           cases he
         · rename_i q hq;obtain⟨y,a,b,c,d,_,ap⟩:=h.what hs hq;refine⟨y,?_,c,b,d⟩;refine app (H:=(H.take s).2.moveD (q:Int) o) (by rw[acB];exact a) c (fun e=> ?_);have hap:=ap _ (List.mem_of_getElem? (aar h1)) h3;have hsz:=(aac _).1 (hok.sz h1);have hss:=(aac _).1 hs;omega
end
def Hp.handleB (H:Hp) (q:Nat):Option Nat:=if q<8\/20000<q then none else aaY H.blks ((q:Int)-8)
def agW (d:List UInt8) (n:Nat) (x:UInt8):List UInt8:=d.take n++List.replicate (n-d.length) x
theorem apq (d:List UInt8) (n:Nat) (x:UInt8):(agW d n x).length=n:=by
 unfold agW;rw[List.length_append,List.length_take,List.length_replicate];omega
theorem amd (d:List UInt8) (n:Nat) (x:UInt8) (k:Nat) (hk:k<n):(agW d n x)[k]?=some (d.getD k x):=by
 unfold agW;rcases Nat.lt_or_ge k d.length with h | h
 · rw[List.getElem?_append_left (by rw[List.length_take];omega),List.getElem?_take_of_lt hk,List.getD_eq_getElem?_getD,List.getElem?_eq_getElem h];rfl
 · rw[List.getElem?_append_right (by rw[List.length_take];omega),List.getElem?_replicate,if_pos (by rw[List.length_take];omega),List.getD_eq_getElem?_getD,List.getElem?_eq_none h];rfl
def Hp.dset (H:Hp) (i:Nat) (d:Dt):Hp:={H with ds:=H.ds.set i d}
def Hp.fill (H:Hp) (i:Nat) (x:UInt8):Hp:=H.dset i (.slice none 0 0,agW (H.ds.getD i aco).2 ((aam H.blks i).size-16) x)
theorem acM{n s:Nat}(h:abW n=some s):aaD (s:Int)=true:=by
 unfold abW at h;split at h
 · injection h with h;exact(aac _).2 (by omega)
 · cases h
def Hp.get (H:Hp) (n:Nat) (x:UInt8):(Nat × Int) × Hp:=match abW n with
 | none=>((0,5),H)
 | some s=>match (H.take s).1 with
  | none=>((0,5),H)
  | some o=>((o+8,0),match atB (o:Int) (H.take s).2.blks with
   | none=>(H.take s).2
   | some i=>((H.take s).2.wipe i).fill i x)
def Hp.calloc (H:Hp) (n m:Nat):(Nat × Int) × Hp:=if 18446744073709551615<n*m then ((0,5),H) else H.get (n*m) 0
def Hp.realloc (H:Hp) (q n:Nat):(Nat × Int) × Hp:=match H.handleB q with
 | none=>((0,4),H)
 | some _=>match abW n with
  | none=>((0,5),H)
  | some s=>if (H.resize ((q:Int)-8) s).1.2=0 then (((H.resize ((q:Int)-8) s).1.1+8,0),match atB ((H.resize ((q:Int)-8) s).1.1:Int) (H.resize ((q:Int)-8) s).2.blks with
   | none=>(H.resize ((q:Int)-8) s).2
   | some i=>(H.resize ((q:Int)-8) s).2.fill i 165)
   else ((0,(H.resize ((q:Int)-8) s).1.2),(H.resize ((q:Int)-8) s).2)
theorem aep{H:Hp}{q i:Nat}(h:H.handleB q=some i):8<=q/\q<=20000/\aaY H.blks ((q:Int)-8)=some i:=by
 unfold Hp.handleB at h;split at h
 · cases h
 · exact⟨by omega,by omega,h⟩
theorem agt (H:Hp) (o:Int) (s:Nat) (h:(H.resize o s).1.2≠0):(H.resize o s).1.1=0/\(H.resize o s).2=H/\((H.resize o s).1.2=3\/(H.resize o s).1.2=5):=by
 unfold Hp.resize at h ⊢;split
 · exact⟨rfl,rfl, .inl rfl⟩
 · rename_i i hi;rw[hi]at h;dsimp only at h ⊢;split
   · rename_i h1;rw[if_pos h1]at h;exact absurd rfl h
   · rename_i h1;rw[if_neg h1]at h;split
     · rename_i h2;rw[if_pos h2]at h;exact absurd rfl h
     · rename_i h2;rw[if_neg h2]at h;split
       · rename_i h3;rw[if_pos h3]at h;exact absurd rfl h
       · rename_i h3;rw[if_neg h3]at h;split
         · exact⟨rfl,rfl, .inr rfl⟩
         · rename_i p hp;rw[hp]at h;exact absurd rfl h
theorem at1{α:Type}(l:List α) (i j:Nat):(l.take i++l.drop (i+1))[j]?=if j<i then l[j]? else l[j+1]?:=by
 rcases Nat.lt_or_ge j i with h | h
 · rw[if_pos h];rcases Nat.lt_or_ge j l.length with h2 | h2
   · rw[List.getElem?_append_left (by rw[List.length_take];omega),List.getElem?_take_of_lt h]
   · rw[List.getElem?_append_right (by rw[List.length_take];omega),List.getElem?_drop,List.getElem?_eq_none (by omega),List.getElem?_eq_none (by omega)]
 · rw[if_neg (by omega)];rw[List.getElem?_append_right (by rw[List.length_take];omega),List.length_take,List.getElem?_drop];rcases Nat.lt_or_ge l.length i with h2 | h2
   · rw[List.getElem?_eq_none (by omega),List.getElem?_eq_none (by omega)]
   · congr 1;omega
theorem asa{α:Type}(l:List α) (i j:Nat) (y:α) (hi:i<=l.length):(l.take i++y::l.drop i)[j]?=if j<i then l[j]? else if j=i then some y else l[j-1]?:=by
 rcases Nat.lt_or_ge j i with h | h
 · rw[if_pos h,List.getElem?_append_left (by rw[List.length_take];omega),List.getElem?_take_of_lt h]
 · rw[if_neg (by omega),List.getElem?_append_right (by rw[List.length_take];omega),List.length_take];by_cases e:j=i
   · rw[if_pos e,show j-min i l.length=0 by omega];rfl
   · rw[if_neg e,show j-min i l.length=(j-1-i)+1 by omega,List.getElem?_cons_succ,List.getElem?_drop];congr 1;omega
def Hp.At (H:Hp) (j:Nat) (x:Bk) (d:Dt):Prop:=H.blks[j]?=some x/\H.ds[j]?=some d
section
variable {H:Hp} {i j k s:Nat} {x:Bk} {d:Dt}
theorem apr (h:(H.drop k).At j x d):∃j',j'≠k/\H.At j' x d/\(j<k->j'=j)/\(k<=j->j'=j+1):=by
 obtain⟨h1,h2⟩:=h;have h1:(H.blks.take k++H.blks.drop (k+1))[j]?=some x:=h1;have h2:(H.ds.take k++H.ds.drop (k+1))[j]?=some d:=h2;rw[at1]at h1 h2;split at h1
 · rename_i hj;rw[if_pos hj]at h2;exact⟨j,by omega,⟨h1,h2⟩,fun _=>rfl,fun h=>by omega⟩
 · rename_i hj;rw[if_neg hj]at h2;exact⟨j+1,by omega,⟨h1,h2⟩,fun h=>by omega,fun _=>rfl⟩
theorem asb{y:Bk}{l:List Bk}(h1:(l.set i y)[j]?=some x):(j=i/\x=y/\i<l.length)\/(j≠i/\l[j]?=some x):=by
 rw[List.getElem?_set]at h1;split at h1
 · rename_i e;split at h1
   · rename_i hi;injection h1 with h1;exact .inl ⟨e.symm,h1.symm,hi⟩
   · cases h1
 · rename_i e;exact .inr ⟨fun e'=>e e'.symm,h1⟩
theorem agu (h:(H.size i s).At j x d):∃x0,H.At j x0 d/\x0.off=x.off/\x0.used=x.used/\(j≠i->x0=x):=by
 obtain⟨h1,h2⟩:=h;rcases asb h1 with⟨rfl,rfl,hi⟩ | ⟨hj,h1⟩
 · exact⟨aam H.blks j,⟨aar hi,h2⟩,rfl,rfl,fun e=>absurd rfl e⟩
 · exact⟨x,⟨h1,h2⟩,rfl,rfl,fun _=>rfl⟩
theorem ame{u:Bool}(h:(H.use i u).At j x d):(j=i/\x={aam H.blks i with used:=u}/\i<H.blks.length/\H.ds[i]?=some d)\/(j≠i/\H.At j x d):=by
 obtain⟨h1,h2⟩:=h;rcases asb h1 with⟨rfl,h3,h4⟩ | ⟨hj,h1⟩
 · exact .inl ⟨rfl,h3,h4,h2⟩
 · exact .inr ⟨hj,h1,h2⟩
theorem aps (h:(H.wipe i).At j x d) (hj:j≠i):H.At j x d:=by
 obtain⟨h1,h2⟩:=h;have h2:(H.ds.set i aco)[j]?=some d:=h2;rw[List.getElem?_set_ne (fun e=>hj e.symm)]at h2;exact⟨h1,h2⟩
theorem apt (h:(H.join i).At j x d):(∃x0,H.At i x0 d/\x0.off=x.off/\x0.used=x.used)\/∃j',j'≠i/\j'≠i+1/\H.At j' x d:=by
 unfold Hp.join at h;obtain⟨j',hj,h,_⟩:=apr h;obtain⟨x0,h1,h2,h3,h4⟩:=agu h;by_cases e:j'=i
 · subst e;exact .inl ⟨x0,h1,h2,h3⟩
 · rw[h4 e]at h1;exact .inr ⟨j',e,hj,h1⟩
theorem ak0 (h:H.blks[j]?=some x) (hu:(aam H.blks j).used=false):x.used=false:=by rw[<-aa6 h];exact hu
theorem ait (hi:i<H.blks.length) (h:(H.give i).At j x d) (hu:x.used=true):∃j',j'≠i/\H.At j' x d:=by
 unfold Hp.give at h;have f0:aam ((H.use i false).wipe i).blks i={aam H.blks i with used:=false}:=by
  show aam (H.blks.set i _) i=_;rw[acu _ _ _ _ hi,if_pos rfl]
 have fin:∀j',((H.use i false).wipe i).At j' x d->∃j',j'≠i/\H.At j' x d:=fun j' hh=>by
  by_cases e:j'=i
  · subst e;have:=ak0 hh.1 (by rw[f0]);rw[hu]at this;cases this
  · have hw:=aps hh e;rcases ame hw with⟨e',_⟩ | ⟨_,hw⟩
    · exact absurd e' e
    · exact⟨j',e,hw⟩
 obtain⟨H1,hH1⟩:=nmE ((H.use i false).wipe i);have hi1:i<H1.blks.length:=by rw[<-hH1];show i<(H.blks.set i _).length;rw[List.length_set];exact hi
 rw[hH1]at h f0 fin;have f1:(aam H1.blks i).used=false:=by rw[f0]
 have mid:∀j',(H1.giveB i).At j' x d->∃j',j'≠i/\H.At j' x d:=fun j' hh=>by
  unfold Hp.giveB at hh;split at hh
  · rcases apt (H:=H1.out (i+1)) hh with⟨x0,h1,h2,h3⟩ | ⟨j2,_,_,h1⟩
    · have:x0.used=false:=ak0 (H:=H1) h1.1 f1;rw[h3,hu]at this;cases this
    · exact fin j2 ⟨h1.1,h1.2⟩
  · exact fin j' hh
 obtain⟨H2,hH2⟩:=nmE (H1.giveB i);rw[hH2]at h mid;unfold Hp.giveC at h;split at h
 · rename_i hp;have hp:=(ajG hp).2;rcases apt (H:=H2.out (i-1)) (i:=i-1) ⟨h.1,h.2⟩with⟨x0,h1,h2,h3⟩ | ⟨j2,_,_,h1⟩
   · have:x0.used=false:=ak0 (H:=H2) h1.1 hp;rw[h3,hu]at this;cases this
   · exact mid j2 ⟨h1.1,h1.2⟩
 · exact mid j ⟨h.1,h.2⟩
theorem apu (hd:H.Dl) (hi:i<H.blks.length) (h:(H.cut i s).At j x d) (hu:x.used=true):(∃x0,H.At i x0 d/\x0.off=x.off)\/∃j',j'≠i/\H.At j' x d:=by
 unfold Hp.cut at h;split at h
 · rcases ame h with⟨rfl,rfl,h3,h4⟩ | ⟨hj,h⟩
   · exact .inl ⟨aam H.blks j,⟨aar h3,h4⟩,rfl⟩
   · exact .inr ⟨j,hj,h⟩
 · have hlen:((H.use i true).size i s).blks.length=H.blks.length:=by
    show((H.blks.set i _).set i _).length=_;rw[List.length_set,List.length_set]
   have hlp:i+1<(((H.use i true).size i s).put (i+1) ⟨(aam H.blks i).off+s,(aam H.blks i).size-s,true⟩).blks.length:=by
    show i+1<(((H.use i true).size i s).blks.take (i+1)++_::((H.use i true).size i s).blks.drop (i+1)).length;simp only[List.length_append,List.length_take,List.length_cons,List.length_drop];omega
   obtain⟨j1,hj1,h1⟩:=ait hlp h hu;obtain⟨a,b⟩:=h1;have a:(((H.use i true).size i s).blks.take (i+1)++_::((H.use i true).size i s).blks.drop (i+1))[j1]?=some x:=a;have b:(H.ds.take (i+1)++aco::H.ds.drop (i+1))[j1]?=some d:=b;have hd:H.ds.length=H.blks.length:=hd;rw[asa _ _ _ _ (by omega)]at a b;have key:∀j2,((H.use i true).size i s).blks[j2]?=some x->H.ds[j2]?=some d->(∃x0,H.At i x0 d/\x0.off=x.off)\/∃j',j'≠i/\H.At j' x d:=fun j2 a b=>by
    obtain⟨x0,c1,c2,c3,c4⟩:=agu (H:=H.use i true) (i:=i) (s:=s) (j:=j2) ⟨a,b⟩;rcases ame c1 with⟨rfl,rfl,h3,h4⟩ | ⟨hj,c1⟩
    · exact .inl ⟨aam H.blks j2,⟨aar h3,h4⟩,c2⟩
    · rw[c4 hj]at c1;exact .inr ⟨j2,hj,c1⟩
   by_cases e:j1<i+1
   · rw[if_pos e]at a b;exact key j1 a b
   · rw[if_neg e,if_neg hj1]at a b;exact key _ a b
theorem aiu (hd:H.Dl) (hfr:∀i,H.find s=some i->i<H.blks.length/\(aam H.blks i).used=false) (h:(H.take s).2.At j x d) (hu:x.used=true):(H.take s).1=some x.off\/∃j',H.At j' x d:=by
 unfold Hp.take at h ⊢;split at h
 · rename_i i hf;rcases apu (H:=H.out i) hd (hfr i hf).1 h hu with⟨x0,h1,h2⟩ | ⟨j',_,h1⟩
   · left;rw[<-h2,aa6 (show H.blks[i]?=some x0 from h1.1)]
   · exact .inr ⟨j',h1.1,h1.2⟩
 · rename_i hf;split at h
   · exact .inr ⟨j,h⟩
   · rename_i hcp;rw[if_neg hcp];split at h
     · rename_i htl;rw[if_pos htl];rcases ame h with⟨rfl,rfl,h3,h4⟩ | ⟨hj,h⟩
       · left;have h3:H.blks.length-1<H.blks.length:=by
          have h3:H.blks.length-1<(H.blks.set _ _).length:=h3;rw[List.length_set]at h3;exact h3
         show some (aam H.blks (H.blks.length-1)).off=some (aam (H.blks.set (H.blks.length-1) {aam H.blks (H.blks.length-1)with size:=s}) (H.blks.length-1)).off;rw[acu _ _ _ _ h3,if_pos rfl]
       · obtain⟨x0,c1,c2,c3,c4⟩:=agu (H:=H.out (H.blks.length-1)) h;rw[c4 hj]at c1;exact .inr ⟨j,c1.1,c1.2⟩
     · rename_i htl;rw[if_neg htl];obtain⟨a,b⟩:=h;have a:(H.blks.take H.blks.length++_::H.blks.drop H.blks.length)[j]?=some x:=a;have b:(H.ds.take H.blks.length++aco::H.ds.drop H.blks.length)[j]?=some d:=b;have hd:H.ds.length=H.blks.length:=hd;rw[asa _ _ _ _ (by omega)]at a b;by_cases e:j<H.blks.length
       · rw[if_pos e]at a b;exact .inr ⟨j,a,b⟩
       · rw[if_neg e]at a b;by_cases e2:j=H.blks.length
         · rw[if_pos e2]at a;injection a with a;left;rw[<-a]
         · rw[if_neg e2]at a b;exact .inr ⟨_,a,b⟩
end
end Go.Proofs.YtncadccbepjekaaGreatDoor
