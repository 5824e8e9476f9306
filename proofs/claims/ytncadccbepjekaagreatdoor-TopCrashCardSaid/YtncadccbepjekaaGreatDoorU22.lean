/- Texts of mine, joined. -/
import Derived.Test.YtncadccbepjekaaGreatDoorU17
import Derived.Test.YtncadccbepjekaaGreatDoorU18
import Derived.Test.YtncadccbepjekaaGreatDoorU19
set_option maxRecDepth 100000
set_option maxHeartbeats 2000000
namespace Go.Proofs.YtncadccbepjekaaGreatDoor
open Go.RowKit Go.ChangeShapes Go.WideShapes Go.Deep
theorem alQ{α:Type}{p:Nat->α->Prop}:∀(n:Nat),(∀i,i<n->∃x,p i x)->∃l:List α,l.length=n/\∀i x,l[i]?=some x->p i x
 | 0,_=>⟨[],rfl,fun i x h=>by simp at h⟩
 | n+1,h=>by
  obtain⟨l,hl,hp⟩:=alQ n (fun i hi=>h i (by omega));obtain⟨x,hx⟩:=h n (by omega);refine⟨l++ [x],by simp[hl],fun i y hy=> ?_⟩;rcases Nat.lt_or_ge i l.length with h1 | h1
  · rw[List.getElem?_append_left h1]at hy;exact hp i y hy
  · rw[List.getElem?_append_right h1]at hy;have e:i-l.length=0:=by
     rcases Nat.eq_zero_or_pos (i-l.length)with h2 | h2
     · exact h2
     · rw[List.getElem?_eq_none (by simp;omega)]at hy;cases hy
    rw[e]at hy;obtain rfl:x=y:=by simpa using hy
    obtain rfl:i=n:=by omega
    exact hx
theorem ag7{w:World}{a:Addr}{v:Value}(h:w.cell? (a.add 0)=some v):∃b o,a=⟨b,o,none⟩/\b<w.heap.size/\∀j,a.add j=⟨b,o+j,none⟩:=by
 obtain⟨b,o,sp⟩:=a;obtain rfl:sp=none:=by simpa[Addr.add]using World.cell?_spot h
 have e:∀j,(⟨b,o,none⟩:Addr).add j=⟨b,o+j,none⟩:=fun j=>by unfold Addr.add;split<;>simp_all
 refine⟨b,o,rfl,?_,e⟩;rw[e]at h;exact aoR h
def Boo (w:World) (A:Option Addr) (kb:List Bool):Prop:=0<kb.length->∃b o,A=some ⟨b,o,none⟩/\b<w.heap.size/\∀j u,kb[j]?=some u->w.cell? ⟨b,o+j,none⟩=some (.bool u)
section
variable {H:Type} {enc:TypeId × Value->H} {w:World} {base:Nat} {held:Bool} {fuel:Nat} {A:Option Addr} {len cap:Nat} {x:DataW H × List MemPlace}
theorem ar8 (h:DataW.trod enc Tryz.prog w base (fun _=>true) held fuel 24 [.slice A len cap]=some x):∃kb:List Bool,kb.length=len/\Boo w A kb/\len<=maxLen:=by
 rcases open_bools Tryz.underlying24 Tryz.underlying4 (by kernel_rfl) h with⟨hcs,_⟩ | ⟨a,l,c,B,hcs,_,hl,hm,_,hc⟩
 · simp at hcs;obtain⟨rfl,rfl,rfl⟩:=hcs;exact⟨[],rfl,fun hn=>absurd hn (by simp),Nat.zero_le _⟩
 · simp at hcs;obtain⟨rfl,rfl,rfl⟩:=hcs;obtain⟨kb,hk,hp⟩:=alQ (p:=fun i b=>w.cell? (a.add i)=some (.bool b)) len (fun i hi=>⟨B i,hc i (by omega)⟩);refine⟨kb,hk,fun hn=> ?_,by omega⟩;obtain⟨b,o,rfl,hlt,e⟩:=ag7 (hc 0 (by omega));refine⟨b,o,rfl,hlt,fun j u hu=> ?_⟩;rw[<-e];exact hp j u hu
theorem ar9{fuel:Nat}{A:Option Addr}{len cap:Nat}{x:DataW H × List MemPlace}(h:DataW.trod enc Tryz.prog w base (fun _=>true) held fuel 37 [.slice A len cap]=some x):∃bs:List UInt8,Rd w w.heap.size A len bs/\len<=cap/\cap<=maxLen/\(A=none->cap=0):=by
 rcases open_ints Tryz.underlying37 Tryz.underlying5 (by kernel_rfl) h with⟨hcs,_⟩ | ⟨y,l,c,zs,hcs,_,hl,hm,hz,_,hcell,hwz⟩
 · simp at hcs;obtain⟨rfl,rfl,rfl⟩:=hcs;exact ajI (zs:= []) (.inl ⟨rfl,rfl,rfl,rfl⟩)
 · simp at hcs;obtain⟨rfl,rfl,rfl⟩:=hcs;exact ajI (zs:=zs) (.inr ⟨_,rfl,hl,hm,by simpa using hz,hcell,hwz⟩)
theorem atQ (h:DataW.trod enc Tryz.prog w base (fun _=>true) held fuel 23 [.slice A len cap]=some x):∃l:List Int,l.length=len/\IRd w w.heap.size A l/\(∀z∈l,-9223372036854775808<=z/\z<=9223372036854775807)/\len<=maxLen:=by
 rcases open_ints Tryz.underlying23 Tryz.underlying3 (by kernel_rfl) h with⟨hcs,_⟩ | ⟨y,l,c,zs,hcs,_,hl,hm,hz,_,hcell,hwz⟩
 · simp at hcs;obtain⟨rfl,rfl,rfl⟩:=hcs;exact⟨[],rfl,fun hn=>absurd hn (by simp),(fun z hz=>by cases hz),Nat.zero_le _⟩
 · simp at hcs;obtain⟨rfl,rfl,rfl⟩:=hcs;have hz:zs.length=cap:=by simpa using hz
   refine⟨zs.take len,by rw[List.length_take];omega,fun hn=> ?_,fun z hz'=> ?_,by omega⟩
   · rw[List.length_take]at hn;obtain⟨b,o,rfl,hlt,e⟩:=ag7 (hcell 0 (by omega));refine⟨b,o,rfl,hlt,fun j u hu=> ?_⟩;rw[List.getElem?_take]at hu;split at hu
     · have hc:=hcell j (by omega);rw[e,List.getD_eq_getElem?_getD,hu]at hc;exact hc
     · cases hu
   · have:=bounds_i64 (hwz z (List.mem_of_mem_take hz'));omega
end
open Go.RowKit
theorem aqf{g n s:Nat}(hg:g<18446744073709551616) (hn:n<18446744073709551616) (hs:s<4294967296):slG (abx g n s)=g/\slN (abx g n s)=n/\slS (abx g n s)=s:=by
 have hm:slMark.length=8:=rfl;have l8:∀v,(aaF 8 v).length=8:=fun v=>aag 8 v;have l4:∀v,(aaF 4 v).length=4:=fun v=>aag 4 v;have e:abx g n s=slMark++(aaF 8 g++(aaF 8 n++(aaF 4 s++(ahZ (abs g n s)++List.replicate 480 0)))):=by
  unfold abx;obtain⟨X,hX⟩:=nmE (ahZ (abs g n s));rw[hX];unfold abs;simp only[List.append_assoc]
 have d8:(abx g n s).drop 8=aaF 8 g++(aaF 8 n++(aaF 4 s++(ahZ (abs g n s)++List.replicate 480 0))):=by rw[e,<-hm,List.drop_left]
 have d16:(abx g n s).drop 16=aaF 8 n++(aaF 4 s++(ahZ (abs g n s)++List.replicate 480 0)):=by
  rw[show(16:Nat)=8+8 from rfl,<-List.drop_drop,d8];have:=List.drop_left (l₁:=aaF 8 g) (l₂:=aaF 8 n++(aaF 4 s++(ahZ (abs g n s)++List.replicate 480 0)));rw[l8]at this;exact this
 have d24:(abx g n s).drop 24=aaF 4 s++(ahZ (abs g n s)++List.replicate 480 0):=by
  rw[show(24:Nat)=16+8 from rfl,<-List.drop_drop,d16];have:=List.drop_left (l₁:=aaF 8 n) (l₂:=aaF 4 s++(ahZ (abs g n s)++List.replicate 480 0));rw[l8]at this;exact this
 have tk:∀(k:Nat) (x y:List UInt8),x.length=k->(x++y).take k=x:=fun k x y h=>by rw[<-h,List.take_left]
 refine⟨?_,?_,?_⟩
 · unfold slG;rw[d8,tk 8 _ _ (l8 g),acl,Nat.mod_eq_of_lt hg]
 · unfold slN;rw[d16,tk 8 _ _ (l8 n),acl,Nat.mod_eq_of_lt hn]
 · unfold slS;rw[d24,tk 4 _ _ (l4 s),acl,Nat.mod_eq_of_lt hs]
theorem aku{b:List UInt8}{i j:Nat}(hj:j+4<=b.length):decide (ahZ ((b.drop i).take (j-i))=(b.drop j).take 4)=aby b i j:=by
 have hl:((b.drop j).take 4).length=4:=by rw[List.length_take,List.length_drop];omega
 unfold aby ahZ;have h1:=acl 4 (abd 0 ((b.drop i).take (j-i)));rw[Nat.mod_eq_of_lt (by have:=aei 0 ((b.drop i).take (j-i));omega)]at h1;have h2:=agw ((b.drop j).take 4);rw[hl]at h2;by_cases h:aaF 4 (abd 0 ((b.drop i).take (j-i)))=(b.drop j).take 4
 · rw[decide_eq_true h,<-h,h1];exact(beq_self_eq_true _).symm
 · rw[decide_eq_false h];symm
   rw[beq_eq_false_iff_ne];intro e;rw[<-e,h2]at h;exact h rfl
theorem alR:avD:=by
 intro w g base cap c A bs x h hb hl hx;by_cases h0:bs.length<184
 · obtain rfl:none=x:=by rw[<-hx];unfold abG;rw[if_pos h0]
   have HL:=hE0 (abL h);clear hx;go_enter Tryz.func60,Tryz.ntmps60
   go_wp2_with fail
   with_reducible refine HL.out.mono ?_
   rintro e w2 ⟨rfl,rfl⟩;go_wp2
   go_ret2
   exact⟨none,0,rfl,World.ownsRow_nil _ _ _ _,Below.refl _ _⟩
 · have hx':ada bs (bs.length+1) 184=x:=by rw[<-hx];unfold abG;rw[if_neg h0]
   obtain⟨i0,hi,hz0,hz1,hz2⟩:=info_parts auB;have HX:=hE0 hx';have HAR:=hE0 h;have HBASE:=hE0 hb;have HL:=hE0 (abL h);obtain⟨B0,hB0⟩:=nmE w.heap.size;have HB0:=hE0 hB0;clear hx hx' h hB0 hb;go_enter Tryz.func60,Tryz.ntmps60
   go_wp2_with fail
   with_reducible refine HL.out.mono ?_
   rintro e w2 ⟨rfl,rfl⟩;go_wp2
   go_loopw [4,5] (fun q t wr=>∃(l:List Bk) (o k:Nat),t= .int .i64 (o:Int)/\184<=o/\o<=bs.length/\bs.length<o+k/\l.length*32<=o/\x=(ada bs k o).map (l++ ·)/\wr.ownsRow B0 112 3 q l.length (acV l)/\Below B0 w wr) (fun _ t _=>bs.length-(intOf t).toNat)
   case atStart=>exact⟨[],184,bs.length+1,rfl,Nat.le_refl _,by omega,by omega,by simp,by rw[HX.out];simp,World.ownsRow_nil _ _ _ _,Below.refl _ _⟩
   case round=>
    obtain⟨l,o,k,rfl,ho1,ho2,hk,hll,hxl,hown,hb⟩:=hrel;obtain⟨A7,c7,rfl⟩:=ahY hown;obtain⟨k,rfl⟩:∃k',k=k'+1:=⟨k-1,by omega⟩;have hBw:B0<=wr.heap.size:=by have:=hb.size;have:=HB0.out;omega
    have har:=HAR.out.below (by rw[HB0.out];exact hb);have HLR:=hE0 (abL har);by_cases hlt:o<bs.length
    · cases hg:aa6 bs (o:Int)with
      | none=>
       have hG:=alG wr g base cap c A bs (o:Int) _ har HBASE.out hl (by omega) hg;dsimp only[aaA,bkV,Option.isSome,aat]at hG;obtain rfl:x=none:=by rw[hxl];simp[ada,hlt,hg]
       have HG:=hE0 hG;have HB:=hE0 hb;clear hG hown hb hg hxl har HX HAR;go_wp2_with fail
       with_reducible refine HLR.out.mono ?_
       rintro e w2 ⟨rfl,rfl⟩;go_wp2_with fail
       with_reducible refine HG.out.mono ?_
       rintro e w2 ⟨rfl,hb2⟩;have HB2:=hE0 (HB.out.trans (hb2.mono hBw));clear hb2;go_wp2
       go_ret2
       exact⟨none,0,rfl,World.ownsRow_nil _ _ _ _,by rw[HB0.out];exact HB2.out.alloc (by have:=HB2.out.size;have:=HB0.out;omega) _⟩
      | some y=>
       obtain⟨yo,ys,yu⟩:=y;obtain⟨q1,_,_,q2,q3,_⟩:=aaw hg;dsimp only at q1 q2 q3;obtain rfl:o=yo:=by omega
       have q4:=(aab _).1 q3;have hG:=alG wr g base cap c A bs (o:Int) _ har HBASE.out hl (by omega) hg;dsimp only[aaA,bkV,Bk.val,Option.isSome,aat]at hG;have hxl':x=(ada bs k (o+ys)).map ((l++ [⟨o,ys,yu⟩])++ ·):=by
        rw[hxl];simp[ada,hlt,hg,Option.map_map,Function.comp_def]
       have HG:=hE0 hG;have HB:=hE0 hb;have HXL:=hE0 hxl';have HOWN:=hE0 hown;have HALT:Hid (∀k,(Value.slice A7 l.length c7).ownBlock=some k->B0<=k/\k<wr.heap.size):=hown.lt;clear hG hown hb hg hxl hxl' har q1 q3 HX HAR;go_wp2_with fail
       with_reducible refine HLR.out.mono ?_
       rintro e w2 ⟨rfl,rfl⟩;go_wp2_with fail
       with_reducible refine HG.out.mono ?_
       rintro e w2 ⟨rfl,hb2⟩;have own2:=aav HOWN.out hb2;have HB2:=hE0 (HB.out.trans (hb2.mono hBw));have hw2:B0<=w2.heap.size:=Nat.le_trans hBw hb2.size;have hwr:=hb2.size;obtain⟨w3,hw3⟩:=nmE (w2.alloc (.cells #[.int .i64 (o:Int), .int .i64 (ys:Int), .bool yu] 112));obtain⟨w4,hw4⟩:=nmE (w3.alloc (.cells #[.int .i64 (o:Int), .int .i64 (ys:Int), .bool yu] 112));have b3:=abE hw3;have b4:=abE hw4;have own4:=aav (aav own2 b3) b4;have n4:=anE hw4;have s3:w3.heap.size=w2.heap.size+1:=by rw[<-hw3];simp
       have n3:=anE hw3;obtain⟨⟨d0,d1,d2⟩,_⟩:=aad n3;have n4':=(b4.block _ (aac n3)).trans n3;have HNEW:Hid (∀j u,[Value.int .i64 (o:Int), .int .i64 (ys:Int), .bool yu][j]?=some u->w4.cell? ((⟨w3.heap.size,0,none⟩:Addr).add j)=some u):=fun j u hu=>by
        have e:(⟨w3.heap.size,0,none⟩:Addr).add j=⟨w3.heap.size,j,none⟩:=by unfold Addr.add;split<;>simp_all
        rw[e,cell_of_row w4 _ j _ _ (0,0) n4];simpa using hu
       have HONE:Hid (∀u∈ [Value.int .i64 (o:Int), .int .i64 (ys:Int), .bool yu],u.oneCell'=true):=fun u hu=>by
        simp at hu;rcases hu with rfl | rfl | rfl<;>rfl
       have hB4:B0<=w4.heap.size:=by have:=b4.size;omega
       have HB4:=hE0 (HB2.out.trans ((b3.trans (b4.mono b3.size)).mono hw2));have OWN4:=hE0 own4;have HN4:=hE0 n4';have hs4:w3.heap.size<w4.heap.size:=aac n4;have HS3:=hE0 s3;have HFL:Hid (acV (l++ [⟨o,ys,yu⟩])=acV l++ [.int .i64 (o:Int), .int .i64 (ys:Int), .bool yu]):=ajV _ _;have hg2:w2.heap.size<w4.heap.size:=aac n4';clear own2 own4 n3 n4 n4' b3 b4 hb2 HOWN HG s3;go_wp2_with (first
        | (at_builtin;go_must (refine wpList_append_own _ rfl _ _ 56 rfl B0 112 i0 _ 3 24 Tryz.underlying56 hi hz0 hz1 hz2 rfl (by decide) _ l.length (acV l) rfl OWN4.out ⟨w3.heap.size,0,none⟩ 1 1 [.int .i64 (o:Int), .int .i64 (ys:Int), .bool yu] rfl rfl HNEW.out HONE.out (by unfold maxLen;omega) (by omega) hB4 ?_);intro x5 w5 own5 gr5 at5
           have gr5':w4.grownBy w5 (Value.slice A7 l.length c7).ownBlock:=gr5;have e5:=(gr5'.block _ hg2 (fun e=>by have:=(HALT.out _ e.symm).2;omega)).trans HN4.out;obtain⟨⟨c0,c1,c2⟩,_⟩:=aad e5;have HB5:Hid (Below B0 w w5):=HB4.out.grown gr5' hB4 (fun k hk=>(HALT.out k hk).1);have OWN5:Hid (w5.ownsRow B0 112 3 x5 (l.length+1) (acV (l++ [⟨o,ys,yu⟩]))):=(show World.ownsRow _ _ _ _ _ _ _ by rw[HFL.out];exact own5);clear own5 gr5 gr5' at5 e5)
        | fail)
       go_roundw
       case rel=>exact⟨l++ [⟨o,ys,yu⟩],o+ys,k,by go_num,by omega,by omega,by omega,by rw[List.length_append,List.length_singleton];omega,HXL.out,by rw[List.length_append,List.length_singleton];exact OWN5.out,HB5.out⟩
       case measure=>simp[intOf];omega
    · obtain rfl:o=bs.length:=by omega
      obtain rfl:x=some l:=by rw[hxl];simp[ada]
      have HB:=hE0 hb;have HO:=hE0 hown;clear hxl hown hb HX har HAR;go_wp2_with fail
      with_reducible refine HLR.out.mono ?_
      rintro e w2 ⟨rfl,rfl⟩;go_wp2
      go_ret2
      exact⟨A7,c7,rfl,by rw[HB0.out];exact HO.out,by rw[HB0.out];exact HB.out⟩
def au1:Prop:=∀(w:World) (g base cap c:Nat) (A:Option Addr) (bs:List UInt8) (x:Bool),Ar w 195 g base cap A c bs->base<=4611686018427387904->bs.length<=16384->abY bs=x->
 Calls Tryz.prog 55 #[.pointer (some ⟨g,0,none⟩)] w fun e w'=>e= .returned (aat x 3)/\Below w.heap.size w w'
theorem aqg{l:List Bk}(h:af5 false l=true):af5 true l=true:=by
 cases l with
 | nil=>rfl
 | cons y r=>
  rw[aaK,Bool.false_or,Bool.and_eq_true]at h;rw[aaK,Bool.true_or,Bool.true_and];exact h.2
section
variable {bs:List UInt8} {H:Hp}
theorem ai8{A B1:List Bk}{n:Option Bk}{xo xs:Nat}(hb:H.blks=A++⟨xo,xs,true⟩::(n.toList++B1)) (hf:∀y,n=some y->y.used=false) (hu:n=none->∀y r,B1=y::r->y.used=true):
 (H.widen A.length).blks=A++⟨xo,xs+(n.map Bk.size).getD 0,true⟩::B1/\(H.widen A.length).lists=tkO H.lists n/\ahG H.blks A.length=xs+(n.map Bk.size).getD 0/\acJ H.blks A.length=n.isSome:=by
 have hbk:aam H.blks A.length=⟨xo,xs,true⟩:=by rw[hb,ad9]
 have hi:A.length<H.blks.length:=by rw[hb];simp
 cases n with
 | none=>
  have hn:acJ H.blks A.length=false:=by
   rw[hb,agU]
   cases B1 with
   | nil=>rfl
   | cons y r=>
    show(!y.used)=false;rw[hu rfl y r rfl];rfl
  have e:=alr hn;rw[hbk]at e;refine⟨?_,?_,e,by rw[hn];rfl⟩
  · rw[(afC hn hi).1,hb];rfl
  · unfold Hp.widen;rw[ah7 hn];rfl
 | some m=>
  have hm:=hf m rfl;have hn:acJ H.blks A.length=true:=by
   rw[hb,agU];show(!m.used)=true;rw[hm];rfl
  have e:=aiX hn;have hbk1:aam H.blks (A.length+1)=m:=by rw[hb];exact als A _ m B1
  rw[hbk,hbk1]at e;refine⟨?_,?_,e,by rw[hn];rfl⟩
  · rw[(afB hn).1];exact aiY (H:=H.out (A.length+1)) (y:=⟨xo,xs,true⟩) (z:=m) hb
  · have hb':H.blks=(A++ [⟨xo,xs,true⟩])++m::B1:=by rw[hb];simp
    have:=agT hb';rw[List.length_append,List.length_singleton]at this;unfold Hp.widen;rw[agO hn];exact this
theorem Rt.wide (h:Rt bs H) (hc:H.cap<=16384){A B1:List Bk}{n:Option Bk}{xo xs n0 t:Nat}(hb:H.blks=A++⟨xo,xs,true⟩::(n.toList++B1)) (hf:∀y,n=some y->y.used=false)
 (ht:t=xs+(n.map Bk.size).getD 0+n0) (hend:n0=0\/B1= []) (hs:aaB (t:Int)=true) (hcap:bs.length+n0<=H.cap):
 ∃b1,apU (bs++List.replicate n0 0) n=some b1/\aeo b1 (xo:Int) (t:Int) true=some (aaU b1 ⟨xo,t,true⟩)/\b1.length=bs.length+n0/\(aaU b1 ⟨xo,t,true⟩).length=bs.length+n0/\
  (∀H':Hp,H'.blks=A++⟨xo,t,true⟩::B1->H'.lists=tkO H.lists n->H'.cap=H.cap->Rt (aaU b1 ⟨xo,t,true⟩) H')/\
  (∀z∈H.blks,z.used=true->z.off≠xo->∀i,Pay z i->(aaU b1 ⟨xo,t,true⟩)[i]?=bs[i]?)/\∀i,Pay ⟨xo,xs,true⟩ i->(aaU b1 ⟨xo,t,true⟩)[i]?=bs[i]?:=by
 have hM:=h.md hc;have hF:=h.complete;have hadj:af5 true H.blks=true:=by rw[<-abf];exact h.nfree.2.1
 have htl:=hM.tl;rw[hb]at htl;obtain⟨t1,t2,t3,t4,t5,t6,tA,tB⟩:=agm htl;dsimp only at t1 t2 t3 t4 t5 t6 tA tB;rw[aaC]at t3;obtain⟨t7,t8⟩:=t3;have hl0:=hM.ls.len;have ss:=(aab _).1 hs;have sx:=(aab _).1 t2;have hnz:(n.map Bk.size).getD 0=abc n.toList:=by cases n<;>simp[abc]
 have hB1:=(aak _ _ _ t8).2;have hle8:=(aak _ _ _ t8).1;have hlm:(bs++List.replicate n0 (0:UInt8)).length=bs.length+n0:=by rw[List.length_append,List.length_replicate]
 have hnm:∀y,n=some y->y∈H.blks/\xo+xs<=y.off/\y.off+y.size<=xo+xs+abc n.toList:=fun y hy=>by
  rw[hy]at t7;obtain⟨a,_,_⟩:=t7;refine⟨by rw[hb,hy];simp,by omega,?_⟩;rw[hy];simp[abc];omega
 obtain⟨b1,e1,L1,l1,k1,w1⟩:=(hM.ls.more n0 (by omega)).takeO n (fun y hy=>by
  have hyP:=(hnm y hy).1;obtain⟨c1,c2⟩:=adi (hM.ls.st.facts hyP).2.2.2.2.2;exact⟨hyP,hF _ c2 _ (abe hyP (hf y hy) c1)⟩)
 obtain⟨y1,hy1⟩:∃y1:Bk,y1=⟨xo,t,true⟩:=⟨_,rfl⟩;have o1:y1.off=xo:=by rw[hy1]
 have z1:y1.size=t:=by rw[hy1]
 have u1:y1.used=true:=by rw[hy1]
 have hs1:aaB (y1.size:Int)=true:=by rw[z1];exact hs
 have hendl:xo+xs+abc n.toList<=bs.length/\(n0=0\/xo+xs+abc n.toList=bs.length):=by
  refine⟨hle8,hend.imp id fun e=> ?_⟩;rw[e]at t8;exact t8
 have hle:y1.off+y1.size<=b1.length:=by omega
 have s1:aeo b1 (y1.off:Int) (y1.size:Int) y1.used=some (aaU b1 y1):=aeL b1 y1 (by omega) (by omega) hle hs1;have l2:(aaU b1 y1).length=b1.length:=aa8 hs1 hle;rw[o1,z1,u1]at s1;rw[<-hy1];have inB:∀y∈B1,y1.off+y1.size<=y.off:=fun y hy=>by
  rcases hend with e | e
  · have:=(hB1 y hy).1;omega
  · rw[e]at hy;cases hy
 have hdA:∀y∈A++y1::B1,y=y1\/(y∈H.blks/\(y.off+y.size<=y1.off\/y1.off+y1.size<=y.off)):=fun y hy=>by
  rcases List.mem_append.1 hy with hy | hy
  · exact .inr ⟨by rw[hb];simp[hy], .inl (by have:=tA y hy;omega)⟩
  · rcases List.mem_cons.1 hy with rfl | hy
    · exact .inl rfl
    · exact .inr ⟨by rw[hb];simp[hy], .inr (inB y hy)⟩
 have L2:Lists (aaU b1 y1) (A++y1::B1) (tkO H.lists n):=by
  refine L1.set (by omega) (by omega) hle hs1 hdA fun c hc q hq=> ?_;rw[adF]at hq;obtain⟨y,hy,ey,hyu,hyc⟩:=hM.ls.mem c hc q hq.1;have hy':=hy;rw[hb]at hy;rcases List.mem_append.1 hy with hy | hy
  · exact⟨y,by simp[hy],hy',ey, .inl (by have:=tA y hy;omega)⟩
  · rcases List.mem_cons.1 hy with rfl | hy
    · cases hyu
    · rcases List.mem_append.1 hy with hy | hy
      · obtain⟨c1,_⟩:=adi (hM.ls.st.facts hy').2.2.2.2.2;exact absurd ey.symm (hq.2 y (by simpa using hy) (by omega))
      · exact⟨y,by simp[hy],hy',ey, .inr (inB y hy)⟩
 refine⟨b1,e1,s1,by omega,by omega,fun H' g1 g2 g3=> ?_,fun z hz hzu hzo i hi=> ?_,fun i hi=> ?_⟩
 · have hi:=hM.hi;have hi2:aaf (bs++List.replicate n0 (0:UInt8)) 0=aaf bs 0:=aca _ _ _ (by omega);have M:Md (aaU b1 y1) H':=by
    refine⟨?_,by rw[g1,g2];exact L2,?_,by rw[g3];omega⟩
    · rw[g1,aaC];have q0:xo=184+abc A:=ae1 _ _ _ t1;rw[<-q0];refine⟨t1,o1,hs1,?_⟩;rw[l2,l1,hlm,z1];rcases hend with e | e
      · rw[show xo+t=xo+xs+abc n.toList by omega,show bs.length+n0=bs.length by omega];exact t8
      · rw[e];show xo+t=bs.length+n0;have:=hendl.2;rw[e]at t8;have t8:xo+xs+abc n.toList=bs.length:=t8;omega
    · rw[aaS hs1 hle _ (by omega)];omega
   refine M.rt (fun c hc q hq=> ?_) ?_
   · rw[g1]at hq;rw[g2,adF];obtain⟨y,hy,ey,hyu,hyc⟩:=abC hq;rcases hdA y hy with rfl | ⟨hyP,hd⟩
     · rw[u1]at hyu;cases hyu
     · have:=hM.facts y hyP;refine⟨by rw[<-ey];exact hF c hc _ (abe hyP hyu hyc),fun z hz _=> ?_⟩;have:=hnm z hz;have:=hM.facts z (hnm z hz).1;omega
   · rw[g1,abf,abJ,aaK,u1];rw[hb,abJ,aaK]at hadj;simp only[Bool.and_eq_true,Bool.or_true]at hadj ⊢;refine⟨hadj.1,trivial,?_⟩;have h2:=hadj.2.2
     cases n with
     | none=>exact h2
     | some m=>
      have hm:=hf m rfl;have h2:af5 true (m::B1)=true:=h2;rw[aaK,hm,Bool.and_eq_true]at h2;exact aqg h2.2
 · have hd:z.off+z.size<=y1.off\/y1.off+y1.size<=z.off:=by
    rw[hb]at hz;rcases List.mem_append.1 hz with hz | hz
    · exact .inl (by have:=tA z hz;omega)
    · rcases List.mem_cons.1 hz with rfl | hz
      · exact absurd rfl hzo
      · rcases List.mem_append.1 hz with hz | hz
        · have:=hf z (by simpa using hz);rw[hzu]at this;cases this
        · exact .inr (inB z hz)
   have hzf:=hM.ls.st.facts hz;have k:=k1.pay hM.facts hM.ls.st.apart hz hzu hi;obtain⟨i1,i2⟩:=hi;rw[acB hs1 hle i (by omega),k,agl _ _ _ (by omega)]
 · have hxP:(⟨xo,xs,true⟩:Bk)∈H.blks:=by rw[hb];simp
   have k:=k1.pay hM.facts hM.ls.st.apart hxP rfl hi;obtain⟨i1,i2⟩:=hi;dsimp only at i1 i2;have hzf:=hM.ls.st.facts hxP;dsimp only at hzf;rw[acB hs1 hle i (by omega),k,agl _ _ _ (by omega)]
end
structure Al (wB W:World) (g base cap:Nat) (A:Option Addr) (c:Nat) (bs:List UInt8) (F:Nat->Prop) (p:Nat) (H:Hp):Prop where
 st:St wB W g base cap A c bs []
 hm:HM F W p H
 lo:∀k,F k->wB.heap.size<=k
 hi:∀k,F k->k<W.heap.size
 ap:∀k,F k->¬foot g A k
section
variable {wB W W':World} {g base cap c p:Nat} {A:Option Addr} {bs:List UInt8} {F:Nat->Prop} {H:Hp}
end
structure Dst where
 bs:List UInt8
 wt:List (Nat × List UInt8)
 left:Int
 off:Bool
def dwr (s:Dst) (p:Nat) (d:List UInt8):Nat × Dst:=if s.off=true\/s.left=0 then (6,{s with off:=true}) else (0,{s with wt:=s.wt++ [(p,d)],left:=ab1 s.left 1})
def dfl (s:Dst):Nat × Dst:=if s.off=true then (6,s) else (0,{s with bs:=abw s.bs s.wt,wt:= []})
def adS (s:Dst) (p:Nat) (b:List UInt8):Nat × Dst:=
 (if wk (need b.length) s.left s.off<need b.length then 6 else 0,{s with wt:=s.wt++aez p b (wk (need b.length) s.left s.off),left:=ab1 s.left (wk (need b.length) s.left s.off),off:=s.off || decide (wk (need b.length) s.left s.off<need b.length)})
section
variable {N:Nat} {S S':Nat->Prop} {w w1 w2:World} {g:Nat} {s:Dst}
end
structure Hq where
 p:Nat
 A:Option Addr
 c:Nat
 b:List UInt8
section
variable {B:Nat} {w w':World} {A:Option Addr} {c:Nat} {l:List Hq} {b:List UInt8}
end
end Go.Proofs.YtncadccbepjekaaGreatDoor
