/- Texts of mine, joined. -/
import Derived.Laws.BitsAllLaws
import Derived.Laws.ResultCell
import Derived.Test.YthnfclimjmmckaaGreatDoorChecked
import Derived.Deep.QuietTactic
import Derived.BigQuiet
import Derived.WalkSpells
import Derived.IntWalk
import Derived.Deep.Grids
import Derived.Deep.Fields
import Derived.Lib.SmallJoins
import Derived.Lib.Strings
import Derived.Lib.Slices
import Derived.Lib.Small
import Derived.Lib.Walk
import Derived.Lib.BitFns
import Derived.Outline
import Derived.Test.YthnfclimjmmckaaGreatDoorM1
set_option maxRecDepth 100000
set_option maxHeartbeats 4000000
namespace Go.Proofs.YthnfclimjmmckaaGreatDoor
open Go.RowKit
def anl (bs:List UInt8) (w:World) (e:Ending) (w':World):Prop:=
 ∃A' c',e= .returned (.tuple #[.slice A' bs.length c', .int .i64 0])/\w'.ownsRow w.heap.size 5 1 (.slice A' bs.length c') bs.length (bs.map bv)/\Below w.heap.size w w'
section
variable {w:World} {g base cap c:Nat} {A:Option Addr} {bs:List UInt8}
end
theorem arr (w:World) (base cap:Nat) (h1:base%16=0) (h2:base<=4611686018427387904) (h3:1024<=cap) (h4:cap<=16384):
 Calls Tryz.prog 73 #[.int .u64 (base:Int), .int .i64 (cap:Int)] w fun e w'=>e= .returned (.bool true)/\w=w':=by
 have s1:((base:Int)%16==0)=true:=by rw[beq_iff_eq];omega
 have s2:decide ((base:Int)<=4611686018427387904)=true:=decide_eq_true (by omega);have s3:decide ((1024:Int)<=(cap:Int))=true:=decide_eq_true (by omega);have s4:decide ((cap:Int)<=16384)=true:=decide_eq_true (by omega);go_enter Tryz.func73,Tryz.ntmps73
 go_wp2
 go_ret
 exact⟨rfl,rfl⟩
theorem asr (w:World) (base:Nat) (cap:Int) (h:base%16≠0\/4611686018427387904<base\/cap<1024\/16384<cap):
 Calls Tryz.prog 73 #[.int .u64 (base:Int), .int .i64 cap] w fun e w'=>e= .returned (.bool false)/\w=w':=by
 by_cases h1:base%16=0
 · have s1:((base:Int)%16==0)=true:=by rw[beq_iff_eq];omega
   by_cases h2:4611686018427387904<base
   · have s2:decide ((base:Int)<=4611686018427387904)=false:=decide_eq_false (by omega);clear h h1;go_enter Tryz.func73,Tryz.ntmps73
     go_wp2
     go_ret
     exact⟨rfl,rfl⟩
   · have s2:decide ((base:Int)<=4611686018427387904)=true:=decide_eq_true (by omega);by_cases h3:cap<1024
     · have s3:decide ((1024:Int)<=cap)=false:=decide_eq_false (by omega);clear h h1;go_enter Tryz.func73,Tryz.ntmps73
       go_wp2
       go_ret
       exact⟨rfl,rfl⟩
     · have s3:decide ((1024:Int)<=cap)=true:=decide_eq_true (by omega);have s4:decide (cap<=16384)=false:=decide_eq_false (by omega);clear h h1;go_enter Tryz.func73,Tryz.ntmps73
       go_wp2
       go_ret
       exact⟨rfl,rfl⟩
 · have s1:((base:Int)%16==0)=false:=by rw[beq_eq_false_iff_ne];omega
   clear h h1;go_enter Tryz.func73,Tryz.ntmps73
   go_wp2
   go_ret
   exact⟨rfl,rfl⟩
theorem ao9{k:IntKind}{a b:Int}(h:a=b):Ending.returned (.int k a)= .returned (.int k b):=by rw[h]
theorem apu{a b:Bool}(h:a=b):Ending.returned (.bool a)= .returned (.bool b):=by rw[h]
theorem as2 (A:Option Addr) (len c B:Nat) (bs:List UInt8) (p n:Nat) (w:World) (h:Rd w B A len bs) (hlc:len<=c) (hl:len<=1000000) (hn0:0<n) (hn:n<=8) (h2:p+n<=len):
 Calls Tryz.prog 246 #[.slice A len c, .int .u64 (p:Int), .int .i64 (n:Int)] w fun e w'=>e= .returned (.tuple #[.int .u64 (abC ((bs.drop p).take n):Int), .bool true])/\w=w':=by
 obtain⟨b,off,rfl,hb,_,_⟩:=h.at_ (k:=0) (by omega);have hs:=h.sub p n h2;go_enter Tryz.func246,Tryz.ntmps246
 go_wp2_with fail
 refine(aaI _ _ _ _ _ _ hs (by omega)).mono ?_;rintro e w' ⟨rfl,rfl⟩;go_wp2
 go_ret2
 exact⟨rfl,rfl⟩
theorem ars (v k q:Nat) (h:v/256^k=q):Value.int .u64 ((q:Int)/256)=Value.int .u64 ((v/256^(k+1):Nat):Int):=by
 rw[Nat.pow_succ,<-Nat.div_div_eq_div_mul,h];simp
theorem art (v k q:Nat) (h:v/256^k=q):(aat (k+1) v).map bv=(aat k v).map bv++ [Value.int .u8 ((q:Int)%256)]:=by
 rw[aiO,List.map_append,h];simp only[List.map_cons,List.map_nil,bv,acQ];simp
theorem ah0 (v n:Nat) (w:World) (hn:n<=8) (hv:v<18446744073709551616):
 Calls Tryz.prog 123 #[.int .u64 (v:Int), .int .i64 (n:Int)] w fun e w'=>∃x,e= .returned x/\w'.ownsRow w.heap.size 5 1 x n ((aat n v).map bv)/\Below w.heap.size w w':=by
 obtain⟨i0,hi,hz0,hz1,hz2⟩:=info_parts aca;go_enter Tryz.func123,Tryz.ntmps123
 go_wp2
 go_loopw [0,5,6] (fun q x i wr=>∃k:Nat,k<=n/\i= .int .i64 k/\q= .int .u64 ((v/256^k:Nat):Int)/\wr.ownsRow w.heap.size 5 1 x k ((aat k v).map bv)/\Below w.heap.size w wr) (fun _ _ i _=>n-(intOf i).toNat)
 case atStart=>exact⟨0,Nat.zero_le _,rfl,by simp,World.ownsRow_nil _ _ _ _,Below.refl _ _⟩
 case round=>
  obtain⟨k,hk,rfl,rfl,hown,hb⟩:=hrel;by_cases hlt:k<n
  · have hq:v/256^k<18446744073709551616:=Nat.lt_of_le_of_lt (Nat.div_le_self _ _) hv;generalize hqq:v/256^k=q at*;have HQ:=hE0 hqq;clear hqq;have hm:0<=(q:Int)%256/\(q:Int)%256<=255:=by omega
    obtain⟨hm0,hm1⟩:=hm;go_wp2_with (first
     | (at_builtin;refine wpList_append_own _ rfl _ _ 37 rfl w.heap.size 5 i0 (.int .u8 0) 1 1 Tryz.underlying37 hi hz0 hz1 hz2 rfl (by decide) _ _ _ rfl (hown.alloc _) ⟨wr.heap.size,0,none⟩ 1 1 [.int .u8 ((q:Int)%256)] rfl rfl ?c1 ?c2 ?c3 ?c4 ?c5 ?_))
    case c1=>
     intro j u hj;match j,hj with
     | 0,hj=>simp at hj;subst hj;simp[Addr.add]
    case c2=>intro u hu;simp at hu;subst hu;rfl
    case c3=>unfold maxLen;omega
    case c4=>omega
    case c5=>have:=hb.size;simp;omega
    intro x' w1 hown' hgrow _;have hb1:Below w.heap.size w w1:=(hb.alloc hb.size _).grown hgrow (by have:=hb.size;simp;omega) (fun j hj=>(hown.lt j hj).1);have Hown:=hE0 hown';clear hown' hgrow;go_wp2
    go_roundw
    case rel=>exact⟨k+1,by omega,by go_num,ars v k q HQ.out,by rw[art v k q HQ.out];exact Hown.out,hb1⟩
    case measure=>simp[intOf];omega
  · go_wp2
    go_ret
    obtain rfl:k=n:=by omega
    exact⟨_,rfl,hown,hb⟩
section
variable (w:World)
theorem abp (n:Int) (hn: -9223372036854775808<=n/\n<=9223372036854775807) (b:Bool) (hb:aa3 n=b):
 Calls Tryz.prog 133 #[.int .i64 n] w fun e w'=>e= .returned (.bool b)/\w=w':=by
 by_cases h1:32<=n
 · by_cases h2:n<=16384
   · have e:(n%16==0)=b:=by rw[<-hb];simp[aa3,h1,h2]
     have HE:=hE0 e;clear hb e;go_enter Tryz.func133,Tryz.ntmps133
     go_wp2
     go_ret
     exact⟨apu HE.out,rfl⟩
   · obtain rfl:false=b:=by rw[<-hb];simp[aa3,h2]
     clear hb;go_enter Tryz.func133,Tryz.ntmps133
     go_wp2
     go_ret
     exact⟨rfl,rfl⟩
 · obtain rfl:false=b:=by rw[<-hb];simp[aa3,h1]
   clear hb;go_enter Tryz.func133,Tryz.ntmps133
   go_wp2
   go_ret
   exact⟨rfl,rfl⟩
theorem anm (s:Int) (u:Bool) (hs: -9223372036854775808<=s/\s<=9223372036854775807) (m:Nat) (hm:ab0 s u=m):
 Calls Tryz.prog 125 #[.int .i64 s, .bool u] w fun e w'=>e= .returned (.int .u64 (m:Int))/\w=w':=by
 cases hb:aa3 s
 · obtain rfl:0=m:=by rw[<-hm];simp[ab0,hb]
   have HI:=hE0 (abp w s hs false hb);clear hm hb;go_enter Tryz.func125,Tryz.ntmps125
   go_wp2_with fail
   with_reducible refine HI.out.mono ?_
   rintro e w1 ⟨rfl,rfl⟩;go_wp2
   go_ret
   exact⟨rfl,rfl⟩
 · have h:=(aae s).1 hb;have HI:=hE0 (abp w s hs true hb);obtain⟨n,rfl⟩:∃n:Nat,s=(n:Int):=⟨s.toNat,by omega⟩;have hn:n<=16384:=by omega
   have HM:Hid (n+(if u=true then 1 else 0)=m):=(show _=_ by rw[<-hm];simp[ab0,hb]);clear hm hb h
   cases u
   · go_enter Tryz.func125,Tryz.ntmps125
     go_wp2_with fail
     with_reducible refine HI.out.mono ?_
     rintro e w1 ⟨rfl,rfl⟩;go_wp2
     go_ret
     exact⟨ao9 (by have:=HM.out;simp at this;omega),rfl⟩
   · go_enter Tryz.func125,Tryz.ntmps125
     go_wp2_with fail
     with_reducible refine HI.out.mono ?_
     rintro e w1 ⟨rfl,rfl⟩;go_wp2
     go_ret
     exact⟨ao9 (by have:=HM.out;simp at this;omega),rfl⟩
def ann (o:Option (Nat × Bool)):Value:=match o with
 | some (s,u)=> .tuple #[.int .i64 (s:Int), .bool u, .bool true]
 | none=> .tuple #[.int .i64 0, .bool false, .bool false]
theorem aj6 (v:Nat) (hv:v<18446744073709551616):
 Calls Tryz.prog 226 #[.int .u64 (v:Int)] w fun e w'=>e= .returned (ann (adT v))/\w=w':=by
 by_cases h0:20000<v
 · have e:adT v=none:=by unfold adT;rw[if_neg (by omega)]
   rw[e];clear e;go_enter Tryz.func226,Tryz.ntmps226
   go_wp2
   go_ret3
   exact⟨rfl,rfl⟩
 · obtain⟨s,hs⟩:∃s:Nat,v-v%2=s:=⟨_,rfl⟩;have hs2:(v:Int)-(v:Int)%2=(s:Int):=by omega
   cases hb:aa3 (s:Int)
   · have e:adT v=none:=by unfold adT;rw[hs,if_neg (by simp[hb])]
     rw[e];have HI:=hE0 (abp w (s:Int) (by omega) false hb);have HS:=hE0 hs2;clear e hs hb hs2;go_enter Tryz.func226,Tryz.ntmps226
     go_wp2_with fail
     rw[HS.out]
     with_reducible refine HI.out.mono ?_
     rintro e w1 ⟨rfl,rfl⟩;go_wp2
     go_ret3
     exact⟨rfl,rfl⟩
   · have e:adT v=some (s,v%2==1):=by unfold adT;rw[hs,if_pos ⟨by omega,hb⟩]
     rw[e];have HI:=hE0 (abp w (s:Int) (by omega) true hb);have HS:=hE0 hs2;have HB:Hid (((v:Int)%2==1)=(v%2==1)):=(show _=_ by
      rw[Bool.eq_iff_iff,beq_iff_eq,beq_iff_eq];omega)
     clear e hs hb hs2;go_enter Tryz.func226,Tryz.ntmps226
     go_wp2_with fail
     rw[HS.out]
     with_reducible refine HI.out.mono ?_
     rintro e w1 ⟨rfl,rfl⟩;go_wp2
     go_ret3
     refine⟨?_,rfl⟩;rw[<-HB.out];rfl
def ah1 (o:Option Nat):Value:=match o with
 | some s=> .tuple #[.int .i64 (s:Int), .bool true]
 | none=> .tuple #[.int .i64 0, .bool false]
theorem ano (n:Nat) (hv:n<18446744073709551616):
 Calls Tryz.prog 101 #[.int .u64 (n:Int)] w fun e w'=>e= .returned (ah1 (ab1 n))/\w=w':=by
 by_cases h0:16384<n
 · have e:ab1 n=none:=by unfold ab1;rw[if_neg (by omega)]
   rw[e];clear e;go_enter Tryz.func101,Tryz.ntmps101
   go_wp2
   go_ret2
   exact⟨rfl,rfl⟩
 · obtain⟨m,hm⟩:=nmE (max 32 ((n+31)/16*16));have hm1:m<=16400:=by omega
   obtain⟨V,hV⟩:=nmE (ah1 (ab1 n));rw[hV];have HV:=hE0 hV;have HM:=hE0 hm;clear hm hV;go_enter Tryz.func101,Tryz.ntmps101
   go_wp2
   go_loop [4] (fun t=>∃k:Nat,t= .int .i64 (k:Int)/\32<=k/\k<=m/\k%16=0) (fun t=>m-(intOf t).toNat)
   case atStart=>exact⟨32,rfl,by omega,(by have:=HM.out;omega),by omega⟩
   case round=>
    obtain⟨k,rfl,hk1,hk2,hk3⟩:=hrel;by_cases hlt:k<n+16
    · have hlt':(k:Int)<(n:Int)+16:=by omega
      go_wp2
      go_round
      case rel=>exact⟨k+16,by go_num,by omega,(by have:=HM.out;omega),by omega⟩
      case measure=>have:=HM.out;simp[intOf];omega
    · have hlt':¬(k:Int)<(n:Int)+16:=by omega
      obtain rfl:k=m:=by have:=HM.out;omega
      by_cases hn:n<=16368
      · have e:ab1 n=some k:=by unfold ab1;rw[if_pos hn,HM.out]
        have HE:=hE0 e;have HI:=hE0 (abp w (k:Int) (by omega) true ((aae _).2 (by have:=HM.out;omega)));clear e;go_wp2_with fail
        with_reducible refine HI.out.mono ?_
        rintro e w1 ⟨rfl,rfl⟩;go_wp2
        go_ret2
        exact⟨by rw[<-HV.out,HE.out];rfl,rfl⟩
      · have e:ab1 n=none:=by unfold ab1;rw[if_neg hn]
        have HE:=hE0 e;have HI:=hE0 (abp w (k:Int) (by omega) false ((alY _).2 (by have:=HM.out;omega)));clear e;go_wp2_with fail
        with_reducible refine HI.out.mono ?_
        rintro e w1 ⟨rfl,rfl⟩;go_wp2
        go_ret2
        exact⟨by rw[<-HV.out,HE.out];rfl,rfl⟩
theorem ahf (s:Int) (hs: -9223372036854775808<=s/\s<=9223372036854775807) (c:Int) (hc:aaw s=c):
 Calls Tryz.prog 162 #[.int .i64 s] w fun e w'=>e= .returned (.int .i64 c)/\w=w':=by
 cases hb:aa3 s
 · obtain rfl: -1=c:=by rw[<-hc];simp[aaw,hb]
   have HI:=hE0 (abp w s hs false hb);clear hc hb;go_enter Tryz.func162,Tryz.ntmps162
   go_wp2_with fail
   with_reducible refine HI.out.mono ?_
   rintro e w1 ⟨rfl,rfl⟩;go_wp2
   go_ret
   exact⟨rfl,rfl⟩
 · have h:=(aae s).1 hb;have HI:=hE0 (abp w s hs true hb);have hc':aaw s=c:=hc;unfold aaw at hc;rw[if_neg (by simp[hb])]at hc;by_cases h0:s<=256
   · rw[if_pos h0]at hc;have HC:=hE0 hc;clear hc hc' hb;go_enter Tryz.func162,Tryz.ntmps162
     go_wp2_with fail
     with_reducible refine HI.out.mono ?_
     rintro e w1 ⟨rfl,rfl⟩;go_wp2
     go_ret
     exact⟨ao9 HC.out,rfl⟩
   · rw[if_neg h0]at hc;have HC:=hE0 hc;clear hc hc' hb;go_enter Tryz.func162,Tryz.ntmps162
     go_wp2_with fail
     with_reducible refine HI.out.mono ?_
     rintro e w1 ⟨rfl,rfl⟩;go_wp2
     go_loop [4,5] (fun a t=>∃k P:Nat,k<=6/\P=2^k/\a= .int .i64 ((15+k:Nat):Int)/\t= .int .i64 ((512*P:Nat):Int)/\(256*P:Int)<=s) (fun a _=>21-(intOf a).toNat)
     case atStart=>exact⟨0,1,by omega,rfl,rfl,rfl,by omega⟩
     case round=>
      obtain⟨k,P,hk,hP,rfl,rfl,hlo⟩:=hrel;have hP6:P<=64:=by rw[hP];exact Nat.pow_le_pow_right (by omega) hk
      by_cases hge:(512*P:Int)<=s
      · have hk5:k<6:=by
         rcases Nat.lt_or_ge k 6 with h | h
         · exact h
         · obtain rfl:k=6:=by omega
           rw[hP]at hge;omega
        have HP:=hE0 hP;have g1:((512*P:Nat):Int)<=s:=by omega
        clear hP;go_wp2
        go_round
        case rel=>exact⟨k+1,2*P,by omega,by rw[Nat.pow_succ,HP.out];omega,by go_num,by go_num,by omega⟩
        case measure=>simp[intOf];omega
      · have g1:¬((512*P:Nat):Int)<=s:=by omega
        have HR:Hid (((15+k:Nat):Int)=c):=(show _=_ by
         rw[<-HC.out];match k,hk,hP with
         | 0,_,hP=>simp at hP;subst hP;repeat' split
                   all_goals omega
         | 1,_,hP=>simp at hP;subst hP;repeat' split
                   all_goals omega
         | 2,_,hP=>simp at hP;subst hP;repeat' split
                   all_goals omega
         | 3,_,hP=>simp at hP;subst hP;repeat' split
                   all_goals omega
         | 4,_,hP=>simp at hP;subst hP;repeat' split
                   all_goals omega
         | 5,_,hP=>simp at hP;subst hP;repeat' split
                   all_goals omega
         | 6,_,hP=>simp at hP;subst hP;repeat' split
                   all_goals omega)
        clear hP HC;go_wp2
        go_ret
        exact⟨ao9 HR.out,rfl⟩
end
theorem al3 (v:Nat) (hv:v<=16385):wrap64 (bits .andNot .u64 (v:Int) 1)=((v-v%2:Nat):Int):=by
 have h:bits .andNot .u64 (v:Int) ((1:Nat):Int)=((v&&&(18446744073709551615-1):Nat):Int):=by
  have hx:v&&&(18446744073709551615-1)<2^64:=Nat.and_lt_two_pow _ (by omega);show IntKind.u64.wrap ((BitVec.ofInt 64 (v:Int)&&&~~~BitVec.ofInt 64 ((1:Nat):Int)).toNat:Int)=_;rw[BitVec.toNat_and,BitVec.toNat_not,ofInt_u64 v (by omega),ofInt_u64 1 (by omega),IntKind.wrap_u64];have e:2^64-1-1=18446744073709551615-1:=by omega
  rw[e];omega
 have h2:v&&&(18446744073709551615-1)=v-v%2:=by
  rw[nat_hi64_1,Nat.mod_eq_of_lt (by omega)];omega
 have h3:bits .andNot .u64 (v:Int) 1=((v-v%2:Nat):Int):=by rw[<-h2];exact h
 rw[h3];have h4:=Nat.sub_le v (v%2);unfold wrap64;omega
theorem aru (v:Nat) (hv:v<18446744073709551616):(bits .and .u64 (v:Int) 1==1)=(v%2==1):=by
 have h:bits .and .u64 (v:Int) 1=((v&&&1:Nat):Int):=u64_and_nat v 1 hv (by omega);rw[h,Nat.and_one_is_mod,Bool.eq_iff_iff,beq_iff_eq,beq_iff_eq];omega
section
variable (w:World)
theorem adC (n:Int) (hn: -9223372036854775808<=n/\n<=9223372036854775807) (b:Bool) (hb:aa3 n=b):
 Calls Tryz.prog 174 #[.int .i64 n] w fun e w'=>e= .returned (.bool b)/\w=w':=by
 by_cases h1:32<=n
 · by_cases h2:n<=16384
   · have e:(n%16==0)=b:=by rw[<-hb];simp[aa3,h1,h2]
     have HE:=hE0 e;clear hb e;go_enter Tryz.func174,Tryz.ntmps174
     go_wp2
     go_ret
     exact⟨apu HE.out,rfl⟩
   · obtain rfl:false=b:=by rw[<-hb];simp[aa3,h2]
     clear hb;go_enter Tryz.func174,Tryz.ntmps174
     go_wp2
     go_ret
     exact⟨rfl,rfl⟩
 · obtain rfl:false=b:=by rw[<-hb];simp[aa3,h1]
   clear hb;go_enter Tryz.func174,Tryz.ntmps174
   go_wp2
   go_ret
   exact⟨rfl,rfl⟩
theorem adk (s:Int) (u:Bool) (hs: -9223372036854775808<=s/\s<=9223372036854775807) (m:Nat) (hm:ab0 s u=m):
 Calls Tryz.prog 116 #[.int .i64 s, .bool u] w fun e w'=>e= .returned (.int .u64 (m:Int))/\w=w':=by
 cases hb:aa3 s
 · obtain rfl:0=m:=by rw[<-hm];simp[ab0,hb]
   have HI:=hE0 (adC w s hs false hb);clear hm hb;go_enter Tryz.func116,Tryz.ntmps116
   go_wp2_with fail
   with_reducible refine HI.out.mono ?_
   rintro e w1 ⟨rfl,rfl⟩;go_wp2
   go_ret
   exact⟨rfl,rfl⟩
 · have h:=(aae s).1 hb;have HI:=hE0 (adC w s hs true hb);obtain⟨n,rfl⟩:∃n:Nat,s=(n:Int):=⟨s.toNat,by omega⟩;have hn:n<=16384:=by omega
   have HM:Hid (n+(if u=true then 1 else 0)=m):=(show _=_ by rw[<-hm];simp[ab0,hb]);clear hm hb h
   cases u
   · go_enter Tryz.func116,Tryz.ntmps116
     go_wp2_with fail
     with_reducible refine HI.out.mono ?_
     rintro e w1 ⟨rfl,rfl⟩;go_wp2
     go_ret
     exact⟨ao9 (by have:=HM.out;simp at this;omega),rfl⟩
   · go_enter Tryz.func116,Tryz.ntmps116
     go_wp2_with fail
     with_reducible refine HI.out.mono ?_
     rintro e w1 ⟨rfl,rfl⟩;go_wp2
     go_ret
     exact⟨ao9 (by have:=HM.out;simp at this;omega),rfl⟩
theorem ack (v:Nat) (hv:v<18446744073709551616):
 Calls Tryz.prog 195 #[.int .u64 (v:Int)] w fun e w'=>e= .returned (ann (adT v))/\w=w':=by
 by_cases h0:16385<v
 · have e:adT v=none:=by
    unfold adT;rw[if_neg];rintro⟨_,h⟩;have:=(aae _).1 h;omega
   rw[e];clear e;go_enter Tryz.func195,Tryz.ntmps195
   go_wp2
   go_ret3
   exact⟨rfl,rfl⟩
 · obtain⟨s,hs⟩:∃s:Nat,v-v%2=s:=⟨_,rfl⟩;have hs2:wrap64 (bits .andNot .u64 (v:Int) 1)=(s:Int):=by rw[al3 v (by omega),hs]
   cases hb:aa3 (s:Int)
   · have e:adT v=none:=by unfold adT;rw[hs,if_neg (by simp[hb])]
     rw[e];have HI:=hE0 (adC w (s:Int) (by have:=Nat.sub_le v (v%2);omega) false hb);have HS:=hE0 hs2;clear e hs hb hs2;go_enter Tryz.func195,Tryz.ntmps195
     go_wp2_with fail
     rw[HS.out]
     with_reducible refine HI.out.mono ?_
     rintro e w1 ⟨rfl,rfl⟩;go_wp2
     go_ret3
     exact⟨rfl,rfl⟩
   · have e:adT v=some (s,v%2==1):=by unfold adT;rw[hs,if_pos ⟨by omega,hb⟩]
     rw[e];have HI:=hE0 (adC w (s:Int) (by have:=Nat.sub_le v (v%2);omega) true hb);have HS:=hE0 hs2;have HB:=hE0 (aru v hv);clear e hs hb hs2;go_enter Tryz.func195,Tryz.ntmps195
     go_wp2_with fail
     rw[HS.out]
     with_reducible refine HI.out.mono ?_
     rintro e w1 ⟨rfl,rfl⟩;go_wp2
     go_ret3
     refine⟨?_,rfl⟩;rw[<-HB.out];rfl
end
structure Bk where
 off:Nat
 size:Nat
 used:Bool
deriving DecidableEq
def aai (bs:List UInt8) (o:Nat):Nat:=abC ((bs.drop o).take 8)
def word? (bs:List UInt8) (o:Int):Option Nat:=if 0<=o/\o+8<=bs.length then some (aai bs o.toNat) else none
def aj7 (n:Nat) (o size:Int):Bool:=decide (184<=o)&&(o%16==8&&(decide (o<=n)&&decide (size<=n-o)))
theorem abk (n:Nat) (o size:Int):aj7 n o size=true ↔ 184<=o/\o%16=8/\o<=n/\size<=n-o:=by simp[aj7]
def abV (bs:List UInt8) (o:Int):Option Bk:=
 if aj7 bs.length o 8=false then none else
 match adT (aai bs o.toNat)with
 | none=>none
 | some (s,u)=>if aj7 bs.length o s=false then none else if aai bs (o.toNat+s-8)=aai bs o.toNat then some ⟨o.toNat,s,u⟩ else none
def atC (bs:List UInt8) (o:Int):Option Bk:=
 if o<184\/(bs.length:Int)<o then none else
 match adT (aai bs (o.toNat-8))with
 | none=>none
 | some (s,u)=>match abV bs (o-s)with
  | none=>none
  | some x=>if x.size=s/\x.used=u then some x else none
def adl (bs:List UInt8):Nat->Nat->Option (List Bk)
 | 0,_=>none
 | k+1,o=>if o<bs.length then (match abV bs (o:Int)with
  | none=>none
  | some x=>(adl bs k (o+x.size)).map (x:: ·)) else some []
def abJ (bs:List UInt8):Option (List Bk):=if bs.length<184 then none else adl bs (bs.length+1) 184
theorem abd (bs:List UInt8) (o:Nat):aai bs o<18446744073709551616:=aaG _ (by rw[List.length_take];omega)
theorem aa2{bs:List UInt8}{o:Int}{x:Bk}(h:abV bs o=some x):o=(x.off:Int)/\184<=x.off/\x.off%16=8/\x.off+x.size<=bs.length/\aa3 (x.size:Int)=true/\adT (aai bs x.off)=some (x.size,x.used)/\aai bs (x.off+x.size-8)=aai bs x.off:=by
 unfold abV at h;split at h
 · cases h
 · rename_i hc;have hc':=(abk _ _ _).1 (by simpa using hc);split at h
   · cases h
   · rename_i s u hu;split at h
     · cases h
     · rename_i hc2;have hc2':=(abk _ _ _).1 (by simpa using hc2);split at h
       · rename_i hw;injection h with h;subst h;have:=adi hu;refine⟨by dsimp only;omega,by dsimp only;omega,by dsimp only;omega,by dsimp only;omega,this.1,hu,hw⟩
       · cases h
theorem anp{bs:List UInt8}{x:Bk}(h1:184<=x.off) (h2:x.off%16=8) (h3:x.off+x.size<=bs.length) (h4:adT (aai bs x.off)=some (x.size,x.used)) (h5:aai bs (x.off+x.size-8)=aai bs x.off):abV bs (x.off:Int)=some x:=by
 have hs:=(aae _).1 (adi h4).1;unfold abV;rw[if_neg (by rw[(abk _ _ _).2 (by omega)];simp)];rw[Int.toNat_natCast,h4];dsimp only;rw[if_neg (by rw[(abk _ _ _).2 (by omega)];simp),if_pos h5]
def lyN (bs:List UInt8) (o v:Nat):List UInt8:=bs.take o++(aat 8 v++bs.drop (o+8))
theorem aap (bs:List UInt8) (o v:Nat) (h:o+8<=bs.length):(lyN bs o v).length=bs.length:=by
 unfold lyN;rw[List.length_append,List.length_append,aab,List.length_take,List.length_drop];omega
theorem afp (bs:List UInt8) (o v i:Nat) (h:o+8<=bs.length) (hi:i<o\/o+8<=i):(lyN bs o v)[i]?=bs[i]?:=by
 unfold lyN;have e1:(bs.take o).length=o:=by rw[List.length_take];omega
 rcases hi with hi | hi
 · rw[List.getElem?_append_left (by omega),List.getElem?_take_of_lt hi]
 · rw[List.getElem?_append_right (by omega),e1,List.getElem?_append_right (by rw[aab];omega),aab,List.getElem?_drop];congr 1;omega
theorem abK (bs:List UInt8) (o v:Nat) (h:o+8<=bs.length) (hv:v<18446744073709551616):aai (lyN bs o v) o=v:=by
 have e1:(bs.take o).length=o:=by rw[List.length_take];omega
 have e:((lyN bs o v).drop o).take 8=aat 8 v:=by
  unfold lyN;rw[List.drop_append,e1,List.drop_eq_nil_of_le (by omega),List.nil_append,Nat.sub_self,List.drop_zero];have:=aab 8 v;rw[List.take_append_of_le_length (by omega),List.take_of_length_le (by omega)]
 unfold aai;rw[e,acs];exact Nat.mod_eq_of_lt hv
theorem aaZ (bs bs':List UInt8) (p:Nat) (h:∀i,p<=i->i<p+8->bs'[i]?=bs[i]?):aai bs' p=aai bs p:=by
 unfold aai;congr 1;apply List.ext_getElem?;intro i;rcases Nat.lt_or_ge i 8 with hi | hi
 · rw[List.getElem?_take_of_lt hi,List.getElem?_take_of_lt hi,List.getElem?_drop,List.getElem?_drop];exact h _ (by omega) (by omega)
 · rw[List.getElem?_eq_none (by rw[List.length_take];omega),List.getElem?_eq_none (by rw[List.length_take];omega)]
theorem abh (bs:List UInt8) (o v p:Nat) (h:o+8<=bs.length) (hd:p+8<=o\/o+8<=p):aai (lyN bs o v) p=aai bs p:=
 aaZ _ _ _ fun i h1 h2=>afp bs o v i h (by omega)
theorem ab6 (bs bs':List UInt8) (x:Bk) (hl:bs'.length=bs.length) (hx:abV bs (x.off:Int)=some x) (h1:aai bs' x.off=aai bs x.off) (h2:aai bs' (x.off+x.size-8)=aai bs (x.off+x.size-8)):abV bs' (x.off:Int)=some x:=by
 obtain⟨_,g1,g2,g3,g4,g5,g6⟩:=aa2 hx;exact anp g1 g2 (by omega) (by rw[h1];exact g5) (by rw[h1,h2];exact g6)
def acF (w c:Nat):Bool:=w/2^c%2==1
theorem ad1 (w c:Nat):acF w (c+1)=acF (w/2) c:=by
 unfold acF;rw[Nat.pow_succ,Nat.mul_comm,Nat.div_div_eq_div_mul]
theorem ah2 (w c:Nat) (h:acF w c=false) (d:Nat):acF (w+2^c) d=if d=c then true else acF w d:=by
 induction c generalizing w d with
 | zero=>
  have h0:w%2=0:=by
   unfold acF at h;simp at h;omega
  cases d with
  | zero=>simp[acF];omega
  | succ d=>
   rw[if_neg (by omega),ad1,ad1];congr 1;simp;omega
 | succ c ih=>
  rw[ad1]at h;have e:(w+2^(c+1))/2=w/2+2^c:=by rw[Nat.pow_succ];omega
  cases d with
  | zero=>
   rw[if_neg (by omega)];simp only[acF,Nat.pow_zero,Nat.div_one];rw[Nat.pow_succ];congr 1;omega
  | succ d=>
   rw[ad1,e,ih (w/2) h d,ad1 w d];by_cases hd:d=c
   · rw[if_pos hd,if_pos (by omega)]
   · rw[if_neg hd,if_neg (by omega)]
theorem ah3 (w c:Nat) (h:acF w c=true):2^c<=w:=by
 unfold acF at h;rw[beq_iff_eq]at h;rcases Nat.lt_or_ge w (2^c)with h1 | h1
 · rw[Nat.div_eq_of_lt h1]at h;cases h
 · exact h1
theorem afq (w c:Nat) (h:acF w c=true):acF (w-2^c) c=false:=by
 have hg:=ah3 w c h;have hp:0<2^c:=Nat.two_pow_pos c;unfold acF at h ⊢;rw[beq_iff_eq]at h;have e:w/2^c=(w-2^c)/2^c+1:=by
  conv=>lhs;rw[<-Nat.sub_add_cancel hg]
  rw[Nat.add_div_right _ hp]
 rw[e]at h;rw[beq_eq_false_iff_ne];omega
theorem ak5 (w c:Nat) (h:acF w c=true) (d:Nat):acF (w-2^c) d=if d=c then false else acF w d:=by
 have hg:=ah3 w c h;have h0:=afq w c h;have:=ah2 (w-2^c) c h0 d;rw[Nat.sub_add_cancel hg]at this;by_cases hd:d=c
 · rw[if_pos hd,hd];exact h0
 · rw[if_neg hd]at this ⊢;exact this.symm
theorem aj8 (w c:Nat) (hc:c<64) (hw:w<18446744073709551616) (h:acF w c=false):w+2^c<18446744073709551616:=by
 have e:(18446744073709551616:Nat)=2^(63-c)*2*2^c:=by
  rw[<-Nat.pow_succ,<-Nat.pow_add,show(63-c).succ+c=64 by omega]
 have hp:0<2^c:=Nat.two_pow_pos c;have h1:w/2^c<2^(63-c)*2:=by
  rw[Nat.div_lt_iff_lt_mul hp,<-e];exact hw
 have h2:w/2^c%2=0:=by
  unfold acF at h;rw[beq_eq_false_iff_ne]at h;omega
 have h3:w/2^c+2<=2^(63-c)*2:=by omega
 have h4:=Nat.div_add_mod w (2^c);have h5:=Nat.mod_lt w hp;have h6:(w/2^c+2)*2^c<=2^(63-c)*2*2^c:=Nat.mul_le_mul_right _ h3;rw[<-e,Nat.add_mul,Nat.mul_comm (w/2^c)]at h6;omega
def apa (bs:List UInt8) (o:Int):Nat:=(word? bs o).getD 0
def acl (bs:List UInt8) (o:Int):Int:=match abV bs o with
 | some x=>if x.used=true then-1 else aaw x.size
 | none=> -1
def aaz (bs:List UInt8) (p:Nat) (c:Int):Bool:=decide (p<=20000)&&(match abV bs (p:Int)with
 | some x=> !x.used&&aaw x.size==c
 | none=>false)
def acV (bs:List UInt8) (c:Nat):List UInt8:=
 if acF (aai bs 0) c=true/\aai bs (8+8*c)=0 then lyN bs 0 (aai bs 0-2^c)
 else if acF (aai bs 0) c=false/\aai bs (8+8*c)≠0 then lyN bs 0 (aai bs 0+2^c) else bs
def ai2 (bs:List UInt8) (o:Int):Option (List UInt8):=
 if acl bs o<0 then none else
 let c:=(acl bs o).toNat
 let f:=aai bs (8+8*c)
 if (f:Int)=o\/(f≠0/\aaz bs f (c:Int)=false) then none else
 let b1:=lyN (lyN bs (o.toNat+8) f) (o.toNat+16) 0
 let b2:=if f≠0 then lyN b1 (f+16) o.toNat else b1
 some (acV (lyN b2 (8+8*c) o.toNat) c)
def aeN (bs:List UInt8) (c:Nat):Nat->Nat->Nat->Option (List Nat)
 | k,last,p=>if p=0 then some [] else match k with
  | 0=>none
  | k+1=>if aaz bs p (c:Int)=true/\aai bs (p+16)=last then (aeN bs c k p (aai bs (p+8))).map (p:: ·) else none
def afL (bs:List UInt8) (c:Nat):Option (List Nat):=
 if bs.length<184 then none
 else if acF (aai bs 0) c≠decide (aai bs (8+8*c)≠0) then none
 else aeN bs c 1024 0 (aai bs (8+8*c))
structure Stands (bs:List UInt8) (P:List Bk):Prop where
 at_:∀x∈P,abV bs (x.off:Int)=some x
 apart:∀x∈P,∀y∈P,x=y\/x.off+x.size<=y.off\/y.off+y.size<=x.off
def asj (bs:List UInt8):Nat->List Nat->Nat->Prop
 | _,[],_=>True
 | p,o::r,n=>aai bs (o+16)=p/\aai bs (o+8)=r.headD n/\asj bs o r n
structure Lists (bs:List UInt8) (P:List Bk) (L:Nat->List Nat):Prop where
 len:184<=bs.length
 small:bs.length<=16384
 st:Stands bs P
 head:∀c,c<22->aai bs (8+8*c)=(L c).headD 0
 bit:∀c,c<22->acF (aai bs 0) c= !(L c).isEmpty
 mem:∀c,c<22->∀o∈L c,∃x∈P,x.off=o/\x.used=false/\aaw x.size=(c:Int)
 links:∀c,c<22->asj bs 0 (L c) 0
 nodup:∀c,c<22->(L c).Nodup
theorem afr{bs bs':List UInt8}:∀(l:List Nat) (p n:Nat),(∀o∈l,aai bs' (o+16)=aai bs (o+16)/\aai bs' (o+8)=aai bs (o+8))->asj bs p l n->asj bs' p l n
 | [],_,_,_,_=>trivial
 | o::r,p,n,h,hl=>by
  obtain⟨h1,h2⟩:=h o (by simp);obtain⟨a,b,c⟩:=hl;exact⟨h1.trans a,h2.trans b,afr r o n (fun q hq=>h q (by simp[hq])) c⟩
section
variable {bs:List UInt8} {P:List Bk} {L:Nat->List Nat}
theorem Stands.facts (h:Stands bs P){x:Bk}(hx:x∈P):184<=x.off/\x.off%16=8/\x.off+x.size<=bs.length/\32<=x.size/\x.size%16=0/\aa3 (x.size:Int)=true:=by
 obtain⟨_,g1,g2,g3,g4,_⟩:=aa2 (h.at_ x hx);have:=(aae _).1 g4;exact⟨g1,g2,g3,by omega,by omega,g4⟩
theorem Stands.uniq (h:Stands bs P){x y:Bk}(hx:x∈P) (hy:y∈P) (e:x.off=y.off):x=y:=by
 have h1:=h.at_ x hx;rw[e,h.at_ y hy]at h1;injection h1 with h1;exact h1.symm
theorem Stands.lay (h:Stands bs P) (q v:Nat) (hq:q+8<=184\/∃y∈P,y.off+8<=q/\q+8<=y.off+y.size-8) (hl:184<=bs.length):Stands (lyN bs q v) P:=by
 have hqb:q+8<=bs.length:=by
  rcases hq with hq | ⟨y,hy,h1,h2⟩
  · omega
  · have:=h.facts hy;omega
 refine⟨fun x hx=> ?_,h.apart⟩;have hf:=h.facts hx;refine ab6 bs _ x (aap _ _ _ hqb) (h.at_ x hx) (abh _ _ _ _ hqb ?_) (abh _ _ _ _ hqb ?_)
 · rcases hq with hq | ⟨y,hy,h1,h2⟩
   · omega
   · have hy':=h.facts hy;rcases h.apart x hx y hy with rfl | h3 | h3
     · omega
     · omega
     · omega
 · rcases hq with hq | ⟨y,hy,h1,h2⟩
   · omega
   · have hy':=h.facts hy;rcases h.apart x hx y hy with rfl | h3 | h3
     · omega
     · omega
     · omega
theorem Lists.member (h:Lists bs P L){c o:Nat}(hc:c<22) (ho:o∈L c):aaz bs o (c:Int)=true/\∃x∈P,x.off=o/\x.used=false/\aaw x.size=(c:Int):=by
 obtain⟨x,hx,rfl,hu,hcl⟩:=h.mem c hc o ho;have hf:=h.st.facts hx;have hs:=h.small;refine⟨?_,x,hx,rfl,hu,hcl⟩;unfold aaz;rw[h.st.at_ x hx];simp[hu,hcl];omega
theorem ai3 (h:Lists bs P L){c:Nat}(hc:c<22):∀(l:List Nat) (k p:Nat),(∀o∈l,o∈L c)->l.length<=k->asj bs p l 0->aeN bs c k p (l.headD 0)=some l
 | [],k,_,_,_,_=>by cases k<;>simp[aeN]
 | o::r,0,_,_,hk,_=>by simp at hk
 | o::r,k+1,p,hm,hk,hl=>by
  obtain⟨l1,l2,l3⟩:=hl;obtain⟨m1,x,hx,rfl,_⟩:=h.member hc (hm o (by simp));have hf:=h.st.facts hx;have ih:=ai3 h hc r k x.off (fun q hq=>hm q (by simp[hq])) (by simpa using hk) l3;show aeN bs c (k+1) p x.off=_;unfold aeN;rw[if_neg (by omega)];dsimp only;rw[if_pos ⟨m1,l1⟩,l2,ih];rfl
theorem Lists.all (h:Lists bs P L){c:Nat}(hc:c<22) (hl:(L c).length<=1024):afL bs c=some (L c):=by
 have hlen:=h.len;unfold afL;rw[if_neg (by omega),h.head c hc,h.bit c hc];have e:(!(L c).isEmpty)=decide ((L c).headD 0≠0):=by
  cases hL:L c with
  | nil=>rfl
  | cons o r=>
   obtain⟨_,x,hx,e,_⟩:=h.member hc (o:=o) (by rw[hL];simp);have hf:=h.st.facts hx;have:o≠0:=by omega
   simp[this]
 rw[if_neg (by rw[e];simp)];exact ai3 h hc (L c) 1024 0 (fun _ h=>h) hl (h.links c hc)
end
theorem aeq (bs:List UInt8) (q v p:Nat) (h:q+8<=bs.length) (hv:v<18446744073709551616) (hp:p%8=0) (hq:q%8=0):aai (lyN bs q v) p=if p=q then v else aai bs p:=by
 by_cases e:p=q
 · rw[if_pos e,e];exact abK bs q v h hv
 · rw[if_neg e];exact abh bs q v p h (by omega)
theorem al4 (bs:List UInt8) (c:Nat) (hc:c<22) (hl:184<=bs.length):
 (acV bs c).length=bs.length/\(∀p,p%8=0->p≠0->aai (acV bs c) p=aai bs p)/\(∀d,acF (aai (acV bs c) 0) d=if d=c then decide (aai bs (8+8*c)≠0) else acF (aai bs 0) d)/\
 (∀P,Stands bs P->Stands (acV bs c) P)/\∀i,8<=i->(acV bs c)[i]?=bs[i]?:=by
 have hw:=abd bs 0;unfold acV;by_cases h1:acF (aai bs 0) c=true/\aai bs (8+8*c)=0
 · rw[if_pos h1];have hv:aai bs 0-2^c<18446744073709551616:=Nat.lt_of_le_of_lt (Nat.sub_le _ _) hw;refine⟨aap _ _ _ (by omega),fun p hp h0=> ?_,fun d=> ?_,fun P hP=>hP.lay 0 _ (.inl (by omega)) hl,fun i hi=>afp _ _ _ _ (by omega) (by omega)⟩
   · rw[aeq _ _ _ _ (by omega) hv hp rfl,if_neg h0]
   · rw[abK _ _ _ (by omega) hv,ak5 _ _ h1.1,h1.2];simp
 · rw[if_neg h1];by_cases h2:acF (aai bs 0) c=false/\aai bs (8+8*c)≠0
   · rw[if_pos h2];have hv:=aj8 (aai bs 0) c (by omega) hw h2.1;refine⟨aap _ _ _ (by omega),fun p hp h0=> ?_,fun d=> ?_,fun P hP=>hP.lay 0 _ (.inl (by omega)) hl,fun i hi=>afp _ _ _ _ (by omega) (by omega)⟩
     · rw[aeq _ _ _ _ (by omega) hv hp rfl,if_neg h0]
     · rw[abK _ _ _ (by omega) hv,ah2 _ _ h2.1];simp[h2.2]
   · rw[if_neg h2];refine⟨rfl,fun _ _ _=>rfl,fun d=> ?_,fun P hP=>hP,fun _ _=>rfl⟩;by_cases hd:d=c
     · rw[if_pos hd,hd]
       cases hb:acF (aai bs 0) c with
       | true=>
        have:aai bs (8+8*c)≠0:=fun e=>h1 ⟨hb,e⟩;simp[this]
       | false=>
        have:aai bs (8+8*c)=0:=by
         rcases Nat.eq_zero_or_pos (aai bs (8+8*c))with e | e
         · exact e
         · exact absurd ⟨hb,by omega⟩ h2
        simp[this]
     · rw[if_neg hd]
def Kept (P:List Bk) (bs bs':List UInt8):Prop:=∀i,184<=i->(∀y∈P,y.used=false->i<y.off+8\/y.off+24<=i)->bs'[i]?=bs[i]?
theorem Kept.refl (P:List Bk) (bs:List UInt8):Kept P bs bs:=fun _ _ _=>rfl
theorem Kept.trans{P:List Bk}{b1 b2 b3:List UInt8}(h:Kept P b1 b2) (k:Kept P b2 b3):Kept P b1 b3:=fun i h1 h2=>(k i h1 h2).trans (h i h1 h2)
theorem Kept.ly (P:List Bk) (bs:List UInt8) (q v:Nat) (h:q+8<=bs.length) (hq:q+8<=184\/∃y∈P,y.used=false/\(q=y.off+8\/q=y.off+16)):Kept P bs (lyN bs q v):=fun i h1 h2=>by
 refine afp _ _ _ _ h ?_;rcases hq with hq | ⟨y,hy,hu,hq⟩
 · omega
 · have:=h2 y hy hu;omega
def ahg (L:Nat->List Nat) (c:Nat) (l:List Nat) (d:Nat):List Nat:=if d=c then l else L d
section
variable {bs:List UInt8} {P:List Bk} {L:Nat->List Nat}
theorem acb{x:Bk}(hs:aa3 (x.size:Int)=true):∃c:Nat,aaw (x.size:Int)=(c:Int)/\c<22:=by
 have h1:=ady (x.size:Int);have h2:¬aaw (x.size:Int)<0:=by rw[aha];simp[hs]
 exact⟨(aaw (x.size:Int)).toNat,by omega,by omega⟩
theorem Lists.put (h:Lists bs P L){x:Bk}(hx:x∈P) (hu:x.used=false){c:Nat}(hc:aaw (x.size:Int)=(c:Int)) (hc22:c<22) (hn:x.off∉L c):
 ∃bs',ai2 bs (x.off:Int)=some bs'/\Lists bs' P (ahg L c (x.off::L c))/\bs'.length=bs.length/\Kept P bs bs':=by
 have hf:=h.st.facts hx;have hlen:=h.len;have hsm:=h.small;have hfr:acl bs (x.off:Int)=(c:Int):=by unfold acl;rw[h.st.at_ x hx];simp[hu,hc]
 have hhead:=h.head c hc22;obtain⟨f,hfe⟩:=nmE (aai bs (8+8*c));have hflt:f<18446744073709551616:=by rw[<-hfe];exact abd _ _
 rw[hfe]at hhead;have hcase:(L c= []/\f=0)\/∃y∈P,∃r,L c=f::r/\y.off=f/\y.used=false/\aaz bs f (c:Int)=true:=by
  cases hL:L c with
  | nil=>left;rw[hL]at hhead;exact⟨rfl,hhead⟩
  | cons o r=>
   right;rw[hL]at hhead;obtain rfl:f=o:=hhead;obtain⟨m1,y,hy,e,yu,_⟩:=h.member hc22 (o:=f) (by rw[hL];simp);exact⟨y,hy,r,rfl,e,yu,m1⟩
 have hput:ai2 bs (x.off:Int)=some (acV (lyN (if f≠0 then lyN (lyN (lyN bs (x.off+8) f) (x.off+16) 0) (f+16) x.off else lyN (lyN bs (x.off+8) f) (x.off+16) 0) (8+8*c) x.off) c):=by
  unfold ai2;rw[hfr,if_neg (by omega)];simp only[Int.toNat_natCast,hfe];rw[if_neg];rintro(e | ⟨e1,e2⟩)
  · rcases hcase with⟨_,e0⟩ | ⟨y,hy,r,hL,_⟩
    · omega
    · exact hn (by rw[hL,show x.off=f by omega];simp)
  · rcases hcase with⟨_,e0⟩ | ⟨y,hy,r,hL,_,_,m⟩
    · exact e1 e0
    · rw[m]at e2;cases e2
 obtain⟨b1,hb1⟩:=nmE (lyN (lyN bs (x.off+8) f) (x.off+16) 0);have l0:(lyN bs (x.off+8) f).length=bs.length:=aap _ _ _ (by omega);have l1:b1.length=bs.length:=by rw[<-hb1,aap _ _ _ (by omega)];exact l0
 have st1:Stands b1 P:=by
  rw[<-hb1];exact(h.st.lay (x.off+8) f (.inr ⟨x,hx,by omega,by omega⟩) hlen).lay _ _ (.inr ⟨x,hx,by omega,by omega⟩) (by omega)
 have w1:∀p,p%8=0->aai b1 p=if p=x.off+16 then 0 else if p=x.off+8 then f else aai bs p:=fun p hp=>by
  rw[<-hb1,aeq _ _ _ _ (by omega) (by omega) hp (by omega),aeq _ _ _ _ (by omega) hflt hp (by omega)]
 have k1:Kept P bs b1:=by
  rw[<-hb1];exact(Kept.ly P bs _ _ (by omega) (.inr ⟨x,hx,hu, .inl rfl⟩)).trans (Kept.ly P _ _ _ (by omega) (.inr ⟨x,hx,hu, .inr rfl⟩))
 rw[hb1]at hput;obtain⟨b2,hb2⟩:=nmE ((if f≠0 then lyN b1 (f+16) x.off else b1));have hb2f:b2.length=bs.length/\Stands b2 P/\(∀p,p%8=0->aai b2 p=if f≠0/\p=f+16 then x.off else aai b1 p)/\Kept P b1 b2:=by
  rcases hcase with⟨_,e0⟩ | ⟨y,hy,r,hL,hyf,hyu,_⟩
  · rw[if_neg (by omega)]at hb2;subst hb2;exact⟨l1,st1,fun p _=>by rw[if_neg (by omega)],Kept.refl _ _⟩
  · have hy':=h.st.facts hy;rw[if_pos (by omega)]at hb2;subst hb2;refine⟨by rw[aap _ _ _ (by omega)];exact l1,st1.lay _ _ (.inr ⟨y,hy,by omega,by omega⟩) (by omega),fun p hp=> ?_,Kept.ly P _ _ _ (by omega) (.inr ⟨y,hy,hyu, .inr (by omega)⟩)⟩;rw[aeq _ _ _ _ (by omega) (by omega) hp (by omega)];by_cases e:p=f+16
    · rw[if_pos e,if_pos ⟨by omega,e⟩]
    · rw[if_neg e,if_neg (fun h=>e h.2)]
 obtain⟨l2,st2,w2,k2⟩:=hb2f;rw[hb2]at hput;obtain⟨b3,hb3⟩:=nmE (lyN b2 (8+8*c) x.off);have l3:b3.length=bs.length:=by rw[<-hb3,aap _ _ _ (by omega)];exact l2
 have st3:Stands b3 P:=by rw[<-hb3];exact st2.lay _ _ (.inl (by omega)) (by omega)
 have w3:∀p,p%8=0->aai b3 p=if p=8+8*c then x.off else aai b2 p:=fun p hp=>by
  rw[<-hb3,aeq _ _ _ _ (by omega) (by omega) hp (by omega)]
 have k3:Kept P b2 b3:=by rw[<-hb3];exact Kept.ly P _ _ _ (by omega) (.inl (by omega))
 rw[hb3]at hput;obtain⟨m1,m2,m3,m4,m5⟩:=al4 b3 c hc22 (by omega);refine⟨_,hput,⟨by omega,by omega,m4 P st3,fun d hd=> ?_,fun d hd=> ?_,fun d hd o ho=> ?_,fun d hd=> ?_,fun d hd=> ?_⟩,by omega,((k1.trans k2).trans k3).trans fun i h1 _=>m5 i (by omega)⟩
 ·
  rw[m2 _ (by omega) (by omega),w3 _ (by omega)];unfold ahg;by_cases hdc:d=c
  · rw[if_pos (by omega),if_pos hdc];rfl
  · rw[if_neg (by omega),if_neg hdc,w2 _ (by omega),<-h.head d hd];have hn1:¬(f≠0/\8+8*d=f+16):=by
     rintro⟨h1,h2⟩;rcases hcase with⟨_,e0⟩ | ⟨y,hy,_,_,hyf,_⟩
     · exact h1 e0
     · have:=h.st.facts hy;omega
    rw[if_neg hn1,w1 _ (by omega),if_neg (by omega),if_neg (by omega)]
 ·
  rw[m3 d];unfold ahg;by_cases hdc:d=c
  · rw[if_pos hdc,if_pos hdc,w3 _ (by omega),if_pos rfl];have:x.off≠0:=by omega
    simp[this]
  · rw[if_neg hdc,if_neg hdc,<-h.bit d hd,w3 _ rfl,if_neg (by omega),w2 _ rfl];have hn1:¬(f≠0/\0=f+16):=by omega
    rw[if_neg hn1,w1 _ rfl,if_neg (by omega),if_neg (by omega)]
 ·
  unfold ahg at ho;by_cases hdc:d=c
  · subst hdc;rw[if_pos rfl]at ho;rcases List.mem_cons.1 ho with rfl | ho
    · exact⟨x,hx,rfl,hu,hc⟩
    · exact h.mem d hd o ho
  · rw[if_neg hdc]at ho;exact h.mem d hd o ho
 ·
  have hw:∀o,(∃y∈P,y.off=o/\o≠x.off)->∀k,k=8\/k=16->aai (acV b3 c) (o+k)=if f≠0/\o=f/\k=16 then x.off else aai bs (o+k):=by
   rintro o ⟨y,hy,rfl,hne⟩ k hk;have hy':=h.st.facts hy;have hap:=h.st.apart x hx y hy;have hne2:y.off+k≠x.off+8/\y.off+k≠x.off+16:=by
    rcases hap with e | e | e
    · rw[e]at hne;exact absurd rfl hne
    · omega
    · omega
   rw[m2 _ (by omega) (by omega),w3 _ (by omega),if_neg (by omega),w2 _ (by omega),w1 _ (by omega),if_neg hne2.2,if_neg hne2.1];by_cases e:f≠0/\y.off=f/\k=16
   · rw[if_pos e,if_pos ⟨e.1,by omega⟩]
   · rw[if_neg e,if_neg];rintro⟨e1,e2⟩;rcases hcase with⟨_,e0⟩ | ⟨z,hz,r,hL,hzf,_⟩
     · exact e1 e0
     · have hz':=h.st.facts hz;refine e ⟨e1,?_,?_⟩
       · omega
       · omega
  unfold ahg;by_cases hdc:d=c
  · subst hdc;rw[if_pos rfl];refine⟨?_,?_,?_⟩
    · rw[m2 _ (by omega) (by omega),w3 _ (by omega),if_neg (by omega),w2 _ (by omega)];rw[if_neg (by
       rintro⟨e1,e2⟩;rcases hcase with⟨_,e0⟩ | ⟨z,hz,r,hL,hzf,_⟩
       · exact e1 e0
       · exact hn (by rw[hL,show x.off=f by omega];simp)),w1 _ (by omega),if_pos rfl]
    · rw[m2 _ (by omega) (by omega),w3 _ (by omega),if_neg (by omega),w2 _ (by omega)];rw[if_neg (by
       rintro⟨e1,e2⟩;rcases hcase with⟨_,e0⟩ | ⟨z,hz,r,hL,hzf,_⟩
       · exact e1 e0
       · have hz':=h.st.facts hz;have hap:=h.st.apart x hx z hz;rcases hap with e | e | e
         · rw[e]at e2;omega
         · omega
         · omega),w1 _ (by omega),if_neg (by omega),if_pos rfl]
      rw[hhead]
    · have hl:=h.links d hd
      cases hL:L d with
      | nil=>trivial
      | cons o r=>
       rw[hL]at hl hhead;obtain rfl:f=o:=hhead;obtain⟨_,l2',l3'⟩:=hl;have hof:∃y∈P,y.off=f/\f≠x.off:=by
        obtain⟨y,hy,e,_⟩:=h.mem d hd f (by rw[hL];simp);exact⟨y,hy,e,fun e2=>hn (by rw[hL,e2];simp)⟩
       have hf0:f≠0:=by
        obtain⟨y,hy,e,_⟩:=hof;have:=h.st.facts hy;omega
       refine⟨?_,?_,?_⟩
       · rw[hw f hof 16 (.inr rfl),if_pos ⟨hf0,rfl,rfl⟩]
       · rw[hw f hof 8 (.inl rfl),if_neg (by omega)];exact l2'
       · refine afr r _ _ (fun q hq=> ?_) l3';have hnd:=h.nodup d hd;rw[hL]at hnd;have hqf:q≠f:=fun e=>(List.nodup_cons.1 hnd).1 (e▸hq);have hqo:∃y∈P,y.off=q/\q≠x.off:=by
          obtain⟨y,hy,e,_⟩:=h.mem d hd q (by rw[hL];simp[hq]);exact⟨y,hy,e,fun e2=>hn (by rw[hL,<-e2];simp[hq])⟩
         rw[hw q hqo 16 (.inr rfl),hw q hqo 8 (.inl rfl),if_neg (by omega),if_neg (by omega)];exact⟨rfl,rfl⟩
  · rw[if_neg hdc];refine afr (L d) _ _ (fun q hq=> ?_) (h.links d hd);obtain⟨y,hy,e,_,hcl⟩:=h.mem d hd q hq;have hqx:q≠x.off:=fun e2=>by
     have:=h.st.uniq hy hx (by omega);subst this;rw[hc]at hcl;omega
    have hqf:¬(f≠0/\q=f/\(16:Nat)=16):=by
     rintro⟨e1,e2,_⟩;rcases hcase with⟨_,e0⟩ | ⟨z,hz,r,hL,hzf,_⟩
     · exact e1 e0
     · obtain⟨z2,hz2,e3,_,hcl2⟩:=h.mem c hc22 f (by rw[hL];simp);have:=h.st.uniq hy hz2 (by omega);subst this;rw[hcl]at hcl2;omega
    rw[hw q ⟨y,hy,e,hqx⟩ 16 (.inr rfl),hw q ⟨y,hy,e,hqx⟩ 8 (.inl rfl),if_neg hqf,if_neg (by omega)];exact⟨rfl,rfl⟩
 · unfold ahg;by_cases hdc:d=c
   · subst hdc;rw[if_pos rfl];exact List.nodup_cons.2 ⟨hn,h.nodup d hd⟩
   · rw[if_neg hdc];exact h.nodup d hd
end
theorem ad2 (w c:Nat):acF w c=w.testBit c:=by
 unfold acF;rw[Nat.testBit_eq_decide_div_mod_eq,Bool.eq_iff_iff,beq_iff_eq,decide_eq_true_eq]
theorem aj9 (c:Nat) (hc:c<22):2^c<=2097152:=Nat.pow_le_pow_right (n:=2) (by decide) (show c<=21 by omega)
def aeU (v c:Nat) (b:Bool):Nat:=if b then (if acF v c then v else v+2^c) else (if acF v c then v-2^c else v)
theorem ah4 (v c:Nat) (hc:c<22) (hv:v<18446744073709551616) (b:Bool):aeU v c b<18446744073709551616:=by
 unfold aeU
 cases hb:acF v c with
 | true=>
  have:=Nat.sub_le v (2^c)
  cases b<;>simp<;>omega
 | false=>
  have:=aj8 v c (by omega) hv hb
  cases b<;>simp<;>omega
theorem anq (v c:Nat):acF (aeU v c false) c=false:=by
 unfold aeU
 cases hb:acF v c with
 | true=>simpa using afq v c hb
 | false=>simpa using hb
theorem apv (v c:Nat):aeU v c true=aeU v c false+2^c:=by
 unfold aeU
 cases hb:acF v c with
 | true=>
  have:=ah3 v c hb;simp;omega
 | false=>simp
theorem arv (v c:Nat) (hv:v<18446744073709551616) (hc:c<22):(bits .and .u64 (v:Int) ((2^c:Nat):Int) !=0)=acF v c:=by
 have hp:0<2^c:=Nat.two_pow_pos c;rw[u64_and_nat v (2^c) hv (by have:=aj9 c hc;omega),nat_bit];unfold acF;have h:v/2^c%2=0\/v/2^c%2=1:=by omega
 rcases h with h | h
 · rw[h];simp
 · rw[h,Nat.one_mul,Bool.eq_iff_iff,bne_iff_ne];simp only[beq_self_eq_true,iff_true];omega
theorem ahh (v c:Nat) (hv:v<18446744073709551616) (hc:c<22):bits .andNot .u64 (v:Int) ((2^c:Nat):Int)=(aeU v c false:Int):=by
 have h22:=aj9 c hc;rw[u64_andNot_nat v (2^c) hv (by omega)];refine congrArg Int.ofNat (Nat.eq_of_testBit_eq fun d=> ?_);have e:18446744073709551615-2^c=2^64-(2^c+1):=by omega
 rw[Nat.testBit_and,e,Nat.testBit_two_pow_sub_succ (by omega),Nat.testBit_two_pow];unfold aeU;have hbig:64<=d->v.testBit d=false:=fun h=>Nat.testBit_lt_two_pow (Nat.lt_of_lt_of_le hv (Nat.pow_le_pow_right (n:=2) (by decide) h))
 cases hb:acF v c with
 | true=>
  have h2:=ak5 v c hb d;rw[ad2,ad2]at h2;simp only[if_true,Bool.false_eq_true,if_false];rw[h2];by_cases hd:d=c
  · rw[if_pos hd,hd];simp
  · rw[if_neg hd];by_cases h64:d<64
    · simp[h64,Ne.symm hd]
    · rw[hbig (by omega)];simp
 | false=>
  simp only[Bool.false_eq_true,if_false];by_cases hd:d=c
  · rw[ad2]at hb;rw[hd,hb];simp
  · by_cases h64:d<64
    · simp[h64,Ne.symm hd]
    · rw[hbig (by omega)];simp
theorem ass (v c:Nat) (hv:v<18446744073709551616) (hc:c<22) (hb:acF v c=false):bits .or .u64 (v:Int) ((2^c:Nat):Int)=((v+2^c:Nat):Int):=by
 have h22:=aj9 c hc;rw[u64_or_nat v (2^c) hv (by omega)];refine congrArg Int.ofNat (Nat.eq_of_testBit_eq fun d=> ?_);have h2:=ah2 v c hb d;rw[ad2,ad2]at h2;rw[Nat.testBit_or,Nat.testBit_two_pow,h2];by_cases hd:d=c
 · rw[if_pos hd,hd];simp
 · rw[if_neg hd];simp[Ne.symm hd]
theorem apw (bs:List UInt8) (o:Nat) (h:o+8<=bs.length):lyN bs o (aai bs o)=bs:=by
 have e:aat 8 (abC ((bs.drop o).take 8))=(bs.drop o).take 8:=by
  have:=agc ((bs.drop o).take 8);rwa [List.length_take,List.length_drop,Nat.min_eq_left (by omega)]at this
 unfold lyN aai;rw[e,<-List.drop_drop,List.take_append_drop,List.take_append_drop]
theorem ak6 (bs:List UInt8) (c:Nat) (hl:8<=bs.length):acV bs c=lyN bs 0 (aeU (aai bs 0) c (decide (aai bs (8+8*c)≠0))):=by
 have hs:=apw bs 0 (by omega);unfold acV aeU;by_cases h0:aai bs (8+8*c)=0
 · cases hb:acF (aai bs 0) c<;>simp[h0,hs]
 · cases hb:acF (aai bs 0) c<;>simp[h0,hs]
theorem ai4 (bs:List UInt8) (p c:Nat):aaz bs p (c:Int)=(decide (p<=20000)&&(acl bs (p:Int)==(c:Int))):=by
 unfold aaz acl;congr 1
 cases hg:abV bs (p:Int)with
 | none=>simp
 | some x=>
  cases hu:x.used with
  | true=>simp[hu]
  | false=>simp[hu]
def ai5 (bs:List UInt8) (c v k u:Nat):Bool:=aaz bs v (c:Int)&&(aai bs (v+k)==u)
theorem adm{bs:List UInt8}{p c:Nat}(h:aaz bs p (c:Int)=true):184<=p/\p+32<=bs.length:=by
 unfold aaz at h
 cases hg:abV bs (p:Int)with
 | none=>rw[hg]at h;simp at h
 | some y=>
  obtain⟨r1,r2,_,r3,r4,_⟩:=aa2 hg;have:=(aae _).1 r4;omega
theorem aer{bs:List UInt8}{o:Int}{c:Nat}(h:acl bs o=(c:Int)):184<=o/\o+32<=bs.length/\c<22:=by
 unfold acl at h
 cases hg:abV bs o with
 | none=>rw[hg]at h;dsimp only at h;omega
 | some y=>
  obtain⟨r1,r2,_,r3,r4,_⟩:=aa2 hg;have:=(aae _).1 r4;obtain⟨d,hd,hd2⟩:=acb r4;rw[hg]at h;dsimp only at h;split at h<;>omega
theorem agk (bs:List UInt8) (o:Int):acl bs o<0\/∃c:Nat,acl bs o=(c:Int):=by
 by_cases h:acl bs o<0
 · exact .inl h
 · exact .inr ⟨(acl bs o).toNat,by omega⟩
def anr (x:Bk):Nat:=ab0 (x.size:Int) x.used
def ac6 (bs:List UInt8) (x:Bk):List UInt8:=lyN (lyN bs x.off (anr x)) (x.off+x.size-8) (anr x)
def ahi (bs:List UInt8) (l:List Bk):List UInt8:=l.foldl ac6 bs
def ach:Nat->List Bk->Nat->Prop
 | o,[],e=>o=e
 | o,x::r,e=>x.off=o/\aa3 (x.size:Int)=true/\ach (o+x.size) r e
theorem aau:∀(l:List Bk) (o e:Nat),ach o l e->o<=e/\∀x∈l,o<=x.off/\x.off+x.size<=e/\aa3 (x.size:Int)=true/\x.off%16=o%16
 | [],o,e,h=>⟨Nat.le_of_eq h,fun x hx=>by cases hx⟩
 | y::r,o,e,⟨h1,h2,h3⟩=>by
  obtain⟨q,h⟩:=aau r _ e h3;have hs:=(aae _).1 h2;refine⟨by omega,fun x hx=> ?_⟩;rcases List.mem_cons.1 hx with rfl | hx
  · exact⟨by omega,by omega,h2,by omega⟩
  · obtain⟨a,b,c,d⟩:=h x hx;exact⟨by omega,b,c,by omega⟩
theorem ai6:∀(l:List Bk) (o e:Nat) (x:Bk),ach o l e->x.off=e->aa3 (x.size:Int)=true->ach o (l++ [x]) (e+x.size)
 | [],o,e,x,h,h1,h2=>⟨by rw[h1];exact h.symm,h2,by have:o=e:=h;rw[this];rfl⟩
 | y::r,o,e,x,⟨a,b,c⟩,h1,h2=>⟨a,b,ai6 r _ e x c h1 h2⟩
theorem abz:∀(l:List Bk) (o e:Nat),ach o l e->∀x∈l,∀y∈l,x=y\/x.off+x.size<=y.off\/y.off+y.size<=x.off
 | [],_,_,_,x,hx,_,_=>by cases hx
 | z::r,o,e,⟨h1,h2,h3⟩,x,hx,y,hy=>by
  have hm:=(aau r _ e h3).2;rcases List.mem_cons.1 hx with rfl | hx'
  · rcases List.mem_cons.1 hy with rfl | hy'
    · exact .inl rfl
    · have:=hm y hy';exact .inr (.inl (by omega))
  · rcases List.mem_cons.1 hy with rfl | hy'
    · have:=hm x hx';exact .inr (.inr (by omega))
    · exact abz r _ e h3 x hx' y hy'
section
variable {bs:List UInt8} {x y:Bk}
theorem adD (hs:aa3 (x.size:Int)=true) (h:x.off+x.size<=bs.length):(ac6 bs x).length=bs.length:=by
 have hs:=(aae _).1 hs;have e:=aap bs x.off (anr x) (by omega);unfold ac6;rw[aap _ _ _ (by omega),e]
theorem acW (hs:aa3 (x.size:Int)=true) (h:x.off+x.size<=bs.length) (p:Nat) (hp:p+8<=x.off\/x.off+x.size<=p\/(x.off+8<=p/\p+8<=x.off+x.size-8)):aai (ac6 bs x) p=aai bs p:=by
 have hs:=(aae _).1 hs;have e:=aap bs x.off (anr x) (by omega);unfold ac6;rw[abh _ _ _ _ (by omega) (by omega),abh _ _ _ _ (by omega) (by omega)]
theorem ans (h1:184<=x.off) (h2:x.off%16=8) (h3:x.off+x.size<=bs.length) (hs:aa3 (x.size:Int)=true):abV (ac6 bs x) (x.off:Int)=some x:=by
 have q:=(aae _).1 hs;have e:=aap bs x.off (anr x) (by omega);have ht:anr x<18446744073709551616:=by have:=aeQ (x.size:Int) x.used;unfold anr;omega
 have w1:aai (ac6 bs x) x.off=anr x:=by
  unfold ac6;rw[abh _ _ _ _ (by omega) (by omega),abK _ _ _ (by omega) ht]
 have w2:aai (ac6 bs x) (x.off+x.size-8)=anr x:=by
  unfold ac6;rw[abK _ _ _ (by omega) ht]
 refine anp h1 h2 (by rw[adD hs h3];exact h3) ?_ (by rw[w1,w2]);rw[w1];unfold anr;rw[afn hs];rfl
theorem ant (hs:aa3 (x.size:Int)=true) (h:x.off+x.size<=bs.length) (hy:abV bs (y.off:Int)=some y) (hd:y.off+y.size<=x.off\/x.off+x.size<=y.off):abV (ac6 bs x) (y.off:Int)=some y:=by
 obtain⟨_,_,_,g3,g4,_⟩:=aa2 hy;have q:=(aae _).1 g4;exact ab6 bs _ y (adD hs h) hy (acW hs h _ (by omega)) (acW hs h _ (by omega))
end
theorem agl:∀(l:List Bk) (bs:List UInt8) (o e:Nat),184<=o->o%16=8->ach o l e->e<=bs.length->
 (ahi bs l).length=bs.length/\(∀x∈l,abV (ahi bs l) (x.off:Int)=some x)/\
 (∀y,abV bs (y.off:Int)=some y->y.off+y.size<=o\/e<=y.off->abV (ahi bs l) (y.off:Int)=some y)/\
 (∀p,p+8<=o\/e<=p\/(∃x∈l,x.off+8<=p/\p+8<=x.off+x.size-8)->aai (ahi bs l) p=aai bs p)
 | [],bs,o,e,_,_,_,_=>⟨rfl,fun x hx=>(by cases hx),fun _ hy _=>hy,fun _ _=>rfl⟩
 | z::r,bs,o,e,ho,ho2,⟨h1,h2,h3⟩,he=>by
  have q:=(aae _).1 h2;obtain⟨hoe,hm⟩:=aau r _ e h3;have hz:z.off+z.size<=bs.length:=by omega
  have el:=adD h2 hz;obtain⟨i1,i2,i3,i4⟩:=agl r (ac6 bs z) (o+z.size) e (by omega) (by omega) h3 (by omega);have eq:ahi bs (z::r)=ahi (ac6 bs z) r:=rfl;rw[eq];refine⟨i1.trans el,fun x hx=> ?_,fun y hy hd=> ?_,fun p hp=> ?_⟩
  · rcases List.mem_cons.1 hx with rfl | hx
    · exact i3 x (ans (by omega) (by omega) hz h2) (.inl (by omega))
    · exact i2 x hx
  · obtain⟨_,_,_,g3,g4,_⟩:=aa2 hy;have q2:=(aae _).1 g4;exact i3 y (ant h2 hz hy (by omega)) (by omega)
  · rcases hp with hp | hp | ⟨x,hx,a,b⟩
    · rw[i4 p (.inl (by omega)),acW h2 hz p (.inl (by omega))]
    · rw[i4 p (.inr (.inl hp)),acW h2 hz p (.inr (.inl (by omega)))]
    · rcases List.mem_cons.1 hx with rfl | hx
      · rw[i4 p (.inl (by omega)),acW h2 hz p (.inr (.inr ⟨a,b⟩))]
      · have:=hm x hx;rw[i4 p (.inr (.inr ⟨x,hx,a,b⟩)),acW h2 hz p (.inr (.inl (by omega)))]
theorem ahj (bs:List UInt8):∀(l:List Bk) (o k:Nat),ach o l bs.length->(∀x∈l,abV bs (x.off:Int)=some x)->bs.length<o+k->adl bs k o=some l
 | [],o,k,h,_,hk=>by
  have h:o=bs.length:=h;obtain⟨k,rfl⟩:∃k',k=k'+1:=⟨k-1,by omega⟩;unfold adl;rw[if_neg (by omega)]
 | x::r,o,k,⟨h1,h2,h3⟩,hg,hk=>by
  have q:=(aae _).1 h2;have hoe:=(aau r _ _ h3).1;obtain⟨k,rfl⟩:∃k',k=k'+1:=⟨k-1,by omega⟩;unfold adl;rw[if_pos (by omega),<-h1,hg x (by simp)];dsimp only;rw[h1,ahj bs r (o+x.size) k h3 (fun y hy=>hg y (by simp[hy])) (by omega)];rfl
theorem adn{bs:List UInt8}{l:List Bk}(h:ach 184 l bs.length) (hg:∀x∈l,abV bs (x.off:Int)=some x):abJ bs=some l:=by
 have:=(aau l _ _ h).1;unfold abJ;rw[if_neg (by omega)];exact ahj bs l 184 _ h hg (by omega)
theorem agm (bs:List UInt8):∀(k o:Nat) (l:List Bk),o<=bs.length->adl bs k o=some l->ach o l bs.length/\∀x∈l,abV bs (x.off:Int)=some x
 | 0,_,_,_,h=>by cases h
 | k+1,o,l,ho,h=>by
  unfold adl at h;by_cases hlt:o<bs.length
  · rw[if_pos hlt]at h
    cases hg:abV bs (o:Int)with
    | none=>rw[hg]at h;cases h
    | some y=>
     rw[hg]at h;dsimp only at h;obtain⟨g0,_,_,g3,g4,_⟩:=aa2 hg;have g0:y.off=o:=by omega
     cases hr:adl bs k (o+y.size)with
     | none=>rw[hr]at h;cases h
     | some r=>
      rw[hr]at h;injection h with h;subst h;obtain⟨i1,i2⟩:=agm bs k _ r (by omega) hr;refine⟨⟨g0,g4,i1⟩,fun x hx=> ?_⟩;rcases List.mem_cons.1 hx with rfl | hx
      · rw[g0];exact hg
      · exact i2 x hx
  · rw[if_neg hlt]at h;injection h with h;subst h;exact⟨by show o=bs.length;omega,fun x hx=>by cases hx⟩
theorem aaC{bs:List UInt8}{l:List Bk}(h:abJ bs=some l):184<=bs.length/\ach 184 l bs.length/\∀x∈l,abV bs (x.off:Int)=some x:=by
 unfold abJ at h;split at h
 · cases h
 · exact⟨by omega,agm bs _ _ l (by omega) h⟩
theorem aes{bs:List UInt8}{P:List Bk}(hl:184<=bs.length) (hm:bs.length<=16384) (hst:Stands bs P) (hz:∀p,p+8<=184->p%8=0->aai bs p=0):Lists bs P (fun _=> []) where
 len:=hl
 small:=hm
 st:=hst
 head:=fun c hc=>by rw[hz _ (by omega) (by omega)];rfl
 bit:=fun c hc=>by
  rw[hz 0 (by omega) rfl];have:∀c,acF 0 c=false:=fun c=>by unfold acF;simp
  rw[this];rfl
 mem:=fun c _ o ho=>by cases ho
 links:=fun c _=>trivial
 nodup:=fun c _=>List.nodup_nil
def szB (bs:List UInt8) (o:Nat):Nat:=match abV bs (o:Int)with
 | some x=>x.size
 | none=>0
theorem aqY{bs:List UInt8}{o:Nat}{x:Bk}(h:abV bs (o:Int)=some x):szB bs o=x.size:=by
 unfold szB;rw[h]
def ag2 (bs:List UInt8) (s:Int):Nat->Nat->Option Nat
 | 0,_=>some 0
 | k+1,c=>match afL bs c with
  | none=>none
  | some l=>match l.find? (fun o=>decide (s<=(szB bs o:Int)))with
   | some o=>some o
   | none=>ag2 bs s k (c+1)
def anu (bs:List UInt8) (s:Int):Option Nat:=ag2 bs s (22-(aaw s).toNat) (aaw s).toNat
def afV (out:List UInt8) (x:Bk):List UInt8:=if x.used=true then out else (ai2 out (x.off:Int)).getD out
def abW (bs:List UInt8):Option (List UInt8):=(abJ bs).map fun l=>l.foldl afV (List.replicate 184 0++bs.drop 184)
def abL (l:List Bk) (c:Nat):List Nat:=(l.reverse.filter fun x=> !x.used&&aaw (x.size:Int)==(c:Int)).map Bk.off
theorem aet (l:List Bk) (x:Bk) (c:Nat):abL (l++ [x]) c=if x.used=false/\aaw (x.size:Int)=(c:Int) then x.off::abL l c else abL l c:=by
 unfold abL;rw[List.reverse_append,List.reverse_singleton,List.singleton_append,List.filter_cons];by_cases h:x.used=false/\aaw (x.size:Int)=(c:Int)
 · rw[if_pos h,if_pos (by simp[h.1,h.2]),List.map_cons]
 · rw[if_neg h,if_neg (by intro h';apply h;simpa using h')]
theorem ad3{l:List Bk}{c o:Nat}(h:o∈abL l c):∃x∈l,x.off=o/\x.used=false/\aaw (x.size:Int)=(c:Int):=by
 unfold abL at h;obtain⟨x,hx,e⟩:=List.mem_map.1 h;obtain⟨h1,h2⟩:=List.mem_filter.1 hx;have h2':x.used=false/\aaw (x.size:Int)=(c:Int):=by simpa using h2
 exact⟨x,List.mem_reverse.1 h1,e,h2'.1,h2'.2⟩
theorem anv{l:List Bk}{c:Nat}{x:Bk}(h:x∈l) (hu:x.used=false) (hc:aaw (x.size:Int)=(c:Int)):x.off∈abL l c:=by
 unfold abL;exact List.mem_map.2 ⟨x,List.mem_filter.2 ⟨List.mem_reverse.2 h,by simp[hu,hc]⟩,rfl⟩
theorem aeV{P:List Bk}:∀(rest done:List Bk) (bs:List UInt8),(∀x∈rest,x∈P)->(done++rest).Pairwise (fun x y=>x.off≠y.off)->Lists bs P (abL done)->
 Lists (rest.foldl afV bs) P (abL (done++rest))/\(rest.foldl afV bs).length=bs.length/\Kept P bs (rest.foldl afV bs)
 | [],done,bs,_,_,h=>by rw[List.append_nil];exact⟨h,rfl,Kept.refl _ _⟩
 | x::r,done,bs,hm,hp,h=>by
  have e:done++x::r=(done++ [x])++r:=by simp
  have hxP:=hm x (by simp);rw[e]at hp ⊢
  cases hu:x.used with
  | true=>
   have e1:afV bs x=bs:=by unfold afV;rw[if_pos hu]
   have e2:abL (done++ [x])=abL done:=by
    funext c;rw[aet,if_neg (by rw[hu];simp)]
   rw[List.foldl_cons,e1];exact aeV r (done++ [x]) bs (fun y hy=>hm y (by simp[hy])) hp (by rw[e2];exact h)
  | false=>
   obtain⟨c,hc,hc22⟩:=acb (h.st.facts hxP).2.2.2.2.2;have hn:x.off∉abL done c:=fun hmem=>by
    obtain⟨y,hy,ey,_⟩:=ad3 hmem;have h1:=(List.pairwise_append.1 (List.pairwise_append.1 hp).1).2.2;exact h1 y hy x (by simp) ey
   obtain⟨bs',q1,q2,q3,q4⟩:=h.put hxP hu hc hc22 hn;have e1:afV bs x=bs':=by unfold afV;rw[if_neg (by rw[hu];simp),q1];rfl
   have e2:ahg (abL done) c (x.off::abL done c)=abL (done++ [x]):=by
    funext d;rw[aet];unfold ahg;by_cases hd:d=c
    · subst hd;rw[if_pos rfl,if_pos ⟨hu,hc⟩]
    · rw[if_neg hd,if_neg (fun h=>hd (by have:=h.2;omega))]
   rw[List.foldl_cons,e1];obtain⟨i1,i2,i3⟩:=aeV r (done++ [x]) bs' (fun y hy=>hm y (by simp[hy])) hp (by rw[<-e2];exact q2);exact⟨i1,i2.trans q3,q4.trans i3⟩
theorem ah5:∀(l:List Bk) (o e:Nat),ach o l e->l.Pairwise (fun x y=>x.off≠y.off)
 | [],_,_,_=>List.Pairwise.nil
 | x::r,o,e,⟨h1,h2,h3⟩=>by
  have q:=(aae _).1 h2;refine List.Pairwise.cons (fun y hy=> ?_) (ah5 r _ e h3);have:=(aau r _ e h3).2 y hy;omega
theorem al5 (n:Nat):abC (List.replicate n 0)=0:=by
 induction n with
 | zero=>rfl
 | succ n ih=>rw[List.replicate_succ];simp[abC,ih]
theorem acm (bs:List UInt8) (n p:Nat) (h:p+8<=n):aai (List.replicate n 0++bs) p=0:=by
 unfold aai;rw[List.drop_append_of_le_length (by simp;omega),List.take_append_of_le_length (by simp;omega),List.drop_replicate,List.take_replicate,al5]
theorem aeW (bs:List UInt8) (n i:Nat) (h:n<=i):(List.replicate n (0:UInt8)++bs.drop n)[i]?=bs[i]?:=by
 rw[List.getElem?_append_right (by simpa using h),List.length_replicate,List.getElem?_drop];congr 1;omega
theorem ag3{bs:List UInt8}{l:List Bk}(h:abJ bs=some l) (hm:bs.length<=16384):
 ∃out,abW bs=some out/\Lists out l (abL l)/\out.length=bs.length/\abJ out=some l:=by
 obtain⟨h184,ht,hg⟩:=aaC h;have hmem:=(aau l _ _ ht).2;have el:(List.replicate 184 (0:UInt8)++bs.drop 184).length=bs.length:=by rw[List.length_append,List.length_replicate,List.length_drop];omega
 have hst:Stands (List.replicate 184 (0:UInt8)++bs.drop 184) l:=by
  refine⟨fun x hx=> ?_,abz l _ _ ht⟩;obtain⟨a,b,c,_⟩:=hmem x hx;have q:=(aae _).1 c;refine ab6 bs _ x el (hg x hx) ?_ ?_
  · exact aaZ _ _ _ fun i h1 _=>aeW bs 184 i (by omega)
  · exact aaZ _ _ _ fun i h1 _=>aeW bs 184 i (by omega)
 have hL:=aes (by rw[el];exact h184) (by rw[el];exact hm) hst (fun p hp _=>acm _ _ _ hp);have e0:(fun _=> [])=abL []:=by funext c;rfl
 rw[e0]at hL;obtain⟨i1,i2,_⟩:=aeV l [] _ (fun x hx=>hx) (by simpa using ah5 l _ _ ht) hL;rw[List.nil_append]at i1;refine⟨_,by unfold abW;rw[h];rfl,i1,i2.trans el,?_⟩;exact adn (by rw[i2,el];exact ht) i1.st.at_
theorem ak7 (bs:List UInt8) (c:Nat):∀(k last p:Nat) (l:List Nat),aeN bs c k last p=some l->l.length<=k
 | 0,last,p,l,h=>by
  unfold aeN at h;split at h
  · injection h with h;subst h;exact Nat.le_refl _
  · cases h
 | k+1,last,p,l,h=>by
  unfold aeN at h;by_cases hp:p=0
  · rw[if_pos hp]at h;injection h with h;subst h;exact Nat.zero_le _
  · rw[if_neg hp]at h;dsimp only at h;by_cases hm:aaz bs p (c:Int)=true/\aai bs (p+16)=last
    · rw[if_pos hm]at h
      cases hr:aeN bs c k p (aai bs (p+8))with
      | none=>rw[hr]at h;cases h
      | some l'=>
       rw[hr]at h;injection h with h;subst h;have:=ak7 bs c k p _ l' hr;rw[List.length_cons];omega
    · rw[if_neg hm]at h;cases h
theorem ak8{bs:List UInt8}{c:Nat}{l:List Nat}(h:afL bs c=some l):l.length<=1024:=by
 unfold afL at h;split at h
 · cases h
 · split at h
   · cases h
   · exact ak7 bs c _ _ _ l h
theorem ai7 (bs:List UInt8):∀(k o:Nat) (l:List Bk),adl bs k o=some l->l.length<=k
 | 0,_,_,h=>by cases h
 | k+1,o,l,h=>by
  unfold adl at h;by_cases hlt:o<bs.length
  · rw[if_pos hlt]at h
    cases hg:abV bs (o:Int)with
    | none=>rw[hg]at h;cases h
    | some y=>
     rw[hg]at h;dsimp only at h
     cases hr:adl bs k (o+y.size)with
     | none=>rw[hr]at h;cases h
     | some r=>
      rw[hr]at h;injection h with h;subst h;have:=ai7 bs k _ r hr;rw[List.length_cons];omega
  · rw[if_neg hlt]at h;injection h with h;subst h;exact Nat.zero_le _
theorem ai8{bs:List UInt8}{l:List Bk}(h:abJ bs=some l):l.length<=bs.length+1:=by
 unfold abJ at h;split at h
 · cases h
 · exact ai7 bs _ _ l h
def abq (l:List Bk):Nat:=l.countP fun x=> !x.used
def ad4 (l:List Bk) (i:Nat):Bool:=match l[i]? with
 | some x=>x.used
 | none=>true
def ad5 (l:List Bk) (i:Nat):Bool:=i==0 || (ad4 l i || ad4 l (i-1))
def aeX (l:List Bk):Bool:=(List.range l.length).all (ad5 l)
def acX (l:List Bk) (o:Nat):Bool:=l.any fun x=>x.off==o&& !x.used
def okO (l:List Bk) (all:List Nat) (o:Nat):Bool:=acX l o&&all.count o==1
def aiN (bs:List UInt8) (l:List Bk):Nat->Nat->Int->Bool
 | 0,_,fr=>fr==0
 | k+1,c,fr=>match afL bs c with
  | none=>false
  | some all=>all.all (okO l all)&&aiN bs l k (c+1) (fr-all.length)
def aci (bs:List UInt8):Bool:=match abJ bs with
 | none=>false
 | some l=>decide (apa bs 0<4194304)&&(aeX l&&aiN bs l 22 0 (abq l))
def ajW (l:List Bk):Nat->Nat->Nat
 | 0,_=>0
 | k+1,c=>(abL l c).length+ajW l k (c+1)
theorem ak9:∀k c,ajW [] k c=0
 | 0,_=>rfl
 | k+1,c=>by
  unfold ajW;rw[ak9 k (c+1)];rfl
theorem ai9 (l:List Bk) (x:Bk):∀k c:Nat,ajW (l++ [x]) k c=ajW l k c+if x.used=false/\(c:Int)<=aaw (x.size:Int)/\aaw (x.size:Int)<(c:Int)+(k:Int) then 1 else 0
 | 0,c=>by
  unfold ajW;rw[if_neg (by omega)]
 | k+1,c=>by
  unfold ajW;rw[ai9 l x k (c+1),aet];by_cases h:x.used=false/\aaw (x.size:Int)=(c:Int)
  · rw[if_pos h,if_neg (by have:=h.2;omega),if_pos ⟨h.1,by have:=h.2;omega,by have:=h.2;omega⟩,List.length_cons];omega
  · rw[if_neg h];by_cases h2:x.used=false/\((c:Int)<=aaw (x.size:Int)/\aaw (x.size:Int)<(c:Int)+((k+1:Nat):Int))
    · have:¬aaw (x.size:Int)=(c:Int):=fun e=>h ⟨h2.1,e⟩;rw[if_pos h2,if_pos ⟨h2.1,by have:=h2.2;omega,by have:=h2.2;omega⟩];omega
    · rw[if_neg h2,if_neg (fun h3=>h2 ⟨h3.1,by have:=h3.2;omega,by have:=h3.2;omega⟩)];omega
theorem apx (l:List Bk) (h:∀x∈l,aa3 (x.size:Int)=true):ajW l 22 0=abq l:=by
 have key:∀(r d:List Bk),(∀x∈r,aa3 (x.size:Int)=true)->ajW d 22 0=abq d->ajW (d++r) 22 0=abq (d++r):=by
  intro r;induction r with
  | nil=>intro d _ hd;rw[List.append_nil];exact hd
  | cons x r ih=>
   intro d hr hd;have e:d++x::r=(d++ [x])++r:=by simp
   rw[e];refine ih (d++ [x]) (fun y hy=>hr y (by simp[hy])) ?_;obtain⟨c,hc,hc22⟩:=acb (hr x (by simp));rw[ai9,hd];unfold abq;rw[List.countP_append]
   cases hu:x.used with
   | true=>rw[if_neg (by simp)];simp[hu]
   | false=>rw[if_pos ⟨rfl,by omega,by omega⟩];simp[hu]
 have:=key l [] h (ak9 22 0);simpa using this
theorem aja (l:List Bk) (c:Nat):(abL l c).length<=l.length:=by
 unfold abL;rw[List.length_map];have:=List.length_filter_le (fun x:Bk=> !x.used&&aaw (x.size:Int)==(c:Int)) l.reverse;rw[List.length_reverse]at this;exact this
theorem ahk{bs:List UInt8}{l:List Bk}(h:Lists bs l (abL l)) (hl:l.length<=1024):∀(k c:Nat) (fr:Int),c+k=22->aiN bs l k c fr=(fr-ajW l k c==0)
 | 0,c,fr,_=>by unfold aiN ajW;simp
 | k+1,c,fr,hc=>by
  have ha:=h.all (c:=c) (by omega) (Nat.le_trans (aja l c) hl);have hok:(abL l c).all (okO l (abL l c))=true:=by
   rw[List.all_eq_true];intro o ho;unfold okO acX;rw[Bool.and_eq_true];constructor
   · rw[List.any_eq_true];obtain⟨x,hx,e,hu,_⟩:=ad3 ho;exact⟨x,hx,by simp[e,hu]⟩
   · rw[List.Nodup.count (h.nodup c (by omega)),if_pos ho];rfl
  unfold aiN;rw[ha];dsimp only;rw[hok,Bool.true_and,ahk h hl k (c+1) _ (by omega)];have e:fr-(ajW l (k+1) c:Nat)=fr-((abL l c).length:Int)-(ajW l k (c+1):Nat):=by
   have:ajW l (k+1) c=(abL l c).length+ajW l k (c+1):=rfl;omega
  rw[e]
theorem ad6{bs:List UInt8}{l:List Bk}(hw:abJ bs=some l) (h:Lists bs l (abL l)) (h0:aai bs 0<4194304):aci bs=aeX l:=by
 obtain⟨h184,ht,hg⟩:=aaC hw;have hm:=aau l _ _ ht;have hlen:l.length<=1024:=by
  have key:∀(l:List Bk) (o e:Nat),ach o l e->l.length*32+o<=e:=by
   intro l;induction l with
   | nil=>intro o e h;have:o=e:=h;simp;omega
   | cons x r ih=>
    rintro o e ⟨a,b,c⟩;have q:=(aae _).1 b;have:=ih _ _ c;rw[List.length_cons];omega
  have:=key l _ _ ht;have:=h.small;omega
 have e0:apa bs 0=aai bs 0:=by unfold apa word?;rw[if_pos (by omega)];rfl
 unfold aci;rw[hw];dsimp only;rw[e0,decide_eq_true h0,Bool.true_and,ahk h hlen 22 0 _ rfl,apx l (fun x hx=>(hm.2 x hx).2.2.1)];have:((abq l:Int)-(abq l:Int)==0)=true:=by rw[Int.sub_self];rfl
 rw[this,Bool.and_true]
theorem aqZ (w c:Nat) (hc:c<22) (h:acF w c=false):(w+2^c)/4194304=w/4194304:=by
 obtain⟨d,hd⟩:∃d,22=c+1+d:=⟨21-c,by omega⟩;have e:4194304=2^(c+1)*2^d:=by rw[<-Nat.pow_add,<-hd]
 have hp:0<2^c:=Nat.two_pow_pos c;have h1:w/2^c%2=0:=by
  unfold acF at h;have:¬w/2^c%2=1:=by simpa using h
  omega
 have key:(w+2^c)/2^(c+1)=w/2^(c+1):=by
  rw[Nat.pow_succ,<-Nat.div_div_eq_div_mul,<-Nat.div_div_eq_div_mul,Nat.add_div_right _ hp];omega
 rw[e,<-Nat.div_div_eq_div_mul,<-Nat.div_div_eq_div_mul,key]
theorem apy (w c:Nat) (hc:c<22) (h:acF w c=true):(w-2^c)/4194304=w/4194304:=by
 have h1:=ah3 w c h;have h2:=aqZ (w-2^c) c hc (afq w c h);rw[Nat.sub_add_cancel h1]at h2;exact h2.symm
theorem al6 (bs:List UInt8) (c:Nat) (hc:c<22) (hl:184<=bs.length):aai (acV bs c) 0/4194304=aai bs 0/4194304:=by
 have hw:=abd bs 0;unfold acV;split
 · rename_i h;rw[abK _ _ _ (by omega) (Nat.lt_of_le_of_lt (Nat.sub_le _ _) hw)];exact apy _ c hc h.1
 · split
   · rename_i h;rw[abK _ _ _ (by omega) (aj8 _ c (by omega) hw h.1)];exact aqZ _ c hc h.1
   · rfl
theorem ajb (bs:List UInt8) (c:Nat) (hl:184<=bs.length):(acV bs c).length=bs.length:=by
 unfold acV;split
 · exact aap _ _ _ (by omega)
 · split
   · exact aap _ _ _ (by omega)
   · rfl
theorem ajc{bs out:List UInt8}{o:Int}(hl:184<=bs.length) (h:ai2 bs o=some out):out.length=bs.length/\aai out 0/4194304=aai bs 0/4194304:=by
 unfold ai2 at h;by_cases hf:acl bs o<0
 · rw[if_pos hf]at h;cases h
 · rw[if_neg hf]at h;obtain⟨x,hg,hc⟩:∃x,abV bs o=some x/\acl bs o=aaw (x.size:Int):=by
    unfold acl at hf ⊢
    cases hg:abV bs o with
    | none=>rw[hg]at hf;simp at hf
    | some x=>
     rw[hg]at hf;dsimp only at hf ⊢
     cases hu:x.used with
     | true=>rw[hu]at hf;simp at hf
     | false=>exact⟨x,rfl,by simp⟩
   have hb:=ady (x.size:Int);obtain⟨c,hcc⟩:=nmE ((acl bs o).toNat);have hc22:c<22:=by omega
   obtain⟨g0,g1,_,g3,g4,_⟩:=aa2 hg;have q:=(aae _).1 g4;rw[hcc]at h;dsimp only at h;obtain⟨f,hfe⟩:=nmE (aai bs (8+8*c));rw[hfe]at h;by_cases hm:(f:Int)=o\/(f≠0/\aaz bs f (c:Int)=false)
   · rw[if_pos hm]at h;cases h
   · rw[if_neg hm]at h;injection h with h;have ho:o.toNat=x.off:=by omega
     rw[ho]at h;have l1:=aap bs (x.off+8) f (by omega);have l2:=aap (lyN bs (x.off+8) f) (x.off+16) 0 (by omega);have w2:aai (lyN (lyN bs (x.off+8) f) (x.off+16) 0) 0=aai bs 0:=by
      rw[abh _ _ _ _ (by omega) (by omega),abh _ _ _ _ (by omega) (by omega)]
     obtain⟨b2,hb2⟩:=nmE ((if f≠0 then lyN (lyN (lyN bs (x.off+8) f) (x.off+16) 0) (f+16) x.off else lyN (lyN bs (x.off+8) f) (x.off+16) 0));have hb:b2.length=bs.length/\aai b2 0=aai bs 0:=by
      rw[<-hb2];by_cases hf0:f≠0
      · have hmem:aaz bs f (c:Int)=true:=by
         cases hmb:aaz bs f (c:Int)with
         | true=>rfl
         | false=>exact absurd (.inr ⟨hf0,hmb⟩) hm
        unfold aaz at hmem
        cases hgf:abV bs (f:Int)with
        | none=>rw[hgf]at hmem;simp at hmem
        | some y=>
         obtain⟨r0,r1,_,r3,r4,_⟩:=aa2 hgf;have q2:=(aae _).1 r4;rw[if_pos hf0];exact⟨(aap _ _ _ (by omega)).trans (l2.trans l1),by rw[abh _ _ _ _ (by omega) (by omega),w2]⟩
      · rw[if_neg hf0];exact⟨l2.trans l1,w2⟩
     rw[hb2]at h;have l3:=aap b2 (8+8*c) x.off (by omega);rw[<-h];refine⟨(ajb _ c (by omega)).trans (l3.trans hb.1),?_⟩;rw[al6 _ c hc22 (by omega),abh _ _ _ _ (by omega) (by omega),hb.2]
theorem ala:∀(l:List Bk) (bs:List UInt8),184<=bs.length->(l.foldl afV bs).length=bs.length/\aai (l.foldl afV bs) 0/4194304=aai bs 0/4194304
 | [],_,_=>⟨rfl,rfl⟩
 | x::r,bs,hl=>by
  rw[List.foldl_cons];have e:(afV bs x).length=bs.length/\aai (afV bs x) 0/4194304=aai bs 0/4194304:=by
   unfold afV
   cases x.used with
   | true=>exact⟨rfl,rfl⟩
   | false=>
    cases hp:ai2 bs (x.off:Int)with
    | none=>exact⟨rfl,rfl⟩
    | some out=>exact ajc hl hp
  obtain⟨i1,i2⟩:=ala r (afV bs x) (by omega);exact⟨i1.trans e.1,i2.trans e.2⟩
theorem afM{bs:List UInt8}{l:List Bk}(h:abJ bs=some l) (hm:bs.length<=16384):
 ∃out,abW bs=some out/\Lists out l (abL l)/\out.length=bs.length/\abJ out=some l/\aai out 0<4194304/\aci out=aeX l:=by
 obtain⟨out,e,h1,h2,h3⟩:=ag3 h hm;obtain⟨h184,_⟩:=aaC h;have el:(List.replicate 184 (0:UInt8)++bs.drop 184).length=bs.length:=by rw[List.length_append,List.length_replicate,List.length_drop];omega
 have e2:out=l.foldl afV (List.replicate 184 0++bs.drop 184):=by
  unfold abW at e;rw[h]at e;injection e with e;exact e.symm
 have hh:=(ala l _ (by rw[el];exact h184)).2;rw[<-e2,acm _ _ _ (by omega)]at hh;have h0:aai out 0<4194304:=by omega
 exact⟨out,e,h1,h2,h3,h0,ad6 h3 h1 h0⟩
theorem aeY{bs:List UInt8}{l:List Bk}:∀(k c:Nat) (fr:Int),aiN bs l k c fr=true->∀d,c<=d->d<c+k->∃al,afL bs d=some al/\al.all (okO l al)=true
 | 0,c,fr,_,d,h1,h2=>by omega
 | k+1,c,fr,h,d,h1,h2=>by
  unfold aiN at h
  cases ha:afL bs c with
  | none=>rw[ha]at h;cases h
  | some al=>
   rw[ha]at h;dsimp only at h;rw[Bool.and_eq_true]at h;rcases Nat.lt_or_ge c d with hlt | hge
   · exact aeY k (c+1) _ h.2 d hlt (by omega)
   · obtain rfl:d=c:=by omega
     exact⟨al,ha,h.1⟩
theorem ah6{bs:List UInt8}{c:Nat}{l:List Nat}(h:afL bs c=some l):acF (aai bs 0) c=decide (aai bs (8+8*c)≠0)/\aeN bs c 1024 0 (aai bs (8+8*c))=some l:=by
 unfold afL at h;split at h
 · cases h
 · split at h
   · cases h
   · rename_i hb;exact⟨Decidable.not_not.1 hb,h⟩
abbrev Dt:Type:=Value × List UInt8
def acB:Dt:=(.slice none 0 0,[])
structure Hp where
 cap:Nat
 blks:List Bk
 ds:List Dt
 lists:Nat->List Nat
def adx:List Bk->Nat
 | []=>0
 | x::r=>x.size+adx r
def acz (l:List Bk):Nat:=184+adx l
def aaL (l:List Bk) (i:Nat):Bk:=l.getD i ⟨0,0,false⟩
def atB (o:Int):List Bk->Option Nat
 | []=>none
 | x::r=>if (x.off:Int)=o then some 0 else (atB o r).map (· +1)
def aeA (l:List Bk) (o:Int):Option Nat:=match atB o l with
 | none=>none
 | some i=>if (aaL l i).used=true then some i else none
def apz (x:Bk):Nat:=(aaw (x.size:Int)).toNat
def Hp.out (H:Hp) (i:Nat):Hp:={H with lists:=ahg H.lists (apz (aaL H.blks i)) ((H.lists (apz (aaL H.blks i))).filter fun o=>o !=(aaL H.blks i).off)}
def Hp.in_ (H:Hp) (i:Nat):Hp:={H with lists:=ahg H.lists (apz (aaL H.blks i)) ((aaL H.blks i).off::H.lists (apz (aaL H.blks i)))}
def Hp.drop (H:Hp) (i:Nat):Hp:={H with blks:=H.blks.take i++H.blks.drop (i+1),ds:=H.ds.take i++H.ds.drop (i+1)}
def Hp.put (H:Hp) (i:Nat) (x:Bk):Hp:={H with blks:=H.blks.take i++x::H.blks.drop i,ds:=H.ds.take i++acB::H.ds.drop i}
def Hp.size (H:Hp) (i s:Nat):Hp:={H with blks:=H.blks.set i {aaL H.blks i with size:=s}}
def Hp.use (H:Hp) (i:Nat) (u:Bool):Hp:={H with blks:=H.blks.set i {aaL H.blks i with used:=u}}
def Hp.wipe (H:Hp) (i:Nat):Hp:={H with ds:=H.ds.set i acB}
def anw (l:List Bk) (i:Nat):Bool:=decide (i+1<l.length)&& !(aaL l (i+1)).used
def ast (l:List Bk) (i:Nat):Bool:=decide (0<i)&& !(aaL l (i-1)).used
def Hp.join (H:Hp) (i:Nat):Hp:=((H.size i ((aaL H.blks i).size+(aaL H.blks (i+1)).size)).drop (i+1))
def Hp.giveB (H:Hp) (i:Nat):Hp:=if anw H.blks i=true then (H.out (i+1)).join i else H
def Hp.giveC (H:Hp) (i:Nat):Hp:=if ast H.blks i=true then ((H.out (i-1)).join (i-1)).in_ (i-1) else H.in_ i
def Hp.give (H:Hp) (i:Nat):Hp:=(((H.use i false).wipe i).giveB i).giveC i
def Hp.cut (H:Hp) (i s:Nat):Hp:=if (aaL H.blks i).size<s+32 then H.use i true else (((H.use i true).size i s).put (i+1) ⟨(aaL H.blks i).off+s,(aaL H.blks i).size-s,true⟩).give (i+1)
def ad7 (l:List Bk) (s:Nat):List Nat->Option Nat
 | []=>none
 | o::r=>match atB (o:Int) l with
  | none=>none
  | some i=>if s<=(aaL l i).size then some i else ad7 l s r
def Hp.findC (H:Hp) (s:Nat):Nat->Nat->Option Nat
 | 0,_=>none
 | k+1,c=>match ad7 H.blks s (H.lists c)with
  | some i=>some i
  | none=>H.findC s k (c+1)
def Hp.find (H:Hp) (s:Nat):Option Nat:=H.findC s (22-(aaw (s:Int)).toNat) (aaw (s:Int)).toNat
def afs (l:List Bk):Nat:=if l.length=0 then 0 else if (aaL l (l.length-1)).used=true then 0 else (aaL l (l.length-1)).size
def Hp.take (H:Hp) (s:Nat):Option Nat × Hp:=match H.find s with
 | some i=>(some (aaL H.blks i).off,(H.out i).cut i s)
 | none=>if H.cap<acz H.blks+s-afs H.blks then (none,H)
  else if 0<afs H.blks then (some (aaL H.blks (H.blks.length-1)).off,((H.out (H.blks.length-1)).size (H.blks.length-1) s).use (H.blks.length-1) true)
  else (some (acz H.blks),H.put H.blks.length ⟨acz H.blks,s,true⟩)
def Hp.giveO (H:Hp) (o:Int):Option Hp:=(aeA H.blks o).map H.give
structure Hp.Ok (H:Hp):Prop where
 tl:ach 184 H.blks (acz H.blks)
 le:acz H.blks<=16384
 dl:H.ds.length=H.blks.length
def Hp.Listed (H:Hp):Prop:=∀c,c<22->∀o∈H.lists c,∃i,atB (o:Int) H.blks=some i
theorem ah7:∀(l:List Bk) (o e:Nat),ach o l e->e=o+adx l
 | [],o,e,h=>by simp[ach]at h;simp[adx];omega
 | x::r,o,e,h=>by
  obtain⟨h1,h2,h3⟩:=h;have:=ah7 r _ e h3;simp[adx];omega
theorem ah8:∀(a b:List Bk) (o e:Nat),ach o (a++b) e ↔ ach o a (o+adx a)/\ach (o+adx a) b e
 | [],b,o,e=>by simp[adx,ach]
 | x::r,b,o,e=>by
  simp only[List.cons_append,ach,adx];rw[ah8 r b];constructor
  · rintro⟨h1,h2,h3,h4⟩;refine⟨⟨h1,h2,?_⟩,?_⟩
    · rw[show o+(x.size+adx r)=o+x.size+adx r by omega];exact h3
    · rw[show o+(x.size+adx r)=o+x.size+adx r by omega];exact h4
  · rintro⟨⟨h1,h2,h3⟩,h4⟩;rw[show o+(x.size+adx r)=o+x.size+adx r by omega]at h3 h4;exact⟨h1,h2,h3,h4⟩
theorem alb (a b:List Bk):adx (a++b)=adx a+adx b:=by
 induction a with
 | nil=>simp[adx]
 | cons x r ih=>simp only[List.cons_append,adx,ih];omega
theorem af1{o:Int}:∀{l:List Bk}{i:Nat},atB o l=some i->∃x,l[i]?=some x/\(x.off:Int)=o
 | [],_,h=>by cases h
 | x::r,i,h=>by
  unfold atB at h;split at h
  · rename_i hx;injection h with h;subst h;exact⟨x,rfl,hx⟩
  · cases hr:atB o r with
    | none=>rw[hr]at h;cases h
    | some j=>
     rw[hr]at h;injection h with h;subst h;obtain⟨y,h1,h2⟩:=af1 hr;exact⟨y,by simpa using h1,h2⟩
theorem alc{o:Int}:∀{l:List Bk},atB o l=none->∀x∈l,(x.off:Int)≠o
 | [],_,x,hx=>by cases hx
 | y::r,h,x,hx=>by
  unfold atB at h;split at h
  · cases h
  · rename_i hy;rcases List.mem_cons.1 hx with rfl | hx
    · exact hy
    · cases hr:atB o r with
      | none=>exact alc hr x hx
      | some j=>rw[hr]at h;cases h
theorem agn{l:List Bk}{i:Nat}{x:Bk}(h:l[i]?=some x):aaL l i=x:=by
 unfold aaL;rw[List.getD_eq_getElem?_getD,h];rfl
theorem acc{l:List Bk}{i:Nat}(h:i<l.length):l[i]?=some (aaL l i):=by
 rw[List.getElem?_eq_getElem h];exact congrArg some (agn (List.getElem?_eq_getElem h)).symm
theorem ajd{l:List Bk}{i:Nat}{o:Int}(h:atB o l=some i):i<l.length/\((aaL l i).off:Int)=o:=by
 obtain⟨x,h1,h2⟩:=af1 h;have hi:i<l.length:=by
  rcases Nat.lt_or_ge i l.length with h | h
  · exact h
  · rw[List.getElem?_eq_none h]at h1;cases h1
 rw[agn h1];exact⟨hi,h2⟩
theorem anx{α:Type}{l:List α}{i:Nat}{x:α}(h:l[i]?=some x):l=l.take i++x::l.drop (i+1):=by
 have hi:i<l.length:=by
  rcases Nat.lt_or_ge i l.length with h' | h'
  · exact h'
  · rw[List.getElem?_eq_none h']at h;cases h
 have e:l[i]=x:=by rw[List.getElem?_eq_getElem hi]at h;injection h
 calc l=l.take i++l.drop i:=(List.take_append_drop i l).symm
  _=_:=by rw[List.drop_eq_getElem_cons hi,e]
theorem anz{α:Type}{l:List α}{i:Nat}{x:α}(y:α) (h:l[i]?=some x):l.set i y=l.take i++y::l.drop (i+1):=by
 have hi:i<l.length:=by
  rcases Nat.lt_or_ge i l.length with h' | h'
  · exact h'
  · rw[List.getElem?_eq_none h']at h;cases h
 rw[List.set_eq_take_append_cons_drop,if_pos hi]
section
variable {l:List Bk} {e i:Nat} {x:Bk}
theorem arw (h:ach 184 l e) (hx:l[i]?=some x):ach 184 (l.take i) x.off/\x.off=184+adx (l.take i)/\aa3 (x.size:Int)=true/\ach (x.off+x.size) (l.drop (i+1)) e:=by
 rw[anx hx,ah8]at h;obtain⟨h1,h2,h3,h4⟩:=h;have e1:(184+adx (l.take i))=x.off:=by omega
 rw[e1]at h1;refine⟨h1,by omega,h3,?_⟩;rw[e1]at h4;exact h4
theorem ah9 (h1:ach 184 (l.take i) x.off) (h3:aa3 (x.size:Int)=true){r:List Bk}(h4:ach (x.off+x.size) r e):ach 184 (l.take i++x::r) e:=by
 have:=ah7 _ _ _ h1;rw[ah8];rw[<-this];exact⟨h1,rfl,h3,h4⟩
theorem abX (h:ach 184 l e):acz l=e:=by
 have:=ah7 _ _ _ h;unfold acz;omega
end
theorem ada{α:Type}{l:List α}{i:Nat}{x:α}(h:l[i]?=some x):i<l.length:=by
 rcases Nat.lt_or_ge i l.length with h' | h'
 · exact h'
 · rw[List.getElem?_eq_none h']at h;cases h
theorem ald{α:Type}(l:List α) (i:Nat) (y:α) (hi:i<l.length):(l.set i y).take (i+1)=l.take i++ [y]:=by
 rw[List.take_set,List.take_add_one,List.getElem?_eq_getElem hi];rw[Option.toList_some,List.set_append_right _ _ (by rw[List.length_take];omega),List.length_take];congr 1;have e:i-min i l.length=0:=by omega
 rw[e];rfl
theorem ale{α:Type}(l:List α) (i k:Nat) (y:α) (hk:i<k):(l.set i y).drop k=l.drop k:=List.drop_set_of_lt hk
theorem alf (l:List Bk) (i j:Nat) (y:Bk) (hi:i<l.length):aaL (l.set i y) j=if j=i then y else aaL l j:=by
 unfold aaL;rw[List.getD_eq_getElem?_getD,List.getD_eq_getElem?_getD];by_cases h:j=i
 · subst h;rw[List.getElem?_set_self hi,if_pos rfl];rfl
 · rw[List.getElem?_set_ne (fun e=>h e.symm),if_neg h]
theorem asu{a b:Nat}(ha:aa3 (a:Int)=true) (hb:aa3 (b:Int)=true) (h:a+b<=16384):aa3 ((a+b:Nat):Int)=true:=by
 have h1:=(aae _).1 ha;have h2:=(aae _).1 hb;exact(aae _).2 (by omega)
section
variable {H:Hp} {i s:Nat}
theorem Hp.Ok.at_ (h:H.Ok) (hi:i<H.blks.length):ach 184 (H.blks.take i) (aaL H.blks i).off/\aa3 ((aaL H.blks i).size:Int)=true/\ach ((aaL H.blks i).off+(aaL H.blks i).size) (H.blks.drop (i+1)) (acz H.blks):=by
 obtain⟨a,_,b,c⟩:=arw h.tl (acc hi);exact⟨a,b,c⟩
theorem Hp.Ok.sz (h:H.Ok) (hi:i<H.blks.length):aa3 ((aaL H.blks i).size:Int)=true:=(h.at_ hi).2.1
theorem Hp.Ok.len (h:H.Ok):H.blks.length*32<=acz H.blks:=by
 have go:∀(l:List Bk) (o e:Nat),ach o l e->l.length*32<=adx l:=by
  intro l;induction l with
  | nil=>intro o e _;simp[adx]
  | cons x r ih=>
   intro o e ht;obtain⟨_,h2,h3⟩:=ht;have h4:=ih _ _ h3;have h5:=(aae _).1 h2;simp only[List.length_cons,adx];omega
 have:=go H.blks 184 _ h.tl;unfold acz;omega
theorem Hp.Ok.n (h:H.Ok):H.blks.length<=512:=by
 have h1:=h.len;have h2:=h.le;omega
theorem Hp.Ok.two (h:H.Ok) (hi:i+1<H.blks.length):(aaL H.blks (i+1)).off=(aaL H.blks i).off+(aaL H.blks i).size/\(aaL H.blks i).size+(aaL H.blks (i+1)).size<=16384:=by
 obtain⟨_,hs,ht⟩:=h.at_ (i:=i) (by omega);rw[List.drop_eq_getElem_cons hi]at ht;have e:H.blks[i+1]=aaL H.blks (i+1):=by
  have:=acc hi;rw[List.getElem?_eq_getElem hi]at this;exact Option.some.inj this
 rw[e]at ht;obtain⟨h1,_,h3⟩:=ht;have h4:=(aau _ _ _ h3).1;have h5:=h.le;exact⟨h1,by omega⟩
theorem Hp.Ok.same (h:H.Ok) (hi:i<H.blks.length) (y:Bk) (ho:y.off=(aaL H.blks i).off) (hs:y.size=(aaL H.blks i).size):ach 184 (H.blks.set i y) (acz H.blks)/\acz (H.blks.set i y)=acz H.blks:=by
 obtain⟨a,b,c⟩:=h.at_ hi;have ht:ach 184 (H.blks.set i y) (acz H.blks):=by
  rw[anz y (acc hi)];refine ah9 (by rw[ho];exact a) (by rw[hs];exact b) ?_;rw[ho,hs];exact c
 exact⟨ht,abX ht⟩
theorem Hp.Ok.use (h:H.Ok) (hi:i<H.blks.length) (u:Bool):(H.use i u).Ok:=by
 obtain⟨h1,h2⟩:=h.same hi {aaL H.blks i with used:=u} rfl rfl;refine⟨?_,?_,?_⟩
 · show ach 184 (H.blks.set i _) (acz (H.blks.set i _));rw[h2];exact h1
 · show acz (H.blks.set i _)<=_;rw[h2];exact h.le
 · show H.ds.length=(H.blks.set i _).length;rw[List.length_set];exact h.dl
theorem Hp.Ok.wipe (h:H.Ok):(H.wipe i).Ok:=⟨h.tl,h.le,by show(H.ds.set i _).length=_;rw[List.length_set];exact h.dl⟩
theorem Hp.Ok.out (h:H.Ok):(H.out i).Ok:=⟨h.tl,h.le,h.dl⟩
theorem Hp.Ok.in_ (h:H.Ok):(H.in_ i).Ok:=⟨h.tl,h.le,h.dl⟩
theorem ago (H:Hp) (hi:i+1<H.blks.length):(H.join i).blks=H.blks.take i++{aaL H.blks i with size:=(aaL H.blks i).size+(aaL H.blks (i+1)).size}::H.blks.drop (i+2):=by
 show(H.blks.set i _).take (i+1)++(H.blks.set i _).drop (i+1+1)=_;rw[ald _ _ _ (by omega),ale _ _ _ _ (by omega),List.append_assoc];rfl
theorem Hp.Ok.join (h:H.Ok) (hi:i+1<H.blks.length):(H.join i).Ok:=by
 obtain⟨a,b,c⟩:=h.at_ (i:=i) (by omega);obtain⟨_,b2,c2⟩:=h.at_ (i:=i+1) hi;obtain⟨e,hle⟩:=h.two hi;have ht:ach 184 (H.join i).blks (acz H.blks):=by
  rw[ago H hi];refine ah9 (x:={aaL H.blks i with size:=(aaL H.blks i).size+(aaL H.blks (i+1)).size}) a (asu b b2 hle) ?_;show ach ((aaL H.blks i).off+((aaL H.blks i).size+(aaL H.blks (i+1)).size)) _ _;rw[<-Nat.add_assoc,<-e];exact c2
 have hl:=abX ht;refine⟨by rw[hl];exact ht,by rw[hl];exact h.le,?_⟩;show(H.ds.take (i+1)++H.ds.drop (i+1+1)).length=(H.join i).blks.length;rw[ago H hi];have:=h.dl;simp only[List.length_append,List.length_take,List.length_drop,List.length_cons];omega
theorem arx (H:Hp) (hi:i+1<H.blks.length):i<(H.join i).blks.length/\aaL (H.join i).blks i={aaL H.blks i with size:=(aaL H.blks i).size+(aaL H.blks (i+1)).size}/\(H.join i).blks.length+1=H.blks.length:=by
 rw[ago H hi];refine⟨?_,agn ?_,?_⟩
 · simp only[List.length_append,List.length_take,List.length_cons];omega
 · rw[List.getElem?_append_right (by rw[List.length_take];omega),List.length_take,show i-min i H.blks.length=0 by omega];rfl
 · simp only[List.length_append,List.length_take,List.length_cons,List.length_drop];omega
theorem aia (H:Hp) (hi:i<H.blks.length) (y:Bk):(((H.use i true).size i s).put (i+1) y).blks=H.blks.take i++{aaL H.blks i with used:=true,size:=s}::y::H.blks.drop (i+1):=by
 have e:aaL (H.blks.set i {aaL H.blks i with used:=true}) i={aaL H.blks i with used:=true}:=by rw[alf _ _ _ _ hi,if_pos rfl]
 show((H.blks.set i {aaL H.blks i with used:=true}).set i {aaL (H.blks.set i {aaL H.blks i with used:=true}) i with size:=s}).take (i+1)++y::((H.blks.set i {aaL H.blks i with used:=true}).set i {aaL (H.blks.set i {aaL H.blks i with used:=true}) i with size:=s}).drop (i+1)=_;rw[e,List.set_set,ald _ _ _ hi,ale _ _ _ _ (by omega),List.append_assoc];rfl
theorem Hp.Ok.cut (h:H.Ok) (hi:i<H.blks.length) (hs:aa3 (s:Int)=true) (hle:s+32<=(aaL H.blks i).size):(((H.use i true).size i s).put (i+1) ⟨(aaL H.blks i).off+s,(aaL H.blks i).size-s,true⟩).Ok:=by
 obtain⟨a,b,c⟩:=h.at_ hi;have h1:=(aae _).1 hs;have h2:=(aae _).1 b;have ht:ach 184 (((H.use i true).size i s).put (i+1) ⟨(aaL H.blks i).off+s,(aaL H.blks i).size-s,true⟩).blks (acz H.blks):=by
  rw[aia H hi];refine ah9 (x:={aaL H.blks i with used:=true,size:=s}) a hs ⟨rfl,(aae _).2 (by dsimp only;omega),?_⟩;dsimp only;rw[show(aaL H.blks i).off+s+((aaL H.blks i).size-s)=(aaL H.blks i).off+(aaL H.blks i).size by omega];exact c
 have hl:=abX ht;refine⟨by rw[hl];exact ht,by rw[hl];exact h.le,?_⟩;rw[aia H hi];show(H.ds.take (i+1)++acB::H.ds.drop (i+1)).length=_;have:=h.dl;simp only[List.length_append,List.length_take,List.length_drop,List.length_cons];omega
theorem ary (H:Hp) (hi:i<H.blks.length) (y:Bk):(((H.use i true).size i s).put (i+1) y).blks.length=H.blks.length+1:=by
 rw[aia H hi];simp only[List.length_append,List.length_take,List.length_drop,List.length_cons];omega
def Hp.Few (H:Hp) (N:Nat):Prop:=∀d,d<22->(H.lists d).length<=N
theorem Hp.Few.in_{N:Nat}(h:H.Few N):(H.in_ i).Few (N+1):=fun d hd=>by
 show(ahg H.lists _ _ d).length<=N+1;unfold ahg;split
 · rename_i e;rw[<-e,List.length_cons];exact Nat.succ_le_succ (h d hd)
 · exact Nat.le_succ_of_le (h d hd)
theorem Hp.Few.more{N M:Nat}(h:H.Few N) (hm:N<=M):H.Few M:=fun d hd=>Nat.le_trans (h d hd) hm
end
def Hp.Dl (H:Hp):Prop:=H.ds.length=H.blks.length
section
variable {H:Hp} {i s:Nat}
theorem anA:(H.giveB i).cap=H.cap:=by unfold Hp.giveB;split<;>rfl
theorem anB:(H.giveC i).cap=H.cap:=by unfold Hp.giveC;split<;>rfl
theorem apA:(H.give i).cap=H.cap:=by unfold Hp.give;rw[anB,anA];rfl
theorem arz:(H.cut i s).cap=H.cap:=by
 unfold Hp.cut;split
 · rfl
 · rw[apA];rfl
theorem take_cap:(H.take s).2.cap=H.cap:=by
 unfold Hp.take;split
 · exact arz
 · split
   · rfl
   · split<;>rfl
end
structure Rt (bs:List UInt8) (H:Hp):Prop where
 walk:abJ bs=some H.blks
 all_:∀c,c<22->afL bs c=some (H.lists c)
 chk:aci bs=true
 len:bs.length<=H.cap
section
variable {bs:List UInt8} {H:Hp}
theorem Rt.lenE (h:Rt bs H):acz H.blks=bs.length:=abX (aaC h.walk).2.1
theorem Rt.ok (h:Rt bs H) (hc:H.cap<=16384) (hd:H.Dl):H.Ok:=⟨by rw[h.lenE];exact(aaC h.walk).2.1,by rw[h.lenE];exact Nat.le_trans h.len hc,hd⟩
theorem Rt.few (h:Rt bs H):H.Few 1024:=fun d hd=>ak8 (h.all_ d hd)
theorem anC{l:List Bk}{x:Bk}(hx:x∈l):∃i,atB (x.off:Int) l=some i:=by
 cases h:atB (x.off:Int) l with
 | some i=>exact⟨i,rfl⟩
 | none=>exact absurd rfl (alc h x hx)
theorem Rt.listed (h:Rt bs H):H.Listed:=fun c hc o ho=>by
 have hk:=h.chk;unfold aci at hk;rw[h.walk]at hk;simp only[Bool.and_eq_true]at hk;obtain⟨al,h1,h2⟩:=aeY 22 0 _ hk.2.2 c (Nat.zero_le _) (by omega);rw[h.all_ c hc]at h1;injection h1 with h1;subst h1;have h3:=List.all_eq_true.1 h2 o ho;unfold okO at h3;rw[Bool.and_eq_true]at h3;have h4:=h3.1;unfold acX at h4;obtain⟨x,hx,hx2⟩:=List.any_eq_true.1 h4;simp only[Bool.and_eq_true,beq_iff_eq]at hx2;rw[<-hx2.1];exact anC hx
end
def atD (H:Hp) (bs:List UInt8) (H':Hp) (out:List UInt8):Prop:=
 ∀x∈H.blks,x.used=true->∀y∈H'.blks,y.used=true->y.off=x.off->∀i,x.off+8<=i->i+8<x.off+x.size->i+8<y.off+y.size->out[i]?=bs[i]?
def Bk.val (x:Bk):Value:= .agg #[.int .i64 (x.off:Int), .int .i64 (x.size:Int), .bool x.used]
def bkV (o:Option Bk):Value:=match o with
 | some x=>x.val
 | none=> .agg #[.int .i64 0, .int .i64 0, .bool false]
theorem ab2{w:World}{g:Nat}{t:TypeId}{a b c:Value}(h:w.heap[g]?=some (.cells #[a,b,c] t (0,0))) (x y z:Value):
 (((w.setCell ⟨g,0,none⟩ x).setCell ⟨g,1,none⟩ y).setCell ⟨g,2,none⟩ z).heap[g]?=some (.cells #[x,y,z] t (0,0)):=by
 have h1:=heap_setCell_same w g 0 _ _ x h;have h2:=heap_setCell_same (w.setCell ⟨g,0,none⟩ x) g 1 _ _ y h1;have h3:=heap_setCell_same ((w.setCell ⟨g,0,none⟩ x).setCell ⟨g,1,none⟩ y) g 2 _ _ z h2;rw[h3];rfl
theorem aar{w:World}{g:Nat}{t:TypeId}{a b c:Value}(h:w.heap[g]?=some (.cells #[a,b,c] t (0,0))):(w.cell? ⟨g,0,none⟩=some a/\w.cell? ⟨g,1,none⟩=some b/\w.cell? ⟨g,2,none⟩=some c)/\(w.frozen? ⟨g,0,none⟩=false/\w.frozen? ⟨g,1,none⟩=false/\w.frozen? ⟨g,2,none⟩=false):=by
 refine⟨⟨?_,?_,?_⟩,frozen_of_row w g 0 _ _ h,frozen_of_row w g 1 _ _ h,frozen_of_row w g 2 _ _ h⟩
 · rw[cell_of_row w g 0 _ _ (0,0) h];rfl
 · rw[cell_of_row w g 1 _ _ (0,0) h];rfl
 · rw[cell_of_row w g 2 _ _ (0,0) h];rfl
theorem acn{fn:Func}{R:Ending->World->Prop}{a:Act}{w:World}{p u:Tmp}{g:Nat}{o s:Int}{b:Bool}{x:Value}(hres:fn.results= #[.cell p 132, .tmp u]) (hp:a.tmps.getD p undef= .pointer (some ⟨g,0,none⟩)) (hx:a.tmps.getD u undef=x) (hd:a.defers= [])
 (hg:w.heap[g]?=some (.cells #[.int .i64 o, .int .i64 s, .bool b] 132 (0,0))) (hR:R (.returned (.tuple #[.agg #[.int .i64 o, .int .i64 s, .bool b],x])) w):bodyPost Tryz.prog fn R .ret a w:=by
 have c0:=cell_of_row w g 0 _ _ (0,0) hg;have c1:=cell_of_row w g 1 _ _ (0,0) hg;have c2:=cell_of_row w g 2 _ _ (0,0) hg;simp only[List.getElem?_toArray,List.getElem?_cons_zero,List.getElem?_cons_succ]at c0 c1 c2;refine bodyPost_ret (v:= .tuple #[.agg #[.int .i64 o, .int .i64 s, .bool b],x]) ?_ hd hR;rw[results_cell_tmp hres,hp,hx];simp[go_sem,c0,c1,c2]
section
variable (w:World)
end
theorem aav{w:World}{g:Nat}{o:Obj}(h:w.heap[g]?=some o):g<w.heap.size:=by
 rcases Nat.lt_or_ge g w.heap.size with h1 | h1
 · exact h1
 · rw[Array.getElem?_eq_none h1]at h;cases h
section
variable (w:World)
end
def aka (bs:List UInt8) (o v:Nat):List UInt8:=lay bs o (aat 8 v)
section
variable (w:World)
end
def setB (bs:List UInt8) (o s:Int) (u:Bool):Option (List UInt8):=
 if aa3 s=true/\aj7 bs.length o s=true then some (aka (aka bs o.toNat (ab0 s u)) (o+s-8).toNat (ab0 s u)) else none
section
variable (w:World)
end
def aaD:List Bk->List Value
 | []=> []
 | x::r=> .int .i64 (x.off:Int):: .int .i64 (x.size:Int):: .bool x.used::aaD r
theorem ad8:∀l:List Bk,(aaD l).length=l.length*3
 | []=>rfl
 | x::r=>by simp[aaD,ad8 r];omega
theorem adb (a b:List Bk):aaD (a++b)=aaD a++aaD b:=by
 induction a with
 | nil=>rfl
 | cons x r ih=>simp[aaD,ih]
theorem agp:∀(l:List Bk) (i:Nat) (x:Bk),l[i]?=some x->(aaD l)[i*3]?=some (.int .i64 (x.off:Int))/\(aaD l)[i*3+1]?=some (.int .i64 (x.size:Int))/\(aaD l)[i*3+2]?=some (.bool x.used)
 | [],_,_,h=>by simp at h
 | y::r,0,x,h=>by
  simp at h;subst h;exact⟨rfl,rfl,rfl⟩
 | y::r,i+1,x,h=>by
  have:=agp r i x (by simpa using h);have e:(i+1)*3=i*3+1+1+1:=by omega
  rw[e];exact⟨by simpa[aaD]using this.1,by simpa[aaD]using this.2.1,by simpa[aaD]using this.2.2⟩
theorem ado:(Tryz.prog.info? 132).map (fun i=>(i.zero,i.size,i.bytes))=some (some (.agg #[.int .i64 0, .int .i64 0, .bool false]),3,24):=by kernel_rfl
theorem aa4{w:World}{base n size:Nat}{t:TypeId}{v:Value}{xs:List Value}(h:w.ownsRow base t size v n xs):∃A c,v= .slice A n c:=by
 rcases h.2 with⟨rfl,h0⟩ | ⟨g,cap,cur,rfl,_⟩
 · rw[h0];exact⟨none,0,rfl⟩
 · exact⟨_,_,rfl⟩
theorem aa6{w w':World}{base n size:Nat}{t:TypeId}{v:Value}{xs:List Value}(h:w.ownsRow base t size v n xs) (hb:Below w.heap.size w w'):w'.ownsRow base t size v n xs:=by
 refine⟨h.1,?_⟩;rcases h.2 with h2 | ⟨g,cap,cur,hv,hg,hh,r⟩
 · exact .inl h2
 · refine .inr ⟨g,cap,cur,hv,hg,?_,r⟩;have:=(h.lt g (by rw[hv];rfl)).2;rw[hb.block g this];exact hh
section
variable (w:World)
end
def BkRd (w:World) (B:Nat) (A:Option Addr) (l:List Bk):Prop:=0<l.length->∃b o,A=some ⟨b,o,none⟩/\b<B/\∀j x,l[j]?=some x->
 w.cell? ⟨b,o+j*3,none⟩=some (.int .i64 (x.off:Int))/\w.cell? ⟨b,o+j*3+1,none⟩=some (.int .i64 (x.size:Int))/\w.cell? ⟨b,o+j*3+2,none⟩=some (.bool x.used)
def IRd (w:World) (B:Nat) (A:Option Addr) (l:List Int):Prop:=0<l.length->∃b o,A=some ⟨b,o,none⟩/\b<B/\∀j x,l[j]?=some x->w.cell? ⟨b,o+j,none⟩=some (.int .i64 x)
theorem BkRd.below{w w':World}{B:Nat}{A:Option Addr}{l:List Bk}(h:BkRd w B A l) (hb:Below B w w'):BkRd w' B A l:=fun hn=>by
 obtain⟨b,o,e,hB,hc⟩:=h hn;refine⟨b,o,e,hB,fun j x hx=> ?_⟩;obtain⟨h0,h1,h2⟩:=hc j x hx;exact⟨(hb.cell (p:=⟨b,_,none⟩) hB).trans h0,(hb.cell (p:=⟨b,_,none⟩) hB).trans h1,(hb.cell (p:=⟨b,_,none⟩) hB).trans h2⟩
theorem IRd.below{w w':World}{B:Nat}{A:Option Addr}{l:List Int}(h:IRd w B A l) (hb:Below B w w'):IRd w' B A l:=fun hn=>by
 obtain⟨b,o,e,hB,hc⟩:=h hn;exact⟨b,o,e,hB,fun j x hx=>(hb.cell (p:=⟨b,_,none⟩) hB).trans (hc j x hx)⟩
theorem atE{k:IntKind}{a b:Int}(h:a=b):Ending.returned (.int k a)= .returned (.int k b):=by rw[h]
theorem anD (n:Int) (m:Nat) (w:World) (hm:0<m) (hm2:m<=1000000) (p:Nat) (hp:(n%(m:Int)).toNat=p):
 Calls Tryz.prog 34 #[.int .i64 n, .int .i64 (m:Int)] w fun e w'=>e= .returned (.int .i64 (p:Int))/\w=w':=by
 have h1:=Int.emod_nonneg n (b:=(m:Int)) (by omega);have h2:=Int.emod_lt_of_pos n (b:=(m:Int)) (by omega);obtain⟨e,he⟩:=nmE (n%(m:Int));rw[he]at h1 h2 hp;have h3:(n.tmod (m:Int)=e)\/(n.tmod (m:Int)=e-m):=by
  have:=Int.tmod_eq_emod (a:=n) (b:=(m:Int));rw[he]at this;rw[this];split
  · left;simp
  · right;simp
 obtain⟨r,hr⟩:=nmE (n.tmod (m:Int));rw[hr]at h3;clear he;have hm0:((m:Int)==0)=false:=by rw[beq_eq_false_iff_ne];omega
 by_cases h4:r<0
 · have h6: -1000000<=r:=by omega
   have h5:r+(m:Int)=(p:Int):=by omega
   have H5:=hE0 h5;clear h3 h5 hp;go_enter Tryz.func34,Tryz.ntmps34
   go_wp2
   go_ret
   exact⟨atE H5.out,rfl⟩
 · have h5:r=(p:Int):=by omega
   have H5:=hE0 h5;clear h3 h5 hp;go_enter Tryz.func34,Tryz.ntmps34
   go_wp2
   go_ret
   exact⟨atE H5.out,rfl⟩
theorem akb (w:World) (A1 A2:Option Addr) (c1 c2:Nat) (l:List Bk) (h1:BkRd w w.heap.size A1 l) (h2:BkRd w w.heap.size A2 l) (hl:l.length<=1000000):
 Calls Tryz.prog 82 #[.slice A1 l.length c1, .slice A2 l.length c2] w fun e w'=>e= .returned (.int .i64 1)/\Below w.heap.size w w':=by
 go_enter Tryz.func82,Tryz.ntmps82
 go_wp2
 go_loopw [5] (fun i wr=>∃j:Nat,j<=l.length/\i= .int .i64 j/\Below w.heap.size w wr) (fun i _=>l.length-(intOf i).toNat)
 case atStart=>exact⟨0,Nat.zero_le _,rfl,Below.refl _ _⟩
 case round=>
  obtain⟨j,hj,rfl,hb⟩:=hrel;by_cases hlt:j<l.length
  · obtain⟨x,hx⟩:∃x,l[j]?=some x:=⟨l[j],List.getElem?_eq_getElem hlt⟩;obtain⟨b1,o1,rfl,_,hc1⟩:=(h1.below hb) (by omega);obtain⟨b2,o2,rfl,_,hc2⟩:=(h2.below hb) (by omega);obtain⟨p0,p1,p2⟩:=hc1 j x hx;obtain⟨q0,q1,q2⟩:=hc2 j x hx;have hji:(j:Int)<(l.length:Int):=by omega
    clear hc1 hc2 hx;go_wp2_with fail
    go_quiet (fail)
    have HB:Hid (Below w.heap.size w (wr.drewN nq)):=⟨hb.os,hb.tape,hb.output,hb.size,hb.block⟩;clear hb p0 p1 p2 q0 q1 q2;generalize wr.drewN nq=w2 at HB ⊢;go_wp2
    go_roundw
    case rel=>exact⟨j+1,by omega,by go_num,HB.out⟩
    case measure=>simp[intOf];omega
  · go_wp2
    go_ret
    exact⟨rfl,hb⟩
theorem anF (w:World) (A1 A2:Option Addr) (c1 c2:Nat) (l:List Int) (h1:IRd w w.heap.size A1 l) (h2:IRd w w.heap.size A2 l) (hl:l.length<=1000000):
 Calls Tryz.prog 86 #[.slice A1 l.length c1, .slice A2 l.length c2] w fun e w'=>e= .returned (.int .i64 1)/\Below w.heap.size w w':=by
 go_enter Tryz.func86,Tryz.ntmps86
 go_wp2
 go_loopw [5] (fun i wr=>∃j:Nat,j<=l.length/\i= .int .i64 j/\Below w.heap.size w wr) (fun i _=>l.length-(intOf i).toNat)
 case atStart=>exact⟨0,Nat.zero_le _,rfl,Below.refl _ _⟩
 case round=>
  obtain⟨j,hj,rfl,hb⟩:=hrel;by_cases hlt:j<l.length
  · obtain⟨x,hx⟩:∃x,l[j]?=some x:=⟨l[j],List.getElem?_eq_getElem hlt⟩;obtain⟨b1,o1,rfl,_,hc1⟩:=(h1.below hb) (by omega);obtain⟨b2,o2,rfl,_,hc2⟩:=(h2.below hb) (by omega);have p0:=hc1 j x hx;have q0:=hc2 j x hx;have hji:(j:Int)<(l.length:Int):=by omega
    clear hc1 hc2 hx;go_wp2_with fail
    go_quiet (fail)
    have HB:Hid (Below w.heap.size w (wr.drewN nq)):=⟨hb.os,hb.tape,hb.output,hb.size,hb.block⟩;clear hb p0 q0;generalize wr.drewN nq=w2 at HB ⊢;go_wp2
    go_roundw
    case rel=>exact⟨j+1,by omega,by go_num,HB.out⟩
    case measure=>simp[intOf];omega
  · go_wp2
    go_ret
    exact⟨rfl,hb⟩
open Go.RowKit Go.ChangeShapes Go.WideShapes Go.Deep
theorem akc{α:Type}{p:Nat->α->Prop}:∀(n:Nat),(∀i,i<n->∃x,p i x)->∃l:List α,l.length=n/\∀i x,l[i]?=some x->p i x
 | 0,_=>⟨[],rfl,fun i x h=>by simp at h⟩
 | n+1,h=>by
  obtain⟨l,hl,hp⟩:=akc n (fun i hi=>h i (by omega));obtain⟨x,hx⟩:=h n (by omega);refine⟨l++ [x],by simp[hl],fun i y hy=> ?_⟩;rcases Nat.lt_or_ge i l.length with h1 | h1
  · rw[List.getElem?_append_left h1]at hy;exact hp i y hy
  · rw[List.getElem?_append_right h1]at hy;have e:i-l.length=0:=by
     rcases Nat.eq_zero_or_pos (i-l.length)with h2 | h2
     · exact h2
     · rw[List.getElem?_eq_none (by simp;omega)]at hy;cases hy
    rw[e]at hy;obtain rfl:x=y:=by simpa using hy
    obtain rfl:i=n:=by omega
    exact hx
theorem agq{w:World}{a:Addr}{v:Value}(h:w.cell? (a.add 0)=some v):∃b o,a=⟨b,o,none⟩/\b<w.heap.size/\∀j,a.add j=⟨b,o+j,none⟩:=by
 obtain⟨b,o,sp⟩:=a;obtain rfl:sp=none:=by simpa[Addr.add]using World.cell?_spot h
 have e:∀j,(⟨b,o,none⟩:Addr).add j=⟨b,o+j,none⟩:=fun j=>by unfold Addr.add;split<;>simp_all
 refine⟨b,o,rfl,?_,e⟩;rw[e]at h;exact am8 h
section
variable {H:Type} {enc:TypeId × Value->H} {w:World} {base:Nat} {held:Bool} {fuel:Nat} {A:Option Addr} {len cap:Nat} {x:DataW H × List MemPlace}
theorem alg{fuel:Nat}{A:Option Addr}{len cap:Nat}{x:DataW H × List MemPlace}(h:DataW.trod enc Tryz.prog w base (fun _=>true) held fuel 37 [.slice A len cap]=some x):∃bs:List UInt8,Rd w w.heap.size A len bs/\len<=cap/\cap<=maxLen/\(A=none->cap=0):=by
 rcases open_ints Tryz.underlying37 Tryz.underlying5 (by kernel_rfl) h with⟨hcs,_⟩ | ⟨y,l,c,zs,hcs,_,hl,hm,hz,_,hcell,hwz⟩
 · simp at hcs;obtain⟨rfl,rfl,rfl⟩:=hcs;exact aiR (zs:= []) (.inl ⟨rfl,rfl,rfl,rfl⟩)
 · simp at hcs;obtain⟨rfl,rfl,rfl⟩:=hcs;exact aiR (zs:=zs) (.inr ⟨_,rfl,hl,hm,by simpa using hz,hcell,hwz⟩)
theorem arA (h:DataW.trod enc Tryz.prog w base (fun _=>true) held fuel 23 [.slice A len cap]=some x):∃l:List Int,l.length=len/\IRd w w.heap.size A l/\(∀z∈l,-9223372036854775808<=z/\z<=9223372036854775807)/\len<=maxLen:=by
 rcases open_ints Tryz.underlying23 Tryz.underlying3 (by kernel_rfl) h with⟨hcs,_⟩ | ⟨y,l,c,zs,hcs,_,hl,hm,hz,_,hcell,hwz⟩
 · simp at hcs;obtain⟨rfl,rfl,rfl⟩:=hcs;exact⟨[],rfl,fun hn=>absurd hn (by simp),(fun z hz=>by cases hz),Nat.zero_le _⟩
 · simp at hcs;obtain⟨rfl,rfl,rfl⟩:=hcs;have hz:zs.length=cap:=by simpa using hz
   refine⟨zs.take len,by rw[List.length_take];omega,fun hn=> ?_,fun z hz'=> ?_,by omega⟩
   · rw[List.length_take]at hn;obtain⟨b,o,rfl,hlt,e⟩:=agq (hcell 0 (by omega));refine⟨b,o,rfl,hlt,fun j u hu=> ?_⟩;rw[List.getElem?_take]at hu;split at hu
     · have hc:=hcell j (by omega);rw[e,List.getD_eq_getElem?_getD,hu]at hc;exact hc
     · cases hu
   · have:=bounds_i64 (hwz z (List.mem_of_mem_take hz'));omega
end
theorem akd (bs:List UInt8) (o v:Nat):aka bs o v=lyN bs o v:=by
 unfold aka lay lyN;rw[aab]
section
variable (w:World)
end
theorem ake:(Tryz.prog.info? 3).map (fun i=>(i.zero,i.size,i.bytes))=some (some (.int .i64 0),1,8):=by kernel_rfl
def iV (n:Nat):Value:= .int .i64 (n:Int)
section
variable (w:World)
end
theorem anG{p:Nat->Bool}{l:List Nat}{j o:Nat}(h:∀q∈l.take j,p q=false) (hj:l[j]?=some o) (ho:p o=true):l.find? p=some o:=by
 have hlt:j<l.length:=by
  rcases Nat.lt_or_ge j l.length with h | h
  · exact h
  · rw[List.getElem?_eq_none h]at hj;cases hj
 rw[List.getElem?_eq_getElem hlt]at hj;injection hj with hj;have e:l=l.take j++(o::l.drop (j+1)):=by rw[<-hj,<-List.drop_eq_getElem_cons hlt,List.take_append_drop]
 rw[e,List.find?_append];have hn:(l.take j).find? p=none:=List.find?_eq_none.2 fun q hq=>by rw[h q hq];simp
 rw[hn,Option.none_or,List.find?_cons_of_pos ho]
theorem al7{p:Nat->Bool}{l:List Nat}(h:∀q∈l,p q=false):l.find? p=none:=List.find?_eq_none.2 fun q hq=>by rw[h q hq];simp
theorem agr (bs:List UInt8) (c:Nat):∀(k last p:Nat) (l:List Nat),aeN bs c k last p=some l->∀o∈l,aaz bs o (c:Int)=true
 | 0,last,p,l,h,o,ho=>by
  unfold aeN at h;split at h
  · injection h with h;subst h;cases ho
  · cases h
 | k+1,last,p,l,h,o,ho=>by
  unfold aeN at h;by_cases hp:p=0
  · rw[if_pos hp]at h;injection h with h;subst h;cases ho
  · rw[if_neg hp]at h;dsimp only at h;by_cases hm:aaz bs p (c:Int)=true/\aai bs (p+16)=last
    · rw[if_pos hm]at h
      cases hr:aeN bs c k p (aai bs (p+8))with
      | none=>rw[hr]at h;cases h
      | some l'=>
       rw[hr]at h;injection h with h;subst h;rcases List.mem_cons.1 ho with e | ho
       · rw[e];exact hm.1
       · exact agr bs c k p _ l' hr o ho
    · rw[if_neg hm]at h;cases h
theorem acY{bs:List UInt8}{c:Nat}{l:List Nat}(h:afL bs c=some l):∀o∈l,aaz bs o (c:Int)=true:=by
 unfold afL at h;split at h
 · cases h
 · split at h
   · cases h
   · exact agr bs c _ _ _ l h
theorem aeF{bs:List UInt8}{p:Nat}{c:Int}(h:aaz bs p c=true):p<=20000/\∃x,abV bs (p:Int)=some x:=by
 unfold aaz at h
 cases hg:abV bs (p:Int)with
 | none=>rw[hg]at h;simp at h
 | some x=>rw[hg]at h;simp at h;exact⟨h.1,x,rfl⟩
section
variable (w:World)
end
theorem aje (bs:List UInt8):∀(k o:Nat) (l:List Bk),adl bs k o=some l->∀x∈l,abV bs (x.off:Int)=some x
 | 0,_,_,h,_,_=>by cases h
 | k+1,o,l,h,x,hx=>by
  unfold adl at h;by_cases hlt:o<bs.length
  · rw[if_pos hlt]at h
    cases hg:abV bs (o:Int)with
    | none=>rw[hg]at h;cases h
    | some y=>
     rw[hg]at h;dsimp only at h
     cases hr:adl bs k (o+y.size)with
     | none=>rw[hr]at h;cases h
     | some r=>
      rw[hr]at h;injection h with h;subst h;rcases List.mem_cons.1 hx with e | hx
      · subst e;have:=(aa2 hg).1;rw[<-this,hg]
      · exact aje bs k _ r hr x hx
  · rw[if_neg hlt]at h;injection h with h;subst h
    cases hx
theorem anH{bs:List UInt8}{l:List Bk}(h:abJ bs=some l):184<=bs.length/\∀x∈l,abV bs (x.off:Int)=some x:=by
 unfold abJ at h;split at h
 · cases h
 · exact⟨by omega,aje bs _ _ l h⟩
theorem anI{w:World}{base n:Nat}{t:TypeId}{A:Option Addr}{c:Nat}{l:List Bk}(h:w.ownsRow base t 3 (.slice A n c) n (aaD l)) (hn:n=l.length):BkRd w w.heap.size A l:=fun h0=>by
 rcases h.2 with⟨_,h0'⟩ | ⟨g,_,_,h',_⟩
 · omega
 · injection h' with e;subst e;refine⟨g,0,rfl,(h.lt g rfl).2,fun j x hx=> ?_⟩;obtain⟨q0,q1,q2⟩:=agp l j x hx;have hj:j<l.length:=by
    rcases Nat.lt_or_ge j l.length with h | h
    · exact h
    · rw[List.getElem?_eq_none h]at hx;cases hx
   refine⟨?_,?_,?_⟩
   · rw[Nat.zero_add,h.cellAt (j*3) (by omega),q0]
   · rw[Nat.zero_add,h.cellAt (j*3+1) (by omega),q1]
   · rw[Nat.zero_add,h.cellAt (j*3+2) (by omega),q2]
section
variable (w:World)
end
def apB (l:List Nat):List Int:=l.map fun n:Nat=>(n:Int)
theorem aib{w:World}{base n:Nat}{t:TypeId}{A:Option Addr}{c:Nat}{l:List Nat}(h:w.ownsRow base t 1 (.slice A n c) n (l.map iV)) (hn:n=l.length):IRd w w.heap.size A (apB l):=fun h0=>by
 have h0:0<l.length:=by simpa[apB]using h0
 rcases h.2 with⟨_,h0'⟩ | ⟨g,_,_,h',_⟩
 · omega
 · injection h' with e;subst e;refine⟨g,0,rfl,(h.lt g rfl).2,fun j x hx=> ?_⟩;have hj:j<l.length:=by
    rcases Nat.lt_or_ge j l.length with h | h
    · exact h
    · rw[apB,List.getElem?_map,List.getElem?_eq_none h]at hx;cases hx
   rw[Nat.zero_add,h.cellAt j (by omega),List.getElem?_map];rw[apB,List.getElem?_map]at hx
   cases hl:l[j]? with
   | none=>rw[hl]at hx;cases hx
   | some y=>rw[hl]at hx;injection hx with hx;rw[<-hx];rfl
theorem akf{α:Type}{p:α->Bool}{l:List α}{j:Nat}{x:α}(h:l[j]?=some x):(l.take (j+1)).countP p=(l.take j).countP p+if p x=true then 1 else 0:=by
 rw[List.take_add_one,h,List.countP_append];simp[List.countP_cons]
theorem apC{α:Type}{p:α->Bool}{l:List α}{j:Nat}{x:α}(h:l[j]?=some x):(l.take (j+1)).any p=((l.take j).any p || p x):=by
 rw[List.take_add_one,h,List.any_append];simp
section
variable (w:World)
end
def as7:Prop:=∀(w:World) (n:Nat),n<18446744073709551616->Calls Tryz.prog 95 #[.int .u64 (n:Int)] w fun e w'=>e= .returned (ah1 (ab1 n))/\Below w.heap.size w w'
def asv:Prop:=∀(w:World) (s:Int),(-9223372036854775808<=s/\s<=9223372036854775807)->Calls Tryz.prog 196 #[.int .i64 s] w fun e w'=>e= .returned (.int .i64 (aaw s))/\Below w.heap.size w w'
section
variable (w:World)
theorem ags (n:Int) (hn: -9223372036854775808<=n/\n<=9223372036854775807) (b:Bool) (hb:aa3 n=b):
 Calls Tryz.prog 235 #[.int .i64 n] w fun e w'=>e= .returned (.bool b)/\w=w':=by
 by_cases h1:32<=n
 · by_cases h2:n<=16384
   · have e:(n%16==0)=b:=by rw[<-hb];simp[aa3,h1,h2]
     have HE:=hE0 e;clear hb e;go_enter Tryz.func235,Tryz.ntmps235
     go_wp2
     go_ret
     exact⟨apu HE.out,rfl⟩
   · obtain rfl:false=b:=by rw[<-hb];simp[aa3,h2]
     clear hb;go_enter Tryz.func235,Tryz.ntmps235
     go_wp2
     go_ret
     exact⟨rfl,rfl⟩
 · obtain rfl:false=b:=by rw[<-hb];simp[aa3,h1]
   clear hb;go_enter Tryz.func235,Tryz.ntmps235
   go_wp2
   go_ret
   exact⟨rfl,rfl⟩
theorem anJ:∀q:Fin 256,0<=Lib.len8 (q.1:Int)/\Lib.len8 (q.1:Int)<=8:=by decide+kernel
theorem al9 (x:Int) (h0:0<=x) (h1:x<=255):Calls Tryz.prog 250 #[.int .u64 x] w fun e w'=>e= .returned (.int .i64 (wrap64 (wrap64 (Lib.len8 x))))/\w=w':=by
 go_enter Tryz.func250,Tryz.ntmps250
 go_wp2
 go_ret
 exact⟨rfl,rfl⟩
theorem ama (q:Nat) (hq:q<=255):Calls Tryz.prog 250 #[.int .u64 (q:Int)] w fun e w'=>e= .returned (.int .i64 (Lib.len8 (q:Int)))/\w=w':=by
 have hl:=anJ ⟨q,by omega⟩;have h:=al9 w (q:Int) (by omega) (by omega);have e:wrap64 (wrap64 (Lib.len8 (q:Int)))=Lib.len8 (q:Int):=by
  simp only at hl;unfold wrap64;omega
 rw[e]at h;exact h
theorem apD (q:Nat) (hq:q<=255):Calls Tryz.prog 236 #[.int .u64 (q:Int)] w fun e w'=>e= .returned (.int .i64 (Lib.len8 (q:Int)))/\w=w':=by
 have H:=hE0 (ama w q hq);go_enter Tryz.func236,Tryz.ntmps236
 go_wp2_with fail
 refine H.out.mono ?_;rintro e w1 ⟨rfl,rfl⟩;go_wp2
 go_ret
 exact⟨rfl,rfl⟩
theorem anK:∀q:Fin 65,1<=q.1->(q.1<2/\Lib.len8 (q.1:Int)=1)\/(2<=q.1/\q.1<4/\Lib.len8 (q.1:Int)=2)\/(4<=q.1/\q.1<8/\Lib.len8 (q.1:Int)=3)\/(8<=q.1/\q.1<16/\Lib.len8 (q.1:Int)=4)\/(16<=q.1/\q.1<32/\Lib.len8 (q.1:Int)=5)\/(32<=q.1/\q.1<64/\Lib.len8 (q.1:Int)=6)\/(q.1=64/\Lib.len8 (q.1:Int)=7):=by decide+kernel
end
theorem arB{x:Int}{s:Nat}(h:x=(s:Int)):Ending.returned (.tuple #[.int .i64 x, .bool true])= .returned (ah1 (some s)):=by rw[h];rfl
theorem as8:as7:=by
 intro w n hn;by_cases h:n<=16368
 · obtain⟨s,hs⟩:∃s,ab1 n=some s:=⟨_,if_pos h⟩;have e:s=max 32 ((n+31)/16*16):=by
    have h2:ab1 n=some (max 32 ((n+31)/16*16)):=if_pos h;rw[h2]at hs;injection hs with hs;exact hs.symm
   rw[hs];have E:=hE0 (show s=max 32 ((n+31)/16*16) from e);clear hs e;go_enter Tryz.func95,Tryz.ntmps95
   go_wp2
   all_goals (go_ret2;exact⟨arB (by have:=E.out;omega),Below.refl _ _⟩)
 · rw[show ab1 n=none from if_neg h];go_enter Tryz.func95,Tryz.ntmps95
   go_wp2
   go_ret2
   exact⟨rfl,Below.refl _ _⟩
theorem alh:asv:=by
 intro w s hs
 cases hb:aa3 s
 · rw[show aaw s= -1 by simp[aaw,hb]];have HI:=hE0 (ags w s hs false hb);clear hb;go_enter Tryz.func196,Tryz.ntmps196
   go_wp2_with fail
   with_reducible refine HI.out.mono ?_
   rintro e w1 ⟨rfl,rfl⟩;go_wp2
   go_ret
   exact⟨rfl,Below.refl _ _⟩
 · have h:=(aae s).1 hb;have HI:=hE0 (ags w s hs true hb);by_cases h0:s<=256
   · have e:(s-32)/16=aaw s:=by
      unfold aaw;rw[if_neg (by simp[hb]),if_pos h0];omega
     obtain⟨c,hc⟩:=nmE (aaw s);rw[hc]at e ⊢;have HC:=hE0 e;clear e hc hb;go_enter Tryz.func196,Tryz.ntmps196
     go_wp2_with fail
     with_reducible refine HI.out.mono ?_
     rintro e w1 ⟨rfl,rfl⟩;go_wp2
     go_ret
     exact⟨ao9 HC.out,Below.refl _ _⟩
   · obtain⟨q,hq⟩:∃q:Nat,s/256=(q:Int):=⟨(s/256).toNat,by omega⟩;have hq1:1<=q/\q<=64:=by omega
     have cl:=anK ⟨q,by omega⟩ hq1.1;simp only at cl;have e:14+Lib.len8 (q:Int)=aaw s:=by
      unfold aaw;rw[if_neg (by simp[hb]),if_neg h0];rcases cl with⟨_,cl⟩ | ⟨_,_,cl⟩ | ⟨_,_,cl⟩ | ⟨_,_,cl⟩ | ⟨_,_,cl⟩ | ⟨_,_,cl⟩ | ⟨_,cl⟩<;>rw[cl]<;>(repeat' split)<;>omega
     obtain⟨c,hc⟩:=nmE (aaw s);rw[hc]at e ⊢;have hl:=anJ ⟨q,by omega⟩;simp only at hl;have HC:=hE0 e;have HL:=hE0 (fun W=>apD W q (by omega));clear e hc hb cl;obtain⟨l,hl8⟩:=nmE (Lib.len8 (q:Int));rw[hl8]at HC HL hl;clear hl8;go_enter Tryz.func196,Tryz.ntmps196
     go_wp2_with fail
     with_reducible refine HI.out.mono ?_
     rintro e w1 ⟨rfl,rfl⟩;go_wp2_with fail
     refine(HL.out _).mono ?_;rintro e w1 ⟨rfl,rfl⟩;go_wp2
     go_ret
     exact⟨ao9 HC.out,Below.refl _ _⟩
theorem ahl (w:World):Calls Tryz.prog 17 #[.nilIface] w fun e w'=>e= .returned (.int .i64 0)/\w=w':=by
 go_enter Tryz.func17,Tryz.ntmps17
 go_wp2
 go_ret
 exact⟨rfl,rfl⟩
theorem ahm (W:World) (k j:Int):(binOp .eql 31 (.iface 90 (.int .i64 k)) (.iface 90 (.int .i64 j))).run Tryz.prog W= .ok (.bool (k==j)) W:=by rfl
theorem ahn (w:World) (k:Nat) (h1:1<=k) (h2:k<=10):Calls Tryz.prog 17 #[.iface 90 (.int .i64 (k:Int))] w fun e w'=>e= .returned (.int .i64 (k:Int))/\w=w':=by
 go_enter Tryz.func17,Tryz.ntmps17
 go_wp2
 go_loop [3] (fun i=>∃j:Nat,1<=j/\j<=k/\i= .int .i64 j) (fun i=>k-(intOf i).toNat)
 case atStart=>exact⟨1,by omega,h1,rfl⟩
 case round=>
  obtain⟨j,hj1,hj2,rfl⟩:=hrel;by_cases hlt:j<k
  · have q:((k:Int)==(j:Int))=false:=by rw[beq_eq_false_iff_ne];omega
    have q2:∀W:World,(binOp .eql 31 (.iface 90 (.int .i64 (k:Int))) (.iface 90 (.int .i64 (j:Int)))).run Tryz.prog W= .ok (.bool false) W:=fun W=>by rw[ahm,q]
    go_wp2
    go_round
    case rel=>exact⟨j+1,by omega,by omega,by go_num⟩
    case measure=>simp[intOf];omega
  · obtain rfl:k=j:=by omega
    have q2:∀W:World,(binOp .eql 31 (.iface 90 (.int .i64 (k:Int))) (.iface 90 (.int .i64 (k:Int)))).run Tryz.prog W= .ok (.bool true) W:=fun W=>by rw[ahm,beq_self_eq_true]
    go_wp2
    go_ret
    exact⟨rfl,rfl⟩
structure Rk where
 o:Int
 s:Int
 u:Bool
def ab3 (n:Int):Bool:=decide (184<=n)&&(decide (n<=16384)&&(n-184)%16==0)
theorem aaN (n:Int):ab3 n=true ↔ 184<=n/\n<=16384/\(n-184)%16=0:=by simp[ab3]
theorem abD (n:Int):ab3 n=false ↔ ¬(184<=n/\n<=16384/\(n-184)%16=0):=by rw[<-aaN];simp
def abe (n:Int):Int->Bool->List Rk->Bool
 | e,_,[]=>e==n
 | e,f,x::r=>(x.o==e)&&(aa3 x.s&&(decide (x.s<=n-e)&&(!(f&& !x.u)&&abe n (e+x.s) (!x.u) r)))
def datOk:List Rk->List (List UInt8)->Bool
 | [],d=>d.isEmpty
 | x::r,d=>if x.u=true then (match d with
  | []=>false
  | y::d'=>((y.length:Int)==x.s-16)&&datOk r d') else datOk r d
def acG (n:Int) (l:List Rk) (d:List (List UInt8)):Bool:=ab3 n&&(abe n 184 false l&&datOk l d)
def adF (n:Int):Int->Bool->List Rk->List (List UInt8)->Bool
 | e,_,[],d=>(e==n)&&d.isEmpty
 | e,f,x::r,d=>if aa3 x.s=false\/x.o≠e\/(f=true/\x.u=false) then false else if x.u=true then (match d with
  | []=>false
  | y::d'=>if (y.length:Int)≠x.s-16 then false else adF n (e+x.s) (!x.u) r d')
  else adF n (e+x.s) (!x.u) r d
theorem aeZ{n:Int}:∀{l:List Rk}{e:Int}{f:Bool}{d:List (List UInt8)},adF n e f l d=true->e<=n
 | [],e,f,d,h=>by
  unfold adF at h;simp only[Bool.and_eq_true,beq_iff_eq]at h;omega
 | x::r,e,f,d,h=>by
  unfold adF at h;split at h
  · cases h
  · rename_i hc;have hs:aa3 x.s=true:=by
     cases hx:aa3 x.s with
     | true=>rfl
     | false=>exact absurd (.inl hx) hc
    have h3:=(aae _).1 hs;split at h
    · split at h
      · cases h
      · split at h
        · cases h
        · have:=aeZ h;omega
    · have:=aeZ h;omega
theorem ali (n:Int):∀(l:List Rk) (e:Int) (f:Bool) (d:List (List UInt8)),adF n e f l d=(abe n e f l&&datOk l d)
 | [],e,f,d=>rfl
 | x::r,e,f,d=>by
  have ih:=ali n r (e+x.s) (!x.u);by_cases hle:x.s<=n-e
  · unfold adF abe datOk;by_cases hs:aa3 x.s=true
    · by_cases ho:x.o=e
      · cases hf:f<;>cases hu:x.u<;>simp only[hs,ho,hu,hle,decide_true,Bool.true_and,Bool.not_true,Bool.not_false,Bool.and_true,Bool.and_false,Bool.false_and,Bool.true_eq_false,Bool.false_eq_true,false_and,and_false,and_self,or_false,or_true,ne_eq,not_true,if_true,if_false,beq_self_eq_true]at ih ⊢;all_goals (try rw[hu]at ih)
        all_goals first | exact ih d | skip
        all_goals
         cases d with
         | nil=>simp
         | cons y d'=>
          dsimp only;by_cases hy:(y.length:Int)=x.s-16
          · rw[if_neg (by simpa using hy)];have:((y.length:Int)==x.s-16)=true:=by simpa using hy
            rw[this,Bool.true_and];exact ih d'
          · rw[if_pos hy];have:((y.length:Int)==x.s-16)=false:=by simpa using hy
            rw[this,Bool.false_and,Bool.and_false]
      · rw[if_pos (.inr (.inl ho))];have:(x.o==e)=false:=by simpa using ho
        rw[this,Bool.false_and,Bool.false_and]
    · have hs:aa3 x.s=false:=by simpa using hs
      rw[if_pos (.inl hs),hs,Bool.false_and,Bool.and_false,Bool.false_and]
  · have h1:adF n e f (x::r) d=false:=by
     cases hd:adF n e f (x::r) d with
     | false=>rfl
     | true=>
      exfalso;unfold adF at hd;split at hd
      · cases hd
      · split at hd
        · split at hd
          · cases hd
          · split at hd
            · cases hd
            · have:=aeZ hd;omega
        · have:=aeZ hd;omega
    rw[h1];unfold abe;rw[decide_eq_false hle];simp
theorem agt{n:Int}:∀{l:List Rk}{e:Int}{f:Bool},abe n e f l=true->e+32*l.length<=n
 | [],e,f,h=>by
  unfold abe at h;have:e=n:=by simpa using h
  simp;omega
 | x::r,e,f,h=>by
  unfold abe at h;simp only[Bool.and_eq_true]at h;have h3:=(aae _).1 h.2.1;have h4:=agt h.2.2.2.2;rw[List.length_cons];omega
theorem ae0{n:Int}:∀{l:List Rk}{e:Int}{f:Bool},abe n e f l=true->∀x∈l,aa3 x.s=true
 | [],e,f,h,x,hx=>by cases hx
 | y::r,e,f,h,x,hx=>by
  unfold abe at h;simp only[Bool.and_eq_true]at h;rcases List.mem_cons.1 hx with rfl | hx
  · exact h.2.1
  · exact ae0 h.2.2.2.2 x hx
def alj (x:Rk):List UInt8:=aat 8 (ab0 x.s x.u)
def abv (l:List Rk):List UInt8:=(l.map alj).flatten
def adU (b:List UInt8):List UInt8:=aat 4 (abn 0 b)
def imMarkB:List UInt8:= [67,78,84,76,1,0,0,0]
def abR (n k:Nat):List UInt8:=imMarkB++aat 8 n++aat 8 k
def afN (b:List UInt8) (k:Nat):List UInt8:=b++adU (b.drop k)
def agu (n k:Nat):List UInt8:=afN (abR n k) 0
def aft (n:Nat) (l:List Rk):List UInt8:=afN (agu n l.length++abv l) 28
def ag4 (n:Nat) (l:List Rk) (d:List (List UInt8)):List UInt8:=afN (aft n l++d.flatten) (aft n l).length
def aaM (n:Nat) (l:List Rk) (d:List (List UInt8)):List UInt8:=afN (ag4 n l d) 0
theorem abY (b:List UInt8):(adU b).length=4:=aab _ _
theorem acd (n k:Nat):(abR n k).length=24:=by unfold abR imMarkB;simp[aab]
theorem aeu (n k:Nat):(agu n k).length=28:=by unfold agu afN;rw[List.length_append,acd,abY]
theorem adp:∀l:List Rk,(abv l).length=8*l.length
 | []=>rfl
 | x::r=>by
  have ih:=adp r;unfold abv at ih ⊢;rw[List.map_cons,List.flatten_cons,List.length_append,ih,List.length_cons];unfold alj;rw[aab];omega
theorem adc (n:Nat) (l:List Rk):(aft n l).length=32+8*l.length:=by
 unfold aft afN;rw[List.length_append,List.length_append,aeu,adp,abY];omega
theorem agv{α:Type}{l:List α}{j:Nat}{x:α}(h:l[j]?=some x):l.take (j+1)=l.take j++ [x]:=by
 rw[List.take_add_one,h];rfl
theorem aho{l:List Rk}{j:Nat}{x:Rk}(h:l[j]?=some x):abv (l.take (j+1))=abv (l.take j)++alj x:=by
 rw[agv h];unfold abv;rw[List.map_append,List.flatten_append];simp
theorem ace{d:List (List UInt8)}{j:Nat}{x:List UInt8}(h:d[j]?=some x):(d.take (j+1)).flatten=(d.take j).flatten++x:=by
 rw[agv h,List.flatten_append];simp
theorem acC{α:Type}{l:List α}{j:Nat}{x:α}(h:l[j]?=some x):l.drop j=x::l.drop (j+1):=by
 obtain⟨hj,e⟩:=List.getElem?_eq_some_iff.1 h;rw[List.drop_eq_getElem_cons hj,e]
end Go.Proofs.YthnfclimjmmckaaGreatDoor
