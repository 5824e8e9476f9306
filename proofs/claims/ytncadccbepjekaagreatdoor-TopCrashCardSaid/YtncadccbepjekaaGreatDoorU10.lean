/- Texts of mine, joined. -/
import Derived.Laws.BitsAllLaws
import Derived.Laws.ResultCell
import Derived.Lib.Strings
import Derived.Lib.Slices
import Derived.Lib.Small
import Derived.Lib.Walk
import Derived.Lib.BitFns
import Derived.Deep.DeepMust
import Derived.Test.YtncadccbepjekaaGreatDoorU8
set_option maxRecDepth 100000
set_option maxHeartbeats 4000000
namespace Go.Proofs.YtncadccbepjekaaGreatDoor
open Go.RowKit
theorem auA{k:IntKind}{a b:Int}(h:a=b):Ending.returned (.int k a)= .returned (.int k b):=by rw[h]
theorem asG{a b:Bool}(h:a=b):Ending.returned (.bool a)= .returned (.bool b):=by rw[h]
section
variable (w:World)
def ao5 (o:Option (Nat × Bool)):Value:=match o with
 | some (s,u)=> .tuple #[.int .i64 (s:Int), .bool u, .bool true]
 | none=> .tuple #[.int .i64 0, .bool false, .bool false]
def anu (o:Option Nat):Value:=match o with
 | some s=> .tuple #[.int .i64 (s:Int), .bool true]
 | none=> .tuple #[.int .i64 0, .bool false]
end
theorem anv (v:Nat) (hv:v<=16385):wrap64 (bits .andNot .u64 (v:Int) 1)=((v-v%2:Nat):Int):=by
 have h:bits .andNot .u64 (v:Int) ((1:Nat):Int)=((v&&&(18446744073709551615-1):Nat):Int):=by
  have hx:v&&&(18446744073709551615-1)<2^64:=Nat.and_lt_two_pow _ (by omega);show IntKind.u64.wrap ((BitVec.ofInt 64 (v:Int)&&&~~~BitVec.ofInt 64 ((1:Nat):Int)).toNat:Int)=_;rw[BitVec.toNat_and,BitVec.toNat_not,ofInt_u64 v (by omega),ofInt_u64 1 (by omega),IntKind.wrap_u64];have e:2^64-1-1=18446744073709551615-1:=by omega
  rw[e];omega
 have h2:v&&&(18446744073709551615-1)=v-v%2:=by
  rw[nat_hi64_1,Nat.mod_eq_of_lt (by omega)];omega
 have h3:bits .andNot .u64 (v:Int) 1=((v-v%2:Nat):Int):=by rw[<-h2];exact h
 rw[h3];have h4:=Nat.sub_le v (v%2);unfold wrap64;omega
theorem atg (v:Nat) (hv:v<18446744073709551616):(bits .and .u64 (v:Int) 1==1)=(v%2==1):=by
 have h:bits .and .u64 (v:Int) 1=((v&&&1:Nat):Int):=u64_and_nat v 1 hv (by omega);rw[h,Nat.and_one_is_mod,Bool.eq_iff_iff,beq_iff_eq,beq_iff_eq];omega
section
variable (w:World)
theorem adx (n:Int) (hn: -9223372036854775808<=n/\n<=9223372036854775807) (b:Bool) (hb:aaB n=b):
 Calls Tryz.prog 184 #[.int .i64 n] w fun e w'=>e= .returned (.bool b)/\w=w':=by
 by_cases h1:32<=n
 · by_cases h2:n<=16384
   · have e:(n%16==0)=b:=by rw[<-hb];simp[aaB,h1,h2]
     have HE:=hE0 e;clear hb e;go_enter Tryz.func184,Tryz.ntmps184
     go_wp2
     go_ret
     exact⟨asG HE.out,rfl⟩
   · obtain rfl:false=b:=by rw[<-hb];simp[aaB,h2]
     clear hb;go_enter Tryz.func184,Tryz.ntmps184
     go_wp2
     go_ret
     exact⟨rfl,rfl⟩
 · obtain rfl:false=b:=by rw[<-hb];simp[aaB,h1]
   clear hb;go_enter Tryz.func184,Tryz.ntmps184
   go_wp2
   go_ret
   exact⟨rfl,rfl⟩
theorem adc (s:Int) (u:Bool) (hs: -9223372036854775808<=s/\s<=9223372036854775807) (m:Nat) (hm:acf s u=m):
 Calls Tryz.prog 122 #[.int .i64 s, .bool u] w fun e w'=>e= .returned (.int .u64 (m:Int))/\w=w':=by
 cases hb:aaB s
 · obtain rfl:0=m:=by rw[<-hm];simp[acf,hb]
   have HI:=hE0 (adx w s hs false hb);clear hm hb;go_enter Tryz.func122,Tryz.ntmps122
   go_wp2_with fail
   with_reducible refine HI.out.mono ?_
   rintro e w1 ⟨rfl,rfl⟩;go_wp2
   go_ret
   exact⟨rfl,rfl⟩
 · have h:=(aab s).1 hb;have HI:=hE0 (adx w s hs true hb);obtain⟨n,rfl⟩:∃n:Nat,s=(n:Int):=⟨s.toNat,by omega⟩;have hn:n<=16384:=by omega
   have HM:Hid (n+(if u=true then 1 else 0)=m):=(show _=_ by rw[<-hm];simp[acf,hb]);clear hm hb h
   cases u
   · go_enter Tryz.func122,Tryz.ntmps122
     go_wp2_with fail
     with_reducible refine HI.out.mono ?_
     rintro e w1 ⟨rfl,rfl⟩;go_wp2
     go_ret
     exact⟨auA (by have:=HM.out;simp at this;omega),rfl⟩
   · go_enter Tryz.func122,Tryz.ntmps122
     go_wp2_with fail
     with_reducible refine HI.out.mono ?_
     rintro e w1 ⟨rfl,rfl⟩;go_wp2
     go_ret
     exact⟨auA (by have:=HM.out;simp at this;omega),rfl⟩
theorem abm (v:Nat) (hv:v<18446744073709551616):
 Calls Tryz.prog 187 #[.int .u64 (v:Int)] w fun e w'=>e= .returned (ao5 (adT v))/\w=w':=by
 by_cases h0:16385<v
 · have e:adT v=none:=by
    unfold adT;rw[if_neg];rintro⟨_,h⟩;have:=(aab _).1 h;omega
   rw[e];clear e;go_enter Tryz.func187,Tryz.ntmps187
   go_wp2
   go_ret3
   exact⟨rfl,rfl⟩
 · obtain⟨s,hs⟩:∃s:Nat,v-v%2=s:=⟨_,rfl⟩;have hs2:wrap64 (bits .andNot .u64 (v:Int) 1)=(s:Int):=by rw[anv v (by omega),hs]
   cases hb:aaB (s:Int)
   · have e:adT v=none:=by unfold adT;rw[hs,if_neg (by simp[hb])]
     rw[e];have HI:=hE0 (adx w (s:Int) (by have:=Nat.sub_le v (v%2);omega) false hb);have HS:=hE0 hs2;clear e hs hb hs2;go_enter Tryz.func187,Tryz.ntmps187
     go_wp2_with fail
     rw[HS.out]
     with_reducible refine HI.out.mono ?_
     rintro e w1 ⟨rfl,rfl⟩;go_wp2
     go_ret3
     exact⟨rfl,rfl⟩
   · have e:adT v=some (s,v%2==1):=by unfold adT;rw[hs,if_pos ⟨by omega,hb⟩]
     rw[e];have HI:=hE0 (adx w (s:Int) (by have:=Nat.sub_le v (v%2);omega) true hb);have HS:=hE0 hs2;have HB:=hE0 (atg v hv);clear e hs hb hs2;go_enter Tryz.func187,Tryz.ntmps187
     go_wp2_with fail
     rw[HS.out]
     with_reducible refine HI.out.mono ?_
     rintro e w1 ⟨rfl,rfl⟩;go_wp2
     go_ret3
     refine⟨?_,rfl⟩;rw[<-HB.out];rfl
end
theorem aac{w:World}{g:Nat}{o:Obj}(h:w.heap[g]?=some o):g<w.heap.size:=by
 rcases Nat.lt_or_ge g w.heap.size with h1 | h1
 · exact h1
 · rw[Array.getElem?_eq_none h1]at h;cases h
section
variable (w:World)
end
def acV:List Bk->List Value
 | []=> []
 | x::r=> .int .i64 (x.off:Int):: .int .i64 (x.size:Int):: .bool x.used::acV r
theorem ajV (a b:List Bk):acV (a++b)=acV a++acV b:=by
 induction a with
 | nil=>rfl
 | cons x r ih=>simp[acV,ih]
theorem ajW:∀(l:List Bk) (i:Nat) (x:Bk),l[i]?=some x->(acV l)[i*3]?=some (.int .i64 (x.off:Int))/\(acV l)[i*3+1]?=some (.int .i64 (x.size:Int))/\(acV l)[i*3+2]?=some (.bool x.used)
 | [],_,_,h=>by simp at h
 | y::r,0,x,h=>by
  simp at h;subst h;exact⟨rfl,rfl,rfl⟩
 | y::r,i+1,x,h=>by
  have:=ajW r i x (by simpa using h);have e:(i+1)*3=i*3+1+1+1:=by omega
  rw[e];exact⟨by simpa[acV]using this.1,by simpa[acV]using this.2.1,by simpa[acV]using this.2.2⟩
theorem auB:(Tryz.prog.info? 112).map (fun i=>(i.zero,i.size,i.bytes))=some (some (.agg #[.int .i64 0, .int .i64 0, .bool false]),3,24):=by kernel_rfl
theorem ahY{w:World}{base n size:Nat}{t:TypeId}{v:Value}{xs:List Value}(h:w.ownsRow base t size v n xs):∃A c,v= .slice A n c:=by
 rcases h.2 with⟨rfl,h0⟩ | ⟨g,cap,cur,rfl,_⟩
 · rw[h0];exact⟨none,0,rfl⟩
 · exact⟨_,_,rfl⟩
theorem aav{w w':World}{base n size:Nat}{t:TypeId}{v:Value}{xs:List Value}(h:w.ownsRow base t size v n xs) (hb:Below w.heap.size w w'):w'.ownsRow base t size v n xs:=by
 refine⟨h.1,?_⟩;rcases h.2 with h2 | ⟨g,cap,cur,hv,hg,hh,r⟩
 · exact .inl h2
 · refine .inr ⟨g,cap,cur,hv,hg,?_,r⟩;have:=(h.lt g (by rw[hv];rfl)).2;rw[hb.block g this];exact hh
section
variable (w:World)
end
theorem ath:(Tryz.prog.info? 3).map (fun i=>(i.zero,i.size,i.bytes))=some (some (.int .i64 0),1,8):=by kernel_rfl
def iV (n:Nat):Value:= .int .i64 (n:Int)
section
variable (w:World)
end
def avy:Prop:=∀(w:World) (n:Nat),n<18446744073709551616->Calls Tryz.prog 128 #[.int .u64 (n:Int)] w fun e w'=>e= .returned (anu (acU n))/\Below w.heap.size w w'
def auC:Prop:=∀(w:World) (s:Int),(-9223372036854775808<=s/\s<=9223372036854775807)->Calls Tryz.prog 177 #[.int .i64 s] w fun e w'=>e= .returned (.int .i64 (aaq s))/\Below w.heap.size w w'
section
variable (w:World)
theorem agH (n:Int) (hn: -9223372036854775808<=n/\n<=9223372036854775807) (b:Bool) (hb:aaB n=b):
 Calls Tryz.prog 231 #[.int .i64 n] w fun e w'=>e= .returned (.bool b)/\w=w':=by
 by_cases h1:32<=n
 · by_cases h2:n<=16384
   · have e:(n%16==0)=b:=by rw[<-hb];simp[aaB,h1,h2]
     have HE:=hE0 e;clear hb e;go_enter Tryz.func231,Tryz.ntmps231
     go_wp2
     go_ret
     exact⟨asG HE.out,rfl⟩
   · obtain rfl:false=b:=by rw[<-hb];simp[aaB,h2]
     clear hb;go_enter Tryz.func231,Tryz.ntmps231
     go_wp2
     go_ret
     exact⟨rfl,rfl⟩
 · obtain rfl:false=b:=by rw[<-hb];simp[aaB,h1]
   clear hb;go_enter Tryz.func231,Tryz.ntmps231
   go_wp2
   go_ret
   exact⟨rfl,rfl⟩
theorem ao6:∀q:Fin 256,0<=Lib.len8 (q.1:Int)/\Lib.len8 (q.1:Int)<=8:=by decide+kernel
theorem anw (x:Int) (h0:0<=x) (h1:x<=255):Calls Tryz.prog 268 #[.int .u64 x] w fun e w'=>e= .returned (.int .i64 (wrap64 (wrap64 (Lib.len8 x))))/\w=w':=by
 go_enter Tryz.func268,Tryz.ntmps268
 go_wp2
 go_ret
 exact⟨rfl,rfl⟩
theorem anx (q:Nat) (hq:q<=255):Calls Tryz.prog 268 #[.int .u64 (q:Int)] w fun e w'=>e= .returned (.int .i64 (Lib.len8 (q:Int)))/\w=w':=by
 have hl:=ao6 ⟨q,by omega⟩;have h:=anw w (q:Int) (by omega) (by omega);have e:wrap64 (wrap64 (Lib.len8 (q:Int)))=Lib.len8 (q:Int):=by
  simp only at hl;unfold wrap64;omega
 rw[e]at h;exact h
theorem art (q:Nat) (hq:q<=255):Calls Tryz.prog 232 #[.int .u64 (q:Int)] w fun e w'=>e= .returned (.int .i64 (Lib.len8 (q:Int)))/\w=w':=by
 have H:=hE0 (anx w q hq);go_enter Tryz.func232,Tryz.ntmps232
 go_wp2_with fail
 refine H.out.mono ?_;rintro e w1 ⟨rfl,rfl⟩;go_wp2
 go_ret
 exact⟨rfl,rfl⟩
theorem ao7:∀q:Fin 65,1<=q.1->(q.1<2/\Lib.len8 (q.1:Int)=1)\/(2<=q.1/\q.1<4/\Lib.len8 (q.1:Int)=2)\/(4<=q.1/\q.1<8/\Lib.len8 (q.1:Int)=3)\/(8<=q.1/\q.1<16/\Lib.len8 (q.1:Int)=4)\/(16<=q.1/\q.1<32/\Lib.len8 (q.1:Int)=5)\/(32<=q.1/\q.1<64/\Lib.len8 (q.1:Int)=6)\/(q.1=64/\Lib.len8 (q.1:Int)=7):=by decide+kernel
end
theorem ati{x:Int}{s:Nat}(h:x=(s:Int)):Ending.returned (.tuple #[.int .i64 x, .bool true])= .returned (anu (some s)):=by rw[h];rfl
theorem auD:avy:=by
 intro w n hn;by_cases h:n<=16368
 · obtain⟨s,hs⟩:∃s,acU n=some s:=⟨_,if_pos h⟩;have e:s=max 32 ((n+31)/16*16):=by
    have h2:acU n=some (max 32 ((n+31)/16*16)):=if_pos h;rw[h2]at hs;injection hs with hs;exact hs.symm
   rw[hs];have E:=hE0 (show s=max 32 ((n+31)/16*16) from e);clear hs e;go_enter Tryz.func128,Tryz.ntmps128
   go_wp2
   all_goals (go_ret2;exact⟨ati (by have:=E.out;omega),Below.refl _ _⟩)
 · rw[show acU n=none from if_neg h];go_enter Tryz.func128,Tryz.ntmps128
   go_wp2
   go_ret2
   exact⟨rfl,Below.refl _ _⟩
theorem ajX:auC:=by
 intro w s hs
 cases hb:aaB s
 · rw[show aaq s= -1 by simp[aaq,hb]];have HI:=hE0 (agH w s hs false hb);clear hb;go_enter Tryz.func177,Tryz.ntmps177
   go_wp2_with fail
   with_reducible refine HI.out.mono ?_
   rintro e w1 ⟨rfl,rfl⟩;go_wp2
   go_ret
   exact⟨rfl,Below.refl _ _⟩
 · have h:=(aab s).1 hb;have HI:=hE0 (agH w s hs true hb);by_cases h0:s<=256
   · have e:(s-32)/16=aaq s:=by
      unfold aaq;rw[if_neg (by simp[hb]),if_pos h0];omega
     obtain⟨c,hc⟩:=nmE (aaq s);rw[hc]at e ⊢;have HC:=hE0 e;clear e hc hb;go_enter Tryz.func177,Tryz.ntmps177
     go_wp2_with fail
     with_reducible refine HI.out.mono ?_
     rintro e w1 ⟨rfl,rfl⟩;go_wp2
     go_ret
     exact⟨auA HC.out,Below.refl _ _⟩
   · obtain⟨q,hq⟩:∃q:Nat,s/256=(q:Int):=⟨(s/256).toNat,by omega⟩;have hq1:1<=q/\q<=64:=by omega
     have cl:=ao7 ⟨q,by omega⟩ hq1.1;simp only at cl;have e:14+Lib.len8 (q:Int)=aaq s:=by
      unfold aaq;rw[if_neg (by simp[hb]),if_neg h0];rcases cl with⟨_,cl⟩ | ⟨_,_,cl⟩ | ⟨_,_,cl⟩ | ⟨_,_,cl⟩ | ⟨_,_,cl⟩ | ⟨_,_,cl⟩ | ⟨_,cl⟩<;>rw[cl]<;>(repeat' split)<;>omega
     obtain⟨c,hc⟩:=nmE (aaq s);rw[hc]at e ⊢;have hl:=ao6 ⟨q,by omega⟩;simp only at hl;have HC:=hE0 e;have HL:=hE0 (fun W=>art W q (by omega));clear e hc hb cl;obtain⟨l,hl8⟩:=nmE (Lib.len8 (q:Int));rw[hl8]at HC HL hl;clear hl8;go_enter Tryz.func177,Tryz.ntmps177
     go_wp2_with fail
     with_reducible refine HI.out.mono ?_
     rintro e w1 ⟨rfl,rfl⟩;go_wp2_with fail
     refine(HL.out _).mono ?_;rintro e w1 ⟨rfl,rfl⟩;go_wp2
     go_ret
     exact⟨auA HC.out,Below.refl _ _⟩
structure Rk where
 o:Int
 s:Int
 u:Bool
def ab0 (n:Int):Bool:=decide (184<=n)&&(decide (n<=16384)&&(n-184)%16==0)
theorem aaT (n:Int):ab0 n=true ↔ 184<=n/\n<=16384/\(n-184)%16=0:=by simp[ab0]
theorem acK (n:Int):ab0 n=false ↔ ¬(184<=n/\n<=16384/\(n-184)%16=0):=by rw[<-aaT];simp
def abh (n:Int):Int->Bool->List Rk->Bool
 | e,_,[]=>e==n
 | e,f,x::r=>(x.o==e)&&(aaB x.s&&(decide (x.s<=n-e)&&(!(f&& !x.u)&&abh n (e+x.s) (!x.u) r)))
def datOk:List Rk->List (List UInt8)->Bool
 | [],d=>d.isEmpty
 | x::r,d=>if x.u=true then (match d with
  | []=>false
  | y::d'=>((y.length:Int)==x.s-16)&&datOk r d') else datOk r d
def adR (n:Int) (l:List Rk) (d:List (List UInt8)):Bool:=ab0 n&&(abh n 184 false l&&datOk l d)
theorem ajY{n:Int}:∀{l:List Rk}{e:Int}{f:Bool},abh n e f l=true->e+32*l.length<=n
 | [],e,f,h=>by
  unfold abh at h;have:e=n:=by simpa using h
  simp;omega
 | x::r,e,f,h=>by
  unfold abh at h;simp only[Bool.and_eq_true]at h;have h3:=(aab _).1 h.2.1;have h4:=ajY h.2.2.2.2;rw[List.length_cons];omega
theorem ae3{n:Int}:∀{l:List Rk}{e:Int}{f:Bool},abh n e f l=true->∀x∈l,aaB x.s=true
 | [],e,f,h,x,hx=>by cases hx
 | y::r,e,f,h,x,hx=>by
  unfold abh at h;simp only[Bool.and_eq_true]at h;rcases List.mem_cons.1 hx with rfl | hx
  · exact h.2.1
  · exact ae3 h.2.2.2.2 x hx
def aoD (x:Rk):List UInt8:=aaF 8 (acf x.s x.u)
def acw (l:List Rk):List UInt8:=(l.map aoD).flatten
def ahZ (b:List UInt8):List UInt8:=aaF 4 (abd 0 b)
def imMarkB:List UInt8:= [67,78,84,76,1,0,0,0]
def aey (n k:Nat):List UInt8:=imMarkB++aaF 8 n++aaF 8 k
def agd (b:List UInt8) (k:Nat):List UInt8:=b++ahZ (b.drop k)
def alf (n k:Nat):List UInt8:=agd (aey n k) 0
def ah0 (n:Nat) (l:List Rk):List UInt8:=agd (alf n l.length++acw l) 28
def akX (n:Nat) (l:List Rk) (d:List (List UInt8)):List UInt8:=agd (ah0 n l++d.flatten) (ah0 n l).length
def aaH (n:Nat) (l:List Rk) (d:List (List UInt8)):List UInt8:=agd (akX n l d) 0
theorem ab6 (b:List UInt8):(ahZ b).length=4:=aag _ _
theorem ae4 (n k:Nat):(aey n k).length=24:=by unfold aey imMarkB;simp[aag]
theorem age (n k:Nat):(alf n k).length=28:=by unfold alf agd;rw[List.length_append,ae4,ab6]
theorem ad2:∀l:List Rk,(acw l).length=8*l.length
 | []=>rfl
 | x::r=>by
  have ih:=ad2 r;unfold acw at ih ⊢;rw[List.map_cons,List.flatten_cons,List.length_append,ih,List.length_cons];unfold aoD;rw[aag];omega
theorem ady (n:Nat) (l:List Rk):(ah0 n l).length=32+8*l.length:=by
 unfold ah0 agd;rw[List.length_append,List.length_append,age,ad2,ab6];omega
theorem ajZ{α:Type}{l:List α}{j:Nat}{x:α}(h:l[j]?=some x):l.take (j+1)=l.take j++ [x]:=by
 rw[List.take_add_one,h];rfl
theorem anz{l:List Rk}{j:Nat}{x:Rk}(h:l[j]?=some x):acw (l.take (j+1))=acw (l.take j)++aoD x:=by
 rw[ajZ h];unfold acw;rw[List.map_append,List.flatten_append];simp
theorem ade{d:List (List UInt8)}{j:Nat}{x:List UInt8}(h:d[j]?=some x):(d.take (j+1)).flatten=(d.take j).flatten++x:=by
 rw[ajZ h,List.flatten_append];simp
theorem aeE{α:Type}{l:List α}{j:Nat}{x:α}(h:l[j]?=some x):l.drop j=x::l.drop (j+1):=by
 obtain⟨hj,e⟩:=List.getElem?_eq_some_iff.1 h;rw[List.drop_eq_getElem_cons hj,e]
def RkRd (w:World) (B:Nat) (A:Option Addr) (l:List Rk):Prop:=0<l.length->∃b o,A=some ⟨b,o,none⟩/\b<B/\∀j x,l[j]?=some x->
 w.cell? ⟨b,o+j*3,none⟩=some (.int .i64 x.o)/\w.cell? ⟨b,o+j*3+1,none⟩=some (.int .i64 x.s)/\w.cell? ⟨b,o+j*3+2,none⟩=some (.bool x.u)/\
 (-9223372036854775808<=x.o/\x.o<=9223372036854775807)/\(-9223372036854775808<=x.s/\x.s<=9223372036854775807)
def DtRd (w:World) (B:Nat) (A:Option Addr) (d:List (List UInt8)):Prop:=0<d.length->∃b o,A=some ⟨b,o,none⟩/\b<B/\∀j y,d[j]?=some y->
 ∃A' k,w.cell? ⟨b,o+j,none⟩=some (.slice A' y.length k)/\Rd w B A' y.length y/\y.length<=maxLen/\y.length<=k/\(A'=none->k=0)
section
variable {w w':World} {B B':Nat} {A:Option Addr} {l:List Rk} {d:List (List UInt8)}
theorem RkRd.below (h:RkRd w B A l) (hb:Below B w w'):RkRd w' B A l:=fun hn=>by
 obtain⟨b,o,e,hB,hc⟩:=h hn;refine⟨b,o,e,hB,fun j x hx=> ?_⟩;obtain⟨h0,h1,h2,h3⟩:=hc j x hx;exact⟨(hb.cell (p:=⟨b,o+j*3,none⟩) hB).trans h0,(hb.cell (p:=⟨b,o+j*3+1,none⟩) hB).trans h1,(hb.cell (p:=⟨b,o+j*3+2,none⟩) hB).trans h2,h3⟩
theorem RkRd.more (h:RkRd w B A l) (hB:B<=B'):RkRd w B' A l:=fun hn=>by
 obtain⟨b,o,e,hb,hc⟩:=h hn;exact⟨b,o,e,Nat.lt_of_lt_of_le hb hB,hc⟩
theorem DtRd.below (h:DtRd w B A d) (hb:Below B w w'):DtRd w' B A d:=fun hn=>by
 obtain⟨b,o,e,hB,hc⟩:=h hn;refine⟨b,o,e,hB,fun j x hx=> ?_⟩;obtain⟨A',k,h0,h1,h2⟩:=hc j x hx;exact⟨A',k,(hb.cell (p:=⟨b,o+j,none⟩) hB).trans h0,h1.below hb,h2⟩
theorem DtRd.more (h:DtRd w B A d) (hB:B<=B'):DtRd w B' A d:=fun hn=>by
 obtain⟨b,o,e,hb,hc⟩:=h hn;refine⟨b,o,e,Nat.lt_of_lt_of_le hb hB,fun j x hx=> ?_⟩;obtain⟨A',k,h0,h1,h2⟩:=hc j x hx;exact⟨A',k,h0,h1.more hB,h2⟩
end
theorem amC (w:World) (k:Nat):Below w.heap.size w (w.drewN k):=⟨rfl,rfl,rfl,Nat.le_refl _,fun _ _=>rfl⟩
theorem atj{P:Program}{ops:Array Oper}{Q:Exit->Act->World->Prop}{i B:Nat}{o:Oper}{a:Act}{w:World}{K:Act->World->Prop}(ho:ops[i]?=some o) (d:Option Tmp) (hd:o.dst=d) (hw:Region.wanted o (yielded ops a.tmps)=false) (hk:K (a.put d undef) w):wpOp P ops Q i (fun a'' w''=>Below B w w''/\K a'' w'') a w:=by
 subst hd;unfold wpOp;simp only[ho];rw[if_neg (by rw[hw];decide)];exact⟨Below.refl _ _,hk⟩
def imV (n:Int) (A1:Option Addr) (ll k1:Nat) (A2:Option Addr) (dl k2:Nat):Value:= .agg #[.int .i64 n, .slice A1 ll k1, .slice A2 dl k2]
theorem aal{w:World}{x0 x1 x2:Value}{g:Nat}{t:TypeId}(h:w.heap[g]?=some (.cells #[x0,x1,x2] t (0,0))):
 w.cell? ⟨g,0,none⟩=some x0/\w.cell? ⟨g,1,none⟩=some x1/\w.cell? ⟨g,2,none⟩=some x2:=by
 refine⟨?_,?_,?_⟩
 · rw[cell_of_row w g 0 _ _ (0,0) h];rfl
 · rw[cell_of_row w g 1 _ _ (0,0) h];rfl
 · rw[cell_of_row w g 2 _ _ (0,0) h];rfl
theorem aaa{w:World}{g:Nat}{cs:Array Value}{t:TypeId}(h:w.heap[g]?=some (.cells cs t (0,0))):g<w.heap.size:=by
 rcases Nat.lt_or_ge g w.heap.size with h' | h'
 · exact h'
 · rw[Array.getElem?_eq_none h']at h;cases h
def auu (n:Int):Nat:=(n%18446744073709551616).toNat
theorem ao8 (n:Int) (hn: -9223372036854775808<=n/\n<=9223372036854775807):ab0 ((auu n:Nat):Int)=ab0 n:=by
 unfold auu;rcases Int.lt_or_le n 0 with h | h
 · have e1:ab0 n=false:=(acK n).2 (by omega);rw[e1];exact(acK _).2 (by omega)
 · rw[Int.emod_eq_of_lt h (by omega),Int.toNat_of_nonneg h]
theorem agI (w:World) (v:Nat) (hv:v<18446744073709551616) (b:Bool) (hb:ab0 (v:Int)=b):
 Calls Tryz.prog 178 #[.int .u64 (v:Int)] w fun e w'=>e= .returned (.bool b)/\w=w':=by
 by_cases h1:184<=v
 · by_cases h2:v<=16384
   · by_cases h3:(v-184)%16=0
     · obtain rfl:true=b:=by rw[<-hb];exact((aaT _).2 (by omega)).symm
       clear hb;go_enter Tryz.func178,Tryz.ntmps178
       go_wp2
       go_ret
       exact⟨abk (by rw[beq_iff_eq];omega),rfl⟩
     · obtain rfl:false=b:=by rw[<-hb];exact((acK _).2 (by omega)).symm
       clear hb;go_enter Tryz.func178,Tryz.ntmps178
       go_wp2
       go_ret
       exact⟨abk (by rw[beq_eq_false_iff_ne];omega),rfl⟩
   · obtain rfl:false=b:=by rw[<-hb];exact((acK _).2 (by omega)).symm
     clear hb;go_enter Tryz.func178,Tryz.ntmps178
     go_wp2
     go_ret
     exact⟨rfl,rfl⟩
 · obtain rfl:false=b:=by rw[<-hb];exact((acK _).2 (by omega)).symm
   clear hb;go_enter Tryz.func178,Tryz.ntmps178
   go_wp2
   go_ret
   exact⟨rfl,rfl⟩
theorem aj0 (w:World) (A:Option Addr) (k1:Nat) (l:List Rk) (hr:RkRd w w.heap.size A l) (hl:l.length<=1000000) (n:Int) (hn:184<=n/\n<=16384) (y:Bool) (hy:abh n 184 false l=y):
 Calls Tryz.prog 179 #[.slice A l.length k1, .int .i64 n] w fun e w'=>e= .returned (.bool y)/\Below w.heap.size w w':=by
 have HR:=hE0 hr;have HY:=hE0 hy;obtain⟨m,hm⟩:=nmE l.length;rw[hm]at hl ⊢;have HM:=hE0 hm;clear hr hy hm;go_enter Tryz.func179,Tryz.ntmps179
 go_wp2
 go_loopw [5,6,11] (fun e f t wr=>∃(j:Nat) (z:Int) (b:Bool),t= .int .i64 (j:Int)/\e= .int .i64 z/\f= .bool b/\j<=m/\(184<=z/\z<=n)/\abh n z b (l.drop j)=y/\Below w.heap.size w wr) (fun _ _ t _=>m-(intOf t).toNat)
 case atStart=>exact⟨0,184,false,rfl,rfl,rfl,Nat.zero_le _,⟨Int.le_refl _,hn.1⟩,HY.out,Below.refl _ _⟩
 case round=>
  obtain⟨j,z,b,rfl,rfl,rfl,hj,hz,hyy,hb⟩:=hrel;by_cases hlt:j<m
  · obtain⟨x,hx⟩:∃x,l[j]?=some x:=⟨l[j]'(by rw[HM.out];exact hlt),List.getElem?_eq_getElem _⟩;obtain⟨b2,o,rfl,hbb,hcl⟩:=HR.out (by rw[HM.out];omega);obtain⟨p0,p1,p2,hxo,hxs⟩:=hcl j x hx;have r0:=(hb.cell (p:=⟨b2,o+j*3,none⟩) hbb).trans p0;have r1:=(hb.cell (p:=⟨b2,o+j*3+1,none⟩) hbb).trans p1;have r2:=(hb.cell (p:=⟨b2,o+j*3+2,none⟩) hbb).trans p2;rw[aeE hx]at hyy;unfold abh at hyy;obtain⟨xo,xs,xu⟩:=x;dsimp only at p0 p1 p2 r0 r1 r2 hyy hxo hxs;obtain⟨w4,hw4⟩:=nmE (wr.alloc (.cells #[.int .i64 xo, .int .i64 xs, .bool xu] 112));have hb4:Below w.heap.size w w4:=by rw[<-hw4];exact hb.alloc hb.size _
    have n4:=anE hw4;obtain⟨d0,d1,d2⟩:=aal n4;have hl4:=aaa n4;have HW4:=hE0 hw4;have HB4:=hE0 hb4;have HYY:=hE0 hyy;clear hx hb p0 p1 p2 hb4 n4 hw4 hcl hyy;by_cases ho:xo=z
    · have g0:(xo !=z)=false:=by rw[bne_eq_false_iff_eq];exact ho
      obtain⟨pk,hpk⟩:=nmE (acf xs xu);have HPK:=hE0 (fun W=>adc (w:=W) xs xu hxs pk hpk);by_cases hsz:aaB xs=true
      · have h3:=(aab _).1 hsz;have hpk0:pk≠0:=by
         rw[<-hpk];unfold acf;rw[if_pos hsz];omega
        have g1:((pk:Int)==0)=false:=by rw[beq_eq_false_iff_ne];omega
        by_cases hle:xs<=n-z
        · have g2:decide (n-z<xs)=false:=decide_eq_false (by omega);by_cases hfu:b=true/\xu=false
          · obtain⟨rfl,rfl⟩:=hfu;have HF:Hid (y=false):=(show y=false by
             have e:=HYY.out;simp at e;first | exact e.symm | exact e)
            clear hsz h3 hpk ho;go_wp2_with (first | (rw[HW4.out]) | fail)
            refine(HPK.out _).mono ?_;rintro e w5 ⟨rfl,rfl⟩;go_wp2
            go_ret
            exact⟨abk HF.out.symm,HB4.out⟩
          · have HF:Hid (abh n (z+xs) (!xu) (l.drop (j+1))=y):=(show _=y by
             have e:=HYY.out;have e1:(b&& !xu)=false:=by
              cases b<;>cases xu<;>first | rfl | exact absurd ⟨rfl,rfl⟩ hfu
             have e2:(xo==z)=true:=by rw[beq_iff_eq];exact ho
             rw[e2,hsz,decide_eq_true hle,e1]at e;simpa using e)
            clear hsz hpk ho
            cases b<;>cases xu;all_goals first | exact absurd ⟨rfl,rfl⟩ hfu | skip
            all_goals
             clear hfu;go_wp2_with (first | (rw[HW4.out]) | fail)
             refine(HPK.out _).mono ?_;rintro e w5 ⟨rfl,rfl⟩;go_wp2_with fail
             go_quiet (fail)
             go_wp2
             go_roundw
             case rel=>exact⟨j+1,z+xs,_,by go_num,by go_num,rfl,by omega,by omega,HF.out,HB4.out.trans ((amC _ _).mono HB4.out.size)⟩
             case measure=>simp only[intOf];omega
        · have g2:decide (n-z<xs)=true:=decide_eq_true (by omega);have HF:Hid (y=false):=(show y=false by
           have e:=HYY.out;rw[decide_eq_false hle]at e;simp at e;first | exact e.symm | exact e)
          clear hsz hpk ho;go_wp2_with (first | (rw[HW4.out]) | fail)
          refine(HPK.out _).mono ?_;rintro e w5 ⟨rfl,rfl⟩;go_wp2
          go_ret
          exact⟨abk HF.out.symm,HB4.out⟩
      · have hpk0:pk=0:=by rw[<-hpk];unfold acf;rw[if_neg hsz]
        subst hpk0;have HF:Hid (y=false):=(show y=false by
         have e:=HYY.out;have hs2:aaB xs=false:=by simpa using hsz
         rw[hs2]at e;simp at e;first | exact e.symm | exact e)
        clear hsz hpk ho;go_wp2_with (first | (rw[HW4.out]) | fail)
        refine(HPK.out _).mono ?_;rintro e w5 ⟨rfl,rfl⟩;go_wp2
        go_ret
        exact⟨abk HF.out.symm,HB4.out⟩
    · have g0:(xo !=z)=true:=by rw[bne_iff_ne];exact ho
      have HF:Hid (y=false):=(show y=false by
       have e:=HYY.out;have e2:(xo==z)=false:=by rw[beq_eq_false_iff_ne];exact ho
       rw[e2]at e;simp at e;first | exact e.symm | exact e)
      clear ho;go_wp2_with (first | (rw[HW4.out]) | fail)
      go_ret
      exact⟨abk HF.out.symm,HB4.out⟩
  · have hd:l.drop j= []:=List.drop_eq_nil_of_le (by rw[HM.out];omega);rw[hd]at hyy;unfold abh at hyy;have HYY:=hE0 hyy;have HBB:=hE0 hb;clear hyy hb hd;go_wp2
    go_ret
    exact⟨abk HYY.out,HBB.out⟩
theorem aen (w:World) (o s:Int) (u:Bool) (hs:aaB s=true):
 Calls Tryz.prog 117 #[.agg #[.int .i64 o, .int .i64 s, .bool u]] w fun e w'=>e= .returned (.int .i64 (s-16))/\Below w.heap.size w w':=by
 have h3:=(aab _).1 hs;obtain⟨w1,hw1⟩:=nmE (w.alloc (.cells #[.int .i64 o, .int .i64 s, .bool u] 112));have hb1:=abE hw1;have n1:=anE hw1;obtain⟨_,d1,_⟩:=aal n1;have hl:=aaa n1;have HW1:=hE0 hw1;have HB1:=hE0 hb1;clear hw1 hb1 n1 hs;go_enter Tryz.func117,Tryz.ntmps117
 go_wp2_with (first | (rw[HW1.out]) | fail)
 go_ret
 exact⟨rfl,HB1.out⟩
theorem ao9 (w:World) (A1 A2:Option Addr) (k1 k2:Nat) (l:List Rk) (d:List (List UInt8)) (hr:RkRd w w.heap.size A1 l) (hd:DtRd w w.heap.size A2 d) (hl:l.length<=1000000) (hdl:d.length<=1000000) (hs:∀x∈l,aaB x.s=true) (y:Bool) (hy:datOk l d=y):
 Calls Tryz.prog 180 #[.slice A2 d.length k2, .slice A1 l.length k1] w fun e w'=>e= .returned (.bool y)/\Below w.heap.size w w':=by
 have HR:=hE0 hr;have HD:=hE0 hd;have HY:=hE0 hy;have HS:=hE0 hs;obtain⟨m,hm⟩:=nmE l.length;obtain⟨n,hn⟩:=nmE d.length;rw[hm]at hl ⊢;rw[hn]at hdl ⊢;have HM:=hE0 hm;have HN:=hE0 hn;clear hr hd hy hs hm hn;go_enter Tryz.func180,Tryz.ntmps180
 go_wp2
 go_loopw [5,10] (fun v t wr=>∃(j i:Nat),t= .int .i64 (j:Int)/\v= .int .i64 (i:Int)/\j<=m/\i<=n/\datOk (l.drop j) (d.drop i)=y/\Below w.heap.size w wr) (fun _ t _=>m-(intOf t).toNat)
 case atStart=>exact⟨0,0,rfl,rfl,Nat.zero_le _,Nat.zero_le _,HY.out,Below.refl _ _⟩
 case round=>
  obtain⟨j,i,rfl,rfl,hj,hi,hyy,hb⟩:=hrel;by_cases hlt:j<m
  · obtain⟨x,hx⟩:∃x,l[j]?=some x:=⟨l[j]'(by rw[HM.out];exact hlt),List.getElem?_eq_getElem _⟩;obtain⟨b2,o,rfl,hbb,hcl⟩:=HR.out (by rw[HM.out];omega);obtain⟨p0,p1,p2,hxo,hxs⟩:=hcl j x hx;have r0:=(hb.cell (p:=⟨b2,o+j*3,none⟩) hbb).trans p0;have r1:=(hb.cell (p:=⟨b2,o+j*3+1,none⟩) hbb).trans p1;have r2:=(hb.cell (p:=⟨b2,o+j*3+2,none⟩) hbb).trans p2;have hsx:=HS.out x (List.mem_of_getElem? hx);rw[aeE hx]at hyy;unfold datOk at hyy;obtain⟨xo,xs,xu⟩:=x;dsimp only at p0 p1 p2 r0 r1 r2 hyy hxo hxs hsx;obtain⟨w4,hw4⟩:=nmE (wr.alloc (.cells #[.int .i64 xo, .int .i64 xs, .bool xu] 112));have hb4:Below w.heap.size w w4:=by rw[<-hw4];exact hb.alloc hb.size _
    have n4:=anE hw4;obtain⟨d0,d1,d2⟩:=aal n4;have hl4:=aaa n4;have HW4:=hE0 hw4;have HB4:=hE0 hb4;have HYY:=hE0 hyy;have HN4:=hE0 n4;clear hx hb p0 p1 p2 hb4 n4 hw4 hcl hyy
    cases xu with
    | false=>
     have HF:Hid (datOk (l.drop (j+1)) (d.drop i)=y):=(show _=y from by
      have e:=HYY.out;rw[if_neg (by decide)]at e;exact e)
     go_wp2_with (first | (rw[HW4.out]) | fail)
     go_roundw
     case rel=>exact⟨j+1,i,by go_num,rfl,by omega,hi,HF.out,HB4.out⟩
     case measure=>simp only[intOf];omega
    | true=>
     by_cases hin:i=n
     · have g0:((i:Int)==(n:Int))=true:=by rw[beq_iff_eq];omega
       have HF:Hid (y=false):=(show y=false from by
        have e:=HYY.out;rw[if_pos rfl,List.drop_eq_nil_of_le (by rw[HN.out];omega)]at e;exact e.symm)
       obtain⟨wd,hwd⟩:=nmE w4.drew;have HWD:=hE0 hwd;have HBD:Hid (Below w.heap.size w wd):=(show Below _ _ _ by rw[<-hwd];exact HB4.out.drew);clear hwd;go_wp2_with (first | (rw[HW4.out]) | fail)
       refine aar wd.heap.size [([0,1,2,3,4,5,6,7,8,9,10],11)] [12,13] [] (by kernel_rfl) (by kernel_rfl) (by kernel_rfl) (fun _ _ _ _ _ h=>h) ?_;rw[HWD.out];refine tail_cons (l:= ?segA) ?hsegA ?_
       case hsegA=>simp only[pick,lE1,lE2,lE3];rfl
       repeat (go_big_quiet_step (fail))
       refine wpQuiet_nil ?_;refine atj rfl (some 28) rfl rfl ⟨wd.heap.size,Nat.le_refl _,?_⟩;simp only[Act.put,lE4,lE5,lE6];refine aaO (l:= ?lastA) (t:= []) ?hlastA ?htlastA ?_
       case hlastA=>simp only[pick,lE1,lE2,lE3];rfl
       case htlastA=>rfl
       repeat (go_big_quiet_step (fail))
       refine wpQuiet_nil ?_;go_wp2
       go_ret
       exact⟨abk HF.out.symm,HBD.out⟩
     · have g0:((i:Int)==(n:Int))=false:=by rw[beq_eq_false_iff_ne];omega
       have hi2:(i:Int)<(n:Int):=by omega
       obtain⟨z,hz⟩:∃z,d[i]?=some z:=⟨d[i]'(by rw[HN.out];omega),List.getElem?_eq_getElem _⟩;obtain⟨b3,o3,rfl,hb3,hc3⟩:=HD.out (by rw[HN.out];omega);obtain⟨A',kz,z0,_,zl,_,_⟩:=hc3 i z hz;obtain⟨zn,hzn⟩:=nmE z.length;rw[hzn]at z0 zl;unfold maxLen at zl;obtain⟨wd,hwd⟩:=nmE w4.drew;have hwb:=adE hwd;have hbd:=HB4.out.trans (hwb.mono HB4.out.size);have nd:=(hwb.block _ (aaa HN4.out)).trans HN4.out;have zd:=(hbd.cell (p:=⟨b3,o3+i,none⟩) hb3).trans z0;have l3:b3<wd.heap.size:=Nat.lt_of_lt_of_le hb3 hbd.size;obtain⟨e0,e1,e2⟩:=aal nd;have le:=aaa nd;have hyy:=HYY.out;rw[if_pos rfl,aeE hz]at hyy;dsimp only at hyy;rw[hzn]at hyy;have HYZ:=hE0 hyy;have HHELD:=hE0 (aen wd xo xs true hsx);have HWD:=hE0 hwd;have HBD:=hE0 hbd;clear hwd hwb hbd nd hyy hz hc3 z0;by_cases hzz:(zn:Int)=xs-16
       · have g1:((zn:Int) !=xs-16)=false:=by rw[bne_eq_false_iff_eq];exact hzz
         have HF:Hid (datOk (l.drop (j+1)) (d.drop (i+1))=y):=(show _=y from by
          have e:=HYZ.out;have e2:((zn:Int)==xs-16)=true:=by rw[beq_iff_eq];exact hzz
          rw[e2,Bool.true_and]at e;exact e)
         clear hzz;go_wp2_with (first | (rw[HW4.out]) | fail)
         refine aar wd.heap.size [([0,1,2,3,4,5,6,7,8,9,10],11)] [12,13] [] (by kernel_rfl) (by kernel_rfl) (by kernel_rfl) (fun _ _ _ _ _ h=>h) ?_;rw[HWD.out];have q0:=tfE zd l3;have q1:=tfE e0 le;have q2:=tfE e1 le;have q3:=tfE e2 le;refine tail_cons (l:= ?segB) ?hsegB ?_
         case hsegB=>simp only[pick,lE1,lE2,lE3];rfl
         repeat (go_big_quiet_step (fail))
         refine wpQuiet_nil ?_;clear q0 q1 q2 q3;refine aau (vs:= #[.agg #[.int .i64 xo, .int .i64 xs, .bool true]]) Tryz.call117 rfl rfl rfl (R:=fun r w'=>r= .int .i64 (xs-16)/\Below wd.heap.size wd w') (HHELD.out.mono ?_) wd.heap.size (Nat.le_refl _) ?_
         · rintro e w' ⟨rfl,hb⟩;exact⟨_,rfl,hb,rfl,hb⟩
         rintro r w5 hb5 ⟨rfl,_⟩;have HB5:=hE0 (HBD.out.trans (hb5.mono HBD.out.size));clear hb5;simp only[Act.put,lE4,lE5,lE6];refine aaO (l:= ?lastB) (t:= []) ?hlastB ?htlastB ?_
         case hlastB=>simp only[pick,lE1,lE2,lE3];rfl
         case htlastB=>rfl
         repeat (go_big_quiet_step (fail))
         refine wpQuiet_nil ?_;go_wp2
         go_roundw
         case rel=>exact⟨j+1,i+1,by go_num,by go_num,by omega,by omega,HF.out,HB5.out⟩
         case measure=>simp only[intOf];omega
       · have g1:((zn:Int) !=xs-16)=true:=by rw[bne_iff_ne];exact hzz
         have HF:Hid (y=false):=(show y=false from by
          have e:=HYZ.out;have e2:((zn:Int)==xs-16)=false:=by rw[beq_eq_false_iff_ne];exact hzz
          rw[e2,Bool.false_and]at e;exact e.symm)
         clear hzz;go_wp2_with (first | (rw[HW4.out]) | fail)
         refine aar wd.heap.size [([0,1,2,3,4,5,6,7,8,9,10],11)] [12,13] [] (by kernel_rfl) (by kernel_rfl) (by kernel_rfl) (fun _ _ _ _ _ h=>h) ?_;rw[HWD.out];have q0:=tfE zd l3;have q1:=tfE e0 le;have q2:=tfE e1 le;have q3:=tfE e2 le;refine tail_cons (l:= ?segC) ?hsegC ?_
         case hsegC=>simp only[pick,lE1,lE2,lE3];rfl
         repeat (go_big_quiet_step (fail))
         refine wpQuiet_nil ?_;clear q0 q1 q2 q3;refine aau (vs:= #[.agg #[.int .i64 xo, .int .i64 xs, .bool true]]) Tryz.call117 rfl rfl rfl (R:=fun r w'=>r= .int .i64 (xs-16)/\Below wd.heap.size wd w') (HHELD.out.mono ?_) wd.heap.size (Nat.le_refl _) ?_
         · rintro e w' ⟨rfl,hb⟩;exact⟨_,rfl,hb,rfl,hb⟩
         rintro r w5 hb5 ⟨rfl,_⟩;have HB5:=hE0 (HBD.out.trans (hb5.mono HBD.out.size));clear hb5;simp only[Act.put,lE4,lE5,lE6];refine aaO (l:= ?lastC) (t:= []) ?hlastC ?htlastC ?_
         case hlastC=>simp only[pick,lE1,lE2,lE3];rfl
         case htlastC=>rfl
         repeat (go_big_quiet_step (fail))
         refine wpQuiet_nil ?_;go_wp2
         go_ret
         exact⟨abk HF.out.symm,HB5.out⟩
  · have hdn:l.drop j= []:=List.drop_eq_nil_of_le (by rw[HM.out];omega);rw[hdn]at hyy;unfold datOk at hyy;have HYY:=hE0 hyy;have HBB:=hE0 hb;clear hyy hb hdn;go_wp2
    go_ret
    exact⟨abk (by
     rw[<-HYY.out];by_cases hin:i=n
     · rw[List.drop_eq_nil_of_le (by rw[HN.out];omega)];rw[List.isEmpty_nil,beq_iff_eq];omega
     · have e:((i:Int)==(n:Int))=false:=by rw[beq_eq_false_iff_ne];omega
       rw[e]
       cases hd2:d.drop i with
       | nil=>have:=congrArg List.length hd2;rw[List.length_drop,HN.out]at this;simp at this;omega
       | cons _ _=>rfl),HBB.out⟩
theorem afw:(Tryz.prog.info? 5).map (fun i=>(i.zero,i.size,i.bytes))=some (some (.int .u8 0),1,1):=by kernel_rfl
theorem aru{w:World}{B n c:Nat}{A:Option Addr}{xs:List Value}{t:TypeId}(h:w.ownsRow B t 1 (.slice A n c) n xs) (hn:0<n):w.ownsRow B t 1 (.slice A 0 c) 0 []:=by
 rcases h.2 with⟨_,h0⟩ | ⟨g,cap,cur,hv,hg,hh,hnc,hcm,hcs,ht⟩
 · omega
 · injection hv with e1 e2 e3;subst e1 e3;exact⟨rfl, .inr ⟨g,c,cur,rfl,hg,hh,Nat.zero_le _,hcm,hcs,by simp⟩⟩
theorem apa (w:World) (n:Nat) (hn:n<=1000000):
 Calls Tryz.prog 181 #[.slice none 0 0, .int .i64 (n:Int)] w fun e w'=>∃A c,e= .returned (.slice A 0 c)/\w'.ownsRow w.heap.size 5 1 (.slice A 0 c) 0 (([]:List UInt8).map bv)/\Below w.heap.size w w':=by
 by_cases h0:n=0
 · subst h0;go_enter Tryz.func181,Tryz.ntmps181
   go_wp2
   go_ret
   exact⟨none,0,rfl,World.ownsRow_nil _ _ _ _,Below.refl _ _⟩
 · obtain⟨A',c',w2,hr,hown,hgr,_⟩:=adO (P:=Tryz.prog) w 37 3 37 5 .i64 Tryz.underlying37 Tryz.underlying3 afw w.heap.size none 0 [] (World.ownsRow_nil _ _ _ _) n (by simp;omega) (Nat.le_refl _);simp only[List.length_nil,Nat.zero_add]at hr hown;have hfin:w2.ownsRow w.heap.size 5 1 (.slice A' 0 c') 0 (([]:List UInt8).map bv):=aru hown (by omega);have hbel:Below w.heap.size w w2:=(Below.refl _ _).grown hgr (Nat.le_refl _) (fun k hk=>by cases hk);have hnc:n<=c':=by
    rcases hown.2 with⟨_,h'⟩ | ⟨g,cap,cur,hv,_,_,h',_⟩
    · omega
    · injection hv with _ _ e3;subst e3;exact h'
   have hA:∃g,A'=some ⟨g,0,none⟩:=by
    rcases hown.2 with⟨_,h'⟩ | ⟨g,cap,cur,hv,_⟩
    · omega
    · injection hv with e1 _ _;exact⟨g,e1⟩
   obtain⟨g,rfl⟩:=hA;have h1:decide (0<n)=true:=decide_eq_true (by omega);have HR:=hE0 hr;have HF:=hE0 hfin;have HB:=hE0 hbel;clear hr hfin hbel hown hgr h0;go_enter Tryz.func181,Tryz.ntmps181
   go_wp2_with (at_builtin;refine Lib.wpList_append_run _ rfl (.tmp 20) (.tmp 21) 37 3 rfl _ _ rfl rfl _ _ HR.out ?_)
   go_ret
   exact⟨some ⟨g,0,none⟩,c',rfl,HF.out,HB.out⟩
theorem ae5 (d:List (List UInt8)) (j:Nat):(d.take j).flatten.length<=d.flatten.length:=by
 have h:=congrArg (fun l:List (List UInt8)=>l.flatten.length) (List.take_append_drop j d);simp only[List.flatten_append,List.length_append]at h;omega
theorem afx (w:World) (A:Option Addr) (k:Nat) (d:List (List UInt8)) (hd:DtRd w w.heap.size A d) (hl:d.length<=1000) (hs:d.flatten.length<=1000000):
 Calls Tryz.prog 119 #[.slice A d.length k] w fun e w'=>∃v,e= .returned v/\w'.ownsRow w.heap.size 5 1 v d.flatten.length (d.flatten.map bv)/\Below w.heap.size w w':=by
 have HD:=hE0 hd;have HS:=hE0 (fun j=>Nat.le_trans (ae5 d j) hs);have HGR:=hE0 (apa w d.flatten.length hs);obtain⟨m,hm⟩:=nmE d.length;rw[hm]at hl ⊢;have HM:=hE0 hm;obtain⟨sz,hsz⟩:=nmE d.flatten.length;rw[hsz]at HGR hs ⊢;have HSZ:=hE0 hsz;clear hd hm hsz;go_enter Tryz.func119,Tryz.ntmps119
 go_wp2
 go_loopw [3,11] (fun v t wr=>∃(j s:Nat),t= .int .i64 (j:Int)/\v= .int .i64 (s:Int)/\j<=m/\s=(d.take j).flatten.length/\w=wr) (fun _ t _=>m-(intOf t).toNat)
 case atStart=>exact⟨0,0,rfl,rfl,Nat.zero_le _,rfl,rfl⟩
 case round=>
  obtain⟨j,s,rfl,rfl,hj,hss,rfl⟩:=hrel;by_cases hlt:j<m
  · obtain⟨y,hy⟩:∃y,d[j]?=some y:=⟨d[j]'(by rw[HM.out];exact hlt),List.getElem?_eq_getElem _⟩;obtain⟨b,o,rfl,hb,hc⟩:=HD.out (by rw[HM.out];omega);obtain⟨A',k',c0,_⟩:=hc j y hy;obtain⟨n,hn⟩:=nmE y.length;rw[hn]at c0;have hs1:=HS.out (j+1);rw[ade hy,List.length_append,hn,<-hss]at hs1;have HN:Hid (s+n=(d.take (j+1)).flatten.length):=(show _=_ by rw[ade hy,List.length_append,hn,<-hss]);have h0:decide ((s:Int)+(n:Int)<0)=false:=decide_eq_false (by omega);clear hc hy hn hss;go_wp2
    go_roundw
    case rel=>exact⟨j+1,s+n,by go_num,by go_num,by omega,HN.out,trivial⟩
    case measure=>simp only[intOf];omega
  · have e:s=sz:=by rw[hss,List.take_of_length_le (by rw[HM.out];omega),HSZ.out]
    subst e;clear hss;go_wp2_with fail
    refine HGR.out.mono ?_;rintro e w2 ⟨A2,c2,rfl,hown2,hb2⟩;have HO2:=hE0 hown2;have HB2:=hE0 hb2;clear hown2 hb2 HGR;go_wp2
    go_loopw [6,27] (fun v t wr=>∃(j:Nat),t= .int .i64 (j:Int)/\j<=m/\wr.ownsRow w.heap.size 5 1 v (d.take j).flatten.length ((d.take j).flatten.map bv)/\Below w.heap.size w wr) (fun _ t _=>m-(intOf t).toNat)
    case atStart=>exact⟨0,rfl,Nat.zero_le _,HO2.out,HB2.out⟩
    case round=>
     obtain⟨i,rfl,hi,hown,hb⟩:=hrel;by_cases hlt2:i<m
     · obtain⟨y,hy⟩:∃y,d[i]?=some y:=⟨d[i]'(by rw[HM.out];exact hlt2),List.getElem?_eq_getElem _⟩;obtain⟨b,o,rfl,hbb,hc⟩:=HD.out (by rw[HM.out];omega);obtain⟨A',k',c0,hrd,_,_,hA⟩:=hc i y hy;have c1:=(hb.cell (p:=⟨b,o+i,none⟩) hbb).trans c0;have hs1:=HS.out (i+1);rw[ade hy,List.length_append]at hs1;have HFL:=hE0 (ade hy);have HRD:=hE0 ((hrd.below hb).more hb.size);obtain⟨n,hn⟩:=nmE y.length;have HYN:=hE0 hn;obtain⟨q,hq⟩:=nmE ((d.take i).flatten.length);rw[hq]at hown hs1;have HQ:=hE0 hq;rw[hn]at c0 c1 hs1 HRD;have HO:=hE0 hown;have HB:=hE0 hb;clear hc hy hn hown hb hrd hq;go_wp2_with (first
        | (at_builtin;go_must (refine acm rfl (.tmp 31) (.tmp 32) 37 5 rfl Tryz.underlying37 afw w.heap.size _ q (d.take i).flatten rfl HO.out _ A' n k' y rfl HRD.out hA (by omega) HB.out.size ?_);intro x4 w4 own4 hb4 _
           have HX4:Hid (w4.ownsRow w.heap.size 5 1 x4 (q+n) (((d.take i).flatten++y).map bv)/\Below w.heap.size w w4):=⟨own4,HB.out.trans hb4⟩;clear own4 hb4)
        | fail)
       go_roundw
       case rel=>
        refine⟨i+1,by go_num,by omega,?_,HX4.out.2⟩;rw[HFL.out,List.length_append,HQ.out,HYN.out];exact HX4.out.1
       case measure=>simp only[intOf];omega
     · have e:d.take i=d:=List.take_of_length_le (by rw[HM.out];omega);rw[e,HSZ.out]at hown;have HO:=hE0 hown;have HB:=hE0 hb;clear hown hb e;go_wp2
       go_ret
       exact⟨_,rfl,HO.out,HB.out⟩
theorem agJ{P:Prop}(h:P:=by
 clear hown hrd hdl hs hfin HSUM;go_enter Tryz.func121,Tryz.ntmps121
 go_wp2_with fail
 refine HS.out.mono ?_;rintro e w2 ⟨rfl,rfl⟩;go_wp2_with fail
 refine HP4.out.mono ?_;rintro e w2 ⟨rfl,hf,hb⟩;have HRD:Hid (Rd w2 w2.heap.size (some ⟨w.heap.size,0,none⟩) 4 (aaF 4 s)):=(show Rd _ _ _ _ _ by
  have:=hf.reads;rw[aag]at this;exact this)
 have HO2:=hE0 (acG HOWN.out hb);have HB2:=hE0 hb;have HBS:=hE0 (Nat.le_trans hB hb.size);clear hf hb;go_wp2_with (first
  | (at_builtin;go_must (refine acm rfl (.tmp 5) (.tmp 10) 37 5 rfl Tryz.underlying37 afw B _ n b rfl HO2.out _ (some ⟨w.heap.size,0,none⟩) 4 4 (aaF 4 s) rfl HRD.out (fun e=>by cases e) (by omega) HBS.out ?_);intro x4 w4 own4 hb4 _
     have HX4:Hid (w4.ownsRow B 5 1 x4 (n+4) ((b++aaF 4 s).map bv)/\Below B w w4):=⟨own4,(HB2.out.mono hB).trans hb4⟩;clear own4 hb4)
  | fail)
 go_ret
 exact⟨_,rfl,HFIN.out▸HX4.out.1,HX4.out.2⟩
 ):P:=h
theorem agf (w:World) (B:Nat) (v:Value) (b:List UInt8) (n j:Nat) (hn:b.length=n) (hown:w.ownsRow B 5 1 v n (b.map bv)) (hB:B<=w.heap.size) (hj:j<=n) (hn0:0<n) (hl:n<=900000):
 Calls Tryz.prog 121 #[v, .int .i64 (j:Int)] w fun e w'=>∃v',e= .returned v'/\w'.ownsRow B 5 1 v' (n+4) ((agd b j).map bv)/\Below B w w':=by
 obtain⟨g,c,rfl,hnc,hrd⟩:=amn hown hn0;have hcm:c<=9223372036854775807:=by
  rcases hown.2 with⟨_,h'⟩ | ⟨g,cap,cur,hv,_,_,_,h',_⟩
  · omega
  · injection hv with _ _ e3;subst e3;unfold maxLen at h';exact h'
 have hdl:(b.drop j).length=n-j:=by rw[List.length_drop,hn]
 obtain⟨s,hs⟩:=nmE (abd 0 (b.drop j));have hs32:s<4294967296:=by rw[<-hs];exact aei _ _
 have hfin:b++aaF 4 s=agd b j:=by unfold agd ahZ;rw[hs]
 have HP4:=hE0 (aiG s w hs32);have HOWN:=hE0 hown;have HFIN:=hE0 hfin;have HSUM:Hid (∀A2 c2,Rd w w.heap.size A2 (n-j) (b.drop j)->Calls Tryz.prog 146 #[.slice A2 (n-j) c2] w fun e w'=>e= .returned (.int .u32 (s:Int))/\w=w'):=fun A2 c2 h=>by
  have:=agz A2 (n-j) c2 _ _ w h (by omega);rw[hs]at this;exact this
 by_cases hjc:j<c
 · have HR:Hid (Rd w w.heap.size (some ⟨g,j,none⟩) (n-j) (b.drop j)):=(show Rd _ _ _ _ _ by
    have h:=hrd.sub j (n-j) (by omega);rw[List.take_of_length_le (by rw[hdl];exact Nat.le_refl _),Nat.zero_add]at h;exact h)
   have HS:=hE0 (HSUM.out _ (c-j) HR.out);have h1:(j:Int)<(c:Int):=by omega
   exact agJ
 · obtain rfl:n=j:=by omega
   obtain rfl:n=c:=by omega
   have HR:Hid (Rd w w.heap.size (some ⟨g,0,none⟩) (n-n) (b.drop n)):=(show Rd _ _ _ _ _ by
    have:b.drop n= []:=List.eq_nil_of_length_eq_zero (by rw[hdl];omega);rw[this,Nat.sub_self];exact Rd.nil_)
   have HS:=hE0 (HSUM.out _ (n-n) HR.out);rw[Nat.sub_self]at HS;exact agJ
end Go.Proofs.YtncadccbepjekaaGreatDoor
