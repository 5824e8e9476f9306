/- Texts of mine, joined. -/
import Derived.Laws.BitsAllLaws
import Derived.Laws.ResultCell
import Derived.Lib.Strings
import Derived.Lib.Slices
import Derived.Lib.Small
import Derived.Lib.Walk
import Derived.Lib.BitFns
import Derived.Maps.OwnSet
import Derived.DeepKeys4
import Derived.Test.YtncadccbepjekaaGreatDoorP8
set_option maxRecDepth 100000
set_option maxHeartbeats 4000000
namespace Go.Proofs.YtncadccbepjekaaGreatDoor
open Go.RowKit
theorem auS{k:IntKind}{a b:Int}(h:a=b):Ending.returned (.int k a)= .returned (.int k b):=by rw[h]
theorem asZ{a b:Bool}(h:a=b):Ending.returned (.bool a)= .returned (.bool b):=by rw[h]
section
variable (w:World)
def ao3 (o:Option (Nat × Bool)):Value:=match o with
 | some (s,u)=> .tuple #[.int .i64 (s:Int), .bool u, .bool true]
 | none=> .tuple #[.int .i64 0, .bool false, .bool false]
def ans (o:Option Nat):Value:=match o with
 | some s=> .tuple #[.int .i64 (s:Int), .bool true]
 | none=> .tuple #[.int .i64 0, .bool false]
end
theorem ant (v:Nat) (hv:v<=16385):wrap64 (bits .andNot .u64 (v:Int) 1)=((v-v%2:Nat):Int):=by
 have h:bits .andNot .u64 (v:Int) ((1:Nat):Int)=((v&&&(18446744073709551615-1):Nat):Int):=by
  have hx:v&&&(18446744073709551615-1)<2^64:=Nat.and_lt_two_pow _ (by omega);show IntKind.u64.wrap ((BitVec.ofInt 64 (v:Int)&&&~~~BitVec.ofInt 64 ((1:Nat):Int)).toNat:Int)=_;rw[BitVec.toNat_and,BitVec.toNat_not,ofInt_u64 v (by omega),ofInt_u64 1 (by omega),IntKind.wrap_u64];have e:2^64-1-1=18446744073709551615-1:=by omega
  rw[e];omega
 have h2:v&&&(18446744073709551615-1)=v-v%2:=by
  rw[nat_hi64_1,Nat.mod_eq_of_lt (by omega)];omega
 have h3:bits .andNot .u64 (v:Int) 1=((v-v%2:Nat):Int):=by rw[<-h2];exact h
 rw[h3];have h4:=Nat.sub_le v (v%2);unfold wrap64;omega
theorem atu (v:Nat) (hv:v<18446744073709551616):(bits .and .u64 (v:Int) 1==1)=(v%2==1):=by
 have h:bits .and .u64 (v:Int) 1=((v&&&1:Nat):Int):=u64_and_nat v 1 hv (by omega);rw[h,Nat.and_one_is_mod,Bool.eq_iff_iff,beq_iff_eq,beq_iff_eq];omega
section
variable (w:World)
theorem ads (n:Int) (hn: -9223372036854775808<=n/\n<=9223372036854775807) (b:Bool) (hb:aaG n=b):
 Calls Tryz.prog 184 #[.int .i64 n] w fun e w'=>e= .returned (.bool b)/\w=w':=by
 by_cases h1:32<=n
 · by_cases h2:n<=16384
   · have e:(n%16==0)=b:=by rw[<-hb];simp[aaG,h1,h2]
     have HE:=hE0 e;clear hb e;go_enter Tryz.func184,Tryz.ntmps184
     go_wp2
     go_ret
     exact⟨asZ HE.out,rfl⟩
   · obtain rfl:false=b:=by rw[<-hb];simp[aaG,h2]
     clear hb;go_enter Tryz.func184,Tryz.ntmps184
     go_wp2
     go_ret
     exact⟨rfl,rfl⟩
 · obtain rfl:false=b:=by rw[<-hb];simp[aaG,h1]
   clear hb;go_enter Tryz.func184,Tryz.ntmps184
   go_wp2
   go_ret
   exact⟨rfl,rfl⟩
theorem ac9 (s:Int) (u:Bool) (hs: -9223372036854775808<=s/\s<=9223372036854775807) (m:Nat) (hm:acf s u=m):
 Calls Tryz.prog 122 #[.int .i64 s, .bool u] w fun e w'=>e= .returned (.int .u64 (m:Int))/\w=w':=by
 cases hb:aaG s
 · obtain rfl:0=m:=by rw[<-hm];simp[acf,hb]
   have HI:=hE0 (ads w s hs false hb);clear hm hb;go_enter Tryz.func122,Tryz.ntmps122
   go_wp2_with fail
   with_reducible refine HI.out.mono ?_
   rintro e w1 ⟨rfl,rfl⟩;go_wp2
   go_ret
   exact⟨rfl,rfl⟩
 · have h:=(aab s).1 hb;have HI:=hE0 (ads w s hs true hb);obtain⟨n,rfl⟩:∃n:Nat,s=(n:Int):=⟨s.toNat,by omega⟩;have hn:n<=16384:=by omega
   have HM:Hid (n+(if u=true then 1 else 0)=m):=(show _=_ by rw[<-hm];simp[acf,hb]);clear hm hb h
   cases u
   · go_enter Tryz.func122,Tryz.ntmps122
     go_wp2_with fail
     with_reducible refine HI.out.mono ?_
     rintro e w1 ⟨rfl,rfl⟩;go_wp2
     go_ret
     exact⟨auS (by have:=HM.out;simp at this;omega),rfl⟩
   · go_enter Tryz.func122,Tryz.ntmps122
     go_wp2_with fail
     with_reducible refine HI.out.mono ?_
     rintro e w1 ⟨rfl,rfl⟩;go_wp2
     go_ret
     exact⟨auS (by have:=HM.out;simp at this;omega),rfl⟩
theorem abm (v:Nat) (hv:v<18446744073709551616):
 Calls Tryz.prog 187 #[.int .u64 (v:Int)] w fun e w'=>e= .returned (ao3 (adM v))/\w=w':=by
 by_cases h0:16385<v
 · have e:adM v=none:=by
    unfold adM;rw[if_neg];rintro⟨_,h⟩;have:=(aab _).1 h;omega
   rw[e];clear e;go_enter Tryz.func187,Tryz.ntmps187
   go_wp2
   go_ret3
   exact⟨rfl,rfl⟩
 · obtain⟨s,hs⟩:∃s:Nat,v-v%2=s:=⟨_,rfl⟩;have hs2:wrap64 (bits .andNot .u64 (v:Int) 1)=(s:Int):=by rw[ant v (by omega),hs]
   cases hb:aaG (s:Int)
   · have e:adM v=none:=by unfold adM;rw[hs,if_neg (by simp[hb])]
     rw[e];have HI:=hE0 (ads w (s:Int) (by have:=Nat.sub_le v (v%2);omega) false hb);have HS:=hE0 hs2;clear e hs hb hs2;go_enter Tryz.func187,Tryz.ntmps187
     go_wp2_with fail
     rw[HS.out]
     with_reducible refine HI.out.mono ?_
     rintro e w1 ⟨rfl,rfl⟩;go_wp2
     go_ret3
     exact⟨rfl,rfl⟩
   · have e:adM v=some (s,v%2==1):=by unfold adM;rw[hs,if_pos ⟨by omega,hb⟩]
     rw[e];have HI:=hE0 (ads w (s:Int) (by have:=Nat.sub_le v (v%2);omega) true hb);have HS:=hE0 hs2;have HB:=hE0 (atu v hv);clear e hs hb hs2;go_enter Tryz.func187,Tryz.ntmps187
     go_wp2_with fail
     rw[HS.out]
     with_reducible refine HI.out.mono ?_
     rintro e w1 ⟨rfl,rfl⟩;go_wp2
     go_ret3
     refine⟨?_,rfl⟩;rw[<-HB.out];rfl
end
theorem aac{w:World}{g:Nat}{o:Obj}(h:w.heap[g]?=some o):g<w.heap.size:=by
 rcases Nat.lt_or_ge g w.heap.size with h1 | h1
 · exact h1
 · rw[Array.getElem?_eq_none h1]at h;cases h
section
variable (w:World)
end
def acW:List Bk->List Value
 | []=> []
 | x::r=> .int .i64 (x.off:Int):: .int .i64 (x.size:Int):: .bool x.used::acW r
theorem ajU (a b:List Bk):acW (a++b)=acW a++acW b:=by
 induction a with
 | nil=>rfl
 | cons x r ih=>simp[acW,ih]
theorem ajV:∀(l:List Bk) (i:Nat) (x:Bk),l[i]?=some x->(acW l)[i*3]?=some (.int .i64 (x.off:Int))/\(acW l)[i*3+1]?=some (.int .i64 (x.size:Int))/\(acW l)[i*3+2]?=some (.bool x.used)
 | [],_,_,h=>by simp at h
 | y::r,0,x,h=>by
  simp at h;subst h;exact⟨rfl,rfl,rfl⟩
 | y::r,i+1,x,h=>by
  have:=ajV r i x (by simpa using h);have e:(i+1)*3=i*3+1+1+1:=by omega
  rw[e];exact⟨by simpa[acW]using this.1,by simpa[acW]using this.2.1,by simpa[acW]using this.2.2⟩
theorem auT:(Tryz.prog.info? 112).map (fun i=>(i.zero,i.size,i.bytes))=some (some (.agg #[.int .i64 0, .int .i64 0, .bool false]),3,24):=by kernel_rfl
theorem adZ{w:World}{base n size:Nat}{t:TypeId}{v:Value}{xs:List Value}(h:w.ownsRow base t size v n xs):∃A c,v= .slice A n c:=by
 rcases h.2 with⟨rfl,h0⟩ | ⟨g,cap,cur,rfl,_⟩
 · rw[h0];exact⟨none,0,rfl⟩
 · exact⟨_,_,rfl⟩
theorem aaw{w w':World}{base n size:Nat}{t:TypeId}{v:Value}{xs:List Value}(h:w.ownsRow base t size v n xs) (hb:Below w.heap.size w w'):w'.ownsRow base t size v n xs:=by
 refine⟨h.1,?_⟩;rcases h.2 with h2 | ⟨g,cap,cur,hv,hg,hh,r⟩
 · exact .inl h2
 · refine .inr ⟨g,cap,cur,hv,hg,?_,r⟩;have:=(h.lt g (by rw[hv];rfl)).2;rw[hb.block g this];exact hh
section
variable (w:World)
end
theorem atv:(Tryz.prog.info? 3).map (fun i=>(i.zero,i.size,i.bytes))=some (some (.int .i64 0),1,8):=by kernel_rfl
def iV (n:Nat):Value:= .int .i64 (n:Int)
section
variable (w:World)
end
def avH:Prop:=∀(w:World) (n:Nat),n<18446744073709551616->Calls Tryz.prog 128 #[.int .u64 (n:Int)] w fun e w'=>e= .returned (ans (acn n))/\Below w.heap.size w w'
def auU:Prop:=∀(w:World) (s:Int),(-9223372036854775808<=s/\s<=9223372036854775807)->Calls Tryz.prog 177 #[.int .i64 s] w fun e w'=>e= .returned (.int .i64 (aaq s))/\Below w.heap.size w w'
section
variable (w:World)
theorem agx (n:Int) (hn: -9223372036854775808<=n/\n<=9223372036854775807) (b:Bool) (hb:aaG n=b):
 Calls Tryz.prog 231 #[.int .i64 n] w fun e w'=>e= .returned (.bool b)/\w=w':=by
 by_cases h1:32<=n
 · by_cases h2:n<=16384
   · have e:(n%16==0)=b:=by rw[<-hb];simp[aaG,h1,h2]
     have HE:=hE0 e;clear hb e;go_enter Tryz.func231,Tryz.ntmps231
     go_wp2
     go_ret
     exact⟨asZ HE.out,rfl⟩
   · obtain rfl:false=b:=by rw[<-hb];simp[aaG,h2]
     clear hb;go_enter Tryz.func231,Tryz.ntmps231
     go_wp2
     go_ret
     exact⟨rfl,rfl⟩
 · obtain rfl:false=b:=by rw[<-hb];simp[aaG,h1]
   clear hb;go_enter Tryz.func231,Tryz.ntmps231
   go_wp2
   go_ret
   exact⟨rfl,rfl⟩
theorem ao4:∀q:Fin 256,0<=Lib.len8 (q.1:Int)/\Lib.len8 (q.1:Int)<=8:=by decide+kernel
theorem anu (x:Int) (h0:0<=x) (h1:x<=255):Calls Tryz.prog 268 #[.int .u64 x] w fun e w'=>e= .returned (.int .i64 (wrap64 (wrap64 (Lib.len8 x))))/\w=w':=by
 go_enter Tryz.func268,Tryz.ntmps268
 go_wp2
 go_ret
 exact⟨rfl,rfl⟩
theorem anv (q:Nat) (hq:q<=255):Calls Tryz.prog 268 #[.int .u64 (q:Int)] w fun e w'=>e= .returned (.int .i64 (Lib.len8 (q:Int)))/\w=w':=by
 have hl:=ao4 ⟨q,by omega⟩;have h:=anu w (q:Int) (by omega) (by omega);have e:wrap64 (wrap64 (Lib.len8 (q:Int)))=Lib.len8 (q:Int):=by
  simp only at hl;unfold wrap64;omega
 rw[e]at h;exact h
theorem arC (q:Nat) (hq:q<=255):Calls Tryz.prog 232 #[.int .u64 (q:Int)] w fun e w'=>e= .returned (.int .i64 (Lib.len8 (q:Int)))/\w=w':=by
 have H:=hE0 (anv w q hq);go_enter Tryz.func232,Tryz.ntmps232
 go_wp2_with fail
 refine H.out.mono ?_;rintro e w1 ⟨rfl,rfl⟩;go_wp2
 go_ret
 exact⟨rfl,rfl⟩
theorem ao5:∀q:Fin 65,1<=q.1->(q.1<2/\Lib.len8 (q.1:Int)=1)\/(2<=q.1/\q.1<4/\Lib.len8 (q.1:Int)=2)\/(4<=q.1/\q.1<8/\Lib.len8 (q.1:Int)=3)\/(8<=q.1/\q.1<16/\Lib.len8 (q.1:Int)=4)\/(16<=q.1/\q.1<32/\Lib.len8 (q.1:Int)=5)\/(32<=q.1/\q.1<64/\Lib.len8 (q.1:Int)=6)\/(q.1=64/\Lib.len8 (q.1:Int)=7):=by decide+kernel
end
theorem atw{x:Int}{s:Nat}(h:x=(s:Int)):Ending.returned (.tuple #[.int .i64 x, .bool true])= .returned (ans (some s)):=by rw[h];rfl
theorem auV:avH:=by
 intro w n hn;by_cases h:n<=16368
 · obtain⟨s,hs⟩:∃s,acn n=some s:=⟨_,if_pos h⟩;have e:s=max 32 ((n+31)/16*16):=by
    have h2:acn n=some (max 32 ((n+31)/16*16)):=if_pos h;rw[h2]at hs;injection hs with hs;exact hs.symm
   rw[hs];have E:=hE0 (show s=max 32 ((n+31)/16*16) from e);clear hs e;go_enter Tryz.func128,Tryz.ntmps128
   go_wp2
   all_goals (go_ret2;exact⟨atw (by have:=E.out;omega),Below.refl _ _⟩)
 · rw[show acn n=none from if_neg h];go_enter Tryz.func128,Tryz.ntmps128
   go_wp2
   go_ret2
   exact⟨rfl,Below.refl _ _⟩
theorem ajW:auU:=by
 intro w s hs
 cases hb:aaG s
 · rw[show aaq s= -1 by simp[aaq,hb]];have HI:=hE0 (agx w s hs false hb);clear hb;go_enter Tryz.func177,Tryz.ntmps177
   go_wp2_with fail
   with_reducible refine HI.out.mono ?_
   rintro e w1 ⟨rfl,rfl⟩;go_wp2
   go_ret
   exact⟨rfl,Below.refl _ _⟩
 · have h:=(aab s).1 hb;have HI:=hE0 (agx w s hs true hb);by_cases h0:s<=256
   · have e:(s-32)/16=aaq s:=by
      unfold aaq;rw[if_neg (by simp[hb]),if_pos h0];omega
     obtain⟨c,hc⟩:=nmE (aaq s);rw[hc]at e ⊢;have HC:=hE0 e;clear e hc hb;go_enter Tryz.func177,Tryz.ntmps177
     go_wp2_with fail
     with_reducible refine HI.out.mono ?_
     rintro e w1 ⟨rfl,rfl⟩;go_wp2
     go_ret
     exact⟨auS HC.out,Below.refl _ _⟩
   · obtain⟨q,hq⟩:∃q:Nat,s/256=(q:Int):=⟨(s/256).toNat,by omega⟩;have hq1:1<=q/\q<=64:=by omega
     have cl:=ao5 ⟨q,by omega⟩ hq1.1;simp only at cl;have e:14+Lib.len8 (q:Int)=aaq s:=by
      unfold aaq;rw[if_neg (by simp[hb]),if_neg h0];rcases cl with⟨_,cl⟩ | ⟨_,_,cl⟩ | ⟨_,_,cl⟩ | ⟨_,_,cl⟩ | ⟨_,_,cl⟩ | ⟨_,_,cl⟩ | ⟨_,cl⟩<;>rw[cl]<;>(repeat' split)<;>omega
     obtain⟨c,hc⟩:=nmE (aaq s);rw[hc]at e ⊢;have hl:=ao4 ⟨q,by omega⟩;simp only at hl;have HC:=hE0 e;have HL:=hE0 (fun W=>arC W q (by omega));clear e hc hb cl;obtain⟨l,hl8⟩:=nmE (Lib.len8 (q:Int));rw[hl8]at HC HL hl;clear hl8;go_enter Tryz.func177,Tryz.ntmps177
     go_wp2_with fail
     with_reducible refine HI.out.mono ?_
     rintro e w1 ⟨rfl,rfl⟩;go_wp2_with fail
     refine(HL.out _).mono ?_;rintro e w1 ⟨rfl,rfl⟩;go_wp2
     go_ret
     exact⟨auS HC.out,Below.refl _ _⟩
structure Rk where
 o:Int
 s:Int
 u:Bool
def ab0 (n:Int):Bool:=decide (184<=n)&&(decide (n<=16384)&&(n-184)%16==0)
theorem aaV (n:Int):ab0 n=true ↔ 184<=n/\n<=16384/\(n-184)%16=0:=by simp[ab0]
theorem acN (n:Int):ab0 n=false ↔ ¬(184<=n/\n<=16384/\(n-184)%16=0):=by rw[<-aaV];simp
def abh (n:Int):Int->Bool->List Rk->Bool
 | e,_,[]=>e==n
 | e,f,x::r=>(x.o==e)&&(aaG x.s&&(decide (x.s<=n-e)&&(!(f&& !x.u)&&abh n (e+x.s) (!x.u) r)))
def datOk:List Rk->List (List UInt8)->Bool
 | [],d=>d.isEmpty
 | x::r,d=>if x.u=true then (match d with
  | []=>false
  | y::d'=>((y.length:Int)==x.s-16)&&datOk r d') else datOk r d
def aew (n:Int) (l:List Rk) (d:List (List UInt8)):Bool:=ab0 n&&(abh n 184 false l&&datOk l d)
theorem ajX{n:Int}:∀{l:List Rk}{e:Int}{f:Bool},abh n e f l=true->e+32*l.length<=n
 | [],e,f,h=>by
  unfold abh at h;have:e=n:=by simpa using h
  simp;omega
 | x::r,e,f,h=>by
  unfold abh at h;simp only[Bool.and_eq_true]at h;have h3:=(aab _).1 h.2.1;have h4:=ajX h.2.2.2.2;rw[List.length_cons];omega
theorem ae0{n:Int}:∀{l:List Rk}{e:Int}{f:Bool},abh n e f l=true->∀x∈l,aaG x.s=true
 | [],e,f,h,x,hx=>by cases hx
 | y::r,e,f,h,x,hx=>by
  unfold abh at h;simp only[Bool.and_eq_true]at h;rcases List.mem_cons.1 hx with rfl | hx
  · exact h.2.1
  · exact ae0 h.2.2.2.2 x hx
def aou (x:Rk):List UInt8:=aaJ 8 (acf x.s x.u)
def acA (l:List Rk):List UInt8:=(l.map aou).flatten
def ahO (b:List UInt8):List UInt8:=aaJ 4 (abZ 0 b)
def imMarkB:List UInt8:= [67,78,84,76,1,0,0,0]
def aex (n k:Nat):List UInt8:=imMarkB++aaJ 8 n++aaJ 8 k
def af3 (b:List UInt8) (k:Nat):List UInt8:=b++ahO (b.drop k)
def alf (n k:Nat):List UInt8:=af3 (aex n k) 0
def ahP (n:Nat) (l:List Rk):List UInt8:=af3 (alf n l.length++acA l) 28
def akV (n:Nat) (l:List Rk) (d:List (List UInt8)):List UInt8:=af3 (ahP n l++d.flatten) (ahP n l).length
def aaZ (n:Nat) (l:List Rk) (d:List (List UInt8)):List UInt8:=af3 (akV n l d) 0
theorem ab6 (b:List UInt8):(ahO b).length=4:=aag _ _
theorem ae1 (n k:Nat):(aex n k).length=24:=by unfold aex imMarkB;simp[aag]
theorem af4 (n k:Nat):(alf n k).length=28:=by unfold alf af3;rw[List.length_append,ae1,ab6]
theorem ad0:∀l:List Rk,(acA l).length=8*l.length
 | []=>rfl
 | x::r=>by
  have ih:=ad0 r;unfold acA at ih ⊢;rw[List.map_cons,List.flatten_cons,List.length_append,ih,List.length_cons];unfold aou;rw[aag];omega
theorem adt (n:Nat) (l:List Rk):(ahP n l).length=32+8*l.length:=by
 unfold ahP af3;rw[List.length_append,List.length_append,af4,ad0,ab6];omega
theorem ajY{α:Type}{l:List α}{j:Nat}{x:α}(h:l[j]?=some x):l.take (j+1)=l.take j++ [x]:=by
 rw[List.take_add_one,h];rfl
theorem anw{l:List Rk}{j:Nat}{x:Rk}(h:l[j]?=some x):acA (l.take (j+1))=acA (l.take j)++aou x:=by
 rw[ajY h];unfold acA;rw[List.map_append,List.flatten_append];simp
theorem ada{d:List (List UInt8)}{j:Nat}{x:List UInt8}(h:d[j]?=some x):(d.take (j+1)).flatten=(d.take j).flatten++x:=by
 rw[ajY h,List.flatten_append];simp
theorem aeG{α:Type}{l:List α}{j:Nat}{x:α}(h:l[j]?=some x):l.drop j=x::l.drop (j+1):=by
 obtain⟨hj,e⟩:=List.getElem?_eq_some_iff.1 h;rw[List.drop_eq_getElem_cons hj,e]
def RkRd (w:World) (B:Nat) (A:Option Addr) (l:List Rk):Prop:=0<l.length->∃b o,A=some ⟨b,o,none⟩/\b<B/\∀j x,l[j]?=some x->
 w.cell? ⟨b,o+j*3,none⟩=some (.int .i64 x.o)/\w.cell? ⟨b,o+j*3+1,none⟩=some (.int .i64 x.s)/\w.cell? ⟨b,o+j*3+2,none⟩=some (.bool x.u)/\
 (-9223372036854775808<=x.o/\x.o<=9223372036854775807)/\(-9223372036854775808<=x.s/\x.s<=9223372036854775807)
def DtRd (w:World) (B:Nat) (A:Option Addr) (d:List (List UInt8)):Prop:=0<d.length->∃b o,A=some ⟨b,o,none⟩/\b<B/\∀j y,d[j]?=some y->
 ∃A' k,w.cell? ⟨b,o+j,none⟩=some (.slice A' y.length k)/\Rd w B A' y.length y/\y.length<=maxLen/\y.length<=k/\(A'=none->k=0)
section
variable {w w':World} {B B':Nat} {A:Option Addr} {l:List Rk} {d:List (List UInt8)}
theorem RkRd.below (h:RkRd w B A l) (hb:Below B w w'):RkRd w' B A l:=fun hn=>by
 obtain⟨b,o,e,hB,hc⟩:=h hn;refine⟨b,o,e,hB,fun j x hx=> ?_⟩;obtain⟨h0,h1,h2,h3⟩:=hc j x hx;exact⟨(hb.cell (p:=⟨b,o+j*3,none⟩) hB).trans h0,(hb.cell (p:=⟨b,o+j*3+1,none⟩) hB).trans h1,(hb.cell (p:=⟨b,o+j*3+2,none⟩) hB).trans h2,h3⟩
theorem RkRd.more (h:RkRd w B A l) (hB:B<=B'):RkRd w B' A l:=fun hn=>by
 obtain⟨b,o,e,hb,hc⟩:=h hn;exact⟨b,o,e,Nat.lt_of_lt_of_le hb hB,hc⟩
theorem DtRd.below (h:DtRd w B A d) (hb:Below B w w'):DtRd w' B A d:=fun hn=>by
 obtain⟨b,o,e,hB,hc⟩:=h hn;refine⟨b,o,e,hB,fun j x hx=> ?_⟩;obtain⟨A',k,h0,h1,h2⟩:=hc j x hx;exact⟨A',k,(hb.cell (p:=⟨b,o+j,none⟩) hB).trans h0,h1.below hb,h2⟩
theorem DtRd.more (h:DtRd w B A d) (hB:B<=B'):DtRd w B' A d:=fun hn=>by
 obtain⟨b,o,e,hb,hc⟩:=h hn;refine⟨b,o,e,Nat.lt_of_lt_of_le hb hB,fun j x hx=> ?_⟩;obtain⟨A',k,h0,h1,h2⟩:=hc j x hx;exact⟨A',k,h0,h1.more hB,h2⟩
end
theorem abN (w:World) (k:Nat):Below w.heap.size w (w.drewN k):=⟨rfl,rfl,rfl,Nat.le_refl _,fun _ _=>rfl⟩
theorem atx{P:Program}{ops:Array Oper}{Q:Exit->Act->World->Prop}{i B:Nat}{o:Oper}{a:Act}{w:World}{K:Act->World->Prop}(ho:ops[i]?=some o) (d:Option Tmp) (hd:o.dst=d) (hw:Region.wanted o (yielded ops a.tmps)=false) (hk:K (a.put d undef) w):wpOp P ops Q i (fun a'' w''=>Below B w w''/\K a'' w'') a w:=by
 subst hd;unfold wpOp;simp only[ho];rw[if_neg (by rw[hw];decide)];exact⟨Below.refl _ _,hk⟩
def imV (n:Int) (A1:Option Addr) (ll k1:Nat) (A2:Option Addr) (dl k2:Nat):Value:= .agg #[.int .i64 n, .slice A1 ll k1, .slice A2 dl k2]
theorem aam{w:World}{x0 x1 x2:Value}{g:Nat}{t:TypeId}(h:w.heap[g]?=some (.cells #[x0,x1,x2] t (0,0))):
 w.cell? ⟨g,0,none⟩=some x0/\w.cell? ⟨g,1,none⟩=some x1/\w.cell? ⟨g,2,none⟩=some x2:=by
 refine⟨?_,?_,?_⟩
 · rw[cell_of_row w g 0 _ _ (0,0) h];rfl
 · rw[cell_of_row w g 1 _ _ (0,0) h];rfl
 · rw[cell_of_row w g 2 _ _ (0,0) h];rfl
theorem aaa{w:World}{g:Nat}{cs:Array Value}{t:TypeId}(h:w.heap[g]?=some (.cells cs t (0,0))):g<w.heap.size:=by
 rcases Nat.lt_or_ge g w.heap.size with h' | h'
 · exact h'
 · rw[Array.getElem?_eq_none h']at h;cases h
def auF (n:Int):Nat:=(n%18446744073709551616).toNat
theorem ao6 (n:Int) (hn: -9223372036854775808<=n/\n<=9223372036854775807):ab0 ((auF n:Nat):Int)=ab0 n:=by
 unfold auF;rcases Int.lt_or_le n 0 with h | h
 · have e1:ab0 n=false:=(acN n).2 (by omega);rw[e1];exact(acN _).2 (by omega)
 · rw[Int.emod_eq_of_lt h (by omega),Int.toNat_of_nonneg h]
theorem agy (w:World) (v:Nat) (hv:v<18446744073709551616) (b:Bool) (hb:ab0 (v:Int)=b):
 Calls Tryz.prog 178 #[.int .u64 (v:Int)] w fun e w'=>e= .returned (.bool b)/\w=w':=by
 by_cases h1:184<=v
 · by_cases h2:v<=16384
   · by_cases h3:(v-184)%16=0
     · obtain rfl:true=b:=by rw[<-hb];exact((aaV _).2 (by omega)).symm
       clear hb;go_enter Tryz.func178,Tryz.ntmps178
       go_wp2
       go_ret
       exact⟨abj (by rw[beq_iff_eq];omega),rfl⟩
     · obtain rfl:false=b:=by rw[<-hb];exact((acN _).2 (by omega)).symm
       clear hb;go_enter Tryz.func178,Tryz.ntmps178
       go_wp2
       go_ret
       exact⟨abj (by rw[beq_eq_false_iff_ne];omega),rfl⟩
   · obtain rfl:false=b:=by rw[<-hb];exact((acN _).2 (by omega)).symm
     clear hb;go_enter Tryz.func178,Tryz.ntmps178
     go_wp2
     go_ret
     exact⟨rfl,rfl⟩
 · obtain rfl:false=b:=by rw[<-hb];exact((acN _).2 (by omega)).symm
   clear hb;go_enter Tryz.func178,Tryz.ntmps178
   go_wp2
   go_ret
   exact⟨rfl,rfl⟩
theorem ajZ (w:World) (A:Option Addr) (k1:Nat) (l:List Rk) (hr:RkRd w w.heap.size A l) (hl:l.length<=1000000) (n:Int) (hn:184<=n/\n<=16384) (y:Bool) (hy:abh n 184 false l=y):
 Calls Tryz.prog 179 #[.slice A l.length k1, .int .i64 n] w fun e w'=>e= .returned (.bool y)/\Below w.heap.size w w':=by
 have HR:=hE0 hr;have HY:=hE0 hy;obtain⟨m,hm⟩:=nmE l.length;rw[hm]at hl ⊢;have HM:=hE0 hm;clear hr hy hm;go_enter Tryz.func179,Tryz.ntmps179
 go_wp2
 go_loopw [5,6,11] (fun e f t wr=>∃(j:Nat) (z:Int) (b:Bool),t= .int .i64 (j:Int)/\e= .int .i64 z/\f= .bool b/\j<=m/\(184<=z/\z<=n)/\abh n z b (l.drop j)=y/\Below w.heap.size w wr) (fun _ _ t _=>m-(intOf t).toNat)
 case atStart=>exact⟨0,184,false,rfl,rfl,rfl,Nat.zero_le _,⟨Int.le_refl _,hn.1⟩,HY.out,Below.refl _ _⟩
 case round=>
  obtain⟨j,z,b,rfl,rfl,rfl,hj,hz,hyy,hb⟩:=hrel;by_cases hlt:j<m
  · obtain⟨x,hx⟩:∃x,l[j]?=some x:=⟨l[j]'(by rw[HM.out];exact hlt),List.getElem?_eq_getElem _⟩;obtain⟨b2,o,rfl,hbb,hcl⟩:=HR.out (by rw[HM.out];omega);obtain⟨p0,p1,p2,hxo,hxs⟩:=hcl j x hx;have r0:=(hb.cell (p:=⟨b2,o+j*3,none⟩) hbb).trans p0;have r1:=(hb.cell (p:=⟨b2,o+j*3+1,none⟩) hbb).trans p1;have r2:=(hb.cell (p:=⟨b2,o+j*3+2,none⟩) hbb).trans p2;rw[aeG hx]at hyy;unfold abh at hyy;obtain⟨xo,xs,xu⟩:=x;dsimp only at p0 p1 p2 r0 r1 r2 hyy hxo hxs;obtain⟨w4,hw4⟩:=nmE (wr.alloc (.cells #[.int .i64 xo, .int .i64 xs, .bool xu] 112));have hb4:Below w.heap.size w w4:=by rw[<-hw4];exact hb.alloc hb.size _
    have n4:=anE hw4;obtain⟨d0,d1,d2⟩:=aam n4;have hl4:=aaa n4;have HW4:=hE0 hw4;have HB4:=hE0 hb4;have HYY:=hE0 hyy;clear hx hb p0 p1 p2 hb4 n4 hw4 hcl hyy;by_cases ho:xo=z
    · have g0:(xo !=z)=false:=by rw[bne_eq_false_iff_eq];exact ho
      obtain⟨pk,hpk⟩:=nmE (acf xs xu);have HPK:=hE0 (fun W=>ac9 (w:=W) xs xu hxs pk hpk);by_cases hsz:aaG xs=true
      · have h3:=(aab _).1 hsz;have hpk0:pk≠0:=by
         rw[<-hpk];unfold acf;rw[if_pos hsz];omega
        have g1:((pk:Int)==0)=false:=by rw[beq_eq_false_iff_ne];omega
        by_cases hle:xs<=n-z
        · have g2:decide (n-z<xs)=false:=decide_eq_false (by omega);by_cases hfu:b=true/\xu=false
          · obtain⟨rfl,rfl⟩:=hfu;have HF:Hid (y=false):=(show y=false by
             have e:=HYY.out;simp at e;first | exact e.symm | exact e)
            clear hsz h3 hpk ho;go_wp2_with (first | (rw[HW4.out]) | fail)
            refine(HPK.out _).mono ?_;rintro e w5 ⟨rfl,rfl⟩;go_wp2
            go_ret
            exact⟨abj HF.out.symm,HB4.out⟩
          · have HF:Hid (abh n (z+xs) (!xu) (l.drop (j+1))=y):=(show _=y by
             have e:=HYY.out;have e1:(b&& !xu)=false:=by
              cases b<;>cases xu<;>first | rfl | exact absurd ⟨rfl,rfl⟩ hfu
             have e2:(xo==z)=true:=by rw[beq_iff_eq];exact ho
             rw[e2,hsz,decide_eq_true hle,e1]at e;simpa using e)
            clear hsz hpk ho
            cases b<;>cases xu;all_goals first | exact absurd ⟨rfl,rfl⟩ hfu | skip
            all_goals
             clear hfu;go_wp2_with (first | (rw[HW4.out]) | fail)
             refine(HPK.out _).mono ?_;rintro e w5 ⟨rfl,rfl⟩;go_wp2_with fail
             go_quiet (fail)
             go_wp2
             go_roundw
             case rel=>exact⟨j+1,z+xs,_,by go_num,by go_num,rfl,by omega,by omega,HF.out,HB4.out.trans ((abN _ _).mono HB4.out.size)⟩
             case measure=>simp only[intOf];omega
        · have g2:decide (n-z<xs)=true:=decide_eq_true (by omega);have HF:Hid (y=false):=(show y=false by
           have e:=HYY.out;rw[decide_eq_false hle]at e;simp at e;first | exact e.symm | exact e)
          clear hsz hpk ho;go_wp2_with (first | (rw[HW4.out]) | fail)
          refine(HPK.out _).mono ?_;rintro e w5 ⟨rfl,rfl⟩;go_wp2
          go_ret
          exact⟨abj HF.out.symm,HB4.out⟩
      · have hpk0:pk=0:=by rw[<-hpk];unfold acf;rw[if_neg hsz]
        subst hpk0;have HF:Hid (y=false):=(show y=false by
         have e:=HYY.out;have hs2:aaG xs=false:=by simpa using hsz
         rw[hs2]at e;simp at e;first | exact e.symm | exact e)
        clear hsz hpk ho;go_wp2_with (first | (rw[HW4.out]) | fail)
        refine(HPK.out _).mono ?_;rintro e w5 ⟨rfl,rfl⟩;go_wp2
        go_ret
        exact⟨abj HF.out.symm,HB4.out⟩
    · have g0:(xo !=z)=true:=by rw[bne_iff_ne];exact ho
      have HF:Hid (y=false):=(show y=false by
       have e:=HYY.out;have e2:(xo==z)=false:=by rw[beq_eq_false_iff_ne];exact ho
       rw[e2]at e;simp at e;first | exact e.symm | exact e)
      clear ho;go_wp2_with (first | (rw[HW4.out]) | fail)
      go_ret
      exact⟨abj HF.out.symm,HB4.out⟩
  · have hd:l.drop j= []:=List.drop_eq_nil_of_le (by rw[HM.out];omega);rw[hd]at hyy;unfold abh at hyy;have HYY:=hE0 hyy;have HBB:=hE0 hb;clear hyy hb hd;go_wp2
    go_ret
    exact⟨abj HYY.out,HBB.out⟩
theorem ael (w:World) (o s:Int) (u:Bool) (hs:aaG s=true):
 Calls Tryz.prog 117 #[.agg #[.int .i64 o, .int .i64 s, .bool u]] w fun e w'=>e= .returned (.int .i64 (s-16))/\Below w.heap.size w w':=by
 have h3:=(aab _).1 hs;obtain⟨w1,hw1⟩:=nmE (w.alloc (.cells #[.int .i64 o, .int .i64 s, .bool u] 112));have hb1:=abE hw1;have n1:=anE hw1;obtain⟨_,d1,_⟩:=aam n1;have hl:=aaa n1;have HW1:=hE0 hw1;have HB1:=hE0 hb1;clear hw1 hb1 n1 hs;go_enter Tryz.func117,Tryz.ntmps117
 go_wp2_with (first | (rw[HW1.out]) | fail)
 go_ret
 exact⟨rfl,HB1.out⟩
theorem ao7 (w:World) (A1 A2:Option Addr) (k1 k2:Nat) (l:List Rk) (d:List (List UInt8)) (hr:RkRd w w.heap.size A1 l) (hd:DtRd w w.heap.size A2 d) (hl:l.length<=1000000) (hdl:d.length<=1000000) (hs:∀x∈l,aaG x.s=true) (y:Bool) (hy:datOk l d=y):
 Calls Tryz.prog 180 #[.slice A2 d.length k2, .slice A1 l.length k1] w fun e w'=>e= .returned (.bool y)/\Below w.heap.size w w':=by
 have HR:=hE0 hr;have HD:=hE0 hd;have HY:=hE0 hy;have HS:=hE0 hs;obtain⟨m,hm⟩:=nmE l.length;obtain⟨n,hn⟩:=nmE d.length;rw[hm]at hl ⊢;rw[hn]at hdl ⊢;have HM:=hE0 hm;have HN:=hE0 hn;clear hr hd hy hs hm hn;go_enter Tryz.func180,Tryz.ntmps180
 go_wp2
 go_loopw [5,10] (fun v t wr=>∃(j i:Nat),t= .int .i64 (j:Int)/\v= .int .i64 (i:Int)/\j<=m/\i<=n/\datOk (l.drop j) (d.drop i)=y/\Below w.heap.size w wr) (fun _ t _=>m-(intOf t).toNat)
 case atStart=>exact⟨0,0,rfl,rfl,Nat.zero_le _,Nat.zero_le _,HY.out,Below.refl _ _⟩
 case round=>
  obtain⟨j,i,rfl,rfl,hj,hi,hyy,hb⟩:=hrel;by_cases hlt:j<m
  · obtain⟨x,hx⟩:∃x,l[j]?=some x:=⟨l[j]'(by rw[HM.out];exact hlt),List.getElem?_eq_getElem _⟩;obtain⟨b2,o,rfl,hbb,hcl⟩:=HR.out (by rw[HM.out];omega);obtain⟨p0,p1,p2,hxo,hxs⟩:=hcl j x hx;have r0:=(hb.cell (p:=⟨b2,o+j*3,none⟩) hbb).trans p0;have r1:=(hb.cell (p:=⟨b2,o+j*3+1,none⟩) hbb).trans p1;have r2:=(hb.cell (p:=⟨b2,o+j*3+2,none⟩) hbb).trans p2;have hsx:=HS.out x (List.mem_of_getElem? hx);rw[aeG hx]at hyy;unfold datOk at hyy;obtain⟨xo,xs,xu⟩:=x;dsimp only at p0 p1 p2 r0 r1 r2 hyy hxo hxs hsx;obtain⟨w4,hw4⟩:=nmE (wr.alloc (.cells #[.int .i64 xo, .int .i64 xs, .bool xu] 112));have hb4:Below w.heap.size w w4:=by rw[<-hw4];exact hb.alloc hb.size _
    have n4:=anE hw4;obtain⟨d0,d1,d2⟩:=aam n4;have hl4:=aaa n4;have HW4:=hE0 hw4;have HB4:=hE0 hb4;have HYY:=hE0 hyy;have HN4:=hE0 n4;clear hx hb p0 p1 p2 hb4 n4 hw4 hcl hyy
    cases xu with
    | false=>
     have HF:Hid (datOk (l.drop (j+1)) (d.drop i)=y):=(show _=y from by
      have e:=HYY.out;rw[if_neg (by decide)]at e;exact e)
     go_wp2_with (first | (rw[HW4.out]) | fail)
     go_roundw
     case rel=>exact⟨j+1,i,by go_num,rfl,by omega,hi,HF.out,HB4.out⟩
     case measure=>simp only[intOf];omega
    | true=>
     by_cases hin:i=n
     · have g0:((i:Int)==(n:Int))=true:=by rw[beq_iff_eq];omega
       have HF:Hid (y=false):=(show y=false from by
        have e:=HYY.out;rw[if_pos rfl,List.drop_eq_nil_of_le (by rw[HN.out];omega)]at e;exact e.symm)
       obtain⟨wd,hwd⟩:=nmE w4.drew;have HWD:=hE0 hwd;have HBD:Hid (Below w.heap.size w wd):=(show Below _ _ _ by rw[<-hwd];exact HB4.out.drew);clear hwd;go_wp2_with (first | (rw[HW4.out]) | fail)
       refine aao wd.heap.size [([0,1,2,3,4,5,6,7,8,9,10],11)] [12,13] [] (by kernel_rfl) (by kernel_rfl) (by kernel_rfl) (fun _ _ _ _ _ h=>h) ?_;rw[HWD.out];refine tail_cons (l:= ?segA) ?hsegA ?_
       case hsegA=>simp only[pick,lE1,lE2,lE3];rfl
       repeat (go_big_quiet_step (fail))
       refine wpQuiet_nil ?_;refine atx rfl (some 28) rfl rfl ⟨wd.heap.size,Nat.le_refl _,?_⟩;simp only[Act.put,lE4,lE5,lE6];refine aaH (l:= ?lastA) (t:= []) ?hlastA ?htlastA ?_
       case hlastA=>simp only[pick,lE1,lE2,lE3];rfl
       case htlastA=>rfl
       repeat (go_big_quiet_step (fail))
       refine wpQuiet_nil ?_;go_wp2
       go_ret
       exact⟨abj HF.out.symm,HBD.out⟩
     · have g0:((i:Int)==(n:Int))=false:=by rw[beq_eq_false_iff_ne];omega
       have hi2:(i:Int)<(n:Int):=by omega
       obtain⟨z,hz⟩:∃z,d[i]?=some z:=⟨d[i]'(by rw[HN.out];omega),List.getElem?_eq_getElem _⟩;obtain⟨b3,o3,rfl,hb3,hc3⟩:=HD.out (by rw[HN.out];omega);obtain⟨A',kz,z0,_,zl,_,_⟩:=hc3 i z hz;obtain⟨zn,hzn⟩:=nmE z.length;rw[hzn]at z0 zl;unfold maxLen at zl;obtain⟨wd,hwd⟩:=nmE w4.drew;have hwb:=adE hwd;have hbd:=HB4.out.trans (hwb.mono HB4.out.size);have nd:=(hwb.block _ (aaa HN4.out)).trans HN4.out;have zd:=(hbd.cell (p:=⟨b3,o3+i,none⟩) hb3).trans z0;have l3:b3<wd.heap.size:=Nat.lt_of_lt_of_le hb3 hbd.size;obtain⟨e0,e1,e2⟩:=aam nd;have le:=aaa nd;have hyy:=HYY.out;rw[if_pos rfl,aeG hz]at hyy;dsimp only at hyy;rw[hzn]at hyy;have HYZ:=hE0 hyy;have HHELD:=hE0 (ael wd xo xs true hsx);have HWD:=hE0 hwd;have HBD:=hE0 hbd;clear hwd hwb hbd nd hyy hz hc3 z0;by_cases hzz:(zn:Int)=xs-16
       · have g1:((zn:Int) !=xs-16)=false:=by rw[bne_eq_false_iff_eq];exact hzz
         have HF:Hid (datOk (l.drop (j+1)) (d.drop (i+1))=y):=(show _=y from by
          have e:=HYZ.out;have e2:((zn:Int)==xs-16)=true:=by rw[beq_iff_eq];exact hzz
          rw[e2,Bool.true_and]at e;exact e)
         clear hzz;go_wp2_with (first | (rw[HW4.out]) | fail)
         refine aao wd.heap.size [([0,1,2,3,4,5,6,7,8,9,10],11)] [12,13] [] (by kernel_rfl) (by kernel_rfl) (by kernel_rfl) (fun _ _ _ _ _ h=>h) ?_;rw[HWD.out];have q0:=tfE zd l3;have q1:=tfE e0 le;have q2:=tfE e1 le;have q3:=tfE e2 le;refine tail_cons (l:= ?segB) ?hsegB ?_
         case hsegB=>simp only[pick,lE1,lE2,lE3];rfl
         repeat (go_big_quiet_step (fail))
         refine wpQuiet_nil ?_;clear q0 q1 q2 q3;refine aar (vs:= #[.agg #[.int .i64 xo, .int .i64 xs, .bool true]]) Tryz.call117 rfl rfl rfl (R:=fun r w'=>r= .int .i64 (xs-16)/\Below wd.heap.size wd w') (HHELD.out.mono ?_) wd.heap.size (Nat.le_refl _) ?_
         · rintro e w' ⟨rfl,hb⟩;exact⟨_,rfl,hb,rfl,hb⟩
         rintro r w5 hb5 ⟨rfl,_⟩;have HB5:=hE0 (HBD.out.trans (hb5.mono HBD.out.size));clear hb5;simp only[Act.put,lE4,lE5,lE6];refine aaH (l:= ?lastB) (t:= []) ?hlastB ?htlastB ?_
         case hlastB=>simp only[pick,lE1,lE2,lE3];rfl
         case htlastB=>rfl
         repeat (go_big_quiet_step (fail))
         refine wpQuiet_nil ?_;go_wp2
         go_roundw
         case rel=>exact⟨j+1,i+1,by go_num,by go_num,by omega,by omega,HF.out,HB5.out⟩
         case measure=>simp only[intOf];omega
       · have g1:((zn:Int) !=xs-16)=true:=by rw[bne_iff_ne];exact hzz
         have HF:Hid (y=false):=(show y=false from by
          have e:=HYZ.out;have e2:((zn:Int)==xs-16)=false:=by rw[beq_eq_false_iff_ne];exact hzz
          rw[e2,Bool.false_and]at e;exact e.symm)
         clear hzz;go_wp2_with (first | (rw[HW4.out]) | fail)
         refine aao wd.heap.size [([0,1,2,3,4,5,6,7,8,9,10],11)] [12,13] [] (by kernel_rfl) (by kernel_rfl) (by kernel_rfl) (fun _ _ _ _ _ h=>h) ?_;rw[HWD.out];have q0:=tfE zd l3;have q1:=tfE e0 le;have q2:=tfE e1 le;have q3:=tfE e2 le;refine tail_cons (l:= ?segC) ?hsegC ?_
         case hsegC=>simp only[pick,lE1,lE2,lE3];rfl
         repeat (go_big_quiet_step (fail))
         refine wpQuiet_nil ?_;clear q0 q1 q2 q3;refine aar (vs:= #[.agg #[.int .i64 xo, .int .i64 xs, .bool true]]) Tryz.call117 rfl rfl rfl (R:=fun r w'=>r= .int .i64 (xs-16)/\Below wd.heap.size wd w') (HHELD.out.mono ?_) wd.heap.size (Nat.le_refl _) ?_
         · rintro e w' ⟨rfl,hb⟩;exact⟨_,rfl,hb,rfl,hb⟩
         rintro r w5 hb5 ⟨rfl,_⟩;have HB5:=hE0 (HBD.out.trans (hb5.mono HBD.out.size));clear hb5;simp only[Act.put,lE4,lE5,lE6];refine aaH (l:= ?lastC) (t:= []) ?hlastC ?htlastC ?_
         case hlastC=>simp only[pick,lE1,lE2,lE3];rfl
         case htlastC=>rfl
         repeat (go_big_quiet_step (fail))
         refine wpQuiet_nil ?_;go_wp2
         go_ret
         exact⟨abj HF.out.symm,HB5.out⟩
  · have hdn:l.drop j= []:=List.drop_eq_nil_of_le (by rw[HM.out];omega);rw[hdn]at hyy;unfold datOk at hyy;have HYY:=hE0 hyy;have HBB:=hE0 hb;clear hyy hb hdn;go_wp2
    go_ret
    exact⟨abj (by
     rw[<-HYY.out];by_cases hin:i=n
     · rw[List.drop_eq_nil_of_le (by rw[HN.out];omega)];rw[List.isEmpty_nil,beq_iff_eq];omega
     · have e:((i:Int)==(n:Int))=false:=by rw[beq_eq_false_iff_ne];omega
       rw[e]
       cases hd2:d.drop i with
       | nil=>have:=congrArg List.length hd2;rw[List.length_drop,HN.out]at this;simp at this;omega
       | cons _ _=>rfl),HBB.out⟩
theorem arD:laidOutB Tryz.prog=true:=by kernel_rfl
theorem plc_law:Maps.Keyed Tryz.prog 251:=
 Maps.Keyed.of_law (deep_law_laid arD (m:=2) (by omega) (of_decide_eq_true (by kernel_rfl)) (by kernel_rfl) (by rw[Tryz.underlying251]))
def pk (o k:Nat):Lit:= .string (keyBytes [.int .i64 (o:Int), .int .i64 (k:Int)])
abbrev pv (o k:Nat):Value:= .agg #[.int .i64 (o:Int), .int .i64 (k:Int)]
theorem ahQ{o k:Nat}(ho:o<=100000) (hk:k<=100):keyOf Tryz.prog 251 (pv o k)=some (pk o k):=by
 have w1:(Lit.int .i64 (o:Int)).wf=true:=WalkArith.wf_i64 (by omega);have w2:(Lit.int .i64 (k:Int)).wf=true:=WalkArith.wf_i64 (by omega);have hkt:Tryz.prog.keyType 251=true:=by kernel_rfl
 have hc:Tryz.prog.cellsOf 251=2:=by kernel_rfl
 have hi:Tryz.prog.cellsOf 3=1:=by kernel_rfl
 obtain⟨m,hm⟩:∃m,Tryz.prog.types.size=m+1:=⟨Tryz.prog.types.size-1,by have:0<Tryz.prog.types.size:=of_decide_eq_true (by kernel_rfl);omega⟩;unfold keyOf;simp only[Tryz.underlying251];rw[if_pos (by simp[hkt,Value.formed,Tryz.underlying251,hc]),hm];unfold Program.keyLits;simp only[Tryz.underlying251,Value.cells];rw[if_pos ⟨by rw[hc];rfl,by kernel_rfl⟩];simp[hi,Program.keyLits,Tryz.underlying3,w1,w2,pk]
theorem as0{o k o' k':Nat}(ho:o<=100000) (hk:k<=100) (ho':o'<=100000) (hk':k'<=100) (h:pk o k=pk o' k'):o=o'/\k=k':=by
 have h1:=ahQ ho hk;rw[h]at h1;have h2:=plc_law.inj h1 (ahQ ho' hk');simp only[pv,Value.agg.injEq,Array.mk.injEq,List.cons.injEq,Value.int.injEq,and_true,true_and]at h2;omega
theorem auW{o k:Nat}(ho:o<=100000) (hk:k<=100):WideAt.IsKeyLit (pk o k):=plc_law.key (ahQ ho hk)
def PSet (w:World) (B n:Nat) (f:Nat->Nat->Bool) (z:Nat):Prop:=∃D:DataW Unit,w.ownsMap Tryz.prog 251 (plainElem Tryz.prog 4) B n D/\
 (∀kl,Maps.has D kl=true->∀y,D.atKey kl y= .lit (.bool true))/\(∀o k,o<=100000->k<=100->Maps.has D (pk o k)=f o k)/\Maps.size D=z
theorem aj0 (b:Bool):plainElem (H:=Unit) Tryz.prog 4 (.bool b)=some (.lit (.bool b),[]):=plainElem_bool Tryz.underlying4 b
theorem ao8 (w:World):(zeroValue 4).run Tryz.prog w= .ok (.bool false) w:=by kernel_rfl
theorem aiR{P:Program}{e:TypeId}(he:P.underlying e=some .bool){v:Value}{d:DataW Unit}{ps:List MemPlace}(h:plainElem P e v=some (d,ps)):∃b,v= .bool b/\d= .lit (.bool b):=by
 unfold plainElem at h;rw[he]at h
 cases v<;>simp at h;exact⟨_,rfl,h.1.symm⟩
theorem arE{v:Value}{d:DataW Unit}{ps:List MemPlace}(h:plainElem Tryz.prog 4 v=some (d,ps)):∃b,v= .bool b/\d= .lit (.bool b):=aiR Tryz.underlying4 h
section
variable {w w':World} {B n z:Nat} {f:Nat->Nat->Bool}
theorem PSet.made (w:World):PSet (w.alloc (.map #[] 0)) w.heap.size 0 (fun _ _=>false) 0:=
 ⟨.map [],World.ownsMap_made _ _ _ _,fun kl h=>absurd h (by simp[Maps.has]),fun _ _ _ _=>rfl,rfl⟩
theorem PSet.lt (h:PSet w B n f z):B<w.heap.size:=by
 obtain⟨D,ho,_⟩:=h;exact ho.lt
theorem PSet.keep (h:PSet w B n f z) (hb:w'.heap[B]?=w.heap[B]?):PSet w' B n f z:=by
 obtain⟨D,⟨es,clock,h1,h2⟩,h3⟩:=h;exact⟨D,⟨es,clock,hb.trans h1,h2⟩,h3⟩
theorem PSet.mono{n':Nat}(h:PSet w B n f z) (hn:n<=n'):PSet w B n' f z:=by
 obtain⟨D,h1,h2⟩:=h;exact⟨D,h1.mono hn,h2⟩
theorem PSet.below{B0:Nat}(h:PSet w B n f z) (hb:Below B0 w w') (hB:B<B0):PSet w' B n f z:=h.keep (hb.block B hB)
theorem PSet.same{f':Nat->Nat->Bool}(h:PSet w B n f z) (hf:∀o k,o<=100000->k<=100->f o k=f' o k):PSet w B n f' z:=by
 obtain⟨D,h1,h2,h3,h4⟩:=h;exact⟨D,h1,h2,fun o k ho hk=>(h3 o k ho hk).trans (hf o k ho hk),h4⟩
end
section
variable {w:World} {ops:Array Oper} {rest:List Oper} {o:Oper} {a:Act} {Q:Exit->Act->World->Prop} {B n z:Nat} {f:Nat->Nat->Bool}
theorem ahR (hg:o.guard=none) (m x:Operand) (hop:o.op=Op.lookup 192 m x false) (hm:a.eval m= .map (some B)) (h:PSet w B n f z) (p c:Nat) (hp:p<=100000) (hc:c<=100)
 (hx:a.eval x=pv p c) (b:Bool) (hb:f p c=b) (hK:wpList Tryz.prog ops Q rest (a.put o.dst (.bool b)) w):wpList Tryz.prog ops Q (o::rest) a w:=by
 refine wpList_plain hg fun K' hK'=> ?_;obtain⟨D,hown,hall,hf,hz⟩:=h;obtain⟨v,ps,hrun,hv⟩:=hown.lookup plc_law Tryz.underlying192 (ao8 w) (aj0 false) (ahQ hp hc);obtain⟨b',rfl,hd⟩:=arE hv;have e:b'=b:=by
  rw[<-hb,<-hf p c hp hc]
  cases hh:Maps.has D (pk p c)
  · rw[Maps.atKey_of_not_has hh]at hd;simpa using hd.symm
  · rw[hall _ hh]at hd;simpa using hd.symm
 subst e;unfold Oper.wp;simp[execOp,hop,hm,hx,hrun,Result.andThen];exact hK' _ _ hK
theorem ao9 (hg:o.guard=none) (m x v:Operand) (hop:o.op=Op.mapUpdate 192 m x v) (hm:a.eval m= .map (some B)) (h:PSet w B n f z) (hn:n<maxLen) (p c:Nat) (hp:p<=100000) (hc:c<=100)
 (hx:a.eval x=pv p c) (hv:a.eval v= .bool true) (hf0:f p c=false)
 (hK:∀w',PSet w' B (n+1) (fun p' c'=>f p' c' || (p'==p&&c'==c)) (z+1)->Tch (fun j=>j=B) w w'->wpList Tryz.prog ops Q rest (a.put o.dst undef) w'):wpList Tryz.prog ops Q (o::rest) a w:=by
 obtain⟨D,hown,hall,hf,hz⟩:=h;have hkl:=auW hp hc;have hno:Maps.has D (pk p c)=false:=(hf p c hp hc).trans hf0;refine wpList_mapUpdate_own w hg m x v _ hop _ _ plc_law Tryz.underlying192 _ B n D hm hown hn _ _ (pk p c) hx hv (ahQ hp hc) _ _ (aj0 true) (fun w' h1 h2=> ?_);have hI:=(hown.tidy plc_law).isMap;refine hK w' ⟨_,h1,fun kl hh y=> ?_,fun p' c' hp' hc'=> ?_,?_⟩ (Tch.grown h2 (fun k hk=>by injection hk with hk;exact hk.symm))
 · by_cases e:kl=pk p c
   · subst e;exact Maps.atKey_put_same hI hkl _ _
   · rw[Maps.has_put_other e]at hh;rw[Maps.atKey_put_other e];exact hall _ hh y
 · by_cases e:pk p' c'=pk p c
   · obtain⟨rfl,rfl⟩:=as0 hp' hc' hp hc e;rw[Maps.has_put_same hI hkl];simp
   · rw[Maps.has_put_other e,hf p' c' hp' hc'];have:(p'==p&&c'==c)=false:=by
      rw[Bool.and_eq_false_iff,beq_eq_false_iff_ne,beq_eq_false_iff_ne];by_cases e1:p'=p
      · exact .inr fun e2=>e (by rw[e1,e2])
      · exact .inl e1
     show _=(f p' c' || (p'==p&&c'==c));rw[this,Bool.or_false]
 · rw[Maps.size_put (hown.tidy plc_law),hno,hz];rfl
theorem apa (hg:o.guard=none) (m x:Operand) (hop:o.op=Op.call {callee:=Callee.builtin Builtin.delete,args:= #[m,x],argTypes:= #[192,251]}) (hm:a.eval m= .map (some B)) (h:PSet w B n f z) (p c:Nat) (hp:p<=100000) (hc:c<=100)
 (hx:a.eval x=pv p c) (hf1:f p c=true)
 (hK:∀w' z',z'+1=z->PSet w' B n (fun p' c'=>f p' c'&& !(p'==p&&c'==c)) z'->Tch (fun j=>j=B) w w'->wpList Tryz.prog ops Q rest (a.put o.dst (.tuple #[])) w'):wpList Tryz.prog ops Q (o::rest) a w:=by
 obtain⟨D,hown,hall,hf,hz⟩:=h;have hyes:Maps.has D (pk p c)=true:=(hf p c hp hc).trans hf1;refine wpList_delete_own w hg m x _ _ hop _ plc_law Tryz.underlying192 _ B n D hm hown _ (pk p c) hx (ahQ hp hc) (fun w' h1 h2=> ?_);have hs:=Maps.size_del (k:=pk p c) (hown.tidy plc_law);rw[hyes,if_pos rfl,hz]at hs;refine hK w' _ hs ⟨_,h1,fun kl hh y=> ?_,fun p' c' hp' hc'=> ?_,rfl⟩ (Tch.grown h2.grown (fun k hk=>by injection hk with hk;exact hk.symm))
 · by_cases e:kl=pk p c
   · subst e;rw[Maps.has_del_same]at hh;cases hh
   · rw[Maps.has_del_other e]at hh;rw[Maps.atKey_del_other e];exact hall _ hh y
 · by_cases e:pk p' c'=pk p c
   · obtain⟨rfl,rfl⟩:=as0 hp' hc' hp hc e;rw[Maps.has_del_same];simp
   · rw[Maps.has_del_other e,hf p' c' hp' hc'];have:(p'==p&&c'==c)=false:=by
      rw[Bool.and_eq_false_iff,beq_eq_false_iff_ne,beq_eq_false_iff_ne];by_cases e1:p'=p
      · exact .inr fun e2=>e (by rw[e1,e2])
      · exact .inl e1
     show _=(f p' c'&& !(p'==p&&c'==c));rw[this,Bool.not_false,Bool.and_true]
theorem apb (hg:o.guard=none) (m:Operand) (hop:o.op=Op.call {callee:=Callee.builtin Builtin.len,args:= #[m],argTypes:= #[192]}) (hm:a.eval m= .map (some B)) (h:PSet w B n f z)
 (hK:wpList Tryz.prog ops Q rest (a.put o.dst (.int .i64 (z:Int))) w):wpList Tryz.prog ops Q (o::rest) a w:=by
 obtain⟨D,hown,_,_,hz⟩:=h;refine wpList_len_own w hg m _ hop _ _ Tryz.underlying192 _ B n D hm hown ?_;rw[hz];exact hK
end
end Go.Proofs.YtncadccbepjekaaGreatDoor
