/- Texts of mine, joined. -/
import Derived.Test.YtncadccbepjekaaGreatDoorU1
import Derived.Test.YtncadccbepjekaaGreatDoorU2
set_option maxRecDepth 100000
set_option maxHeartbeats 400000
namespace Go.Proofs.YtncadccbepjekaaGreatDoor
open Go.RowKit
theorem agy (n:Nat) (h:n<4294967296):IntKind.u32.wrap (n:Int)=(n:Int):=by
 have:IntKind.u32.wrap (n:Int)=(n:Int)%4294967296:=by simp[IntKind.wrap,IntKind.bits,IntKind.signed]
 omega
theorem adX (a b:Nat) (ha:a<4294967296) (hb:b<4294967296):bits .xor .u32 (a:Int) (b:Int)=((a^^^b:Nat):Int):=by
 have hx:a^^^b<4294967296:=af7 ha hb;have h1:(BitVec.ofInt 32 (a:Int)).toNat=a:=by
  rw[BitVec.ofInt_natCast,BitVec.toNat_ofNat];exact Nat.mod_eq_of_lt ha
 have h2:(BitVec.ofInt 32 (b:Int)).toNat=b:=by
  rw[BitVec.ofInt_natCast,BitVec.toNat_ofNat];exact Nat.mod_eq_of_lt hb
 show IntKind.u32.wrap ((BitVec.ofInt 32 (a:Int)^^^BitVec.ofInt 32 (b:Int)).toNat:Int)=_;rw[BitVec.toNat_xor,h1,h2,agy _ hx]
theorem ajH (a:Nat) (ha:a<4294967296):bits .and .u32 (a:Int) 1=((a%2:Nat):Int):=by
 have h1:(BitVec.ofInt 32 (a:Int)).toNat=a:=by
  rw[BitVec.ofInt_natCast,BitVec.toNat_ofNat];exact Nat.mod_eq_of_lt ha
 show IntKind.u32.wrap ((BitVec.ofInt 32 (a:Int)&&&BitVec.ofInt 32 1).toNat:Int)=_;rw[BitVec.toNat_and,h1,show(BitVec.ofInt 32 1).toNat=1 from rfl,Nat.and_one_is_mod,agy _ (by omega)]
theorem aoL (q:Nat) (h:q%2=0):Value.int .u32 ((q:Int)/2)= .int .u32 ((aiC q:Nat):Int):=by
 unfold aiC;rw[if_neg (by omega),Nat.xor_zero];simp
theorem arg (q:Nat) (hq:q<4294967296) (h:q%2=1):Value.int .u32 (bits .xor .u32 ((q:Int)/2) 3988292384)= .int .u32 ((aiC q:Nat):Int):=by
 unfold aiC;rw[if_pos h,<-adX _ _ (by omega) (by omega)];simp
theorem aoM (r x:Nat) (hr:r<4294967296) (hx:x<256):Value.int .u32 (bits .xor .u32 (r:Int) (x:Int))= .int .u32 ((r^^^x:Nat):Int):=by
 rw[adX _ _ hr (by omega)]
theorem arh (r x:Nat) (w:World) (hr:r<4294967296) (hx:x<256):
 Calls Tryz.prog 257 #[.int .u32 (r:Int), .int .u8 (x:Int)] w fun e w'=>e= .returned (.int .u32 (aq9 r x:Int))/\w=w':=by
 go_enter Tryz.func257,Tryz.ntmps257
 go_wp2
 go_loop [0,10] (fun v i=>∃k:Nat,k<=8/\i= .int .i64 k/\v= .int .u32 (ak4 k (r^^^x):Int)) (fun _ i=>8-(intOf i).toNat)
 case atStart=>exact⟨0,by omega,rfl,aoM r x hr hx⟩
 case round=>
  obtain⟨k,hk,rfl,rfl⟩:=hrel;by_cases hlt:k<8
  · have hs:=amm k (af7 hr (show x<4294967296 by omega));have hn:=ano k (r^^^x);generalize ak4 k (r^^^x)=q at*;have HN:=Lib.hid hn;clear hn;have ha:=ajH q hs;rcases Nat.mod_two_eq_zero_or_one q with hq | hq
    · have hb:(bits BinOp.and IntKind.u32 (q:Int) 1==1)=false:=by rw[ha,hq];rfl
      clear ha;go_wp2
      go_round
      case rel=>exact⟨k+1,by omega,by go_num,by rw[HN.out];exact aoL q hq⟩
      case measure=>simp[intOf];omega
    · have hb:(bits BinOp.and IntKind.u32 (q:Int) 1==1)=true:=by rw[ha,hq];rfl
      clear ha;go_wp2
      go_round
      case rel=>exact⟨k+1,by omega,by go_num,by rw[HN.out];exact arg q hs hq⟩
      case measure=>simp[intOf];omega
  · go_wp2
    go_ret
    obtain rfl:k=8:=by omega
    exact⟨rfl,rfl⟩
theorem aoN (r:Nat) (bs:List UInt8) (k:Nat) (h:k<bs.length):aq9 (ahB r (bs.take k)) bs[k].toNat=ahB r (bs.take (k+1)):=by
 rw[List.take_succ_eq_append_getElem h,ajE];rfl
theorem ari (s:Nat) (hs:s<4294967296):4294967295^^^s=4294967295-s:=by
 apply Nat.eq_of_testBit_eq;intro i;have h1:(4294967295:Nat)=2^32-1:=rfl;have h2:4294967295-s=2^32-(s+1):=by omega
 rw[h2,Nat.testBit_two_pow_sub_succ (show s<2^32 from hs),Nat.testBit_xor,h1,Nat.testBit_two_pow_sub_one];by_cases hi:i<32
 · simp[hi]
 · have:s.testBit i=false:=Nat.testBit_lt_two_pow (Nat.lt_of_lt_of_le hs (Nat.pow_le_pow_right (by omega) (by omega):2^32<=2^i));simp[hi,this]
theorem aoO (s:Nat) (hs:s<4294967296):bits BinOp.xor IntKind.u32 IntKind.u32.max (s:Int)=((4294967295-s:Nat):Int):=by
 rw[<-ari s hs,<-adX _ _ (by omega) hs];rfl
theorem arj (A:Option Addr) (n c B s:Nat) (bs:List UInt8) (w:World) (hrd:Rd w B A n bs) (hn:n<=1000000) (hs:s<4294967296):
 Calls Tryz.prog 211 #[.int .u32 (s:Int), .slice A n c] w fun e w'=>e= .returned (.int .u32 (abd s bs:Int))/\w=w':=by
 have hbs:bs.length=n:=hrd.1;go_enter Tryz.func211,Tryz.ntmps211
 go_wp2
 go_loop [5,12] (fun v i=>∃k:Nat,k<=n/\i= .int .i64 k/\v= .int .u32 (ahB (4294967295-s) (bs.take k):Int)) (fun _ i=>n-(intOf i).toNat)
 case atStart=>exact⟨0,by omega,rfl,by rw[aoO s hs];rfl⟩
 case round=>
  obtain⟨k,hk,rfl,rfl⟩:=hrel;have hf:=arc (r:=4294967295-s) (bs.take k) (by omega);by_cases hlt:k<n
  · obtain⟨b,off,rfl,hb,hl,hc⟩:=hrd.at_ hlt;have hx:=bs[k].toNat_lt;have hsn:=aoN (4294967295-s) bs k hl;generalize ahB (4294967295-s) (bs.take k)=q at*;generalize bs[k].toNat=x at*;go_wp2_with fail
    refine(arh q x _ hf hx).mono ?_;rintro e w1 ⟨rfl,rfl⟩;go_wp2
    go_round
    case rel=>exact⟨k+1,by omega,by go_num,rfl⟩
    case measure=>simp[intOf];omega
  · have hall:bs.take k=bs:=List.take_of_length_le (by omega);rw[hall]at hf ⊢;go_wp2
    go_ret
    exact⟨by rw[aoO _ hf];rfl,rfl⟩
theorem agz (A:Option Addr) (n c B:Nat) (bs:List UInt8) (w:World) (hrd:Rd w B A n bs) (hn:n<=1000000):
 Calls Tryz.prog 146 #[.slice A n c] w fun e w'=>e= .returned (.int .u32 (abd 0 bs:Int))/\w=w':=by
 go_enter Tryz.func146,Tryz.ntmps146
 go_wp2_with fail
 refine(arj A n c B 0 bs _ hrd hn (by omega)).mono ?_;rintro e w1 ⟨rfl,rfl⟩;go_wp2
 go_ret
 exact⟨rfl,rfl⟩
def amp (bs:List UInt8):ByteArray:=⟨bs.toArray⟩
theorem agA (bs:List UInt8):strOfNums (bs.map fun u=>(u.toNat:Int))=amp bs:=by
 unfold strOfNums amp;rw[List.map_map];congr 2;conv=>rhs;rw[<-List.map_id bs]
 exact List.map_congr_left fun u _=>by simp
theorem acg{w:World}{B n c:Nat}{A:Option Addr}{bs:List UInt8}(h:Rd w B A n bs):(convert 37 9 (.slice A n c)).run Tryz.prog w= .ok (.string (amp bs)) w:=by
 rcases Nat.eq_zero_or_pos n with h0 | h0
 · subst h0;obtain rfl:bs= []:=List.eq_nil_of_length_eq_zero h.1;rcases A with _ | ⟨b,off,sp⟩
   · exact run_convert_bytes_nil w 37 5 Tryz.underlying37 Tryz.underlying5 0 c 9 Tryz.underlying9
   · rw[run_convert_bytes_string w 37 9 5 _ 0 c Tryz.underlying37 Tryz.underlying5 Tryz.underlying9,run_bytesToString w _ 0 c [] (run_loadCells_list (P:=Tryz.prog) w _ [] (by simp))];rfl
 · obtain⟨b,off,rfl,_,hc⟩:=h.2 h0;rw[<-agA];refine run_convert_bytes_arg w 37 5 Tryz.underlying37 Tryz.underlying5 b off n c _ (by rw[List.length_map];exact h.1) (fun i hi=> ?_) 9 Tryz.underlying9;have hl:i<bs.length:=by have:=h.1;omega
   rw[hc i bs[i] (List.getElem?_eq_getElem hl)];simp[List.getD,List.getElem?_eq_getElem hl]
theorem Rd.alloc{w:World}{B n:Nat}{A:Option Addr}{bs:List UInt8}(h:Rd w B A n bs) (hB:B<=w.heap.size) (o:Obj):Rd (w.alloc o) B A n bs:=
 h.keep fun p hp=>World.cell?_alloc_lt w o p (by omega)
theorem aoP{a b:Int}(h:a=b):Ending.returned (.tuple #[.int .u64 a, .bool true])= .returned (.tuple #[.int .u64 b, .bool true]):=by rw[h]
section
variable {w:World} {g base cap c:Nat} {A:Option Addr} {bs:List UInt8}
theorem abL (h:Ar w 195 g base cap A c bs):
 Calls Tryz.prog 97 #[.pointer (some ⟨g,0,none⟩)] w fun e w'=>e= .returned (.int .i64 (bs.length:Int))/\w=w':=by
 have c2:=h.c2;go_enter Tryz.func97,Tryz.ntmps97
 go_wp2
 go_ret
 exact⟨rfl,rfl⟩
theorem ak7 (h:Ar w 195 g base cap A c bs):
 Calls Tryz.prog 57 #[.pointer (some ⟨g,0,none⟩)] w fun e w'=>e= .returned (.int .i64 (cap:Int))/\w=w':=by
 have c1:=h.c1;go_enter Tryz.func57,Tryz.ntmps57
 go_wp2
 go_ret
 exact⟨rfl,rfl⟩
theorem ab4 (h:Ar w 195 g base cap A c bs):
 Calls Tryz.prog 56 #[.pointer (some ⟨g,0,none⟩)] w fun e w'=>e= .returned (.int .u64 (base:Int))/\w=w':=by
 have c0:=h.c0;go_enter Tryz.func56,Tryz.ntmps56
 go_wp2
 go_ret
 exact⟨rfl,rfl⟩
theorem aoQ (h:Ar w 195 g base cap A c bs) (hl:bs.length<=1000000) (x n:Nat) (hx:x<18446744073709551616) (h1:base<=x) (h2:x-base+n<=bs.length):
 Calls Tryz.prog 158 #[.pointer (some ⟨g,0,none⟩), .int .u64 (x:Int), .int .u64 (n:Int)] w fun e w'=>e= .returned (.tuple #[.int .u64 ((x-base:Nat):Int), .bool true])/\w=w':=by
 have c0:=h.c0;have c2:=h.c2;obtain⟨d,rfl⟩:∃d,x=base+d:=⟨x-base,by omega⟩;have e1:base+d-base=d:=by omega
 rw[e1]at h2 ⊢;clear e1;have s1:decide ((d:Int)<=(bs.length:Int))=true:=decide_eq_true (by omega);have s2:decide ((n:Int)<=(bs.length:Int)-(d:Int))=true:=decide_eq_true (by omega);go_enter Tryz.func158,Tryz.ntmps158
 go_wp2
 go_ret2
 exact⟨aoP (by omega),rfl⟩
theorem amq (h:Ar w 195 g base cap A c bs) (hl:bs.length<=1000000) (x n:Nat) (hx:x<18446744073709551616) (h2:base<=x->bs.length<x-base+n):
 Calls Tryz.prog 158 #[.pointer (some ⟨g,0,none⟩), .int .u64 (x:Int), .int .u64 (n:Int)] w fun e w'=>e= .returned (.tuple #[.int .u64 0, .bool false])/\w=w':=by
 have c0:=h.c0;have c2:=h.c2;by_cases h1:base<=x
 · have h2:=h2 h1;obtain⟨d,rfl⟩:∃d,x=base+d:=⟨x-base,by omega⟩;have e1:base+d-base=d:=by omega
   rw[e1]at h2;clear e1;by_cases h3:bs.length<d
   · go_enter Tryz.func158,Tryz.ntmps158
     go_wp2
     go_ret2
     exact⟨rfl,rfl⟩
   · have s2:decide ((bs.length:Int)-(d:Int)<(n:Int))=true:=decide_eq_true (by omega);go_enter Tryz.func158,Tryz.ntmps158
     go_wp2
     go_ret2
     exact⟨rfl,rfl⟩
 · clear h2;have h3:x<base:=by omega
   go_enter Tryz.func158,Tryz.ntmps158
   go_wp2
   go_ret2
   exact⟨rfl,rfl⟩
end
theorem nmE{α:Sort _}(a:α):∃x,a=x:=⟨_,rfl⟩
theorem hE0{p:Prop}(h:p):Hid p:=h
theorem anE{w w':World}{o:Obj}(h:w.alloc o=w'):w'.heap[w.heap.size]?=some o:=by rw[<-h];exact heap_alloc_new w _
theorem abE{w w':World}{o:Obj}(h:w.alloc o=w'):Below w.heap.size w w':=by rw[<-h];exact(Below.refl _ _).alloc (Nat.le_refl _) _
theorem adE{w w':World}(h:w.drew=w'):Below w.heap.size w w':=by rw[<-h];exact(Below.refl _ _).drew
theorem tfE{B:Nat}{w:World}{p:Addr}{v:Value}(k:w.cell? p=some v) (hp:p.block<B):∀z:LaterB B w,z.val.cell? p=some v:=fun z=>(z.ext.cell (p:=p) hp).trans k
theorem lE1{α:Type _}{l:List α}{i:Nat}:l.toArray[i]?=l[i]?:=List.getElem?_toArray
theorem lE2{α:Type _}{a:α}{l:List α}{i:Nat}:(a::l)[i+1]?=l[i]?:=List.getElem?_cons_succ
theorem lE3{α:Type _}{a:α}{l:List α}:(a::l)[0]?=some a:=List.getElem?_cons_zero
theorem lE4{α:Type _}(l:List α) (i:Nat) (a:α):l.toArray.setIfInBounds i a=(l.set i a).toArray:=List.setIfInBounds_toArray ..
theorem lE5{α:Type _}{a b:α}{l:List α}:(a::l).set 0 b=b::l:=List.set_cons_zero ..
theorem lE6{α:Type _}{a b:α}{l:List α}{i:Nat}:(a::l).set (i+1) b=a::l.set i b:=List.set_cons_succ ..
end Go.Proofs.YtncadccbepjekaaGreatDoor
