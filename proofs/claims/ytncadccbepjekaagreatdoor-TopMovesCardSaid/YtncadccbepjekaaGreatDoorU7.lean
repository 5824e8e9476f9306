/- Texts of mine, joined. -/
import Derived.StillTailTactics
import Derived.Test.YtncadccbepjekaaGreatDoorU3
import Derived.Test.YtncadccbepjekaaGreatDoorU4
import Derived.Test.YtncadccbepjekaaGreatDoorU5
set_option maxRecDepth 100000
set_option maxHeartbeats 1000000
namespace Go.Proofs.YtncadccbepjekaaGreatDoor
open Go.RowKit
def lay (bs:List UInt8) (off:Nat) (cs:List UInt8):List UInt8:=bs.take off++(cs++bs.drop (off+cs.length))
theorem ach (bs:List UInt8) (off:Nat) (cs:List UInt8) (h:off+cs.length<=bs.length):(lay bs off cs).length=bs.length:=by
 simp[lay];omega
theorem aoT (bs:List UInt8) (off:Nat):lay bs off []=bs:=by simp[lay]
def amu (bs:List UInt8) (w:World) (e:Ending) (w':World):Prop:=
 ∃A' c',e= .returned (.slice A' bs.length c')/\w'.ownsRow w.heap.size 5 1 (.slice A' bs.length c') bs.length (bs.map bv)/\Below w.heap.size w w'
def arm (bs:List UInt8) (w:World) (e:Ending) (w':World):Prop:=
 ∃A' c',e= .returned (.tuple #[.slice A' bs.length c', .nilIface])/\w'.ownsRow w.heap.size 5 1 (.slice A' bs.length c') bs.length (bs.map bv)/\Below w.heap.size w w'
theorem aoU{w:World}{base n:Nat}{v:Value}{bs:List UInt8}(h:w.ownsRow base 5 1 v n (bs.map bv)):n=bs.length/\∃A c,v= .slice A bs.length c:=by
 have e:n=bs.length:=by have:=h.1;simp at this;exact this.symm
 subst e;obtain⟨A,c,e,_⟩:=agx h;exact⟨rfl,A,c,e⟩
theorem abV (A:Option Addr) (c B:Nat) (bs:List UInt8) (w:World) (h:Rd w B A bs.length bs) (hB:B<=w.heap.size) (hA:A=none->c=0) (hn:bs.length<=1000000):
 Calls Tryz.prog 92 #[.slice A bs.length c] w fun e w'=>amu bs w e w':=by
 rcases A with _ | ad
 · obtain rfl:=hA rfl;have h0:bs= []:=by
    rcases Nat.eq_zero_or_pos bs.length with h0 | h0
    · exact List.eq_nil_of_length_eq_zero h0
    · obtain⟨_,_,e1,_⟩:=h.2 h0
      cases e1
   subst h0;clear hA h;have q:∀W:World,(binOp .eql 37 (.slice none 0 0) (.slice none 0 0)).run Tryz.prog W= .ok (.bool true) W:=fun _=>rfl;go_enter Tryz.func92,Tryz.ntmps92
   go_wp2
   go_ret
   exact⟨none,0,rfl,World.ownsRow_nil _ _ _ _,Below.refl _ _⟩
 · have own1:(w.alloc (.cells #[] 5)).ownsRow w.heap.size 5 1 (.slice (some ⟨w.heap.size,0,none⟩) 0 0) 0 (([]:List UInt8).map bv):=World.ownsRow_lit w _ 0 (Nat.le_refl _) (by unfold maxLen;omega) rfl;have r1:=h.alloc hB (.cells #[] 5);clear hA;have q:∀W:World,(binOp .eql 37 (.slice (some ad) bs.length c) (.slice none 0 0)).run Tryz.prog W= .ok (.bool false) W:=fun _=>rfl;go_enter Tryz.func92,Tryz.ntmps92
   go_wp2_with (first
    | (at_builtin;go_must (refine acm rfl (.tmp 5) (.tmp 6) 37 5 rfl Tryz.underlying37 asC w.heap.size (.slice (some ⟨w.heap.size,0,none⟩) 0 0) 0 [] rfl own1 B (some ad) bs.length c bs rfl r1 (by simp) (by omega) (by simp) ?_);intro x2 w2 own2 hb2 gr2;have hb12:Below w.heap.size w w2:=((Below.refl _ _).alloc (Nat.le_refl _) _).trans hb2;have own3:w2.ownsRow w.heap.size 5 1 x2 bs.length (bs.map bv):=(by simpa using own2);clear own1 own2 gr2 hb2 r1))
   go_ret
   obtain⟨_,A',c',rfl⟩:=aoU own3;exact⟨A',c',rfl,own3,hb12⟩
section
variable {w:World} {t:TypeId} {g base cap c:Nat} {A:Option Addr} {bs:List UInt8}
theorem aek (h:Ar w 195 g base cap A c bs) (hl:bs.length<=1000000) (x n d:Nat) (hx:x<18446744073709551616) (h1:base<=x) (hd:x-base=d) (h2:d+n<=bs.length):
 Calls Tryz.prog 158 #[.pointer (some ⟨g,0,none⟩), .int .u64 (x:Int), .int .u64 (n:Int)] w fun e w'=>e= .returned (.tuple #[.int .u64 (d:Int), .bool true])/\w=w':=by
 subst hd;exact aoQ h hl x n hx h1 h2
theorem ala (h:Ar w 195 g base cap A c bs) (hl:bs.length<=1000000) (x n d:Nat) (hx:x<18446744073709551616) (h1:base<=x) (hd:x-base=d) (h2:d+n<=bs.length):
 Calls Tryz.prog 96 #[.pointer (some ⟨g,0,none⟩), .int .u64 (x:Int), .int .u64 (n:Int)] w fun e w'=>arm ((bs.drop d).take n) w e w':=by
 have hp:=aek h hl x n d hx h1 hd h2;have HP:=Lib.hid hp;clear hp hd;have c2:=h.c2;have hlen:((bs.drop d).take n).length=n:=by simp;omega
 have hle:=h.le;have hrd:=h.reads;obtain⟨ys,hys⟩:∃ys,(bs.drop d).take n=ys:=⟨_,rfl⟩;rw[hys]at hlen ⊢;rcases A with _ | ad
 · obtain⟨rfl,rfl⟩:=h.none_;obtain rfl:n=0:=by simp at h2;omega
   obtain rfl:d=0:=by simp at h2;omega
   obtain rfl:ys= []:=List.eq_nil_of_length_eq_zero hlen;have HC:=Lib.hid (abV none 0 0 [] w Rd.nil_ (Nat.zero_le _) (fun _=>rfl) (by simp));clear hys hlen hle hrd h1 h2 hl hx;go_enter Tryz.func96,Tryz.ntmps96
   go_wp2_with fail
   refine HP.out.mono ?_;rintro e w' ⟨rfl,rfl⟩;go_wp2_with fail
   refine HC.out.mono ?_;rintro e w' ⟨A',c',rfl,ho,hb⟩;go_wp2
   go_ret2
   exact⟨A',c',rfl,ho,hb⟩
 · obtain⟨h',rfl,cur,hrow,_,hmax,hsz,htake⟩:=h.row rfl;unfold maxLen at hmax;have hrs:=hrd.sub d n h2;rw[hys]at hrs;clear hys hrd;subst hlen;have HROW:=Lib.hid hrow;clear hrow hsz htake;have HC:Hid (Calls Tryz.prog 92 #[.slice (if c=d then some ⟨h',0,none⟩ else some ⟨h',d,none⟩) ys.length (c-d)] w fun e w'=>amu ys w e w'):=by
    by_cases hdc:c=d
    · rw[if_pos hdc];exact abV _ _ w.heap.size ys w ⟨rfl,fun hn=>absurd hn (by omega)⟩ (Nat.le_refl _) (fun e=>by cases e) (by omega)
    · rw[if_neg hdc];rw[Nat.zero_add]at hrs;exact abV _ _ w.heap.size ys w hrs (Nat.le_refl _) (fun e=>by cases e) (by omega)
   clear HROW hrs;by_cases hdc:c=d;all_goals
    first | (rw[if_pos hdc,hdc,Nat.sub_self]at HC) | rw[if_neg hdc]at HC
    go_enter Tryz.func96,Tryz.ntmps96
    go_wp2_with fail
    refine HP.out.mono ?_;rintro e w' ⟨rfl,rfl⟩;go_wp2_with fail
    with_reducible refine HC.out.mono ?_
    rintro e w' ⟨A',c',rfl,ho,hb⟩;go_wp2
    go_ret2
    exact⟨A',c',rfl,ho,hb⟩
theorem arn (h:Ar w 195 g base cap A c bs) (hl:bs.length<=1000000) (x n:Nat) (B:Option Addr) (k:Nat) (hx:x<18446744073709551616) (hn:n<=9223372036854775807) (h2:base<=x->bs.length<x-base+n):
 Calls Tryz.prog 132 #[.pointer (some ⟨g,0,none⟩), .int .u64 (x:Int), .slice B n k] w fun e w'=>e= .returned (.iface 130 (.int .i64 2))/\w=w':=by
 have HP:=Lib.hid (amq h hl x n hx h2);clear h2;go_enter Tryz.func132,Tryz.ntmps132
 go_wp2_with fail
 with_reducible refine HP.out.mono ?_
 rintro e w' ⟨rfl,rfl⟩;go_wp2
 go_ret
 exact⟨rfl,rfl⟩
theorem ajL{α:Type}(b r:List α) (off:Nat) (cs:List α) (h:off+cs.length<=b.length):((b++r).take off++(cs++(b++r).drop (off+cs.length))).take b.length=b.take off++(cs++b.drop (off+cs.length)):=by
 have e1:(b++r).take off=b.take off:=List.take_append_of_le_length (by omega);rw[e1,List.drop_append_of_le_length h,<-List.append_assoc cs,<-List.append_assoc];exact List.take_left' (by simp;omega)
theorem Ar.over (h:Ar w t g base cap A c bs) (ht:t≠5){h':Nat}(hA:A=some ⟨h',0,none⟩){cur:Array Value}(hrow:w.heap[h']?=some (.cells cur 5 (0,0))) (hsz:cur.size=c) (htake:cur.toList.take bs.length=bs.map bv) (off:Nat) (cs:List UInt8) (hfit:off+cs.length<=bs.length):
 Became t g base cap A (lay bs off cs) w (w.setRow h' (cur.toList.take off++(cs.map bv++cur.toList.drop (off+(cs.map bv).length))).toArray):=by
 have hle:=h.le;have hlen:=ach bs off cs hfit;subst hA;have hne:h'≠g:=ajF h.own h.obj ht rfl;obtain⟨_,_,_,hr',_,hmax,_⟩:=h.row rfl;refine⟨some ⟨h',0,none⟩,c,⟨?_,?_, .inr ⟨h',c,_,rfl,Nat.zero_le _,setRow_heap w h' _ _ _ _ hrow,by omega,hmax,?_,?_⟩⟩,⟨rfl,rfl,rfl,by simp[World.setRow],fun k _ hk=>setRow_other w h' k _ (fun e=>hk (.inr ⟨_,rfl,e⟩))⟩, .inl rfl⟩
 · rw[setRow_other w h' g _ (Ne.symm hne),hlen];exact h.obj
 · simp
 · simp;omega
 · rw[Nat.mul_one,hlen,List.toList_toArray];have e1:cur.toList=bs.map bv++cur.toList.drop bs.length:=by rw[<-htake,List.take_append_drop]
   have e2:bs.length=(bs.map bv).length:=by simp
   rw[e1,e2];rw[ajL (bs.map bv) _ off (cs.map bv) (by simpa using hfit)];simp[lay]
theorem aiI (h:Ar w 195 g base cap A c bs) (hl:bs.length<=1000000) (x d:Nat) (B:Option Addr) (k:Nat) (cs:List UInt8) (B0:Nat) (hr:Rd w B0 B cs.length cs) (hx:x<18446744073709551616) (h1:base<=x) (hd:x-base=d) (h2:d+cs.length<=bs.length):
 Calls Tryz.prog 132 #[.pointer (some ⟨g,0,none⟩), .int .u64 (x:Int), .slice B cs.length k] w fun e w'=>e= .returned .nilIface/\Became 195 g base cap A (lay bs d cs) w w':=by
 have HP:=Lib.hid (aek h hl x cs.length d hx h1 hd h2);clear hd;have c2:=h.c2;have hle:=h.le;rcases Nat.eq_zero_or_pos cs.length with h0 | h0
 · obtain rfl:cs= []:=List.eq_nil_of_length_eq_zero h0;rw[aoT];have HF:Hid (Became 195 g base cap A bs w w):=⟨A,c,h,Tch.refl _ _, .inl rfl⟩;simp only[List.length_nil]at HP h2 ⊢;clear hr h0;by_cases hdc:c=d;all_goals
    go_enter Tryz.func132,Tryz.ntmps132
    go_wp2_with fail
    refine HP.out.mono ?_;rintro e w' ⟨rfl,rfl⟩;go_wp2_with (refine wpList_copy_nothing rfl (.tmp 26) (.tmp 27) 37 37 rfl 5 Tryz.underlying37 (by kernel_rfl) _ _ _ _ _ _ rfl rfl (by simp) ?_)
    go_ret
    exact⟨rfl,HF.out⟩
 · rcases A with _ | ad
   · obtain⟨rfl,_⟩:=h.none_;rw[List.length_nil]at h2;omega
   · obtain⟨h',rfl,cur,hrow,_,hmax,hsz,htake⟩:=h.row rfl;unfold maxLen at hmax;obtain⟨b,off,rfl,hb,hc⟩:=hr.2 h0;have HF:=Lib.hid (h.over (by decide) rfl hrow hsz htake d cs h2);have hfit:d+(cs.map bv).length<=cur.size:=by simp;omega
     have HSRC:=Lib.hid (adt hr);have HN:Hid ((cs.map bv).length=Nat.min cs.length (bs.length-d)):=by
      show _=_;rw[List.length_map];exact(Nat.min_eq_left (by omega)).symm
     have hdc:¬c=d:=by omega
     have HROW:=Lib.hid hrow;have HFIT:=Lib.hid hfit;clear hrow hsz htake hr hc hfit;go_enter Tryz.func132,Tryz.ntmps132
     go_wp2_with fail
     with_reducible refine HP.out.mono ?_
     rintro e w' ⟨rfl,rfl⟩;go_wp2_with (refine wpList_copy_own rfl (.tmp 26) (.tmp 27) 37 37 rfl 5 Tryz.underlying37 (by kernel_rfl) h' d (bs.length-d) (c-d) ⟨b,off,none⟩ cs.length k rfl rfl cur 5 HROW.out (cs.map bv) HN.out HSRC.out HFIT.out (afO cs) ?_)
     go_ret
     exact⟨rfl,by simpa only[List.length_map]using HF.out⟩
end
theorem Became.of_drew{t:TypeId}{g base cap:Nat}{A:Option Addr}{bs:List UInt8}{w w':World}(h:Became t g base cap A bs w.drew w'):Became t g base cap A bs w w':=by
 obtain⟨A',c',h1,h2,h3⟩:=h;exact⟨A',c',h1,h2.of_drew,h3⟩
section
variable {w:World} {t:TypeId} {g base cap c:Nat} {A:Option Addr} {bs:List UInt8}
theorem atd (h:Ar w 195 g base cap A c bs) (hl:bs.length<=1000000) (x y n d f:Nat) (hx:x<18446744073709551616) (hy:y<18446744073709551616) (h1:base<=x) (hd:x-base=d) (h2:d+n<=bs.length) (h3:base<=y) (hf:y-base=f) (h4:f+n<=bs.length) (hn:0<n):
 Calls Tryz.prog 272 #[.pointer (some ⟨g,0,none⟩), .int .u64 (x:Int), .int .u64 (y:Int), .int .u64 (n:Int)] w fun e w'=>e= .returned .nilIface/\Became 195 g base cap A (lay bs d ((bs.drop f).take n)) w w':=by
 have HP:=Lib.hid (aek h hl x n d hx h1 hd h2);have HQ:=Lib.hid (aek h hl y n f hy h3 hf h4);clear hd hf;have c2:=h.c2;have hle:=h.le;have hlen:((bs.drop f).take n).length=n:=by simp;omega
 obtain⟨ys,hys⟩:∃ys,(bs.drop f).take n=ys:=⟨_,rfl⟩;rcases A with _ | ad
 · obtain⟨rfl,_⟩:=h.none_;rw[List.length_nil]at h2;omega
 · obtain⟨h',rfl,cur,hrow,_,hmax,hsz,htake⟩:=h.row rfl;unfold maxLen at hmax;have hrs:=h.reads.sub f n h4;rw[hys]at hlen hrs ⊢;rw[Nat.zero_add]at hrs;have HF:=Lib.hid ((h.drew).over (by decide) rfl hrow hsz htake d ys (by omega));have HFIT:Hid (d+(ys.map bv).length<=cur.size):=(show _<=_ by simp;omega);have HSRC:=Lib.hid (adt hrs.drew);have HN:Hid ((ys.map bv).length=Nat.min n n):=by
    show _=_;rw[List.length_map,hlen];exact(Nat.min_self n).symm
   have hdc:¬c=d:=by omega
   have hfc:¬c=f:=by omega
   have HROW:Hid (w.drew.heap[h']?=some (.cells cur 5 (0,0))):=hrow;have HL:=Lib.hid hlen;clear hrow hsz htake hrs hys hlen;go_enter Tryz.func272,Tryz.ntmps272
   go_wp2_with fail
   with_reducible refine HP.out.mono ?_
   rintro e w' ⟨rfl,rfl⟩;go_wp2_with fail
   with_reducible refine HQ.out.mono ?_
   rintro e w' ⟨rfl,rfl⟩;go_wp2_with fail
   have e1:IntKind.u64.wrap ((d:Int)+(n:Int))=(d:Int)+(n:Int):=IntWalk.u64_in _ (by omega);have e2:IntKind.u64.wrap ((f:Int)+(n:Int))=(f:Int)+(n:Int):=IntWalk.u64_in _ (by omega);have k1:0<=(d:Int)+(n:Int):=by omega
   have k2:(d:Int)+(n:Int)<=(c:Int):=by omega
   have k3:((d:Int)+(n:Int)).toNat=d+n:=by omega
   have k4:0<=(f:Int)+(n:Int):=by omega
   have k5:(f:Int)+(n:Int)<=(c:Int):=by omega
   have k6:((f:Int)+(n:Int)).toNat=f+n:=by omega
   go_still_tail 18,(by kernel_rfl)
   clear k1 k2 k3 k4 k5 k6 e1 e2;change wpList _ _ _ _ _ w.drew;refine wpList_copy_own rfl (.tmp 40) (.tmp 49) 37 37 rfl 5 Tryz.underlying37 (by kernel_rfl) h' d n (c-d) ⟨h',f,none⟩ n (c-f) ?c1 ?c2 cur 5 HROW.out (ys.map bv) HN.out HSRC.out HFIT.out (afO ys) ?_
   case c1=>rfl
   case c2=>rfl
   have HF2:=Lib.hid (show Became 195 g base cap (some ⟨h',0,none⟩) (lay bs d ys) w _ from HF.out.of_drew);generalize w.drew.setRow h' _=w2 at HF2 ⊢;go_wp2
   go_ret
   exact⟨rfl,HF2.out⟩
end
section
variable {w:World} {t:TypeId} {g base cap c:Nat} {A:Option Addr} {bs:List UInt8}
theorem Ar.widened (h:Ar w t g base cap A c bs) (ht:t≠5) (n:Nat):Became t g base n A bs w (w.setCell ⟨g,1,none⟩ (.int .i64 (n:Int))):=by
 refine⟨A,c,⟨?_,h.own.1,?_⟩,Tch.set w ⟨g,1,none⟩ _ (.inl rfl), .inl rfl⟩
 · rw[heap_setCell_same w g 1 _ t _ h.obj];rfl
 · rcases h.own.2 with h2 | ⟨g',cap',cur,hv,hg,hh,r⟩
   · exact .inl h2
   · refine .inr ⟨g',cap',cur,hv,hg,?_,r⟩;injection hv with e;rw[Below.heap_setCell _ _ _ _ (ajF h.own h.obj ht e)];exact hh
theorem aro (h:Ar w 195 g base cap A c bs) (n:Nat) (h1:cap<=n) (h2:n<=16384):
 Calls Tryz.prog 108 #[.pointer (some ⟨g,0,none⟩), .int .i64 (n:Int)] w fun e w'=>e= .returned .nilIface/\Became 195 g base n A bs w w':=by
 have c1:=h.c1;have f1:=h.thaw 1;have HF:=Lib.hid (h.widened (by decide) n);go_enter Tryz.func108,Tryz.ntmps108
 go_wp2
 go_ret
 exact⟨rfl,HF.out⟩
theorem ate (h:Ar w 195 g base cap A c bs) (hl:bs.length<=1000000) (x d:Nat) (hx:x<18446744073709551616) (h1:base<=x) (hd:x-base=d) (h2:d+8<=bs.length):
 Calls Tryz.prog 176 #[.pointer (some ⟨g,0,none⟩), .int .u64 (x:Int)] w fun e w'=>e= .returned (.tuple #[.int .u64 (ab2 ((bs.drop d).take 8):Int), .nilIface])/\w=w':=by
 have HP:=Lib.hid (aek h hl x 8 d hx h1 hd h2);have HG:=Lib.hid (adY A bs.length c w.heap.size bs d w h.reads h.le hl h2);have c2:=h.c2;clear hd;go_enter Tryz.func176,Tryz.ntmps176
 go_wp2_with fail
 refine HP.out.mono ?_;rintro e w' ⟨rfl,rfl⟩;go_wp2_with fail
 refine HG.out.mono ?_;rintro e w' ⟨rfl,rfl⟩;go_wp2
 go_ret2
 exact⟨rfl,rfl⟩
theorem atf (h:Ar w 195 g base cap A c bs) (hl:bs.length<=1000000) (x:Nat) (hx:x<18446744073709551616) (h2:base<=x->bs.length<x-base+8):
 Calls Tryz.prog 176 #[.pointer (some ⟨g,0,none⟩), .int .u64 (x:Int)] w fun e w'=>e= .returned (.tuple #[.int .u64 0, .iface 130 (.int .i64 2)])/\w=w':=by
 have HP:=Lib.hid (amq h hl x 8 hx h2);clear h2;go_enter Tryz.func176,Tryz.ntmps176
 go_wp2_with fail
 refine HP.out.mono ?_;rintro e w' ⟨rfl,rfl⟩;go_wp2
 go_ret2
 exact⟨rfl,rfl⟩
theorem arp (d k:Nat) (u:UInt8) (h:d+k<bs.length):(lay bs d (List.replicate k u)).set (d+k) u=lay bs d (List.replicate (k+1) u):=by
 have e:(bs.take d).length=d:=by simp;omega
 unfold lay;rw[List.set_append_right _ _ (by omega),e,Nat.add_sub_cancel_left,List.set_append_right _ _ (by simp)];simp only[List.length_replicate,Nat.sub_self];rw[List.drop_eq_getElem_cons (by omega),List.set_cons_zero,List.replicate_succ',List.append_assoc];rfl
theorem Ar.put1 (h:Ar w t g base cap A c bs) (ht:t≠5){h':Nat}(hA:A=some ⟨h',0,none⟩) (j:Nat) (u:UInt8):Ar (w.setCell ⟨h',j,none⟩ (bv u)) t g base cap A c (bs.set j u)/\Tch (foot g A) w (w.setCell ⟨h',j,none⟩ (bv u)):=by
 subst hA;have hne:g≠h':=(ajF h.own h.obj ht rfl).symm;refine⟨⟨?_,?_⟩,Tch.set w ⟨h',j,none⟩ _ (.inr ⟨_,rfl,rfl⟩)⟩
 · rw[Below.heap_setCell _ _ _ _ hne,List.length_set];exact h.obj
 · rw[List.length_set,List.map_set];exact(h.own.stored j (bv u)).1
theorem Ar.byte (h:Ar w t g base cap A c bs){h':Nat}(hA:A=some ⟨h',0,none⟩) (j:Nat) (hj:j<bs.length):∃u:UInt8,w.cell? ⟨h',j,none⟩=some (bv u)/\w.frozen? ⟨h',j,none⟩=false:=by
 subst hA;refine⟨bs[j],?_,h.own.frozenAt j⟩;rw[h.own.cellAt j (by omega),List.getElem?_map,List.getElem?_eq_getElem hj];rfl
theorem aoV (h:Ar w 195 g base cap A c bs) (hl:bs.length<=1000000) (x n d:Nat) (u:UInt8) (hx:x<18446744073709551616) (h1:base<=x) (hd:x-base=d) (h2:d+n<=bs.length):
 Calls Tryz.prog 194 #[.pointer (some ⟨g,0,none⟩), .int .u64 (x:Int), .int .u64 (n:Int), .int .u8 (u.toNat:Int)] w fun e w'=>e= .returned .nilIface/\Became 195 g base cap A (lay bs d (List.replicate n u)) w w':=by
 have HP:=Lib.hid (aek h hl x n d hx h1 hd h2);clear hd;go_enter Tryz.func194,Tryz.ntmps194
 go_wp2_with fail
 refine HP.out.mono ?_;rintro e w' ⟨rfl,rfl⟩;go_wp2
 go_loopw [23] (fun i wr=>∃k:Nat,k<=n/\i= .int .u64 k/\Ar wr 195 g base cap A c (lay bs d (List.replicate k u))/\Tch (foot g A) w wr) (fun i _=>n-(intOf i).toNat)
 case atStart=>exact⟨0,Nat.zero_le _,rfl,by rw[List.replicate_zero,aoT];exact h,Tch.refl _ _⟩
 case round=>
  obtain⟨k,hk,rfl,ha,ht⟩:=hrel;by_cases hlt:k<n
  · have hlen:=ach bs d (List.replicate k u) (by simp;omega);rcases A with _ | ad
    · obtain⟨e0,_⟩:=h.none_;subst e0;rw[List.length_nil]at h2;omega
    · obtain⟨h',rfl,_⟩:=h.row rfl;obtain⟨v,q1,q2⟩:=ha.byte rfl (d+k) (by omega);obtain⟨p1,p2⟩:=ha.put1 (by decide) rfl (d+k) u;rw[arp d k u (by omega)]at p1;have c2:=ha.c2;rw[hlen]at c2;have P1:=Lib.hid p1;have P2:=Lib.hid (ht.trans p2 (fun _ _ h=>h));clear p1 p2 hlen ha ht;go_wp2
      go_roundw
      case rel=>exact⟨k+1,by omega,by go_num,P1.out,P2.out⟩
      case measure=>simp[intOf];omega
  · go_wp2
    go_ret
    obtain rfl:k=n:=by omega
    exact⟨rfl,A,c,ha,ht, .inl rfl⟩
end
end Go.Proofs.YtncadccbepjekaaGreatDoor
