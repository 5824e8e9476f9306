/- Texts of mine, joined. -/
import Derived.Test.YtncadccbepjekaaGreatDoorP18
import Derived.Test.YtncadccbepjekaaGreatDoorP24
import Derived.Test.YtncadccbepjekaaGreatDoorP26
set_option maxRecDepth 100000
set_option maxHeartbeats 2000000
namespace Go.Proofs.YtncadccbepjekaaGreatDoor
open Go.RowKit
def afh (b:List UInt8) (j:Nat):List UInt8:=((List.range j).map fun i=>agF b i).flatten
theorem ag4 (b:List UInt8) (j:Nat):afh b (j+1)=afh b j++agF b j:=by simp[afh,List.range_succ]
theorem aqu (b:List UInt8) (j:Nat):afh b j=b.take (512*j)++List.replicate (512*j-b.length) 0:=by
 induction j with
 | zero=>simp[afh]
 | succ j ih=>
  rw[ag4,ih];unfold agF;have e:512*(j+1)=512*j+512:=by omega
  rw[e,Nat.mul_comm j 512];by_cases h:512*j<=b.length
  · rw[show 512*j-b.length=0 by omega,List.replicate_zero,List.append_nil,<-List.append_assoc,List.take_add];congr 2;omega
  · rw[List.drop_eq_nil_of_le (by omega),List.take_nil,List.nil_append,List.take_of_length_le (by omega),List.take_of_length_le (by omega),List.append_assoc,List.replicate_append_replicate];congr 2;omega
theorem al1 (b:List UInt8) (K:Nat) (hK:need b.length=K):(afh b K).take b.length=b:=by
 unfold need at hK;rw[aqu,show b.take (512*K)=b from List.take_of_length_le (by omega),List.take_left]
theorem aeP (l:List (Nat × List UInt8)) (bs:List UInt8) (i:Nat) (hf:apd bs.length l):abB (aeH bs l) [] i=abB bs l i:=by
 have sec_last:∀z:List UInt8,abB z [] i=sec z i:=fun z=>by
  rw[ahT z [] i (by simp)];unfold sec;rw[Nat.mul_comm]
 rw[sec_last];obtain⟨r,hr⟩:=nmE l.reverse;have hl:l=r.reverse:=by rw[<-hr,List.reverse_reverse]
 subst hl;clear hr;induction r with
 | nil=>exact(sec_last bs).symm
 | cons x r ih=>
  rw[List.reverse_cons]at hf ⊢;have hf':apd bs.length r.reverse:=fun y hy=>hf y (List.mem_append_left _ hy);have hx:=hf x (by simp);have hlen:=abX r.reverse bs hf';rw[ahS,ahU];by_cases h:x.1=i
  · rw[if_pos h,<-h];exact arU _ x (by rw[hlen];exact hx.1) hx.2
  · rw[if_neg h,apD _ x i (by rw[hlen];exact hx.1) hx.2 h];exact ih hf'
theorem adh (z:List UInt8) (p:Nat) (b:List UInt8) (j i:Nat):abB z (agO p b j) i=if p<=i/\i<p+j then agF b (i-p) else abB z [] i:=by
 induction j with
 | zero=>rw[if_neg (by omega)];rfl
 | succ j ih=>
  rw[aki,ahU,ih];by_cases h:p+j=i
  · rw[if_pos h,if_pos (by omega),show i-p=j by omega]
  · rw[if_neg h];by_cases h2:p<=i/\i<p+j
    · rw[if_pos h2,if_pos (by omega)]
    · rw[if_neg h2,if_neg (by omega)]
theorem ag5{bs bs':List UInt8}{l l':List (Nat × List UInt8)}(p j:Nat) (h:∀i,i<j->abB bs l (p+i)=abB bs' l' (p+i)):adw bs l p j=adw bs' l' p j:=by
 induction j with
 | zero=>rfl
 | succ j ih=>rw[ade,ade,ih (fun i hi=>h i (by omega)),h j (by omega)]
theorem an7 (z:List UInt8) (p:Nat) (b:List UInt8) (K:Nat):adw z (agO p b K) p K=afh b K:=by
 have:∀j,j<=K->adw z (agO p b K) p j=afh b j:=fun j=>by
  induction j with
  | zero=>intro _;rfl
  | succ j ih=>
   intro hj;rw[ade,ag4,ih (by omega),adh,if_pos (by omega)];congr 2;omega
 exact this K (Nat.le_refl _)
theorem am0{out:List UInt8}(h:184<=out.length) (x:Bk):(afT out x).length=out.length:=by
 unfold afT;split
 · rfl
 · exact asl h _
theorem am1:∀(l:List Bk){out:List UInt8},184<=out.length->(l.foldl afT out).length=out.length
 | [],_,_=>rfl
 | x::r,out,h=>by
  rw[List.foldl_cons,am1 r (by rw[am0 h];exact h),am0 h]
theorem aji{S:Nat->Prop}{w w':World}(h:Tch S w w'){b j:Nat}{v:Value}(hc:w.cell? ⟨b,j,none⟩=some v) (hb:b<w.heap.size) (hn:¬S b):w'.cell? ⟨b,j,none⟩=some v:=
 (World.cell?_of_block (w:=w) (a:=⟨b,j,none⟩) (h.block b hb hn)).trans hc
theorem asp:arO:=by
 intro w g base cap c A bs y h hb hl hy
 cases hw:abI bs with
 | none=>
  obtain rfl:none=y:=by rw[<-hy];unfold ab5;rw[hw];rfl
  have hW:=alN w g base cap c A bs _ h hb hl hw;dsimp only[acZ,Option.isSome,Option.getD,aav]at hW;dsimp only[app,aav];have HW:=hE0 hW;clear hW hw hy h hb;go_enter Tryz.func109,Tryz.ntmps109
  go_wp2_with fail
  with_reducible refine HW.out.mono ?_
  rintro e w2 ⟨A',c',rfl,_,hb2⟩;have HB2:=hE0 hb2;clear hb2;go_wp2
  go_ret
  exact⟨rfl,HB2.out⟩
 | some l=>
  obtain⟨h184,hmem⟩:=apm hw;obtain⟨z,hz⟩:=nmE (List.replicate 184 (0:UInt8)++bs.drop 184);have hzl:z.length=bs.length:=by rw[<-hz,List.length_append,List.length_replicate,List.length_drop];omega
  obtain rfl:some (l.foldl afT z)=y:=by rw[<-hy,<-hz];unfold ab5;rw[hw];rfl
  have hW:=alN w g base cap c A bs _ h hb hl hw;dsimp only[acZ,Option.isSome,Option.getD,aav]at hW;dsimp only[app,aav];have HCL:=hE0 (fun(W:World) (hB:Below w.heap.size w W)=>an1 (h.below hB) hb hl h184 z hz);have HW:=hE0 hW;have HMEM:=hE0 hmem;have HAR:=hE0 h;have HBASE:=hE0 hb;have HZL:=hE0 hzl;obtain⟨B0,hB0⟩:=nmE w.heap.size;have HB0:=hE0 hB0;clear hW hw hy h hb hz hmem hzl hB0;go_enter Tryz.func109,Tryz.ntmps109
  go_wp2_with fail
  with_reducible refine HW.out.mono ?_
  rintro e w2 ⟨A2,c2,rfl,ho2,hb2⟩;have hcl:l.length<=c2/\c2<=9223372036854775807:=by
   rcases ho2.2 with⟨h',h0⟩ | ⟨_,_,_,h',_,_,h1,h2,_⟩
   · injection h' with _ _ e;rw[h0,e];omega
   · injection h' with _ _ e;unfold maxLen at h2;omega
  have HO2:=hE0 ho2;have HB2:=hE0 hb2;have HAR2:=hE0 (HAR.out.below hb2);have HCL2:=hE0 (HCL.out w2 hb2);clear hb2 ho2 HW HCL;go_wp2_with fail
  refine HCL2.out.mono ?_;rintro e w3 ⟨rfl,hbe⟩;have HBE:=hE0 hbe;clear hbe HCL2;go_wp2
  go_loopw [19] (fun t wr=>∃j:Nat,t= .int .i64 (j:Int)/\j<=l.length/\Became 195 g base cap A ((l.take j).foldl afT z) w2 wr) (fun t _=>l.length-(intOf t).toNat)
  case atStart=>exact⟨0,rfl,Nat.zero_le _,HBE.out⟩
  case round=>
   obtain⟨j,rfl,hj,hbe⟩:=hrel;by_cases hlt:j<l.length
   · obtain⟨x,hx⟩:∃x,l[j]?=some x:=⟨l[j],List.getElem?_eq_getElem hlt⟩;obtain⟨b,o,rfl,hbb,hc⟩:=apn HO2.out rfl (by omega);have hbB:B0<=b:=by have:=(HO2.out.lt b rfl).1;have:=HB0.out;omega
     have hnf:¬foot g A b:=fun hf=>by
      have h1:b<w.heap.size:=HAR.out.foot_lt hf;have:=HB0.out;omega
     obtain⟨p0,p1,p2⟩:=hc j x hx;have hg:=HMEM.out x (List.mem_of_getElem? hx);obtain⟨_,_,_,q3,_⟩:=aay hg;obtain⟨out,hout⟩:=nmE ((l.take j).foldl afT z);have hol:out.length=bs.length:=by rw[<-hout,am1 _ (by have:=HZL.out;omega)];exact HZL.out
     have hnext:(l.take (j+1)).foldl afT z=afT out x:=by
      rw[List.take_add_one,hx,List.foldl_append,hout];rfl
     rw[hout]at hbe;have htc:Tch (foot g A) w2 wr:=by obtain⟨_,_,_,t,_⟩:=hbe;exact t
     have r0:=aji htc p0 hbb hnf;have r1:=aji htc p1 hbb hnf;have r2:=aji htc p2 hbb hnf;obtain⟨xo,xs,xu⟩:=x;dsimp only at p0 p1 p2 q3 r0 r1 r2;have hq:=(aab _).1 (aay hg).2.2.2.2.1;dsimp only at hq;obtain⟨w4,hw4⟩:=nmE (wr.alloc (.cells #[.int .i64 (xo:Int), .int .i64 (xs:Int), .bool xu] 112));have hb4:=abE hw4;have n4:=anE hw4;obtain⟨⟨d0,d1,d2⟩,_⟩:=aad n4;have HBE4:=hE0 (aaB hbe hb4);have HW4:=hE0 hw4;have HP:=hE0 (an2 HBE4.out HBASE.out (by rw[hol];exact hl) (xo:Int) (by omega))
     cases xu with
     | true=>
      have HN:Hid ((l.take (j+1)).foldl afT z=out):=hnext;clear hnext hx hc hbe hout htc hg p0 p1 p2 hb4 n4 HP hw4 HAR HAR2;go_wp2_with (first | (rw[HW4.out]) | fail)
      go_roundw
      case rel=>exact⟨j+1,by go_num,by omega,by rw[HN.out];exact HBE4.out⟩
      case measure=>simp only[intOf];omega
     | false=>
      have HN:Hid ((l.take (j+1)).foldl afT z=(ahH out (xo:Int)).getD out):=hnext;clear hnext hx hc hbe hout htc hg p0 p1 p2 hb4 n4 hw4 HAR HAR2;go_wp2_with (first | (rw[HW4.out]) | fail)
      refine HP.out.mono ?_;rintro e w5 ⟨⟨v,rfl⟩,hbe5⟩;have HBE5:=hE0 hbe5;clear hbe5 HP;go_wp2
      go_roundw
      case rel=>exact⟨j+1,by go_num,by omega,by rw[HN.out];exact HBE5.out⟩
      case measure=>simp only[intOf];omega
   · obtain hjl:j=l.length:=by omega
     rw[hjl,List.take_length]at hbe;have HF:=hE0 (hbe.after HB2.out);clear hbe hjl;go_wp2
     go_ret
     exact⟨rfl,HF.out⟩
end Go.Proofs.YtncadccbepjekaaGreatDoor
