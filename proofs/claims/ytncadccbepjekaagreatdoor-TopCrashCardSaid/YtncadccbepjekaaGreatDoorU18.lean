/- Texts of mine, joined. -/
import Derived.Lib.Mul64
import Derived.Laws.Bits64b
import Derived.Test.YtncadccbepjekaaGreatDoorU13
import Derived.Test.YtncadccbepjekaaGreatDoorU15
import Derived.Test.YtncadccbepjekaaGreatDoorU16
set_option maxRecDepth 100000
set_option maxHeartbeats 2000000
namespace Go.Proofs.YtncadccbepjekaaGreatDoor
open Go.RowKit
def wk (K:Nat) (left:Int) (off:Bool):Nat:=if off=true then 0 else if left<0 then K else min K left.toNat
def ab1 (left:Int) (j:Nat):Int:=if left<0 then left else left-j
def aez (p:Nat) (b:List UInt8) (j:Nat):List (Nat × List UInt8):=(List.range j).map fun i=>(p+i,agj b i)
theorem ako (p:Nat) (b:List UInt8) (j:Nat):aez p b (j+1)=aez p b j++ [(p+j,agj b j)]:=by simp[aez,List.range_succ]
theorem apV (b:List UInt8) (i:Nat):agj (b.drop (i*512)) 0=agj b i:=by simp[agj]
theorem ag1 (p:Nat) (b:List UInt8) (j:Nat):(aez p b j).length=j:=by simp[aez]
theorem aii (left:Int):ab1 left 0=left:=by unfold ab1;split<;>omega
theorem anX (left:Int) (j:Nat) (h:(j:Int)<=left\/left<0):ab1 (ab1 left j) 1=ab1 left (j+1):=by
 unfold ab1;by_cases h0:left<0
 · simp[h0]
 · have:¬(left-(j:Int)<0):=by omega
   simp[h0,this];omega
section
variable {S:Nat->Prop} {w:World} {g h c:Nat} {W:Option Addr} {cw:Nat} {bs:List UInt8} {ws:List Wr} {left:Int} {off:Bool}
theorem alE (k:Dk S w g h c W cw bs ws left false) (hl:bs.length<=100000) (hws:ws.length<=1000000) (hl0:left≠0) (hl2:left<=9223372036854775807) (i:Nat) (hi:i*512+512<=bs.length) (A:Option Addr) (cA:Nat) (d:List UInt8) (hd:d.length=512) (hr:Rd w w.heap.size A 512 d) (hAg:∀a,A=some a->a.block≠g):
 Calls Tryz.prog 255 #[.pointer (some ⟨g,0,none⟩), .int .i64 (i:Int), .slice A 512 cA] w fun e w'=>e= .returned .nilIface/\(∃W' cw' b cb,Dk (adz S w w') w' g h c W' cw' bs (ws++ [⟨i,b,cb,d⟩]) (ab1 left 1) false)/\Tch S w w':=by
 by_cases h0:left<0
 · have e:ab1 left 1=left:=by simp[ab1,h0]
   rw[e];exact anK k hl hws h0 i hi A cA d hd hr
 · have e:ab1 left 1=left-1:=by simp[ab1,h0]
   rw[e];exact anL k hl hws (by omega) hl2 i hi A cA d hd hr hAg
theorem anY (k:Dk S w g h c W cw bs ws left off) (hl:bs.length<=100000) (hbad:off=true\/left=0) (i:Nat) (hi:i*512+512<=bs.length) (A:Option Addr) (cA:Nat):
 Calls Tryz.prog 255 #[.pointer (some ⟨g,0,none⟩), .int .i64 (i:Int), .slice A 512 cA] w fun e w'=>e= .returned (.iface 130 (.int .i64 6))/\Dk S w' g h c W cw bs ws left true/\Tch S w w':=by
 by_cases h0:left=0
 · subst h0;exact anN k hl i hi A cA
 · obtain rfl:off=true:=by rcases hbad with h | h;exact h;exact absurd h h0
   refine(anM k hl h0 i hi A cA).mono ?_;rintro e w' ⟨rfl,rfl⟩;exact⟨rfl,k,Tch.refl _ _⟩
theorem Dk.regrow{S:Nat->Prop}{w w1 w2:World}(k:Dk (adz (adz S w w1) w1 w2) w2 g h c W cw bs ws left off) (h1:w.heap.size<=w1.heap.size) (h2:w1.heap.size<=w2.heap.size):Dk (adz S w w2) w2 g h c W cw bs ws left off:=k.more fun j hj=>by
 rcases(k.foot hj).1 with(h | h) | h
 · exact .inl h
 · exact .inr ⟨h.1,by omega⟩
 · exact .inr ⟨by omega,h.2⟩
theorem Tch.regrow{S:Nat->Prop}{w w1 w2:World}(h:Tch S w w1) (h2:Tch (adz S w w1) w1 w2):Tch S w w2:=h.trans h2 fun i hi hg=>by
 rcases hg with h | h
 · exact h
 · omega
theorem anZ (k:Dk S w g h c W cw bs ws left off) (N:Nat) (hN:bs.length=512*N) (hN2:N<=128) (hws:ws.length<=100000) (hl2:left<=9223372036854775807) (p:Nat) (A:Option Addr) (cA:Nat) (b:List UInt8) (hr:Rd w w.heap.size A b.length b) (hA:b.length<=cA) (hAm:cA<=9223372036854775807) (hAS:0<b.length->∀a,A=some a->¬S a.block) (K:Nat) (hK:need b.length=K) (hfit:p+K<=N) (m:Nat) (hm:wk K left off=m):
 Calls Tryz.prog 208 #[.pointer (some ⟨g,0,none⟩), .int .i64 (p:Int), .slice A b.length cA] w fun e w'=>e= .returned (if m<K then .iface 130 (.int .i64 6) else .nilIface)/\(∃W' cw' vs,Dk (adz S w w') w' g h c W' cw' bs vs (ab1 left m) (off || decide (m<K))/\vs.map Wr.two=ws.map Wr.two++aez p b m)/\Tch S w w':=by
 have hmK:m<=K:=by rw[<-hm];unfold wk;split;omega;split;omega;omega
 have hbl:b.length<=65536:=by unfold need at hK;omega
 have hon:off=true->m=0:=fun e=>by rw[<-hm];unfold wk;simp[e]
 have hml:off=false->(m:Int)<=left\/left<0:=fun e=>by
  rw[<-hm];unfold wk;by_cases h0:left<0
  · exact .inr h0
  · left;simp[e,h0];omega
 have hmlt:off=false->m<K->left=(m:Int):=fun e h=>by
  rw[<-hm]at h ⊢;unfold wk at h ⊢;by_cases h0:left<0
  · simp[e,h0]at h
  · simp[e,h0]at h ⊢;omega
 have HF:=hE0 (akd k N hN hN2 p b.length (by rw[hK];exact hfit));have HE:=hE0 (aeb w b.length (by omega) K hK);have k0:Dk (adz S w w) w g h c W cw bs ws (ab1 left 0) off:=by rw[aii];exact k.more fun j hj=> .inl (k.foot hj).1
 have HK:=hE0 hK;have HNN:=hE0 hN;have HR:=hE0 hr;clear hK hN hr hm k;go_enter Tryz.func208,Tryz.ntmps208
 go_wp2_with fail
 with_reducible refine HF.out.mono ?_
 rintro e w1 ⟨rfl,rfl⟩;go_wp2_with fail
 with_reducible refine HE.out.mono ?_
 rintro e w1 ⟨rfl,rfl⟩;clear HF HE;go_wp2
 go_loopw [19] (fun i wr=>∃j:Nat,j<=m/\i= .int .i64 j/\(∃W' cw' vs,Dk (adz S w wr) wr g h c W' cw' bs vs (ab1 left j) off/\vs.map Wr.two=ws.map Wr.two++aez p b j)/\Tch S w wr) (fun i _=>K-(intOf i).toNat)
 case atStart=>exact⟨0,Nat.zero_le _,rfl,⟨W,cw,ws,k0,by simp[aez]⟩,Tch.refl _ _⟩
 case round=>
  obtain⟨j,hj,rfl,⟨W',cw',vs,kr,hvs⟩,ht⟩:=hrel;have hvl:vs.length=ws.length+j:=by have:=congrArg List.length hvs;simpa[ag1]using this
  by_cases hlt:j<K
  · have hjb:j*512<b.length:=by have:=HK.out;unfold need at this;omega
    have rr:=HR.out.tch ht (hAS (by omega));obtain⟨bA,oA,rfl,hbA,_⟩:=rr.2 (by omega);obtain⟨cs,hcs⟩:=nmE (b.drop (j*512));have hcl:cs.length=b.length-j*512:=by rw[<-hcs];simp
    have rs:=rr.sub (j*512) (b.length-j*512) (by omega);rw[List.take_of_length_le (by simp),hcs,<-hcl]at rs;have HP:=aly wr ⟨bA,oA+j*512,none⟩ (cA-j*512) cs rs (by omega) (by omega);rw[hcl,<-hcs,apV]at HP;have HP:=hE0 HP;have HKR:=hE0 kr;have HVS:=hE0 hvs;have HT:=hE0 ht;have hne:¬cA=j*512:=by omega
    clear rr rs hcs kr hvs ht k0;go_wp2_with fail
    with_reducible refine HP.out.mono ?_
    rintro e w2 ⟨rfl,hf,hb⟩;have rf:=hf.reads;rw[aeK]at rf;have k2:=HKR.out.below hb;by_cases hjm:j<m
    · have hof:off=false:=by
       cases off
       · rfl
       · have:=hon rfl;omega
      subst hof;have hml':=hml rfl;have hl0:ab1 left j≠0:=by unfold ab1;split<;>omega
      have hl3:ab1 left j<=9223372036854775807:=by unfold ab1;split<;>omega
      have HW:=alE k2 (by have:=HNN.out;omega) (by omega) hl0 hl3 (p+j) (by have:=HNN.out;omega) (some ⟨wr.heap.size,0,none⟩) 512 (agj b j) (aeK b j) rf (fun a e=>by
       injection e with e;subst e;have:=HKR.out.lt;dsimp only;omega)
      rw[anX left j (by omega),Int.natCast_add]at HW;have HW:=hE0 HW;have HSZ:=hE0 hb.size;have T2:Hid (Tch (adz S w wr) wr w2):=Tch.of_below hb;have HSR:=hE0 HT.out.size;clear hf hb rf k2 hl0 hl3 hne hcl;go_wp2_with fail
      with_reducible refine HW.out.mono ?_
      rintro e w3 ⟨rfl,⟨W3,cw3,b3,cb3,k3⟩,t3⟩;have t23:=T2.out.trans t3 (fun i _ h=>h);have t03:=HT.out.regrow t23;have k3':Dk (adz S w w3) w3 g h c W3 cw3 bs (vs++ [⟨p+j,b3,cb3,agj b j⟩]) (ab1 left (j+1)) false:=k3.more fun i hi=>by
       have h1:=HSR.out;have h2:=HSZ.out;have h3:=t3.size;rcases(k3.foot hi).1 with(h | h) | h
       · exact .inl h
       · exact .inr ⟨h.1,by omega⟩
       · exact .inr ⟨by omega,h.2⟩
      have e3:(vs++ [(⟨p+j,b3,cb3,agj b j⟩:Wr)]).map Wr.two=ws.map Wr.two++aez p b (j+1):=by rw[List.map_append,HVS.out,ako,List.append_assoc];rfl
      have K3:=hE0 k3';have E3:=hE0 e3;have T3:=hE0 t03;clear k3 t3 t23 t03 k3' e3 HW T2;go_wp2
      go_roundw
      case rel=>exact⟨j+1,by omega,by go_num,⟨W3,cw3,_,K3.out,E3.out⟩,T3.out⟩
      case measure=>simp[intOf];omega
    · obtain rfl:j=m:=by omega
      have hbad:off=true\/ab1 left j=0:=by
       cases off
       · right;have:=hmlt rfl hlt;unfold ab1;split<;>omega
       · exact .inl rfl
      have HW:=anY k2 (by have:=HNN.out;omega) hbad (p+j) (by have:=HNN.out;omega) (some ⟨wr.heap.size,0,none⟩) 512;rw[Int.natCast_add]at HW;have HW:=hE0 HW;have HSZ:=hE0 hb.size;have T2:Hid (Tch (adz S w wr) wr w2):=Tch.of_below hb;clear hf hb rf k2 hne hcl;go_wp2_with fail
      with_reducible refine HW.out.mono ?_
      rintro e w3 ⟨rfl,k3,t3⟩;have t03:=HT.out.regrow (T2.out.trans t3 (fun i _ h=>h));have k3':Dk (adz S w w3) w3 g h c W' cw' bs vs (ab1 left j) true:=by
       exact k3.more fun i hi=>by
        have h2:=HSZ.out;have h3:=t3.size;rcases(k3.foot hi).1 with h | h
        · exact .inl h
        · exact .inr ⟨h.1,by omega⟩
      have K3:=hE0 k3';have T3:=hE0 t03;clear k3 t3 t03 k3' HW T2;go_wp2
      go_ret
      exact⟨rfl,⟨W',cw',_,K3.out,HVS.out⟩,T3.out⟩
  · obtain rfl:j=K:=by omega
    obtain rfl:m=j:=by omega
    have K3:=hE0 kr;have T3:=hE0 ht;have HVS:=hE0 hvs;clear kr ht hvs k0;go_wp2
    go_ret
    exact⟨rfl,⟨W',cw',_,K3.out,HVS.out⟩,T3.out⟩
end
def sec (bs:List UInt8) (s:Nat):List UInt8:=(bs.drop (512*s)).take 512
theorem arZ (bs:List UInt8) (x:Nat × List UInt8) (h:x.1*512+512<=bs.length) (h2:x.2.length=512):sec (ac5 bs x) x.1=x.2:=by
 have e:(bs.take (x.1*512)).length=512*x.1:=by simp;omega
 unfold sec ac5 lay;rw[List.drop_append,e,List.drop_eq_nil_of_le (by omega),List.nil_append,Nat.sub_self,List.drop_zero,<-h2];exact List.take_left
theorem apW (bs:List UInt8) (x:Nat × List UInt8) (s:Nat) (h:x.1*512+512<=bs.length) (h2:x.2.length=512) (hs:x.1≠s):sec (ac5 bs x) s=sec bs s:=by
 apply List.ext_getElem?;intro i;unfold sec ac5 lay;rcases Nat.lt_or_ge i 512 with hi | hi
 · rw[List.getElem?_take_of_lt hi,List.getElem?_take_of_lt hi,List.getElem?_drop,List.getElem?_drop];have e:(bs.take (x.1*512)).length=x.1*512:=by simp;omega
   rcases Nat.lt_or_ge s x.1 with h3 | h3
   · rw[List.getElem?_append_left (by omega),List.getElem?_take_of_lt (by omega)]
   · rw[List.getElem?_append_right (by omega),e,List.getElem?_append_right (by omega),h2,List.getElem?_drop];have e2:x.1*512+512+(512*s+i-x.1*512-512)=512*s+i:=by omega
     rw[e2]
 · rw[List.getElem?_eq_none (by simp;omega),List.getElem?_eq_none (by simp;omega)]
theorem akp{w:World}{base n c:Nat}{A:Option Addr}{bs:List UInt8}(h:w.ownsRow base 5 1 (.slice A n c) n (bs.map bv)):n<=c/\c<=maxLen:=by
 rcases h.2 with⟨h',h0⟩ | ⟨_,_,_,h',_,_,h1,h2,_⟩
 · injection h' with _ _ e;rw[h0,e];exact⟨Nat.le_refl _,Nat.zero_le _⟩
 · injection h' with _ _ e;rw[e];exact⟨h1,h2⟩
section
variable {S:Nat->Prop} {w:World} {g:Nat} {L:Option Addr} {cl:Nat} {W:Option Addr} {cw:Nat} {ls ws:List Wr} {left:Int} {off:Bool}
end
theorem apX (w:World) (A A2:Option Addr) (n c B k2:Nat) (b:List UInt8) (l:List Rk) (hr:Rd w B A n b) (hnc:n<=c) (hc:c<=9223372036854775807) (hn:n<=900000) (hl:RkRd w w.heap.size A2 l) (hBw:B<=w.heap.size) (hll:l.length<=1024) (hs:∀x∈l,aaB x.s=true) (hbad:(aeM b l).1=0):
 Calls Tryz.prog 277 #[.slice A n c, .slice A2 l.length k2] w fun e w'=>∃A3 c3,e= .returned (auX (aeM b l) A3 c3)/\(∃xs,w'.ownsRow w.heap.size 37 1 (.slice A3 (aeM b l).2.length c3) (aeM b l).2.length xs/\DtO w' (aeM b l).2 xs)/\Below w.heap.size w w':=by
 have hbl:b.length=n:=hr.1;have hh:=ai2 hs;obtain⟨D,hD⟩:=nmE (aeM b l);rw[hD]at hbad ⊢;unfold aeM at hD;rw[hbl]at hD;obtain⟨m,hm⟩:=nmE l.length;rw[hm]at hll hh hD ⊢;obtain⟨E,hE⟩:=nmE (28+m*8);obtain⟨T,hT⟩:=nmE (E+4+aaP l);have hTE:E+4<=T:=by omega
 rw[show 32+8*m=E+4 from by omega,hT]at hD;have HT:=ai1 w m (by omega);rw[hE]at HT;have HTT:=hE0 HT;have HR:=hE0 (hr.more hBw);have HL:=hE0 hl;have HSZ:=hE0 hs;have HM:=hE0 hm;have HTL:=hE0 hT;have hEb:E<=10000:=by omega
 have hTb:T<=30000000:=by omega
 have HDD:=hE0 hD;clear hr hl hs hm hT HT hD hE hh hbl;go_enter Tryz.func277,Tryz.ntmps277
 go_wp2_with fail
 refine HTT.out.mono ?_;rintro e w2 ⟨rfl,rfl⟩;go_wp2_with fail
 go_loopw [7,20] (fun o t wr=>∃(j z:Nat),o= .int .i64 (z:Int)/\t= .int .i64 (j:Int)/\j<=m/\z+aaP (l.drop j)=T/\Below w.heap.size w wr) (fun _ t _=>m-(intOf t).toNat)
 case atStart=>exact⟨0,E+4,by go_num,rfl,Nat.zero_le _,HTL.out,Below.refl _ _⟩
 case round=>
  obtain⟨j,z,rfl,rfl,hj,hz,hb⟩:=hrel;have hzT:z<=T:=by omega
  by_cases hlt:j<m
  · obtain⟨x,hx⟩:∃x,l[j]?=some x:=⟨l[j]'(by rw[HM.out];exact hlt),List.getElem?_eq_getElem _⟩;exact agY
  · have hd:l.drop j= []:=List.drop_eq_nil_of_le (by rw[HM.out];omega);rw[hd]at hz;have hz2:z=T:=hz;subst hz2;have HB:=hE0 hb;have hR:=HR.out.below hb;have hDD:=HDD.out;clear hb hz hd;have h1:n=z+8:=by
     refine Decidable.byContradiction fun h=> ?_;rw[if_pos h]at hDD;rw[<-hDD]at hbad;exact absurd hbad (by decide)
    rw[if_neg (fun h=>h h1)]at hDD;have g1:((n:Int) !=(z:Int)+8)=false:=by rw[bne_eq_false_iff_eq];omega
    have hy1:aby b (E+4) z=true:=by
     cases h:aby b (E+4) z with
     | true=>rfl
     | false=>
      rw[h,if_pos rfl]at hDD;rw[<-hDD]at hbad;exact absurd hbad (by decide)
    rw[if_neg (by rw[hy1];simp)]at hDD;have hy2:aby b 0 (z+4)=true:=by
     cases h:aby b 0 (z+4)with
     | true=>rfl
     | false=>
      rw[h,if_pos rfl]at hDD;rw[<-hDD]at hbad;exact absurd hbad (by decide)
    rw[if_neg (by rw[hy2];simp)]at hDD;have HS1:=hE0 (acu wr A n c w.heap.size b (E+4) z hR hnc hc hn (by omega) (by omega) true hy1);have HS2:=hE0 (acu wr A n c w.heap.size b 0 (z+4) hR hnc hc hn (by omega) (by omega) true hy2);rw[show((E+4:Nat):Int)=(E:Int)+4 from by omega]at HS1;rw[show((z+4:Nat):Int)=(z:Int)+4 from by omega]at HS2;obtain⟨F,hF⟩:=nmE (agk l (b.drop (E+4)));rw[hF]at hDD;have HD3:=hE0 hDD;have HFF:=hE0 hF;have HTL2:=hE0 HTL.out;have hzn:z+8<=n:=by omega
    have hEz:E+4<=z:=hTE;obtain⟨g,off,rfl,hgB,_⟩:=HR.out.2 (by omega);clear hDD hR hy1 hy2 h1 hbad HTL hF;go_wp2_with fail
    refine HS1.out.mono ?_;rintro e w5 ⟨rfl,rfl⟩;go_wp2_with fail
    refine HS2.out.mono ?_;rintro e w5 ⟨rfl,rfl⟩;go_wp2_with fail
    have HBr:=HB;clear HB HS1 HS2 HTT;go_loopw [6,10,52] (fun o v t W=>∃(j p:Nat) (d:List (List UInt8)) (xs:List Value) (A3:Option Addr) (c3:Nat),o= .int .i64 (p:Int)/\v= .slice A3 d.length c3/\t= .int .i64 (j:Int)/\j<=m/\E+4<=p/\p+aaP (l.drop j)=z/\d++agk (l.drop j) (b.drop p)=F/\W.ownsRow w.heap.size 37 1 (.slice A3 d.length c3) d.length xs/\DtO W d xs/\d.length<=j/\Below w.heap.size w W) (fun _ _ t _=>m-(intOf t).toNat)
    case atStart=>exact⟨0,E+4,[],[],none,0,by go_num,rfl,rfl,Nat.zero_le _,Nat.le_refl _,HTL2.out,HFF.out,World.ownsRow_nil _ _ _ _,fun i y h=>by simp at h,Nat.le_refl _,HBr.out⟩
    case round=>
     obtain⟨j,p,d,xs,A3,c3,rfl,rfl,rfl,hj,hp,hpz,hcut,hown,hdo,hdl,hb⟩:=hrel;by_cases hlt:j<m
     · obtain⟨x,hx⟩:∃x,l[j]?=some x:=⟨l[j]'(by rw[HM.out];exact hlt),List.getElem?_eq_getElem _⟩;obtain⟨b2,o,rfl,hbb,hcl⟩:=HL.out (by rw[HM.out];omega);obtain⟨p0,p1,p2,hxo,hxs⟩:=hcl j x hx;have r0:=(hb.cell (p:=⟨b2,o+j*3,none⟩) hbb).trans p0;have r1:=(hb.cell (p:=⟨b2,o+j*3+1,none⟩) hbb).trans p1;have r2:=(hb.cell (p:=⟨b2,o+j*3+2,none⟩) hbb).trans p2;have hsx:=HSZ.out x (List.mem_of_getElem? hx);rw[aeE hx]at hpz hcut;unfold aaP at hpz;unfold agk at hcut;obtain⟨xo,xs',xu⟩:=x;dsimp only at p0 p1 p2 r0 r1 r2 hpz hxo hxs hsx hcut;obtain⟨q,hq1,hq2,hq3⟩:=amR hsx;have hxb:16<=xs'/\xs'<=20016:=by omega
       rw[hq2]at hpz hcut;obtain⟨w4,hw4⟩:=nmE (wr.alloc (.cells #[.int .i64 xo, .int .i64 xs', .bool xu] 112));have hb04:=abE hw4;have hb4:Below w.heap.size w w4:=hb.trans (hb04.mono hb.size);have n4:=anE hw4;obtain⟨d0,d1,d2⟩:=aal n4;have hl4:=aaa n4;have hown4:=ab7 hown hb04 (aba hown);have hdo4:DtO w4 d xs:=by rw[<-hw4];exact hdo.grown (World.grownBy_alloc wr _ none) (fun k h=>by cases h)
       have HW4:=hE0 hw4;have HN4:=hE0 n4;have HB4:=hE0 hb4;have HO4:=hE0 hown4;have HD4:=hE0 hdo4;clear hx hb p0 p1 p2 hb4 hb04 n4 hw4 hcl hown hdo hown4 hdo4
       cases xu with
       | false=>
        have HF:Hid (p+aaP (l.drop (j+1))=z):=(show _=z by simpa using hpz);have HC:Hid (d++agk (l.drop (j+1)) (b.drop p)=F):=(show _=_ by simpa using hcut);clear hq1 hq2 hpz hcut;go_wp2_with (first | (rw[HW4.out]) | fail)
        go_roundw
        case rel=>exact⟨j+1,p,d,xs,A3,c3,rfl,rfl,by go_num,by omega,hp,HF.out,HC.out,HO4.out,HD4.out,by omega,HB4.out⟩
        case measure=>simp only[intOf];omega
       | true=>
        rw[if_pos rfl]at hpz hcut;have hpq:p+q<=z:=by omega
        have HF:Hid (p+q+aaP (l.drop (j+1))=z):=(show _=z by omega);have HC:Hid ((d++ [(b.drop p).take q])++agk (l.drop (j+1)) (b.drop (p+q))=F):=(show _=_ by
         rw[<-hcut,List.append_assoc,List.drop_drop];rfl)
        have hyl:((b.drop p).take q).length=q:=(HR.out.sub p q (by omega)).1;obtain⟨y,hy⟩:=nmE ((b.drop p).take q);rw[hy]at HC hyl;have HHELD:=hE0 (fun(V:World)=>aen V xo xs' true hsx);rw[show xs'-16=(q:Int) from by omega]at HHELD;have hcl:∀V:World,Below w.heap.size w V->Calls Tryz.prog 92 #[.slice (some ⟨g,off+p,none⟩) q (c-p)] V fun e w'=>amu y V e w':=fun V hV=>by
         have h:=HR.out.sub p q (by omega);rw[hy]at h;have h2:=abV (some ⟨g,off+p,none⟩) (c-p) w.heap.size y V (by rw[hyl];exact h.below hV) hV.size (fun e=>by cases e) (by omega);rw[hyl]at h2;exact h2
        have HCL:=hE0 hcl;have HYL:=hE0 hyl;have hg1:(p:Int)<(c:Int):=by omega
        have hg2:(p:Int)+(q:Int)<=(c:Int):=by omega
        obtain⟨i0,hi,hz0,hz1,hz2⟩:=info_parts apD;clear hq1 hq2 hpz hcut hy hcl hyl;go_wp2_with (first | (rw[HW4.out]) | fail)
        refine(HHELD.out w4).mono ?_;rintro e w5 ⟨rfl,hb5⟩;have HN5:=hE0 ((hb5.block _ (aaa HN4.out)).trans HN4.out);have HB5:=hE0 (HB4.out.trans (hb5.mono HB4.out.size));have HO5:=hE0 (ab7 HO4.out hb5 (aba HO4.out));have HD5:=hE0 (HD4.out.stay hb5);clear hb5 d0 d1 d2 hl4;go_wp2_with fail
        refine(HCL.out w5 HB5.out).mono ?_;rintro e w6 ⟨A6,k6,rfl,ho6,hb6⟩;rw[HYL.out]at ho6 ⊢;have hO6:=ab7 HO5.out hb6 (aba HO5.out);have hD6:=HD5.out.stay hb6;have n6:=(hb6.block _ (aaa HN5.out)).trans HN5.out;have hB6:=HB5.out.trans (hb6.mono HB5.out.size);obtain⟨w7,hw7⟩:=nmE (w6.alloc (.cells #[.slice A6 q k6] 37));have hb7:=abE hw7;have n7:=anE hw7;have m7:=(hb7.block _ (aaa n6)).trans n6;have hO7:=ab7 hO6 hb7 (aba hO6);have hD7:=hD6.stay hb7;have ho7:=ab7 ho6 hb7 (aba ho6);have hB7:=hB6.trans (hb7.mono hB6.size);have hlx:xs.length=d.length:=by have:=hO7.1;omega
        have hrow:=apC hO7;have HRUN:=hE0 (fun V:World=>akb V A6 q k6);have HW7:=hE0 hw7;have HNEW:Hid (∀j u,[Value.slice A6 q k6][j]?=some u->w7.cell? ((⟨w6.heap.size,0,none⟩:Addr).add j)=some u):=fun j u hu=>by
         have e:(⟨w6.heap.size,0,none⟩:Addr).add j=⟨w6.heap.size,j,none⟩:=by unfold Addr.add;split<;>simp_all
         rw[e,cell_of_row w7 _ j _ _ (0,0) n7];simpa using hu
        have HONE:Hid (∀u∈ [Value.slice A6 q k6],u.oneCell'=true):=fun u hu=>by
         simp at hu;rcases hu with rfl;rfl
        have hB7s:w.heap.size<=w7.heap.size:=hB7.size;have HO7:=hE0 hO7;have HD7:=hE0 hD7;have Ho7:=hE0 ho7;have HB7:=hE0 hB7;have HN7:=hE0 m7;have HROW:=hE0 hrow;have HLX:=hE0 hlx;have HGE:=hE0 (afb hO7);have hdb:d.length<=2000:=by omega
        have hne:∀k,(Value.slice A3 d.length c3).ownBlock=some k->k≠wr.heap.size:=fun k hk e=>by
         obtain⟨cs,fz,h⟩:=hrow k hk;rw[e,m7]at h;injection h with h;injection h with _ h _;exact absurd h (by decide)
        have HNE:=hE0 hne;have hl7:=aaa m7;clear ho6 hb6 hO6 hD6 n6 hB6 hw7 hb7 n7 m7 hO7 hD7 ho7 hB7 hlx hrow hne HCL;go_wp2_with (first
         | (rw[HRUN.out])
         | (rw[HW7.out])
         | (at_builtin;go_must (refine wpList_append_own _ rfl _ _ 57 rfl w.heap.size 37 i0 _ 1 24 Tryz.underlying57 hi hz0 hz1 hz2 rfl (by decide) _ d.length xs rfl HO7.out ⟨w6.heap.size,0,none⟩ 1 1 [.slice A6 q k6] rfl rfl HNEW.out HONE.out (by unfold maxLen;omega) (by omega) hB7s ?_);intro x8 w8 own8 gr8 at8
            have gr8':w7.grownBy w8 (Value.slice A3 d.length c3).ownBlock:=gr8;have e8:=(gr8'.block _ hl7 (fun e=>HNE.out _ e.symm rfl)).trans HN7.out;obtain⟨c80,c81,c82⟩:=aal e8;have hl8:=aaa e8;have HB8:Hid (Below w.heap.size w w8):=HB7.out.grown gr8' hB7s (fun k hk=>HGE.out k hk);have OWN8:Hid (w8.ownsRow w.heap.size 37 1 x8 (d.length+1) (xs++ [.slice A6 q k6])):=own8;have Ho8:Hid (w8.ownsRow w5.heap.size 5 1 (.slice A6 q k6) q (y.map bv)):=acO Ho7.out gr8' (fun k hk hrk=>by obtain⟨cs,fz,h⟩:=HROW.out k hrk;exact adB Ho7.out hk h (by decide));have HD8:Hid (DtO w8 d xs):=HD7.out.grown gr8' (fun k hk=>by obtain⟨cs,fz,h⟩:=HROW.out k hk;exact⟨cs,_,fz,by decide,h⟩);clear own8 gr8 gr8' at8 e8)
         | fail)
        refine(HHELD.out w8).mono ?_;rintro e w9 ⟨rfl,hb9⟩;obtain⟨A8,c8,rfl,_⟩:=aeJ OWN8.out;have HO9:=hE0 (ab7 OWN8.out hb9 (aba OWN8.out));have Ho9:=acY (ab7 Ho8.out hb9 (aba Ho8.out)) (Nat.zero_le _);have HD9:=HD8.out.stay hb9;have HB9:=hE0 (HB8.out.trans (hb9.mono HB8.out.size));have HDS:Hid (DtO w9 (d++ [y]) (xs++ [.slice A6 q k6])):=(show DtO _ _ _ by
         have e:=HYL.out;subst e;exact HD9.snoc HLX.out (by omega) Ho9)
        clear Ho9 HD9 hb9;go_wp2_with fail
        go_roundw
        case rel=>exact⟨j+1,p+q,d++ [y],_,A8,c8,by go_num,by rw[List.length_append,List.length_singleton],by go_num,by omega,by omega,HF.out,HC.out,by rw[List.length_append,List.length_singleton];exact HO9.out,HDS.out,by rw[List.length_append,List.length_singleton];omega,HB9.out⟩
        case measure=>simp only[intOf];omega
     · have hd:l.drop j= []:=List.drop_eq_nil_of_le (by rw[HM.out];omega);rw[hd]at hcut;have hcut2:d=F:=by
        have:agk [] (b.drop p)= []:=by unfold agk;rfl
        rw[this,List.append_nil]at hcut;exact hcut
       have HE:Hid (D=(0,d)):=(show D=(0,d) by rw[<-HD3.out,hcut2]);have HRD:=hE0 (And.intro hown hdo);have HBF:=hE0 hb;clear hcut hcut2 hd hown hdo hb;go_wp2
       go_ret2
       exact⟨A3,c3,by rw[HE.out];rfl,by rw[HE.out];exact⟨xs,HRD.out⟩,HBF.out⟩
structure St (wB W:World) (g base cap:Nat) (A:Option Addr) (c:Nat) (bs:List UInt8) (L:List (Nat × Obj)):Prop where
 bel:Below wB.heap.size wB W
 ar:Ar W 195 g base cap A c bs
 gB:wB.heap.size<=g
 aB:∀a,A=some a->wB.heap.size<=a.block
 has:∀p∈L,W.heap[p.1]?=some p.2
section
variable {wB W W':World} {g base cap c:Nat} {A:Option Addr} {bs:List UInt8} {L:List (Nat × Obj)}
theorem St.size (h:St wB W g base cap A c bs L):wB.heap.size<=W.heap.size:=h.bel.size
theorem St.below (h:St wB W g base cap A c bs L) (hb:Below W.heap.size W W'):St wB W' g base cap A c bs L:=
 ⟨h.bel.trans (hb.mono h.size),h.ar.below hb,h.gB,h.aB,fun p hp=>(hb.block p.1 (aae (h.has p hp))).trans (h.has p hp)⟩
theorem St.became{out:List UInt8}(h:St wB W g base cap A c bs L) (hb:Became 195 g base cap A out W W'):∃A' c',St wB W' g base cap A' c' out []:=by
 obtain⟨A',c',har,hbl,hA⟩:=hb.below (B:=wB.heap.size) h.gB h.aB h.size;exact⟨A',c',h.bel.trans hbl,har,h.gB,hA,fun p hp=>by cases hp⟩
end
def abt:List Bk->Nat × Nat × Nat
 | []=>(0,0,0)
 | x::r=>if x.used=true then ((abt r).1+1,(abt r).2.1,(abt r).2.2+(x.size-16)) else ((abt r).1,(abt r).2.1+1,(abt r).2.2)
structure St5 where
 used:Nat
 free:Nat
 bytes:Nat
 len:Nat
 cap:Nat
def St5.none:St5:=⟨0,0,0,0,0⟩
def Hp.stats (H:Hp):St5:=⟨(abt H.blks).1,(abt H.blks).2.1,(abt H.blks).2.2,lenB H.blks,H.cap⟩
structure Rp where
 code:Int
 hd:Nat
 n:Nat
 b:List UInt8
 st:St5
def Rp.err (k:Int):Rp:=⟨k,0,0,[],St5.none⟩
def Hp.heldC (H:Hp) (op:Int) (q n p:Nat) (b:List UInt8):Rp × Hp:=match H.handleB q with
 | none=>(Rp.err 4,H)
 | some i=>if op=5 then (⟨0,0,(H.ds.getD i acI).2.length,[],St5.none⟩,H)
  else if (H.ds.getD i acI).2.length<p+(if op=7 then b.length else n) then (Rp.err 2,H)
  else if op=6 then (⟨0,0,0,((H.ds.getD i acI).2.drop p).take n,St5.none⟩,H)
  else (Rp.err 0,H.dset i ((H.ds.getD i acI).1,lay (H.ds.getD i acI).2 p b))
def asN (r:(Nat × Int) × Hp):Rp × Hp:=(⟨r.1.2,r.1.1,0,[],St5.none⟩,r.2)
def Hp.doC (H:Hp) (op:Int) (q n m p:Nat) (b:List UInt8):Rp × Hp:=
 if op=1 then asN (H.get n 165)
 else if op=2 then asN (H.calloc n m)
 else if op=3 then match H.handleB q with
  | none=>(Rp.err 4,H)
  | some i=>(Rp.err 0,H.give i)
 else if op=4 then asN (H.realloc q n)
 else if op=5\/op=6\/op=7 then H.heldC op q n p b
 else if op=8 then (⟨0,0,0,[],H.stats⟩,H)
 else (Rp.err 1,H)
section
variable {H:Hp}
end
structure ImP (B g:Nat) (N:Int) (A1:Option Addr) (c1:Nat) (l:List Rk) (A2:Option Addr) (c2:Nat) (d:List (List UInt8)) (xs:List Value) (w:World):Prop where
 obj:w.heap[g]?=some (.cells #[.int .i64 N, .slice A1 l.length c1, .slice A2 d.length c2] 107 (0,0))
 rl:w.ownsRow B 112 3 (.slice A1 l.length c1) l.length (afc l)
 rd:w.ownsRow B 37 1 (.slice A2 d.length c2) d.length xs
 dt:DtO w d xs
 hB:B<=g
 hl:avC l
section
variable {B g n:Nat} {N:Int} {A1 A2:Option Addr} {c1 c2:Nat} {l:List Rk} {d:List (List UInt8)} {xs:List Value} {w w3 w4 w':World}
theorem ImP.stay (h:ImP B g N A1 c1 l A2 c2 d xs w) (hb:Below w.heap.size w w'):ImP B g N A1 c1 l A2 c2 d xs w':=
 ⟨(hb.block _ (aaa h.obj)).trans h.obj,ab7 h.rl hb (aba h.rl),ab7 h.rd hb (aba h.rd),h.dt.stay hb,h.hB,h.hl⟩
theorem ImP.lt (h:ImP B g N A1 c1 l A2 c2 d xs w):g<w.heap.size:=aaa h.obj
theorem ImP.rkrd (h:ImP B g N A1 c1 l A2 c2 d xs w):RkRd w w.heap.size A1 l:=akf h.rl h.hl
theorem ImP.off (h:ImP B g N A1 c1 l A2 c2 d xs w){k:Nat}{cs:Array Value}{fz:Nat × Nat}{t:TypeId}(hk:w.heap[k]?=some (.cells cs t fz)) (ht:t≠107):g≠k:=fun e=>by
 subst e;have h2:=h.obj;rw[hk]at h2;injection h2 with h2;injection h2 with _ h2 _;exact ht h2
theorem ImP.pushD (h:ImP B g N A1 c1 l A2 c2 d xs w3){y:List UInt8}{A:Option Addr}{k:Nat}{v:Value}(hy:y.length<=100000) (oy:w3.ownsRow 0 5 1 (.slice A y.length k) y.length (y.map bv)) (own:w4.ownsRow B 37 1 v (d.length+1) (xs++ [.slice A y.length k])) (gr:w3.grownBy w4 (Value.slice A2 d.length c2).ownBlock){B0:Nat}{w0:World}(hb:Below B0 w0 w3) (hB0:B0<=B) (hw0:B0<=w3.heap.size):
 ∃A2' c2',v= .slice A2' (d.length+1) c2'/\w4.heap[g]?=w3.heap[g]?/\ImP B g N A1 c1 l A2' c2' (d++ [y]) (xs++ [.slice A y.length k]) (w4.setCell ⟨g,2,none⟩ v)/\Below B0 w0 (w4.setCell ⟨g,2,none⟩ v):=by
 have hrow:=apC h.rd;have hg4:w4.heap[g]?=w3.heap[g]?:=gr.block g h.lt fun e=>by
  obtain⟨cs,fz,hc⟩:=hrow g e.symm;exact h.off hc (by decide) rfl
 have obj4:=hg4.trans h.obj;obtain⟨A',c,rfl,_⟩:=aeJ own;have hrl4:w4.ownsRow B 112 3 (.slice A1 l.length c1) l.length (afc l):=acO h.rl gr fun k hk hrk=>by
  obtain⟨cs,fz,hc⟩:=hrow k hrk;exact adB h.rl hk hc (by decide)
 have hlx:xs.length=d.length:=by have:=h.rd.1;omega
 have hdt4:DtO w4 (d++ [y]) (xs++ [.slice A y.length k]):=(h.dt.grown gr fun k hk=>by
  obtain⟨cs,fz,hc⟩:=hrow k hk;exact⟨cs,_,fz,by decide,hc⟩).snoc hlx hy (acO oy gr fun k hk hrk=>by
   obtain⟨cs,fz,hc⟩:=hrow k hrk;exact adB oy hk hc (by decide))
 have gs:=act w4 g 2 (.slice A' (d.length+1) c);have ge:∀k,(Value.slice A2 d.length c2).ownBlock=some k->B0<=k:=fun k hk=>Nat.le_trans hB0 (afb h.rd k hk);refine⟨A',c,rfl,hg4,⟨?_,?_,?_,?_,h.hB,h.hl⟩,?_⟩
 · rw[List.length_append,List.length_singleton];exact heap_setCell_same w4 g 2 _ _ _ obj4
 · exact acO hrl4 gs fun k hk hrk=>by injection hrk with hrk;subst hrk;exact adB hrl4 hk obj4 (by decide)
 · rw[List.length_append,List.length_singleton];exact acO own gs fun k hk hrk=>by injection hrk with hrk;subst hrk;exact adB own hk obj4 (by decide)
 · exact hdt4.grown gs fun k hrk=>by injection hrk with hrk;subst hrk;exact⟨_,_,_,by decide,obj4⟩
 · exact(hb.grown gr hw0 ge).setCell (p:=⟨g,2,none⟩) (Nat.le_trans hB0 h.hB) _
end
section
variable {B g:Nat} {N:Int} {A1 A2:Option Addr} {c1 c2:Nat} {l:List Rk} {d:List (List UInt8)} {xs:List Value} {w:World}
theorem ImP.laid (h:ImP B g N A1 c1 l A2 c2 d xs w){g0:Nat}(hg0:g0<B){x0 x1 x2:Value}(hg:w.heap[g0]?=some (.cells #[x0,x1,x2] 107 (0,0))) (y0 y1 y2:Value):
 RkRd (((w.setCell ⟨g0,0,none⟩ y0).setCell ⟨g0,1,none⟩ y1).setCell ⟨g0,2,none⟩ y2) (((w.setCell ⟨g0,0,none⟩ y0).setCell ⟨g0,1,none⟩ y1).setCell ⟨g0,2,none⟩ y2).heap.size A1 l/\DtRd (((w.setCell ⟨g0,0,none⟩ y0).setCell ⟨g0,1,none⟩ y1).setCell ⟨g0,2,none⟩ y2) (((w.setCell ⟨g0,0,none⟩ y0).setCell ⟨g0,1,none⟩ y1).setCell ⟨g0,2,none⟩ y2).heap.size A2 d:=by
 have s0:=act w g0 0 y0;have k1:=heap_setCell_same w g0 0 _ _ y0 hg;have s1:=act (w.setCell ⟨g0,0,none⟩ y0) g0 1 y1;have k2:=heap_setCell_same _ g0 1 _ _ y1 k1;have s2:=act ((w.setCell ⟨g0,0,none⟩ y0).setCell ⟨g0,1,none⟩ y1) g0 2 y2;have hr:∀{w1 w2:World} {t:TypeId} {size n:Nat} {v:Value} {ys:List Value},w1.ownsRow B t size v n ys->w1.grownBy w2 (some g0)->w2.ownsRow B t size v n ys:=fun ho hgr=>acO ho hgr fun k hk hrk=>by
  injection hrk with hrk;have:=afb ho k hk;omega
 have r1:=hr (hr (hr h.rl s0) s1) s2;have r2:=hr (hr (hr h.rd s0) s1) s2;have d1:=h.dt.grown s0 fun k hrk=>by injection hrk with hrk;subst hrk;exact⟨_,_,_,by decide,hg⟩
 have d2:=d1.grown s1 fun k hrk=>by injection hrk with hrk;subst hrk;exact⟨_,_,_,by decide,k1⟩
 have d3:=d2.grown s2 fun k hrk=>by injection hrk with hrk;subst hrk;exact⟨_,_,_,by decide,k2⟩
 exact⟨akf r1 h.hl,d3.rd r2⟩
end
def toR (x:Bk):Rk:=⟨(x.off:Int),(x.size:Int),x.used⟩
theorem apY:∀l:List Bk,acV l=afc (l.map toR)
 | []=>rfl
 | x::r=>by
  rw[List.map_cons,acV,afc,<-apY r];rfl
def ofD (bs:List UInt8):List Bk->List (List UInt8)
 | []=> []
 | x::r=>if x.used then (bs.drop (x.off+8)).take (x.size-16)::ofD bs r else ofD bs r
theorem ar0{bs:List UInt8}{l:List Bk}(h:abG bs=some l) (hl:bs.length<=16384):avC (l.map toR)/\l.length*32<=bs.length/\∀x∈l,184<=x.off/\x.off+x.size<=bs.length/\aaB (x.size:Int)=true:=by
 obtain⟨h184,ht,_⟩:=aaj h;have hm:=(aak _ _ _ ht).2;have hn:∀(l:List Bk) (o e:Nat),abA o l e->o+l.length*32<=e:=by
  intro l;induction l with
  | nil=>intro o e h;have:o=e:=h;simp;omega
  | cons x r ih=>
   intro o e ⟨_,h2,h3⟩;have:=ih _ _ h3;have:=(aab _).1 h2;rw[List.length_cons];omega
 have:=hn _ _ _ ht;refine⟨fun x hx=> ?_,by omega,fun x hx=> ?_⟩
 · obtain⟨y,hy,rfl⟩:=List.mem_map.1 hx;obtain⟨h1,h2,h3,_⟩:=hm y hy;unfold toR;dsimp only;omega
 · obtain⟨h1,h2,h3,_⟩:=hm x hx;exact⟨h1,h2,h3⟩
def auY:List Bk->List Dt->List (List UInt8)
 | x::L,d::ds=>if x.used then d.2::auY L ds else auY L ds
 | _,_=> []
section
variable {F G:Nat->Prop} {w:World} {p:Nat} {H:Hp}
end
def toB (x:Rk):Bk:=⟨x.o.toNat,x.s.toNat,x.u⟩
def agn:List UInt8->List Bk->List (List UInt8)->List UInt8
 | bs,[],_=>bs
 | bs,x::r,d=>if x.used then agn (lay (aaU bs x) (x.off+8) (d.headD [])) r d.tail else agn (aaU bs x) r d
def alF:List Bk->List (List UInt8)->Prop
 | [],d=>d= []
 | x::r,d=>if x.used then (match d with | []=>False | y::d'=>y.length+16=x.size/\alF r d') else alF r d
theorem ago{n:Int}:∀{l:List Rk}{o:Nat}{f:Bool},abh n (o:Int) f l=true->abA o (l.map toB) n.toNat/\l=(l.map toB).map toR/\(∀x∈l,0<=x.o/\32<=x.s/\x.o+x.s<=n)
 | [],o,f,h=>by
  unfold abh at h;have:(o:Int)=n:=by simpa using h
  refine⟨?_,rfl,fun x hx=>by cases hx⟩;show o=n.toNat;omega
 | x::r,o,f,h=>by
  unfold abh at h;simp only[Bool.and_eq_true,beq_iff_eq]at h;obtain⟨ho,hs,hle,_,hr⟩:=h;have hle:=of_decide_eq_true hle;have h3:=(aab _).1 hs;have hr2:abh n ((o+x.s.toNat:Nat):Int) (!x.u) r=true:=by
   rw[show((o+x.s.toNat:Nat):Int)=(o:Int)+x.s from by omega];exact hr
  obtain⟨t1,t2,t3⟩:=ago hr2;refine⟨⟨?_,?_,?_⟩,?_,?_⟩
  · show x.o.toNat=o;omega
  · show aaB ((x.s.toNat:Nat):Int)=true;rw[show((x.s.toNat:Nat):Int)=x.s from by omega];exact hs
  · exact t1
  · rw[List.map_cons,List.map_cons,<-t2];congr 1;unfold toR toB;obtain⟨xo,xs,xu⟩:=x;dsimp only at ho h3 ⊢;rw[show((xo.toNat:Nat):Int)=xo from by omega,show((xs.toNat:Nat):Int)=xs from by omega]
  · intro y hy;rcases List.mem_cons.1 hy with rfl | hy
    · omega
    · exact t3 y hy
theorem agp:∀{l:List Rk}{d:List (List UInt8)},(∀x∈l,0<=x.o/\32<=x.s)->datOk l d=true->alF (l.map toB) d
 | [],d,_,h=>by
  unfold datOk at h;rw[List.isEmpty_iff]at h;exact h
 | x::l,d,hz,h=>by
  have hx:=hz x (by simp);have hz2:∀y∈l,0<=y.o/\32<=y.s:=fun y hy=>hz y (by simp[hy]);unfold datOk at h;rw[List.map_cons];unfold alF;show if x.u then _ else _
  cases hu:x.u with
  | false=>
   rw[hu]at h;simp only[Bool.false_eq_true,if_false]at h ⊢;exact agp hz2 h
  | true=>
   rw[hu]at h;simp only[if_true]at h ⊢
   cases d with
   | nil=>cases h
   | cons y d'=>
    simp only[Bool.and_eq_true,beq_iff_eq]at h;refine⟨?_,agp hz2 h.2⟩;show y.length+16=x.s.toNat;omega
theorem amU{bs:List UInt8}{x:Bk}(h:x.off+x.size<=bs.length) (hs:32<=x.size):(aaU bs x).length=bs.length:=by
 unfold aaU;rw[aah _ _ _ (by rw[aah _ _ _ (by omega)];omega),aah _ _ _ (by omega)]
theorem amV{bs:List UInt8}{x:Bk}(h:x.off+x.size<=bs.length) (hs:32<=x.size){q:Nat}(hq:q<x.off\/x.off+x.size<=q):(aaU bs x)[q]?=bs[q]?:=by
 unfold aaU;rw[ad0 _ _ _ _ (by rw[aah _ _ _ (by omega)];omega) (by omega),ad0 _ _ _ _ (by omega) (by omega)]
theorem ag2:∀(l:List Bk) (bs:List UInt8) (o:Nat) (d:List (List UInt8)),184<=o->o%16=8->abA o l bs.length->alF l d->
 (agn bs l d).length=bs.length/\(∀q,q<o->(agn bs l d)[q]?=bs[q]?)/\(∀x∈l,aa6 (agn bs l d) (x.off:Int)=some x)/\ofD (agn bs l d) l=d
 | [],bs,o,d,_,_,_,hd=>⟨rfl,fun _ _=>rfl,fun x hx=>(by cases hx),hd.symm⟩
 | x::r,bs,o,d,ho,ho2,⟨h1,h2,h3⟩,hd=>by
  have q:=(aab _).1 h2;have hle:=(aak r _ _ h3).1;have hxo:x.off=o:=h1;have hs1:=agE [x] bs o (o+x.size) ho ho2 ⟨h1,h2,rfl⟩ (by omega);have hgx:aa6 (aaU bs x) (x.off:Int)=some x:=hs1.2.1 x (by simp);have hl1:=amU (bs:=bs) (x:=x) (by omega) (by omega);unfold alF at hd;unfold agn ofD
  cases hu:x.used with
  | false=>
   rw[hu]at hd;simp only[Bool.false_eq_true,if_false]at hd ⊢;obtain⟨r1,r2,r3,r4⟩:=ag2 r (aaU bs x) (o+x.size) d (by omega) (by omega) (by rw[hl1];exact h3) hd;refine⟨by rw[r1,hl1],fun p hp=>by rw[r2 p (by omega),amV (by omega) (by omega) (.inl (by omega))],fun y hy=> ?_,r4⟩;rcases List.mem_cons.1 hy with rfl | hy
   · refine abW (aaU bs y) _ y r1 hgx (aaL _ _ _ fun i _ hi=>r2 i (by omega)) (aaL _ _ _ fun i _ hi=>r2 i (by omega))
   · exact r3 y hy
  | true=>
   rw[hu]at hd;simp only[if_true]at hd ⊢
   cases d with
   | nil=>exact hd.elim
   | cons y d'=>
    obtain⟨hyl,hd'⟩:=hd;simp only[List.headD_cons,List.tail_cons];have hag:=aed (bs:=aaU bs x) (x:=x) (x.off+8) y (Nat.le_refl _) (by omega) (by rw[hl1];omega);have hl2:(lay (aaU bs x) (x.off+8) y).length=bs.length:=by rw[hag.1,hl1]
    obtain⟨r1,r2,r3,r4⟩:=ag2 r (lay (aaU bs x) (x.off+8) y) (o+x.size) d' (by omega) (by omega) (by rw[hl2];exact h3) hd';have hgx2:aa6 (lay (aaU bs x) (x.off+8) y) (x.off:Int)=some x:=abW (aaU bs x) _ x hag.1 hgx (aaL _ _ _ fun i _ hi=>hag.2 i (.inl (by omega))) (aaL _ _ _ fun i h1 _=>hag.2 i (.inr (by omega)));refine⟨by rw[r1,hl2],fun p hp=>by rw[r2 p (by omega),hag.2 p (.inl (by omega)),amV (by omega) (by omega) (.inl (by omega))],fun z hz=> ?_,?_⟩
    · rcases List.mem_cons.1 hz with rfl | hz
      · exact abW _ _ z r1 hgx2 (aaL _ _ _ fun i _ hi=>r2 i (by omega)) (aaL _ _ _ fun i _ hi=>r2 i (by omega))
      · exact r3 z hz
    · rw[r4];congr 1;apply List.ext_getElem?;intro i;rw[List.getElem?_take,List.getElem?_drop];by_cases hi:i<x.size-16
      · rw[if_pos hi,r2 _ (by omega),aie _ _ _ (by rw[hl1];omega) i (by omega)]
      · rw[if_neg hi,List.getElem?_eq_none (by omega)]
theorem apZ{n:Int}:∀{l:List Rk}{o:Int}{f:Bool},abh n o f l=true->(∀j x y,l[j]?=some x->l[j+1]?=some y->x.u=true\/y.u=true)/\(f=true->∀x,l[0]?=some x->x.u=true)
 | [],o,f,h=>⟨fun j x y hx=>by simp at hx,fun _ x hx=>by simp at hx⟩
 | z::r,o,f,h=>by
  unfold abh at h;simp only[Bool.and_eq_true]at h;obtain⟨_,_,_,hf,hr⟩:=h;obtain⟨i1,i2⟩:=apZ hr;refine⟨fun j x y hx hy=> ?_,fun hft x hx=> ?_⟩
  · cases j with
    | zero=>
     simp at hx;subst hx
     cases hu:z.u with
     | true=>exact .inl rfl
     | false=>exact .inr (i2 (by rw[hu];rfl) y (by simpa using hy))
    | succ j=>exact i1 j x y (by simpa using hx) (by simpa using hy)
  · simp at hx;subst hx;rw[hft]at hf
    cases hu:z.u with
    | true=>rfl
    | false=>rw[hu]at hf;cases hf
theorem ap0{n:Int}{l:List Rk}{o:Int}{f:Bool}(h:abh n o f l=true):aex (l.map toB)=true:=by
 obtain⟨h1,_⟩:=apZ h;unfold aex;rw[List.all_eq_true];intro i hi;have hi:=List.mem_range.1 hi;rw[List.length_map]at hi;unfold adQ adP
 cases i with
 | zero=>rfl
 | succ i=>
  have e1:(l.map toB)[i+1]?=some (toB l[i+1]):=by rw[List.getElem?_map,List.getElem?_eq_getElem hi];rfl
  have e2:(l.map toB)[i]?=some (toB (l[i]'(by omega))):=by rw[List.getElem?_map,List.getElem?_eq_getElem (show i<l.length by omega)];rfl
  have e3:i+1-1=i:=by omega
  rw[e3];rcases h1 i _ _ (List.getElem?_eq_getElem (show i<l.length by omega)) (List.getElem?_eq_getElem hi)with hu | hu
  · simp[e1,e2,toB,hu]
  · simp[e1,e2,toB,hu]
theorem akq{bs bs':List UInt8}:∀{l:List Bk},(∀x∈l,x.used=true->∀i,x.off+8<=i->i<x.off+8+(x.size-16)->bs'[i]?=bs[i]?)->ofD bs' l=ofD bs l
 | [],_=>rfl
 | x::l,h=>by
  have ih:=akq (l:=l) fun y hy=>h y (by simp[hy]);unfold ofD;rw[ih]
  cases hu:x.used with
  | false=>rfl
  | true=>
   simp only[if_true];congr 1;apply List.ext_getElem?;intro i;rw[List.getElem?_take,List.getElem?_take,List.getElem?_drop,List.getElem?_drop];by_cases hi:i<x.size-16
   · rw[if_pos hi,if_pos hi,h x (by simp) hu _ (by omega) (by omega)]
   · rw[if_neg hi,if_neg hi]
theorem afV{bs out:List UInt8}{l:List Bk}(h:abG bs=some l) (hm:bs.length<=16384) (ho:abz bs=some out):∀i,184<=i->(∀y∈l,y.used=false->i<y.off+8\/y.off+24<=i)->out[i]?=bs[i]?:=by
 obtain⟨h184,ht,hg⟩:=aaj h;have hmem:=(aak l _ _ ht).2;have el:(List.replicate 184 (0:UInt8)++bs.drop 184).length=bs.length:=by rw[List.length_append,List.length_replicate,List.length_drop];omega
 have hst:Stands (List.replicate 184 (0:UInt8)++bs.drop 184) l:=by
  refine⟨fun x hx=> ?_,aaG l _ _ ht⟩;obtain⟨a,b,c,_⟩:=hmem x hx;have q:=(aab _).1 c;refine abW bs _ x el (hg x hx) ?_ ?_
  · exact aaL _ _ _ fun i h1 _=>aeX bs 184 i (by omega)
  · exact aaL _ _ _ fun i h1 _=>aeX bs 184 i (by omega)
 have hL:=aft (by rw[el];exact h184) (by rw[el];exact hm) hst (fun p hp _=>adv _ _ _ hp);have e0:(fun _=> [])=aa2 []:=by funext c;rfl
 rw[e0]at hL;obtain⟨_,_,hk⟩:=aeW l [] _ (fun x hx=>hx) (by simpa using aeD l _ _ ht) hL;unfold abz at ho;rw[h]at ho;injection ho with ho;dsimp only at ho;rw[ho]at hk;intro i h1 h2;rw[hk i h1 h2];exact aeX bs 184 i h1
theorem afF{N:Nat}{l:List Rk}{d:List (List UInt8)}(h:adR (N:Int) l d=true):
 ∃out,abG (agn (List.replicate N 0) (l.map toB) d)=some (l.map toB)/\(agn (List.replicate N 0) (l.map toB) d).length=N/\abz (agn (List.replicate N 0) (l.map toB) d)=some out/\abY out=true/\abG out=some (l.map toB)/\out.length=N/\ofD out (l.map toB)=d:=by
 unfold adR at h;simp only[Bool.and_eq_true]at h;obtain⟨hlo,hr,hdo⟩:=h;have hN:=(aaT _).1 hlo;obtain⟨ht,_,hz⟩:=ago (o:=184) hr;rw[Int.toNat_natCast]at ht;have hd:=agp (fun x hx=>⟨(hz x hx).1,(hz x hx).2.1⟩) hdo;have hl0:(List.replicate N (0:UInt8)).length=N:=List.length_replicate;obtain⟨r1,_,r3,r4⟩:=ag2 (l.map toB) (List.replicate N 0) 184 d (Nat.le_refl _) (by omega) (by rw[hl0];exact ht) hd;rw[hl0]at r1;obtain⟨mid,hmid⟩:=nmE (agn (List.replicate N 0) (l.map toB) d);rw[hmid]at r1 r3 r4 ⊢;have hw:abG mid=some (l.map toB):=adb (by rw[r1];exact ht) r3;obtain⟨out,e,_,h2,h3,_,h5⟩:=ad1 hw (by omega);refine⟨out,hw,r1,e,by rw[h5];exact ap0 hr,h3,h2.trans r1,?_⟩;rw[<-r4];refine akq fun x hx hu i i1 i2=>afV hw (by omega) e i ?_ fun y hy hyu=> ?_
 · have:=((aak _ _ _ ht).2 x hx).1;omega
 · have hxs:=(aab _).1 ((aak _ _ _ ht).2 x hx).2.2.1;have hys:=(aab _).1 ((aak _ _ _ ht).2 y hy).2.2.1;rcases aaG _ _ _ ht x hx y hy with e | e | e
   · rw[e,hyu]at hu;cases hu
   · omega
   · omega
theorem asO{w:World}{g:Nat}{t:TypeId}{y0 y1 y2 y3 y4 y5:Value}(h:w.heap[g]?=some (.cells #[y0,y1,y2,y3,y4,y5] t (0,0))):(w.cell? ⟨g,0,none⟩=some y0/\w.cell? ⟨g,1,none⟩=some y1/\w.cell? ⟨g,2,none⟩=some y2/\w.cell? ⟨g,3,none⟩=some y3/\w.cell? ⟨g,4,none⟩=some y4/\w.cell? ⟨g,5,none⟩=some y5)/\(w.frozen? ⟨g,0,none⟩=false/\w.frozen? ⟨g,1,none⟩=false/\w.frozen? ⟨g,2,none⟩=false/\w.frozen? ⟨g,3,none⟩=false/\w.frozen? ⟨g,4,none⟩=false/\w.frozen? ⟨g,5,none⟩=false)/\g<w.heap.size:=
 ⟨⟨by rw[cell_of_row w g 0 _ _ (0,0) h];rfl,by rw[cell_of_row w g 1 _ _ (0,0) h];rfl,by rw[cell_of_row w g 2 _ _ (0,0) h];rfl,by rw[cell_of_row w g 3 _ _ (0,0) h];rfl,by rw[cell_of_row w g 4 _ _ (0,0) h];rfl,by rw[cell_of_row w g 5 _ _ (0,0) h];rfl⟩,⟨frozen_of_row w g 0 _ _ h,frozen_of_row w g 1 _ _ h,frozen_of_row w g 2 _ _ h,frozen_of_row w g 3 _ _ h,frozen_of_row w g 4 _ _ h,frozen_of_row w g 5 _ _ h⟩,aaa h⟩
theorem auZ (w:World) (t:TypeId) (y0 y1 y2 y3 y4 y5:Value):∃w',Hid (w.alloc (.cells #[y0,y1,y2,y3,y4,y5] t)=w')/\Hid (w'.heap[w.heap.size]?=some (.cells #[y0,y1,y2,y3,y4,y5] t (0,0)))/\Hid (Below w.heap.size w w'):=
 ⟨_,hE0 rfl,hE0 (heap_alloc_new w _),hE0 ((Below.refl _ _).alloc (Nat.le_refl _) _)⟩
theorem aeB{w:World}{g:Nat}{t:TypeId}{y0 y1 y2 y3 y4 y5 y6 y7 y8:Value}(h:w.heap[g]?=some (.cells #[y0,y1,y2,y3,y4,y5,y6,y7,y8] t (0,0))):(w.cell? ⟨g,0,none⟩=some y0/\w.cell? ⟨g,1,none⟩=some y1/\w.cell? ⟨g,2,none⟩=some y2/\w.cell? ⟨g,3,none⟩=some y3/\w.cell? ⟨g,4,none⟩=some y4/\w.cell? ⟨g,5,none⟩=some y5/\w.cell? ⟨g,6,none⟩=some y6/\w.cell? ⟨g,7,none⟩=some y7/\w.cell? ⟨g,8,none⟩=some y8)/\(w.frozen? ⟨g,0,none⟩=false/\w.frozen? ⟨g,1,none⟩=false/\w.frozen? ⟨g,2,none⟩=false/\w.frozen? ⟨g,3,none⟩=false/\w.frozen? ⟨g,4,none⟩=false/\w.frozen? ⟨g,5,none⟩=false/\w.frozen? ⟨g,6,none⟩=false/\w.frozen? ⟨g,7,none⟩=false/\w.frozen? ⟨g,8,none⟩=false)/\g<w.heap.size:=
 ⟨⟨by rw[cell_of_row w g 0 _ _ (0,0) h];rfl,by rw[cell_of_row w g 1 _ _ (0,0) h];rfl,by rw[cell_of_row w g 2 _ _ (0,0) h];rfl,by rw[cell_of_row w g 3 _ _ (0,0) h];rfl,by rw[cell_of_row w g 4 _ _ (0,0) h];rfl,by rw[cell_of_row w g 5 _ _ (0,0) h];rfl,by rw[cell_of_row w g 6 _ _ (0,0) h];rfl,by rw[cell_of_row w g 7 _ _ (0,0) h];rfl,by rw[cell_of_row w g 8 _ _ (0,0) h];rfl⟩,⟨frozen_of_row w g 0 _ _ h,frozen_of_row w g 1 _ _ h,frozen_of_row w g 2 _ _ h,frozen_of_row w g 3 _ _ h,frozen_of_row w g 4 _ _ h,frozen_of_row w g 5 _ _ h,frozen_of_row w g 6 _ _ h,frozen_of_row w g 7 _ _ h,frozen_of_row w g 8 _ _ h⟩,aaa h⟩
theorem ag3 (w:World) (t:TypeId) (y0 y1 y2 y3 y4 y5 y6 y7 y8:Value):∃w',Hid (w.alloc (.cells #[y0,y1,y2,y3,y4,y5,y6,y7,y8] t)=w')/\Hid (w'.heap[w.heap.size]?=some (.cells #[y0,y1,y2,y3,y4,y5,y6,y7,y8] t (0,0)))/\Hid (Below w.heap.size w w'):=
 ⟨_,hE0 rfl,hE0 (heap_alloc_new w _),hE0 ((Below.refl _ _).alloc (Nat.le_refl _) _)⟩
end Go.Proofs.YtncadccbepjekaaGreatDoor
