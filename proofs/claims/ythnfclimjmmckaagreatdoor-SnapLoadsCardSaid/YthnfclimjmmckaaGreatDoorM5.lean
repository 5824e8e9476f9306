/- Texts of mine, joined. -/
import Derived.Laws.OwnMore
import Derived.Test.YthnfclimjmmckaaGreatDoorM4
set_option maxRecDepth 100000
set_option maxHeartbeats 2000000
namespace Go.Proofs.YthnfclimjmmckaaGreatDoor
open Go.RowKit
def wk (K:Nat) (left:Int) (off:Bool):Nat:=if off=true then 0 else if left<0 then K else min K left.toNat
def aa9 (left:Int) (j:Nat):Int:=if left<0 then left else left-j
def afx (p:Nat) (b:List UInt8) (j:Nat):List (Nat × List UInt8):=(List.range j).map fun i=>(p+i,afk b i)
theorem agz (p:Nat) (b:List UInt8) (j:Nat):afx p b (j+1)=afx p b j++ [(p+j,afk b j)]:=by simp[afx,List.range_succ]
theorem an3 (b:List UInt8) (i:Nat):afk (b.drop (i*512)) 0=afk b i:=by simp[afk]
theorem aeH (p:Nat) (b:List UInt8) (j:Nat):(afx p b j).length=j:=by simp[afx]
theorem afy (left:Int):aa9 left 0=left:=by unfold aa9;split<;>omega
theorem ahw (left:Int) (j:Nat) (h:(j:Int)<=left\/left<0):aa9 (aa9 left j) 1=aa9 left (j+1):=by
 unfold aa9;by_cases h0:left<0
 · simp[h0]
 · have:¬(left-(j:Int)<0):=by omega
   simp[h0,this];omega
section
variable {S:Nat->Prop} {w:World} {g h c:Nat} {W:Option Addr} {cw:Nat} {bs:List UInt8} {ws:List Wr} {left:Int} {off:Bool}
theorem ako (k:Dk S w g h c W cw bs ws left false) (hl:bs.length<=100000) (hws:ws.length<=1000000) (hl0:left≠0) (hl2:left<=9223372036854775807) (i:Nat) (hi:i*512+512<=bs.length) (A:Option Addr) (cA:Nat) (d:List UInt8) (hd:d.length=512) (hr:Rd w w.heap.size A 512 d) (hAg:∀a,A=some a->a.block≠g):
 Calls Tryz.prog 221 #[.pointer (some ⟨g,0,none⟩), .int .i64 (i:Int), .slice A 512 cA] w fun e w'=>e= .returned .nilIface/\(∃W' cw' b cb,Dk (abj S w w') w' g h c W' cw' bs (ws++ [⟨i,b,cb,d⟩]) (aa9 left 1) false)/\Tch S w w':=by
 by_cases h0:left<0
 · have e:aa9 left 1=left:=by simp[aa9,h0]
   rw[e];exact amg k hl hws h0 i hi A cA d hd hr
 · have e:aa9 left 1=left-1:=by simp[aa9,h0]
   rw[e];exact amh k hl hws (by omega) hl2 i hi A cA d hd hr hAg
theorem aml (k:Dk S w g h c W cw bs ws left off) (hl:bs.length<=100000) (hbad:off=true\/left=0) (i:Nat) (hi:i*512+512<=bs.length) (A:Option Addr) (cA:Nat):
 Calls Tryz.prog 221 #[.pointer (some ⟨g,0,none⟩), .int .i64 (i:Int), .slice A 512 cA] w fun e w'=>e= .returned (.iface 90 (.int .i64 6))/\Dk S w' g h c W cw bs ws left true/\Tch S w w':=by
 by_cases h0:left=0
 · subst h0;exact amj k hl i hi A cA
 · obtain rfl:off=true:=by rcases hbad with h | h;exact h;exact absurd h h0
   refine(ami k hl h0 i hi A cA).mono ?_;rintro e w' ⟨rfl,rfl⟩;exact⟨rfl,k,Tch.refl _ _⟩
theorem Dk.regrow{S:Nat->Prop}{w w1 w2:World}(k:Dk (abj (abj S w w1) w1 w2) w2 g h c W cw bs ws left off) (h1:w.heap.size<=w1.heap.size) (h2:w1.heap.size<=w2.heap.size):Dk (abj S w w2) w2 g h c W cw bs ws left off:=k.more fun j hj=>by
 rcases(k.foot hj).1 with(h | h) | h
 · exact .inl h
 · exact .inr ⟨h.1,by omega⟩
 · exact .inr ⟨by omega,h.2⟩
theorem Tch.regrow{S:Nat->Prop}{w w1 w2:World}(h:Tch S w w1) (h2:Tch (abj S w w1) w1 w2):Tch S w w2:=h.trans h2 fun i hi hg=>by
 rcases hg with h | h
 · exact h
 · omega
theorem amm (k:Dk S w g h c W cw bs ws left off) (N:Nat) (hN:bs.length=512*N) (hN2:N<=128) (hws:ws.length<=100000) (hl2:left<=9223372036854775807) (p:Nat) (A:Option Addr) (cA:Nat) (b:List UInt8) (hr:Rd w w.heap.size A b.length b) (hA:b.length<=cA) (hAm:cA<=9223372036854775807) (hAS:0<b.length->∀a,A=some a->¬S a.block) (K:Nat) (hK:need b.length=K) (hfit:p+K<=N) (m:Nat) (hm:wk K left off=m):
 Calls Tryz.prog 175 #[.pointer (some ⟨g,0,none⟩), .int .i64 (p:Int), .slice A b.length cA] w fun e w'=>e= .returned (if m<K then .iface 90 (.int .i64 6) else .nilIface)/\(∃W' cw' vs,Dk (abj S w w') w' g h c W' cw' bs vs (aa9 left m) (off || decide (m<K))/\vs.map Wr.two=ws.map Wr.two++afx p b m)/\Tch S w w':=by
 have hmK:m<=K:=by rw[<-hm];unfold wk;split;omega;split;omega;omega
 have hbl:b.length<=65536:=by unfold need at hK;omega
 have hon:off=true->m=0:=fun e=>by rw[<-hm];unfold wk;simp[e]
 have hml:off=false->(m:Int)<=left\/left<0:=fun e=>by
  rw[<-hm];unfold wk;by_cases h0:left<0
  · exact .inr h0
  · left;simp[e,h0];omega
 have hmlt:off=false->m<K->left=(m:Int):=fun e h=>by
  rw[<-hm]at h ⊢;unfold wk at h ⊢;by_cases h0:left<0
  · simp[e,h0]at h
  · simp[e,h0]at h ⊢;omega
 have HF:=hE0 (ajl k N hN hN2 p b.length (by rw[hK];exact hfit));have HE:=hE0 (aec w b.length (by omega) K hK);have k0:Dk (abj S w w) w g h c W cw bs ws (aa9 left 0) off:=by rw[afy];exact k.more fun j hj=> .inl (k.foot hj).1
 have HK:=hE0 hK;have HNN:=hE0 hN;have HR:=hE0 hr;clear hK hN hr hm k;go_enter Tryz.func175,Tryz.ntmps175
 go_wp2_with fail
 with_reducible refine HF.out.mono ?_
 rintro e w1 ⟨rfl,rfl⟩;go_wp2_with fail
 with_reducible refine HE.out.mono ?_
 rintro e w1 ⟨rfl,rfl⟩;clear HF HE;go_wp2
 go_loopw [19] (fun i wr=>∃j:Nat,j<=m/\i= .int .i64 j/\(∃W' cw' vs,Dk (abj S w wr) wr g h c W' cw' bs vs (aa9 left j) off/\vs.map Wr.two=ws.map Wr.two++afx p b j)/\Tch S w wr) (fun i _=>K-(intOf i).toNat)
 case atStart=>exact⟨0,Nat.zero_le _,rfl,⟨W,cw,ws,k0,by simp[afx]⟩,Tch.refl _ _⟩
 case round=>
  obtain⟨j,hj,rfl,⟨W',cw',vs,kr,hvs⟩,ht⟩:=hrel;have hvl:vs.length=ws.length+j:=by have:=congrArg List.length hvs;simpa[aeH]using this
  by_cases hlt:j<K
  · have hjb:j*512<b.length:=by have:=HK.out;unfold need at this;omega
    have rr:=HR.out.tch ht (hAS (by omega));obtain⟨bA,oA,rfl,hbA,_⟩:=rr.2 (by omega);obtain⟨cs,hcs⟩:=nmE (b.drop (j*512));have hcl:cs.length=b.length-j*512:=by rw[<-hcs];simp
    have rs:=rr.sub (j*512) (b.length-j*512) (by omega);rw[List.take_of_length_le (by simp),hcs,<-hcl]at rs;have HP:=akn wr ⟨bA,oA+j*512,none⟩ (cA-j*512) cs rs (by omega) (by omega);rw[hcl,<-hcs,an3]at HP;have HP:=hE0 HP;have HKR:=hE0 kr;have HVS:=hE0 hvs;have HT:=hE0 ht;have hne:¬cA=j*512:=by omega
    clear rr rs hcs kr hvs ht k0;go_wp2_with fail
    with_reducible refine HP.out.mono ?_
    rintro e w2 ⟨rfl,hf,hb⟩;have rf:=hf.reads;rw[ac1]at rf;have k2:=HKR.out.below hb;by_cases hjm:j<m
    · have hof:off=false:=by
       cases off
       · rfl
       · have:=hon rfl;omega
      subst hof;have hml':=hml rfl;have hl0:aa9 left j≠0:=by unfold aa9;split<;>omega
      have hl3:aa9 left j<=9223372036854775807:=by unfold aa9;split<;>omega
      have HW:=ako k2 (by have:=HNN.out;omega) (by omega) hl0 hl3 (p+j) (by have:=HNN.out;omega) (some ⟨wr.heap.size,0,none⟩) 512 (afk b j) (ac1 b j) rf (fun a e=>by
       injection e with e;subst e;have:=HKR.out.lt;dsimp only;omega)
      rw[ahw left j (by omega),Int.natCast_add]at HW;have HW:=hE0 HW;have HSZ:=hE0 hb.size;have T2:Hid (Tch (abj S w wr) wr w2):=Tch.of_below hb;have HSR:=hE0 HT.out.size;clear hf hb rf k2 hl0 hl3 hne hcl;go_wp2_with fail
      with_reducible refine HW.out.mono ?_
      rintro e w3 ⟨rfl,⟨W3,cw3,b3,cb3,k3⟩,t3⟩;have t23:=T2.out.trans t3 (fun i _ h=>h);have t03:=HT.out.regrow t23;have k3':Dk (abj S w w3) w3 g h c W3 cw3 bs (vs++ [⟨p+j,b3,cb3,afk b j⟩]) (aa9 left (j+1)) false:=k3.more fun i hi=>by
       have h1:=HSR.out;have h2:=HSZ.out;have h3:=t3.size;rcases(k3.foot hi).1 with(h | h) | h
       · exact .inl h
       · exact .inr ⟨h.1,by omega⟩
       · exact .inr ⟨by omega,h.2⟩
      have e3:(vs++ [(⟨p+j,b3,cb3,afk b j⟩:Wr)]).map Wr.two=ws.map Wr.two++afx p b (j+1):=by rw[List.map_append,HVS.out,agz,List.append_assoc];rfl
      have K3:=hE0 k3';have E3:=hE0 e3;have T3:=hE0 t03;clear k3 t3 t23 t03 k3' e3 HW T2;go_wp2
      go_roundw
      case rel=>exact⟨j+1,by omega,by go_num,⟨W3,cw3,_,K3.out,E3.out⟩,T3.out⟩
      case measure=>simp[intOf];omega
    · obtain rfl:j=m:=by omega
      have hbad:off=true\/aa9 left j=0:=by
       cases off
       · right;have:=hmlt rfl hlt;unfold aa9;split<;>omega
       · exact .inl rfl
      have HW:=aml k2 (by have:=HNN.out;omega) hbad (p+j) (by have:=HNN.out;omega) (some ⟨wr.heap.size,0,none⟩) 512;rw[Int.natCast_add]at HW;have HW:=hE0 HW;have HSZ:=hE0 hb.size;have T2:Hid (Tch (abj S w wr) wr w2):=Tch.of_below hb;clear hf hb rf k2 hne hcl;go_wp2_with fail
      with_reducible refine HW.out.mono ?_
      rintro e w3 ⟨rfl,k3,t3⟩;have t03:=HT.out.regrow (T2.out.trans t3 (fun i _ h=>h));have k3':Dk (abj S w w3) w3 g h c W' cw' bs vs (aa9 left j) true:=by
       exact k3.more fun i hi=>by
        have h2:=HSZ.out;have h3:=t3.size;rcases(k3.foot hi).1 with h | h
        · exact .inl h
        · exact .inr ⟨h.1,by omega⟩
      have K3:=hE0 k3';have T3:=hE0 t03;clear k3 t3 t03 k3' HW T2;go_wp2
      go_ret
      exact⟨rfl,⟨W',cw',_,K3.out,HVS.out⟩,T3.out⟩
  · obtain rfl:j=K:=by omega
    obtain rfl:m=j:=by omega
    have K3:=hE0 kr;have T3:=hE0 ht;have HVS:=hE0 hvs;clear kr ht hvs k0;go_wp2
    go_ret
    exact⟨rfl,⟨W',cw',_,K3.out,HVS.out⟩,T3.out⟩
end
def ac2 (bs:List UInt8) (l:List (Nat × List UInt8)) (p j:Nat):List UInt8:=((List.range j).map fun i=>aa7 bs l (p+i)).flatten
theorem acM (bs:List UInt8) (l:List (Nat × List UInt8)) (p j:Nat):ac2 bs l p (j+1)=ac2 bs l p j++aa7 bs l (p+j):=by simp[ac2,List.range_succ]
theorem acv (bs:List UInt8) (l:List (Nat × List UInt8)) (i:Nat) (hf:am4 bs.length l) (hi:i*512+512<=bs.length):(aa7 bs l i).length=512:=by
 unfold aa7;split
 · rename_i x h;exact(hf x (List.mem_reverse.1 (List.mem_of_find?_eq_some h))).2
 · rw[List.length_take,List.length_drop];omega
theorem aed (bs:List UInt8) (l:List (Nat × List UInt8)) (p:Nat) (hf:am4 bs.length l) (j:Nat) (h:(p+j)*512<=bs.length):(ac2 bs l p j).length=512*j:=by
 induction j with
 | zero=>simp[ac2]
 | succ j ih=>
  have h1:=ih (by omega);have h2:=acv bs l (p+j) hf (by omega);rw[acM,List.length_append,h1,h2];omega
theorem apP (J x:List UInt8) (m:Nat) (hx:x.length=512):lay (J++List.replicate m 0) J.length (x.take m)=J++(x++List.replicate (m-512) 0).take m:=by
 unfold lay;rw[List.take_left];congr 1;have e:m-min m x.length=min (m-x.length) (m-512):=by omega
 rw[List.drop_append,List.drop_of_length_le (by omega),List.nil_append,Nat.add_sub_cancel_left,List.length_take,List.drop_replicate,List.take_append,List.take_replicate,e]
def aee (bs:List UInt8) (l:List (Nat × List UInt8)) (p n j:Nat):List UInt8:=(ac2 bs l p j++List.replicate (n-512*j) 0).take n
theorem akp (bs:List UInt8) (l:List (Nat × List UInt8)) (p n j:Nat) (hf:am4 bs.length l) (hj:512*j<n) (hi:(p+j)*512+512<=bs.length):
 lay (aee bs l p n j) (j*512) ((aa7 bs l (p+j)).take (n-j*512))=aee bs l p n (j+1):=by
 have hl:=aed bs l p hf j (by omega);have hx:=acv bs l (p+j) hf hi;have e:j*512=(ac2 bs l p j).length:=by omega
 unfold aee;rw[List.take_of_length_le (by simp;omega),acM,List.append_assoc,List.take_append,List.take_of_length_le (by omega:(ac2 bs l p j).length<=n),hl,show n-j*512=n-512*j by omega,e,apP _ _ _ hx];congr 4
theorem aij (bs:List UInt8) (l:List (Nat × List UInt8)) (p n j:Nat) (hf:am4 bs.length l) (hi:(p+j)*512<=bs.length):(aee bs l p n j).length=n:=by
 have hl:=aed bs l p hf j hi;simp[aee,hl];omega
theorem Fill.own{w:World}{g:Nat}{bs:List UInt8}{base:Nat}(h:Fill w g 5 bs) (hB:base<=g) (hm:bs.length<=1000000):w.ownsRow base 5 1 (.slice (some ⟨g,0,none⟩) bs.length bs.length) bs.length (bs.map bv):=by
 refine⟨by simp, .inr ⟨g,bs.length,rowB bs,rfl,hB,h,Nat.le_refl _,by unfold maxLen;omega,by rw[adW];simp,?_⟩⟩;rw[Nat.mul_one];simp only[rowB];rw[List.take_of_length_le (by simp)]
section
variable {S:Nat->Prop} {w:World} {g h c:Nat} {W:Option Addr} {cw:Nat} {bs:List UInt8} {ws:List Wr} {left:Int} {off:Bool}
theorem an4 (k:Dk S w g h c W cw bs ws left off) (N:Nat) (hN:bs.length=512*N) (hN2:N<=128) (p n K:Nat) (hK:need n=K) (hfit:p+K<=N) (ho:off=true->n=0) (out:List UInt8) (hout:(ac2 bs (ws.map Wr.two) p K).take n=out):
 Calls Tryz.prog 166 #[.pointer (some ⟨g,0,none⟩), .int .i64 (p:Int), .int .i64 (n:Int)] w fun e w'=>aqW out w e w':=by
 have hbl:n<=65536:=by unfold need at hK;omega
 have HF:=hE0 (ajl k N hN hN2 p n (by rw[hK];exact hfit));have HE:=hE0 (fun w=>aec w n (by omega) K hK);have hfs:=k.fits;obtain⟨z,hz⟩:=nmE (List.replicate n (0:UInt8));have hmk:∀W:World,(Instr.makeSlice 37 (.int .i64 (n:Int)) (.int .i64 (n:Int))).run Tryz.prog W= .ok (.slice (some ⟨W.heap.size,0,none⟩) n n) (W.alloc (.cells (rowB z) 5)):=fun W=>by
  have:=run_make_row' (P:=Tryz.prog) 37 5 (.int .u8 0) 1 Tryz.underlying37 aca rfl .i64 .i64 n (by omega) (by omega) W;rw[abI,hz]at this;exact this
 obtain⟨w0,hw0⟩:=nmE (w.alloc (.cells (rowB z) 5));have hf:Fill w0 w.heap.size 5 z:=by rw[<-hw0];exact Fill.made w 5 _
 have hbl0:=abE hw0;have e0:z=aee bs (ws.map Wr.two) p n 0:=by simp[aee,ac2,<-hz]
 have hend:aee bs (ws.map Wr.two) p n K=out:=by
  have:n-512*K=0:=by unfold need at hK;omega
  rw[<-hout];simp[aee,this]
 have hlen:=fun j hj=>aij bs (ws.map Wr.two) p n j hfs hj;rw[e0]at hf;have HF0:=hE0 hf;have HB0:=hE0 hbl0;have HW0:=hE0 hw0;have HKK:=hE0 k;have HNN:=hE0 hN;have HK:=hE0 hK;have HFS:=hE0 hfs;have HEND:=hE0 hend;have HLEN:=hE0 hlen;obtain⟨gb,hgb⟩:=nmE w.heap.size;have HGB:=hE0 hgb;clear hz hw0 hf hbl0 e0 k hN hK hout hfs hend hlen;go_enter Tryz.func166,Tryz.ntmps166
 go_wp2_with fail
 with_reducible refine HF.out.mono ?_
 rintro e w1 ⟨rfl,rfl⟩;clear HF;go_wp2_with fail
 rw[HW0.out]
 with_reducible refine(HE.out w0).mono ?_
 rintro e w1 ⟨rfl,rfl⟩;clear HE hmk HW0;clear hgb;go_wp2
 go_loopw [26] (fun i wr=>∃j:Nat,j<=K/\i= .int .i64 j/\Fill wr gb 5 (aee bs (ws.map Wr.two) p n j)/\Below gb w wr) (fun i _=>K-(intOf i).toNat)
 case atStart=>exact⟨0,Nat.zero_le _,rfl,by rw[<-HGB.out];exact HF0.out,by rw[<-HGB.out];exact HB0.out⟩
 case round=>
  obtain⟨j,hj,rfl,hf,hb⟩:=hrel;by_cases hlt:j<K
  · have hjn:512*j<n:=by have:=HK.out;unfold need at this;omega
    have hNb:=HNN.out;have hof:off=false:=by
     cases off
     · rfl
     · have:=ho rfl;omega
    subst hof;obtain⟨P,hP⟩:=nmE (aee bs (ws.map Wr.two) p n j);have hPl:P.length=n:=by rw[<-hP];exact HLEN.out j (by omega)
    have hst:=akp bs (ws.map Wr.two) p n j HFS.out hjn (by omega);have hxl:=acv bs (ws.map Wr.two) (p+j) HFS.out (by omega);have hrd:=alo (HKK.out.below (HGB.out▸hb)) (by omega) (p+j) (by omega);obtain⟨x,hx⟩:=nmE (aa7 bs (ws.map Wr.two) (p+j));rw[hP,hx]at hst;rw[hP]at hf;rw[hx]at hxl hrd;rw[Int.natCast_add]at hrd;have HRD:=hE0 hrd;have HST:=hE0 hst;have HFI:=hE0 hf;have HB:=hE0 hb;have hne:¬n=j*512:=by omega
    have HXL:=hE0 hxl;have HPL:=hE0 hPl;clear hrd hst hf hb hx hP hNb hxl hPl;go_wp2_with fail
    with_reducible refine HRD.out.mono ?_
    rintro e w2 ⟨A',c',rfl,hown,hb2⟩;rw[HXL.out]at hown ⊢;obtain⟨hr2,_⟩:=(⟨(acR hown),trivial⟩:_/\True);obtain⟨A2,c2,e2,_,hr2⟩:=hr2;injection e2 with e2 _ e3;subst e2 e3;obtain⟨b2,o2,rfl,_,_⟩:=hr2.2 (by omega);have hlt2:=HFI.out.lt;have hf2:=HFI.out.below hb2 hlt2;have hov:=hf2.over ((HB.out.trans (hb2.mono (by omega)))) (Nat.le_refl _) (j*512) (x.take (n-j*512));rw[HST.out]at hov;have HOV:=hE0 hov;have HN2:Hid (((x.take (n-j*512)).map bv).length=Nat.min 512 (n-j*512)):=(show _=_ by rw[List.length_map,List.length_take,HXL.out];exact Nat.min_comm _ _);have HSRC:Hid (∀i v,((x.take (n-j*512)).map bv)[i]?=some v->w2.cell? ((⟨b2,o2,none⟩:Addr).add i)=some v):=fun i v hi=>acJ hr2 i v (by
     rw[List.map_take]at hi;rcases Nat.lt_or_ge i (n-j*512)with h | h
     · rwa [List.getElem?_take_of_lt h]at hi
     · rw[List.getElem?_eq_none (by simp;omega)]at hi;cases hi)
    have HFIT:Hid (j*512+((x.take (n-j*512)).map bv).length<=(rowB P).size):=(show _<=_ by rw[HN2.out,adW,HPL.out];have:=Nat.min_le_right 512 (n-j*512);simp only[Nat.min_def]at this ⊢;omega);have HF2:=hE0 hf2;clear hown hb2 hr2 hf2 hov HRD HST;go_wp2_with (refine wpList_copy_own rfl (.tmp 43) (.tmp 44) 37 37 rfl 5 Tryz.underlying37 (by kernel_rfl) gb (j*512) (n-j*512) (n-j*512) ⟨b2,o2,none⟩ 512 _ rfl rfl _ 5 HF2.out ((x.take (n-j*512)).map bv) HN2.out HSRC.out HFIT.out (adX _) ?_;generalize w2.setRow _ _=w3 at HOV ⊢)
    go_roundw
    case rel=>exact⟨j+1,by omega,by go_num,HOV.out.1,HOV.out.2⟩
    case measure=>simp[intOf];omega
  · obtain rfl:j=K:=by omega
    rw[HEND.out]at hf;have hol:out.length=n:=by rw[<-HEND.out];exact HLEN.out j (by have:=HNN.out;omega)
    have HO:=hE0 (hf.own (base:=gb) (Nat.le_refl _) (by omega));have HB:=hE0 hb;have HOL:=hE0 hol;clear hf hb hol;go_wp2
    go_ret2
    refine⟨some ⟨gb,0,none⟩,out.length,?_,HGB.out▸HO.out,HGB.out▸HB.out⟩;rw[HOL.out];rfl
end
def asy (bs:List UInt8) (w:World) (e:Ending) (w':World):Prop:=
 ∃g h c,e= .returned (.pointer (some ⟨g,0,none⟩))/\Dk (abj (fun _=>False) w w') w' g h c none 0 bs [] (-1) false/\Below w.heap.size w w'
theorem arF (w:World) (A:Option Addr) (c:Nat) (bs:List UInt8) (hr:Rd w w.heap.size A bs.length bs) (hA:A=none->c=0) (h1:bs.length%512=0) (h2:1024<=bs.length) (h3:bs.length<=65536):
 Calls Tryz.prog 35 #[.slice A bs.length c] w fun e w'=>asy bs w e w':=by
 have s1:((bs.length:Int)%512 !=0)=false:=by rw[bne_eq_false_iff_eq];omega
 obtain⟨m,hm⟩:∃m:Nat,(bs.length:Int)/512=(m:Int):=⟨bs.length/512,by omega⟩;have HM:=hE0 (agy w m (by omega) (by omega));have HE:=hE0 hm;have HC:=hE0 (aby A c w.heap.size bs w hr (Nat.le_refl _) hA (by omega));clear h1 hm hr hA;go_enter Tryz.func35,Tryz.ntmps35
 go_wp2_with fail
 rw[HE.out]
 with_reducible refine HM.out.mono ?_
 rintro e w1 ⟨rfl,rfl⟩;clear s1;go_wp2_with fail
 with_reducible refine HC.out.mono ?_
 rintro e w1 ⟨A',c',rfl,ho,hb⟩;obtain⟨h,c2,e1,_,_⟩:=aeS ho (by omega);injection e1 with e1 _ e3;subst e1 e3;have HO:=hE0 ho;have HB:=hE0 hb;clear ho hb;go_wp2
 go_ret
 have hb2:Below w1.heap.size w1 (w1.alloc (.cells #[.slice (some ⟨h,0,none⟩) bs.length c', .slice none 0 0, .int .i64 (-1), .bool false] 88)):=(Below.refl _ _).alloc (Nat.le_refl _) _;have hh:=HO.out.lt h rfl;have hs:=HB.out.size;refine⟨w1.heap.size,h,c',rfl,⟨heap_alloc_new w1 _,?_,World.ownsRow_nil _ _ _ _,(fun x hx=>by cases hx), .inr ?_, .inr ?_,(fun a e=>by cases e),(fun x hx=>by cases hx)⟩,HB.out.trans (hb2.mono hs)⟩
 · obtain⟨h1,h2⟩:=aax HO.out hb2;exact⟨h1,h2.imp id fun⟨g',cap',cur,a,b,c⟩=>⟨g',cap',cur,a,Nat.zero_le _,c⟩⟩
 · simp;omega
 · simp;omega
def Wr.one (x:Wr):Value:= .slice (some ⟨x.b,0,none⟩) 512 x.c
structure Rq (S:Nat->Prop) (w:World) (g:Nat) (L:Option Addr) (cl:Nat) (W:Option Addr) (cw:Nat) (ls ws:List Wr) (left:Int) (off:Bool):Prop where
 obj:w.heap[g]?=some (.cells #[.slice L ls.length cl, .slice W ws.length cw, .bool off, .int .i64 left] 64 (0,0))
 lrow:w.ownsRow 0 37 1 (.slice L ls.length cl) ls.length (ls.map Wr.one)
 wrow:w.ownsRow 0 140 2 (.slice W ws.length cw) ws.length (ag6 ws)
 lf:∀x∈ls,x.d.length=512/\Fil w x.b x.d
 wf:∀x∈ws,x.s<ls.length/\x.d.length=512/\Fil w x.b x.d
 sg:S g
 sl:∀a,L=some a->S a.block
 sw:∀a,W=some a->S a.block
 sx:∀x∈ls,S x.b
 sy:∀x∈ws,S x.b
section
variable {S S':Nat->Prop} {w w':World} {g:Nat} {L:Option Addr} {cl:Nat} {W:Option Addr} {cw:Nat} {ls ws:List Wr} {left:Int} {off:Bool}
theorem Rq.c0 (k:Rq S w g L cl W cw ls ws left off):w.cell? ⟨g,0,none⟩=some (.slice L ls.length cl):=by rw[cell_of_row w g 0 _ _ (0,0) k.obj];rfl
theorem Rq.c1 (k:Rq S w g L cl W cw ls ws left off):w.cell? ⟨g,1,none⟩=some (.slice W ws.length cw):=by rw[cell_of_row w g 1 _ _ (0,0) k.obj];rfl
theorem Rq.c2 (k:Rq S w g L cl W cw ls ws left off):w.cell? ⟨g,2,none⟩=some (.bool off):=by rw[cell_of_row w g 2 _ _ (0,0) k.obj];rfl
theorem Rq.c3 (k:Rq S w g L cl W cw ls ws left off):w.cell? ⟨g,3,none⟩=some (.int .i64 left):=by rw[cell_of_row w g 3 _ _ (0,0) k.obj];rfl
theorem Rq.thaw (k:Rq S w g L cl W cw ls ws left off) (i:Nat):w.frozen? ⟨g,i,none⟩=false:=frozen_of_row w g i _ _ k.obj
theorem Rq.lt (k:Rq S w g L cl W cw ls ws left off):g<w.heap.size:=aan k.obj
theorem Rq.llt (k:Rq S w g L cl W cw ls ws left off){a:Addr}(e:L=some a):a.block<w.heap.size:=by subst e;exact(k.lrow.lt a.block rfl).2
theorem Rq.wlt (k:Rq S w g L cl W cw ls ws left off){a:Addr}(e:W=some a):a.block<w.heap.size:=by subst e;exact(k.wrow.lt a.block rfl).2
theorem Rq.lg (k:Rq S w g L cl W cw ls ws left off){a:Addr}(e:L=some a):a.block≠g/\(∀x∈ls,x.b≠a.block)/\(∀x∈ws,x.b≠a.block)/\∀y,W=some y->y.block≠a.block:=by
 subst e;obtain⟨b,e,cur,hc⟩:=acK k.lrow;subst e;refine⟨abF hc k.obj (by decide),fun x hx=> ?_,fun x hx=> ?_,fun y ey=> ?_⟩
 · obtain⟨c3,h3,_⟩:=(k.lf x hx).2;exact abF h3 hc (by decide)
 · obtain⟨c3,h3,_⟩:=(k.wf x hx).2.2;exact abF h3 hc (by decide)
 · subst ey;obtain⟨b2,e2,cur2,hc2⟩:=acK k.wrow;subst e2;exact abF hc2 hc (by decide)
theorem Rq.wg (k:Rq S w g L cl W cw ls ws left off){a:Addr}(e:W=some a):a.block≠g/\(∀x∈ls,x.b≠a.block)/\∀x∈ws,x.b≠a.block:=by
 subst e;obtain⟨b,e,cur,hc⟩:=acK k.wrow;subst e;refine⟨abF hc k.obj (by decide),fun x hx=> ?_,fun x hx=> ?_⟩
 · obtain⟨c3,h3,_⟩:=(k.lf x hx).2;exact abF h3 hc (by decide)
 · obtain⟨c3,h3,_⟩:=(k.wf x hx).2.2;exact abF h3 hc (by decide)
theorem Rq.xg (k:Rq S w g L cl W cw ls ws left off):(∀x∈ls,x.b≠g)/\∀x∈ws,x.b≠g:=by
 refine⟨fun x hx=> ?_,fun x hx=> ?_⟩
 · obtain⟨c3,h3,_⟩:=(k.lf x hx).2;exact abF h3 k.obj (by decide)
 · obtain⟨c3,h3,_⟩:=(k.wf x hx).2.2;exact abF h3 k.obj (by decide)
def arG (g:Nat) (L W:Option Addr) (ls ws:List Wr) (k:Nat):Prop:=k=g\/(∃a,L=some a/\k=a.block)\/(∃a,W=some a/\k=a.block)\/(∃x∈ls,k=x.b)\/∃x∈ws,k=x.b
theorem Rq.foot (k:Rq S w g L cl W cw ls ws left off){j:Nat}(hj:arG g L W ls ws j):S j/\j<w.heap.size:=by
 rcases hj with rfl | ⟨a,e,rfl⟩ | ⟨a,e,rfl⟩ | ⟨x,hx,rfl⟩ | ⟨x,hx,rfl⟩
 · exact⟨k.sg,k.lt⟩
 · exact⟨k.sl a e,k.llt e⟩
 · exact⟨k.sw a e,k.wlt e⟩
 · exact⟨k.sx x hx,(k.lf x hx).2.lt⟩
 · exact⟨k.sy x hx,(k.wf x hx).2.2.lt⟩
theorem Rq.keep (k:Rq S w g L cl W cw ls ws left off) (hk:∀j,arG g L W ls ws j->w'.heap[j]?=w.heap[j]?):Rq S w' g L cl W cw ls ws left off:=by
 refine⟨(hk g (.inl rfl)).trans k.obj,aaV k.lrow fun j hj=> ?_,aaV k.wrow fun j hj=> ?_,fun x hx=>⟨(k.lf x hx).1,(k.lf x hx).2.keep (hk _ (.inr (.inr (.inr (.inl ⟨x,hx,rfl⟩)))))⟩,fun x hx=>⟨(k.wf x hx).1,(k.wf x hx).2.1,(k.wf x hx).2.2.keep (hk _ (.inr (.inr (.inr (.inr ⟨x,hx,rfl⟩)))))⟩,k.sg,k.sl,k.sw,k.sx,k.sy⟩
 · rcases L with _ | a
   · cases hj
   · injection hj with hj;subst hj;exact hk _ (.inr (.inl ⟨a,rfl,rfl⟩))
 · rcases W with _ | a
   · cases hj
   · injection hj with hj;subst hj;exact hk _ (.inr (.inr (.inl ⟨a,rfl,rfl⟩)))
theorem Rq.below (k:Rq S w g L cl W cw ls ws left off) (hb:Below w.heap.size w w'):Rq S w' g L cl W cw ls ws left off:=k.keep fun j hj=>hb.block j (k.foot hj).2
theorem Rq.tch{R:Nat->Prop}(k:Rq S w g L cl W cw ls ws left off) (ht:Tch R w w') (hd:∀j,S j->¬R j):Rq S w' g L cl W cw ls ws left off:=k.keep fun j hj=>ht.block j (k.foot hj).2 (hd j (k.foot hj).1)
theorem Rq.more (k:Rq S w g L cl W cw ls ws left off) (hS:∀j,arG g L W ls ws j->S' j):Rq S' w g L cl W cw ls ws left off:=
 ⟨k.obj,k.lrow,k.wrow,k.lf,k.wf,hS _ (.inl rfl),fun a e=>hS _ (.inr (.inl ⟨a,e,rfl⟩)),fun a e=>hS _ (.inr (.inr (.inl ⟨a,e,rfl⟩))),fun x hx=>hS _ (.inr (.inr (.inr (.inl ⟨x,hx,rfl⟩)))),fun x hx=>hS _ (.inr (.inr (.inr (.inr ⟨x,hx,rfl⟩))))⟩
theorem Rq.drew (k:Rq S w g L cl W cw ls ws left off):Rq S w.drew g L cl W cw ls ws left off:=⟨k.obj,k.lrow,k.wrow,k.lf,k.wf,k.sg,k.sl,k.sw,k.sx,k.sy⟩
theorem Rq.obj_{left':Int}{off':Bool}(k:Rq S w g L cl W cw ls ws left off) (ho:w'.heap[g]?=some (.cells #[.slice L ls.length cl, .slice W ws.length cw, .bool off', .int .i64 left'] 64 (0,0)))
 (hk:∀j,j≠g->w'.heap[j]?=w.heap[j]?):Rq S w' g L cl W cw ls ws left' off':=by
 refine⟨ho,aaV k.lrow fun j hj=> ?_,aaV k.wrow fun j hj=> ?_,fun x hx=>⟨(k.lf x hx).1,(k.lf x hx).2.keep (hk _ (k.xg.1 x hx))⟩,fun x hx=>⟨(k.wf x hx).1,(k.wf x hx).2.1,(k.wf x hx).2.2.keep (hk _ (k.xg.2 x hx))⟩,k.sg,k.sl,k.sw,k.sx,k.sy⟩
 · rcases L with _ | a
   · cases hj
   · injection hj with hj;subst hj;exact hk _ (k.lg rfl).1
 · rcases W with _ | a
   · cases hj
   · injection hj with hj;subst hj;exact hk _ (k.wg rfl).1
theorem Rq.set2 (k:Rq S w g L cl W cw ls ws left off) (b:Bool):Rq S (w.setCell ⟨g,2,none⟩ (.bool b)) g L cl W cw ls ws left b:=
 k.obj_ (by rw[heap_setCell_same w g 2 _ _ _ k.obj];rfl) fun j hj=>Below.heap_setCell _ _ _ _ hj
theorem Rq.set3 (k:Rq S w g L cl W cw ls ws left off) (n:Int):Rq S (w.setCell ⟨g,3,none⟩ (.int .i64 n)) g L cl W cw ls ws n off:=
 k.obj_ (by rw[heap_setCell_same w g 3 _ _ _ k.obj];rfl) fun j hj=>Below.heap_setCell _ _ _ _ hj
theorem Rq.none_ (k:Rq S w g L cl W cw ls ws left off):Rq S (w.setCell ⟨g,1,none⟩ (.slice none 0 0)) g L cl none 0 ls [] left off:=by
 have hk:∀j,j≠g->(w.setCell ⟨g,1,none⟩ (.slice none 0 0)).heap[j]?=w.heap[j]?:=fun j hj=>Below.heap_setCell _ _ _ _ hj;refine⟨by rw[heap_setCell_same w g 1 _ _ _ k.obj];rfl,aaV k.lrow fun j hj=> ?_,World.ownsRow_nil _ _ _ _,fun x hx=>⟨(k.lf x hx).1,(k.lf x hx).2.keep (hk _ (k.xg.1 x hx))⟩,(fun x hx=>by cases hx),k.sg,k.sl,(fun a e=>by cases e),k.sx,(fun x hx=>by cases hx)⟩;rcases L with _ | a
 · cases hj
 · injection hj with hj;subst hj;exact hk _ (k.lg rfl).1
theorem Rq.over (k:Rq S w g L cl W cw ls ws left off){x:Wr}(hx:x∈ws){gl:Nat}(hL:L=some ⟨gl,0,none⟩):Rq S (w.setCell ⟨gl,x.s,none⟩ x.one) g L cl W cw (ls.set x.s x) ws left off/\Tch S w (w.setCell ⟨gl,x.s,none⟩ x.one):=by
 subst hL;have hlg:=k.lg rfl;have hk:∀j,j≠gl->(w.setCell ⟨gl,x.s,none⟩ x.one).heap[j]?=w.heap[j]?:=fun j hj=>Below.heap_setCell _ _ _ _ hj;refine⟨⟨?_,?_,aaV k.wrow fun j hj=> ?_,fun y hy=> ?_,fun y hy=> ?_,k.sg,k.sl,k.sw,fun y hy=> ?_,k.sy⟩,Tch.set w ⟨gl,x.s,none⟩ _ (k.sl ⟨gl,0,none⟩ rfl)⟩
 · rw[hk g (Ne.symm hlg.1),List.length_set];exact k.obj
 · rw[List.length_set,List.map_set];exact(k.lrow.stored x.s x.one).1
 · rcases W with _ | a
   · cases hj
   · injection hj with hj;subst hj;exact hk _ (hlg.2.2.2 a rfl)
 · rcases List.mem_or_eq_of_mem_set hy with hy | rfl
   · exact⟨(k.lf y hy).1,(k.lf y hy).2.keep (hk _ (hlg.2.1 y hy))⟩
   · exact⟨(k.wf y hx).2.1,(k.wf y hx).2.2.keep (hk _ (hlg.2.2.1 y hx))⟩
 · rw[List.length_set];exact⟨(k.wf y hy).1,(k.wf y hy).2.1,(k.wf y hy).2.2.keep (hk _ (hlg.2.2.1 y hy))⟩
 · rcases List.mem_or_eq_of_mem_set hy with hy | rfl
   · exact k.sx y hy
   · exact k.sy y hx
theorem Rq.at_ (k:Rq S w g L cl W cw ls ws left off){i:Nat}{x:Wr}(hx:ws[i]?=some x):∃gw,W=some ⟨gw,0,none⟩/\w.cell? ⟨gw,i*2,none⟩=some (.int .i64 (x.s:Int))/\w.cell? ⟨gw,i*2+1,none⟩=some (.slice (some ⟨x.b,0,none⟩) 512 x.c):=by
 have hi:i<ws.length:=by
  rcases Nat.lt_or_ge i ws.length with h | h
  · exact h
  · rw[List.getElem?_eq_none h]at hx;cases hx
 obtain⟨f1,f2⟩:=aii ws i x hx;have hw:=k.wrow;rcases W with _ | a
 · rcases hw.2 with⟨_,h0⟩ | ⟨_,_,_,h',_⟩
   · omega
   · injection h' with e;cases e
 · obtain⟨gw,rfl,_⟩:=acK hw;exact⟨gw,rfl,by rw[hw.cellAt _ (by omega)];exact f1,by rw[hw.cellAt _ (by omega)];exact f2⟩
theorem Rq.lat (k:Rq S w g L cl W cw ls ws left off){i:Nat}{x:Wr}(hx:ls[i]?=some x):∃gl,L=some ⟨gl,0,none⟩/\w.cell? ⟨gl,i,none⟩=some (.slice (some ⟨x.b,0,none⟩) 512 x.c)/\w.frozen? ⟨gl,i,none⟩=false:=by
 have hi:i<ls.length:=by
  rcases Nat.lt_or_ge i ls.length with h | h
  · exact h
  · rw[List.getElem?_eq_none h]at hx;cases hx
 have hw:=k.lrow;rcases L with _ | a
 · rcases hw.2 with⟨_,h0⟩ | ⟨_,_,_,h',_⟩
   · omega
   · injection h' with e;cases e
 · obtain⟨gl,rfl,_⟩:=acK hw;refine⟨gl,rfl,?_,hw.frozenAt i⟩;rw[hw.cellAt _ (by omega),List.getElem?_map,hx];rfl
theorem Rq.caps (k:Rq S w g L cl W cw ls ws left off):ls.length<=cl/\cl<=maxLen/\ws.length<=cw/\cw<=maxLen:=by
 refine⟨?_,?_,?_,?_⟩
 · rcases k.lrow.2 with⟨h',h0⟩ | ⟨_,_,_,h',_,_,h1,h2,_⟩
   · rw[h0];exact Nat.zero_le _
   · injection h' with _ _ e;subst e;exact h1
 · rcases k.lrow.2 with⟨h',h0⟩ | ⟨_,_,_,h',_,_,h1,h2,_⟩
   · injection h' with _ _ e;subst e;exact Nat.zero_le _
   · injection h' with _ _ e;subst e;exact h2
 · rcases k.wrow.2 with⟨h',h0⟩ | ⟨_,_,_,h',_,_,h1,h2,_⟩
   · rw[h0];exact Nat.zero_le _
   · injection h' with _ _ e;subst e;exact h1
 · rcases k.wrow.2 with⟨h',h0⟩ | ⟨_,_,_,h',_,_,h1,h2,_⟩
   · injection h' with _ _ e;subst e;exact Nat.zero_le _
   · injection h' with _ _ e;subst e;exact h2
end
def ac3 (ls:List Wr) (l:List Wr):List Wr:=l.foldl (fun ls x=>ls.set x.s x) ls
theorem ae5 (l:List Wr):∀ls,(ac3 ls l).length=ls.length:=by
 induction l with
 | nil=>intro ls;rfl
 | cons x r ih=>intro ls;show(ac3 (ls.set x.s x) r).length=_;rw[ih,List.length_set]
theorem akq (ls l:List Wr) (x:Wr):ac3 ls (l++ [x])=(ac3 ls l).set x.s x:=by simp[ac3]
section
variable {S:Nat->Prop} {w:World} {g:Nat} {L:Option Addr} {cl:Nat} {W:Option Addr} {cw:Nat} {ls ws:List Wr} {left:Int} {off:Bool}
theorem amn (k:Rq S w g L cl W cw ls ws left true):
 Calls Tryz.prog 67 #[.pointer (some ⟨g,0,none⟩)] w fun e w'=>e= .returned (.int .i64 6)/\w=w':=by
 have c2:=k.c2;go_enter Tryz.func67,Tryz.ntmps67
 go_wp2
 go_ret
 exact⟨rfl,rfl⟩
theorem an5 (k:Rq S w g L cl W cw ls ws left false):
 Calls Tryz.prog 67 #[.pointer (some ⟨g,0,none⟩)] w fun e w'=>e= .returned (.int .i64 0)/\Rq S w' g L cl none 0 (ac3 ls ws) [] left false/\Tch S w w':=by
 have c2:=k.c2;go_enter Tryz.func67,Tryz.ntmps67
 go_wp2
 clear c2;go_loopw [3] (fun i wr=>∃j:Nat,j<=ws.length/\i= .int .i64 j/\Rq S wr g L cl W cw (ac3 ls (ws.take j)) ws left false/\Tch S w wr) (fun i _=>ws.length-(intOf i).toNat)
 case atStart=>exact⟨0,Nat.zero_le _,rfl,k,Tch.refl _ _⟩
 case round=>
  obtain⟨j,hj,rfl,kr,ht⟩:=hrel;obtain⟨hc1,hc2,hc3,hc4⟩:=kr.caps;unfold maxLen at hc2 hc4;have c1:=kr.c1;by_cases hlt:j<ws.length
  · obtain⟨x,hx⟩:∃x,ws[j]?=some x:=⟨ws[j],List.getElem?_eq_getElem hlt⟩;have hxm:x∈ws:=List.mem_of_getElem? hx;obtain⟨w1,hw1⟩:=nmE wr.drew;have k1:Rq S w1 g L cl W cw (ac3 ls (ws.take j)) ws left false:=by rw[<-hw1];exact kr.drew
    have t1:Tch S w w1:=by rw[<-hw1];exact ht.drew
    obtain⟨hxs,_,_⟩:=k1.wf x hxm;have hlen:=ae5 (ws.take j) ls;obtain⟨y,hy⟩:∃y,(ac3 ls (ws.take j))[x.s]?=some y:=⟨_,List.getElem?_eq_getElem hxs⟩;obtain⟨gw,rfl,d0,d1⟩:=k1.at_ hx;obtain⟨gl,rfl,l0,l1⟩:=k1.lat hy;obtain⟨k2,t2⟩:=k1.over hxm rfl;have e2:(ac3 ls (ws.take j)).set x.s x=ac3 ls (ws.take (j+1)):=by rw[List.take_add_one,hx,Option.toList_some,akq]
    rw[e2]at k2;have K2:Hid (Rq S (w1.setCell ⟨gl,x.s,none⟩ (.slice (some ⟨x.b,0,none⟩) 512 x.c)) g (some ⟨gl,0,none⟩) cl (some ⟨gw,0,none⟩) cw (ac3 ls (ws.take (j+1))) ws left false):=k2;have T2:Hid (Tch S w (w1.setCell ⟨gl,x.s,none⟩ (.slice (some ⟨x.b,0,none⟩) 512 x.c))):=t1.trans t2 (fun _ _ h=>h);have q0:=k1.c0;have q1:=k1.c1;rw[hlen]at q0 hxs;have hgl:=k1.lt;have hwl:=k1.wlt rfl;have HW1:=hE0 hw1;clear hx hxm k1 t1 hlen hy k2 t2 e2 hw1 kr ht k;go_wp2_with fail
    refine aad w1.heap.size [] [0,1,2,3,4,5,6,7,8,9,10,11,12,13,14,15,16,17,18,19,20] [21] (by kernel_rfl) (by kernel_rfl) (by kernel_rfl) (fun _ _ _ _ _ h=>h) ?_;rw[HW1.out];have z0:=tfE q0 hgl;have z1:=tfE q1 hgl;have z2:=tfE d0 hwl;have z3:=tfE d1 hwl;have e1:(j:Int)<(ws.length:Int):=by omega
    have e2:(x.s:Int)<(ls.length:Int):=by omega
    refine aam (l:= ?la1) (t:= ?tl1) ?hla1 ?htl1 ?_
    case hla1=>simp only[pick,lE1,lE2,lE3];rfl
    case htl1=>simp only[pick,lE1,lE2,lE3];rfl
    repeat (go_big_quiet_step (fail))
    refine wpQuiet_nil ?_;clear z0 z1 z2 z3;go_wp2
    go_roundw
    case rel=>exact⟨j+1,by omega,by go_num,K2.out,T2.out⟩
    case measure=>simp[intOf];omega
  · obtain rfl:j=ws.length:=by omega
    rw[List.take_length]at kr;have f1:=kr.thaw 1;have K2:=hE0 kr.none_;have T2:=hE0 (ht.trans (Tch.set (S:=S) wr ⟨g,1,none⟩ (.slice none 0 0) kr.sg) (fun _ _ h=>h));clear kr ht k;go_wp2
    go_ret
    exact⟨rfl,K2.out,T2.out⟩
end
def aeC (i:Nat) (o:Wr) (l:List Wr):Wr:=l.foldl (fun o x=>if x.s=i then x else o) o
theorem ahx (i:Nat) (o:Wr) (l:List Wr) (x:Wr):aeC i o (l++ [x])=if x.s=i then x else aeC i o l:=by simp[aeC]
theorem ae6 (i:Nat) (l:List Wr):∀o,aeC i o l=o\/aeC i o l∈l:=by
 induction l with
 | nil=>intro o;exact .inl rfl
 | cons x r ih=>
  intro o;show aeC i (if x.s=i then x else o) r=o\/_;by_cases h:x.s=i
  · rw[if_pos h];rcases ih x with h1 | h1
    · right;show aeC i (if x.s=i then x else o) r∈_;rw[if_pos h,h1];simp
    · right;show aeC i (if x.s=i then x else o) r∈_;rw[if_pos h];simp[h1]
  · rw[if_neg h];rcases ih o with h1 | h1
    · left;exact h1
    · right;show aeC i (if x.s=i then x else o) r∈_;rw[if_neg h];simp[h1]
def aaW (ls:List Wr):List UInt8:=(ls.map Wr.d).flatten
theorem ahy (ls:List Wr) (x:Wr):aaW (ls++ [x])=aaW ls++x.d:=by simp[aaW]
theorem abG (ls:List Wr) (h:∀x∈ls,x.d.length=512):(aaW ls).length=512*ls.length:=by
 induction ls with
 | nil=>rfl
 | cons x r ih=>
  have e:aaW (x::r)=x.d++aaW r:=by simp[aaW]
  rw[e,List.length_append,ih (fun y hy=>h y (by simp[hy])),h x (by simp),List.length_cons];omega
section
variable {S:Nat->Prop} {w:World} {g:Nat} {L:Option Addr} {cl:Nat} {W:Option Addr} {cw:Nat} {ls ws:List Wr} {left:Int} {off:Bool} {K:Option Addr} {ck:Nat} {kb:List Bool}
theorem an6 (k:Rq S w g L cl W cw ls ws left true) (i:Nat) (hi:i<ls.length):
 Calls Tryz.prog 179 #[.pointer (some ⟨g,0,none⟩), .int .i64 (i:Int)] w fun e w'=>e= .returned (.tuple #[.slice none 0 0, .int .i64 6])/\w=w':=by
 have c0:=k.c0;have c2:=k.c2;have h0:¬(i:Int)<0:=by omega
 clear k;go_enter Tryz.func179,Tryz.ntmps179
 go_wp2
 go_ret2
 exact⟨rfl,rfl⟩
theorem af4 (k:Rq S w g L cl W cw ls ws left false) (i:Nat) (y:Wr) (hy:ls[i]?=some y):
 Calls Tryz.prog 179 #[.pointer (some ⟨g,0,none⟩), .int .i64 (i:Int)] w fun e w'=>anl (aeC i y ws).d w e w':=by
 have hi:i<ls.length:=by
  rcases Nat.lt_or_ge i ls.length with h | h
  · exact h
  · rw[List.getElem?_eq_none h]at hy;cases hy
 have h0:¬(i:Int)<0:=by omega
 have c0:=k.c0;have c1:=k.c1;have c2:=k.c2;obtain⟨hc1,hc2,hc3,hc4⟩:=k.caps;unfold maxLen at hc2 hc4;obtain⟨gl,rfl,l0,l1⟩:=k.lat hy;have HY:=hE0 hy;have HK:=hE0 k;clear hy k l1;go_enter Tryz.func179,Tryz.ntmps179
 go_wp2
 go_loopw [6,7] (fun o t wr=>∃(j:Nat) (z:Wr),j<=ws.length/\t= .int .i64 j/\aeC i y (ws.take j)=z/\o= .slice (some ⟨z.b,0,none⟩) 512 z.c/\wr=w) (fun _ t _=>ws.length-(intOf t).toNat)
 case atStart=>exact⟨0,y,Nat.zero_le _,rfl,rfl,rfl,rfl⟩
 case round=>
  obtain⟨j,z,hj,rfl,hz,rfl,rfl⟩:=hrel;by_cases hlt:j<ws.length
  · obtain⟨x,hx⟩:∃x,ws[j]?=some x:=⟨ws[j],List.getElem?_eq_getElem hlt⟩;obtain⟨gw,rfl,d0,d1⟩:=HK.out.at_ hx;have E:aeC i y (ws.take (j+1))=if x.s=i then x else z:=by rw[List.take_add_one,hx,Option.toList_some,ahx,hz]
    by_cases hs:x.s=i
    · rw[if_pos hs]at E;have HE:=hE0 E;have hq:((x.s:Int)==(i:Int))=true:=by rw[beq_iff_eq];omega
      clear hx hz E hs;go_wp2
      go_roundw
      case rel=>exact⟨j+1,x,by omega,by go_num,HE.out,rfl,trivial⟩
      case measure=>simp[intOf];omega
    · rw[if_neg hs]at E;have HE:=hE0 E;have hq:((x.s:Int)==(i:Int))=false:=by rw[beq_eq_false_iff_ne];omega
      clear hx hz E hs;go_wp2
      go_roundw
      case rel=>exact⟨j+1,z,by omega,by go_num,HE.out,rfl,trivial⟩
      case measure=>simp[intOf];omega
  · obtain rfl:j=ws.length:=by omega
    rw[List.take_length]at hz;have HZ:=hE0 hz;obtain⟨hz1,hz2⟩:z.d.length=512/\Fil wr z.b z.d:=by
     rcases ae6 i ws y with h | h
     · rw[hz]at h;subst h;exact HK.out.lf _ (List.mem_of_getElem? HY.out)
     · rw[hz]at h;exact(HK.out.wf _ h).2
    have rs:=hz2.reads;rw[hz1]at rs;have RS:=hE0 (rs.alloc (Nat.le_refl _) (.cells #[] 5));have OWN1:Hid ((wr.alloc (.cells #[] 5)).ownsRow wr.heap.size 5 1 (.slice (some ⟨wr.heap.size,0,none⟩) 0 0) 0 (([]:List UInt8).map bv)):=World.ownsRow_lit wr _ 0 (Nat.le_refl _) (by unfold maxLen;omega) rfl;have HZ1:=hE0 hz1;clear hz hz1 hz2 rs;go_wp2_with (first
     | (at_builtin;go_must (refine aaj rfl (.tmp 57) (.tmp 58) 37 5 rfl Tryz.underlying37 ac8 wr.heap.size (.slice (some ⟨wr.heap.size,0,none⟩) 0 0) 0 [] rfl OWN1.out wr.heap.size (some ⟨z.b,0,none⟩) 512 _ z.d rfl RS.out (fun e=>by cases e) (by omega) (by simp) ?_);intro x2 w2 own2 hb2 gr2;have own3:w2.ownsRow wr.heap.size 5 1 x2 z.d.length (z.d.map bv):=(by rw[HZ1.out];simpa using own2);have OWN3:=hE0 own3;have HB2:=hE0 hb2;clear own2 own3 gr2 hb2))
    go_ret2
    rw[HZ.out];obtain⟨_,A',c',rfl⟩:=acT OWN3.out;exact⟨A',c',rfl,OWN3.out,((Below.refl _ _).alloc (Nat.le_refl _) _).trans HB2.out⟩
theorem akr (k:Rq S w g L cl W cw ls ws left off) (hl:ls.length<=1000):
 Calls Tryz.prog 23 #[.pointer (some ⟨g,0,none⟩)] w fun e w'=>aeT (aaW ls) w e w':=by
 have HK:=hE0 k;obtain⟨hc1,hc2,_,_⟩:=k.caps;unfold maxLen at hc2;clear k;go_enter Tryz.func23,Tryz.ntmps23
 go_wp2
 go_loopw [3,4] (fun o t wr=>∃j:Nat,j<=ls.length/\t= .int .i64 j/\wr.ownsRow w.heap.size 5 1 o (512*j) ((aaW (ls.take j)).map bv)/\Below w.heap.size w wr) (fun _ t _=>ls.length-(intOf t).toNat)
 case atStart=>exact⟨0,Nat.zero_le _,rfl,World.ownsRow_nil _ _ _ _,Below.refl _ _⟩
 case round=>
  obtain⟨j,hj,rfl,hown,hb⟩:=hrel;have kr:=HK.out.below hb;have c0:=kr.c0;by_cases hlt:j<ls.length
  · obtain⟨x,hx⟩:∃x,ls[j]?=some x:=⟨ls[j],List.getElem?_eq_getElem hlt⟩;obtain⟨gl,rfl,l0,_⟩:=kr.lat hx;obtain⟨hx1,hx2⟩:=kr.lf x (List.mem_of_getElem? hx);have rs:=hx2.reads;rw[hx1]at rs;have E:aaW (ls.take (j+1))=aaW (ls.take j)++x.d:=by rw[List.take_add_one,hx,Option.toList_some,ahy]
    have HE:=hE0 E;have RS:=hE0 rs;have OWN:=hE0 hown;have HB:=hE0 hb;clear hx hx1 hx2 rs E kr hown hb;go_wp2_with (first
     | (at_builtin;go_must (refine aaj rfl (.tmp 14) (.tmp 21) 37 5 rfl Tryz.underlying37 ac8 w.heap.size _ (512*j) (aaW (ls.take j)) rfl OWN.out wr.heap.size (some ⟨x.b,0,none⟩) 512 _ x.d rfl RS.out (fun e=>by cases e) (by omega) HB.out.size ?_);intro x2 w2 own2 hb2 gr2;have OWN3:=hE0 own2;have HB2:=hE0 (HB.out.trans hb2);clear own2 gr2 hb2))
    go_roundw
    case rel=>exact⟨j+1,by omega,by go_num,by rw[HE.out];exact OWN3.out,HB2.out⟩
    case measure=>simp[intOf];omega
  · obtain rfl:j=ls.length:=by omega
    rw[List.take_length]at hown;have hjl:=abG ls (fun x hx=>(kr.lf x hx).1);rw[<-hjl]at hown;go_wp2
    go_ret
    obtain⟨e1,A',c',rfl⟩:=acT hown;exact⟨A',c',rfl,hown,hb⟩
end
theorem aik:(Tryz.prog.info? 140).map (fun i=>(i.zero,i.size,i.bytes))=some (some (.agg #[.int .i64 0, .slice none 0 0]),2,32):=by kernel_rfl
theorem aq1:(Tryz.prog.info? 37).map (fun i=>(i.zero,i.size,i.bytes))=some (some (.slice none 0 0),1,24):=by kernel_rfl
theorem ata{a b:Int}(h:a=b):Value.int .i64 a= .int .i64 b:=by rw[h]
theorem agA (w:World):(Instr.buildSlice 37 0 #[]).run Tryz.prog w= .ok (.slice (some ⟨w.heap.size,0,none⟩) 0 0) (w.alloc (.cells #[] 5)):=by
 obtain⟨i0,hi,hz0,hz1,hz2⟩:=info_parts ac8;have e:Array.range 0= #[]:=by decide
 simp[Instr.buildSlice,run_underlying Tryz.underlying37,sizeOf,typeInfo,hi,newRow,Instr.fill,e]
theorem alp (w:World) (s:Int) (A:Option Addr) (n c:Nat):(Instr.buildSlice 62 1 #[(0, .agg #[.int .i64 s, .slice A n c])]).run Tryz.prog w= .ok (.slice (some ⟨w.heap.size,0,none⟩) 1 1) (w.alloc (.cells #[.int .i64 s, .slice A n c] 140)):=by
 obtain⟨i0,hi,hz0,hz1,hz2⟩:=info_parts aik;refine run_buildSlice w 62 140 1 _ _ i0 _ Tryz.underlying62 hi hz0 (by omega) (by omega) ?_;rw[hz1];have e:Array.range (1*2)= #[0,1]:=by decide
 rw[e];simp[Instr.fill,Value.cells]
theorem apQ (w:World) (A:Option Addr) (n c:Nat):(Instr.buildSlice 57 1 #[(0, .slice A n c)]).run Tryz.prog w= .ok (.slice (some ⟨w.heap.size,0,none⟩) 1 1) (w.alloc (.cells #[.slice A n c] 37)):=by
 obtain⟨i0,hi,hz0,hz1,hz2⟩:=info_parts aq1;refine run_buildSlice w 57 37 1 _ _ i0 _ Tryz.underlying57 hi hz0 (by omega) (by omega) ?_;rw[hz1];have e:Array.range (1*1)= #[0]:=by decide
 rw[e];simp[Instr.fill,Value.cells]
theorem afz{P:Program}{ops:Array Oper}{Q:Exit->Act->World->Prop}{i B:Nat}{o:Oper}{a:Act}{w:World}{K:Nat->Act->World->Prop}(d:Option Tmp) (s x:Operand) (t e:TypeId) (hoi:ops[i]?=some o) (hd:o.dst=d) (hw:Region.wanted o (yielded ops a.tmps)=true)
 (ho:o.op= .call {callee:= .builtin .append,args:= #[s,x],argTypes:= #[t,t]}) (ht:P.underlying t=some (.slice e)) (hinfo:(P.info? e).map (fun i=>(i.zero,i.size,i.bytes))=some (some (.int .u8 0),1,1))
 (v:Value) (n:Nat) (bs:List UInt8) (hs:a.eval s=v) (hown:w.ownsRow B e 1 v n (bs.map bv)) (hB:B<=w.heap.size)
 (B2:Nat) (A:Addr) (m c:Nat) (cs:List UInt8) (hx:a.eval x= .slice (some A) m c) (hr:Rd w B2 (some A) m cs) (hb:n+m<=1000000)
 (h:∀v' w',w'.ownsRow B e 1 v' (n+m) ((bs++cs).map bv)->Below B w w'->∃B',B<=B'/\K B' (a.put d v') w'):wpOp P ops Q i (fun a'' w''=>Below B w w''/\∃B',B<=B'/\K B' a'' w'') a w:=by
 subst hd;obtain⟨i0,hi,hz0,hz1,hz2⟩:=info_parts hinfo;unfold wpOp;simp only[hoi];rw[if_pos hw];refine .inl (wp_append_own w s x t ho B e i0 (.int .u8 0) 1 1 ht hi hz0 hz1 hz2 rfl (by decide) v n _ hs hown A m c (cs.map bv) hx (by simp[hr.1]) (acJ hr) (adX cs) (by unfold maxLen;omega) (by omega) hB ?_);intro v' w' h1 h2 _;have hb':Below B w w':=(Below.refl _ _).grown h2 hB (fun k hk=>(hown.lt k hk).1);exact⟨hb',h v' w' (by simpa using h1) hb'⟩
section
variable {S:Nat->Prop} {w w3 w4:World} {g:Nat} {L:Option Addr} {cl:Nat} {W:Option Addr} {cw:Nat} {ls ws:List Wr} {left:Int} {off:Bool}
theorem Rq.pushed (k:Rq S w g L cl W cw ls ws left off) (hb:Below w.heap.size w w3) (x:Wr) (hx1:x.s<ls.length) (hx2:w.heap.size<=x.b) (hx3:x.d.length=512) (hx4:Fil w3 x.b x.d) (v:Value)
 (hown:w4.ownsRow 0 140 2 v (ws.length+1) (ag6 (ws++ [x]))) (hgr:w3.grownBy w4 (Value.slice W ws.length cw).ownBlock) (hat:v.ownBlock=(Value.slice W ws.length cw).ownBlock\/v.ownBlock=some w3.heap.size):
 w4.cell? ⟨g,1,none⟩=some (.slice W ws.length cw)/\w4.frozen? ⟨g,1,none⟩=false/\∃W' cw',v= .slice W' (ws.length+1) cw'/\Rq (abj S w (w4.setCell ⟨g,1,none⟩ v)) (w4.setCell ⟨g,1,none⟩ v) g L cl W' cw' ls (ws++ [x]) left off/\Tch S w (w4.setCell ⟨g,1,none⟩ v):=by
 have k3:=k.below hb;have hne:∀j,j<w3.heap.size->(∀a,W=some a->j≠a.block)->w4.heap[j]?=w3.heap[j]?:=fun j hj hn=>hgr.block j hj (fun e=>by
  rcases W with _ | a
  · simp[Value.ownBlock]at e
  · simp[Value.ownBlock]at e;exact hn a rfl e)
 have hg4:w4.heap[g]?=w3.heap[g]?:=hne g k3.lt (fun a e=>(k3.wg e).1.symm);have hs4:(w4.setCell ⟨g,1,none⟩ v).heap.size=w4.heap.size:=by simp[World.setCell]
 have hoth:∀j,j≠g->(w4.setCell ⟨g,1,none⟩ v).heap[j]?=w4.heap[j]?:=fun j hj=>Below.heap_setCell _ _ _ _ hj;obtain⟨gw,cw',cur,hv,_,hrow,_⟩:∃g' cap cur,v= .slice (some ⟨g',0,none⟩) (ws.length+1) cap/\0<=g'/\w4.heap[g']?=some (.cells cur 140 (0,0))/\ws.length+1<=cap:=by
  rcases hown.2 with⟨_,h0⟩ | ⟨g',cap,cur,h1,h2,h3,h4,_⟩
  · omega
  · exact⟨g',cap,cur,h1,h2,h3,h4⟩
 have hgwlt:=aan hrow;have hgwg:gw≠g:=abF hrow (hg4.trans k3.obj) (by decide);subst hv;have keepx:∀y:Wr,y.d.length=512/\Fil w3 y.b y.d->y.b≠g->(∀a,W=some a->y.b≠a.block)->y.d.length=512/\Fil (w4.setCell ⟨g,1,none⟩ (.slice (some ⟨gw,0,none⟩) (ws.length+1) cw')) y.b y.d:=fun y h1 h2 h3=>
  ⟨h1.1,h1.2.keep ((hoth _ h2).trans (hne _ h1.2.lt h3))⟩
 refine⟨(World.cell?_of_block (a:=⟨g,1,none⟩) hg4).trans k3.c1,(World.frozen?_of_block (a:=⟨g,1,none⟩) hg4).trans (k3.thaw 1),some ⟨gw,0,none⟩,cw',rfl,⟨?_,?_,?_,?_,?_, .inl k.sg,fun a e=> .inl (k.sl a e),?_,fun y hy=> .inl (k.sx y hy),?_⟩,?_⟩
 · rw[heap_setCell_same w4 g 1 _ _ _ (hg4.trans k3.obj),List.length_append];rfl
 · refine aaV k3.lrow fun j hj=> ?_;rcases L with _ | a
   · cases hj
   · injection hj with hj;subst hj;rw[hoth _ (k3.lg rfl).1];exact hne _ (k3.llt rfl) (fun a e=>((k3.lg rfl).2.2.2 a e).symm)
 · rw[List.length_append];refine aaV hown fun j hj=> ?_;injection hj with hj;subst hj;exact hoth _ hgwg
 · intro y hy;exact keepx y (k3.lf y hy) (k3.xg.1 y hy) (fun a e=>(k3.wg e).2.1 y hy)
 · intro y hy;rcases List.mem_append.1 hy with hy | hy
   · exact⟨(k3.wf y hy).1,keepx y (k3.wf y hy).2 (k3.xg.2 y hy) (fun a e=>(k3.wg e).2.2 y hy)⟩
   · obtain rfl:y=x:=by simpa using hy
     refine⟨hx1,keepx y ⟨hx3,hx4⟩ (fun e=>by have:=k.lt;omega) (fun a e h=> ?_)⟩;have:=k.wlt e;omega
 · intro a e;injection e with e;subst e;show abj S w _ gw;rcases hat with h1 | h1
   · left;rcases W with _ | a
     · simp[Value.ownBlock]at h1
     · simp[Value.ownBlock]at h1;rw[h1];exact k.sw a rfl
   · right;simp[Value.ownBlock]at h1;rw[hs4,h1];exact⟨hb.size,by omega⟩
 · intro y hy;rcases List.mem_append.1 hy with hy | hy
   · exact .inl (k.sy y hy)
   · obtain rfl:y=x:=by simpa using hy
     right;rw[hs4];have:=hx4.lt;have:=hgr.size;exact⟨hx2,by omega⟩
 · refine((Tch.of_below (S:=S) hb).trans (Tch.grown (S:=S) hgr fun j hj=> ?_) (fun _ _ h=>h)).trans (Tch.set (S:=S) w4 ⟨g,1,none⟩ _ k.sg) (fun _ _ h=>h);rcases W with _ | a
   · simp[Value.ownBlock]at hj
   · simp[Value.ownBlock]at hj;rw[<-hj];exact k.sw a rfl
theorem Rq.lpushed (k:Rq S w g L cl none 0 ls [] left off) (hb:Below w.heap.size w w3) (x:Wr) (hx2:w.heap.size<=x.b) (hx3:x.d.length=512) (hx4:Fil w3 x.b x.d) (v:Value)
 (hown:w4.ownsRow 0 37 1 v (ls.length+1) ((ls++ [x]).map Wr.one)) (hgr:w3.grownBy w4 (Value.slice L ls.length cl).ownBlock) (hat:v.ownBlock=(Value.slice L ls.length cl).ownBlock\/v.ownBlock=some w3.heap.size):
 w4.cell? ⟨g,0,none⟩=some (.slice L ls.length cl)/\w4.frozen? ⟨g,0,none⟩=false/\∃L' cl',v= .slice L' (ls.length+1) cl'/\Rq (abj S w (w4.setCell ⟨g,0,none⟩ v)) (w4.setCell ⟨g,0,none⟩ v) g L' cl' none 0 (ls++ [x]) [] left off/\Tch S w (w4.setCell ⟨g,0,none⟩ v):=by
 have k3:=k.below hb;have hne:∀j,j<w3.heap.size->(∀a,L=some a->j≠a.block)->w4.heap[j]?=w3.heap[j]?:=fun j hj hn=>hgr.block j hj (fun e=>by
  rcases L with _ | a
  · simp[Value.ownBlock]at e
  · simp[Value.ownBlock]at e;exact hn a rfl e)
 have hg4:w4.heap[g]?=w3.heap[g]?:=hne g k3.lt (fun a e=>(k3.lg e).1.symm);have hs4:(w4.setCell ⟨g,0,none⟩ v).heap.size=w4.heap.size:=by simp[World.setCell]
 have hoth:∀j,j≠g->(w4.setCell ⟨g,0,none⟩ v).heap[j]?=w4.heap[j]?:=fun j hj=>Below.heap_setCell _ _ _ _ hj;obtain⟨gl,cl',cur,hv,_,hrow,_⟩:∃g' cap cur,v= .slice (some ⟨g',0,none⟩) (ls.length+1) cap/\0<=g'/\w4.heap[g']?=some (.cells cur 37 (0,0))/\ls.length+1<=cap:=by
  rcases hown.2 with⟨_,h0⟩ | ⟨g',cap,cur,h1,h2,h3,h4,_⟩
  · omega
  · exact⟨g',cap,cur,h1,h2,h3,h4⟩
 have hglt:=aan hrow;have hgg:gl≠g:=abF hrow (hg4.trans k3.obj) (by decide);subst hv;have keepx:∀y:Wr,y.d.length=512/\Fil w3 y.b y.d->y.b≠g->(∀a,L=some a->y.b≠a.block)->y.d.length=512/\Fil (w4.setCell ⟨g,0,none⟩ (.slice (some ⟨gl,0,none⟩) (ls.length+1) cl')) y.b y.d:=fun y h1 h2 h3=>
  ⟨h1.1,h1.2.keep ((hoth _ h2).trans (hne _ h1.2.lt h3))⟩
 refine⟨(World.cell?_of_block (a:=⟨g,0,none⟩) hg4).trans k3.c0,(World.frozen?_of_block (a:=⟨g,0,none⟩) hg4).trans (k3.thaw 0),some ⟨gl,0,none⟩,cl',rfl,⟨?_,?_,World.ownsRow_nil _ _ _ _,?_,(fun y hy=>by cases hy), .inl k.sg,?_,(fun a e=>by cases e),?_,(fun y hy=>by cases hy)⟩,?_⟩
 · rw[heap_setCell_same w4 g 0 _ _ _ (hg4.trans k3.obj),List.length_append];rfl
 · rw[List.length_append];refine aaV hown fun j hj=> ?_;injection hj with hj;subst hj;exact hoth _ hgg
 · intro y hy;rcases List.mem_append.1 hy with hy | hy
   · exact keepx y (k3.lf y hy) (k3.xg.1 y hy) (fun a e=>(k3.lg e).2.1 y hy)
   · obtain rfl:y=x:=by simpa using hy
     refine keepx y ⟨hx3,hx4⟩ (fun e=>by have:=k.lt;omega) (fun a e h=> ?_);have:=k.llt e;omega
 · intro a e;injection e with e;subst e;show abj S w _ gl;rcases hat with h1 | h1
   · left;rcases L with _ | a
     · simp[Value.ownBlock]at h1
     · simp[Value.ownBlock]at h1;rw[h1];exact k.sl a rfl
   · right;simp[Value.ownBlock]at h1;rw[hs4,h1];exact⟨hb.size,by omega⟩
 · intro y hy;rcases List.mem_append.1 hy with hy | hy
   · exact .inl (k.sx y hy)
   · obtain rfl:y=x:=by simpa using hy
     right;rw[hs4];have:=hx4.lt;have:=hgr.size;exact⟨hx2,by omega⟩
 · refine((Tch.of_below (S:=S) hb).trans (Tch.grown (S:=S) hgr fun j hj=> ?_) (fun _ _ h=>h)).trans (Tch.set (S:=S) w4 ⟨g,0,none⟩ _ k.sg) (fun _ _ h=>h);rcases L with _ | a
   · simp[Value.ownBlock]at hj
   · simp[Value.ownBlock]at hj;rw[<-hj];exact k.sl a rfl
theorem amo (k:Rq S w g L cl W cw ls ws left true) (hleft:left≠0) (i:Nat) (hi:i<ls.length) (A:Option Addr) (cA:Nat):
 Calls Tryz.prog 66 #[.pointer (some ⟨g,0,none⟩), .int .i64 (i:Int), .slice A 512 cA] w fun e w'=>e= .returned (.int .i64 6)/\w=w':=by
 have c0:=k.c0;have c2:=k.c2;have c3:=k.c3;have hle0:(left==0)=false:=by rw[beq_eq_false_iff_ne];exact hleft
 have h0:¬(i:Int)<0:=by omega
 clear k;go_enter Tryz.func66,Tryz.ntmps66
 go_wp2
 go_ret
 exact⟨rfl,rfl⟩
theorem amp (k:Rq S w g L cl W cw ls ws 0 off) (i:Nat) (hi:i<ls.length) (A:Option Addr) (cA:Nat):
 Calls Tryz.prog 66 #[.pointer (some ⟨g,0,none⟩), .int .i64 (i:Int), .slice A 512 cA] w fun e w'=>e= .returned (.int .i64 6)/\Rq S w' g L cl W cw ls ws 0 true/\Tch S w w':=by
 have c0:=k.c0;have c2:=k.c2;have c3:=k.c3;have f2:=k.thaw 2;have k1:=k.set2 true;have d2:=k1.c2;have K1:=hE0 k1;have T1:=hE0 (Tch.set (S:=S) w ⟨g,2,none⟩ (.bool true) k.sg);have h0:¬(i:Int)<0:=by omega
 clear k k1;go_enter Tryz.func66,Tryz.ntmps66
 go_wp2
 go_ret
 exact⟨rfl,K1.out,T1.out⟩
theorem amq (k:Rq S w g L cl W cw ls ws left false) (hws:ws.length<=1000000) (hleft:left<0) (i:Nat) (hi:i<ls.length) (A:Option Addr) (cA:Nat) (d:List UInt8) (hd:d.length=512) (hr:Rd w w.heap.size A 512 d) (hAg:∀a,A=some a->a.block≠g):
 Calls Tryz.prog 66 #[.pointer (some ⟨g,0,none⟩), .int .i64 (i:Int), .slice A 512 cA] w fun e w'=>e= .returned (.int .i64 0)/\(∃W' cw' b cb,Rq (abj S w w') w' g L cl W' cw' ls (ws++ [⟨i,b,cb,d⟩]) left false)/\Tch S w w':=by
 obtain⟨bA,oA,rfl,hlA⟩:∃b o,A=some ⟨b,o,none⟩/\b<w.heap.size:=by
  obtain⟨b,o,e,h,_⟩:=hr.2 (by omega);exact⟨b,o,e,h⟩
 have c0:=k.c0;have c2:=k.c2;have c3:=k.c3;have h0:¬(i:Int)<0:=by omega
 have hle0:(left==0)=false:=by rw[beq_eq_false_iff_ne];omega
 obtain⟨w0,hw0⟩:=nmE w.drew;have k0:Rq S w0 g L cl W cw ls ws left false:=by rw[<-hw0];exact k.drew
 have hsz0:w0.heap.size=w.heap.size:=by rw[<-hw0];rfl
 have r0:Rd w0 w0.heap.size (some ⟨bA,oA,none⟩) 512 d:=by rw[hsz0,<-hw0];exact hr.drew
 have HT0:Hid (Tch S w w0):=(show Tch S w w0 by rw[<-hw0];exact(Tch.refl _ _).drew);have hA:w0.heap[g]?=some (.cells #[.slice L ls.length cl, .slice W ws.length cw, .bool false, .int .i64 left] 64 (0,0)):=k0.obj;have K0:=hE0 k0;have HW0:=hE0 hw0;have HD:=hE0 hd;have HSZ:=hE0 hsz0;have R0:=hE0 r0;clear hw0 k0 r0 hd k hr hsz0 hAg hlA hA;go_enter Tryz.func66,Tryz.ntmps66
 go_wp2_with fail
 refine aad w0.heap.size [([0,1,2,3,4,5,7],6),([],8),([9],10)] [] [11,12,13,14] (by kernel_rfl) (by kernel_rfl) (by kernel_rfl) (fun _ _ _ _ _ h=>h) ?_;rw[HW0.out];clear c0 c2 c3 hle0 hleft;have q0:∀x:LaterB w0.heap.size w0,x.val.cell? ⟨g,1,none⟩=some (.slice W ws.length cw):=fun x=>(x.ext.cell (p:=⟨g,1,none⟩) K0.out.lt).trans K0.out.c1;refine tail_cons (l:= ?seg1) ?hseg1 ?_
 case hseg1=>simp only[pick,lE1,lE2,lE3];rfl
 repeat (go_big_quiet_step (fail))
 refine wpQuiet_nil ?_;clear q0;refine aag (some 53) (w1:=w0.alloc (.cells #[] 5)) (v:= .slice (some ⟨w0.heap.size,0,none⟩) 0 0) rfl rfl rfl (aah rfl rfl (agA w0)) ((Below.refl _ _).alloc (Nat.le_refl _) _) ⟨w0.heap.size,Nat.le_refl _,?_⟩;simp only[Act.put,lE4,lE5,lE6];obtain⟨w1,hw1⟩:=nmE (w0.alloc (.cells #[] 5));have own1:w1.ownsRow w0.heap.size 5 1 (.slice (some ⟨w0.heap.size,0,none⟩) 0 0) 0 (([]:List UInt8).map bv):=by rw[<-hw1];exact World.ownsRow_lit w0 _ 0 (Nat.le_refl _) (by unfold maxLen;omega) rfl
 have r1:Rd w1 w0.heap.size (some ⟨bA,oA,none⟩) 512 d:=by rw[<-hw1];exact R0.out.alloc (Nat.le_refl _) _
 have hb1:=abE hw1;rw[hw1];clear hw1;refine tail_cons (l:= ?seg2) ?hseg2 ?_
 case hseg2=>rfl
 refine wpQuiet_nil ?_;refine afz (some 55) (.tmp 53) (.tmp 54) 37 5 rfl rfl rfl rfl Tryz.underlying37 ac8 (.slice (some ⟨w0.heap.size,0,none⟩) 0 0) 0 [] rfl own1 hb1.size w0.heap.size ⟨bA,oA,none⟩ 512 cA d rfl r1 (by omega) ?_;intro x2 w2 own2 hb2;obtain⟨b,cb,rfl,_,_⟩:=aeS own2 (by omega);have own2':w2.ownsRow w0.heap.size 5 1 (.slice (some ⟨b,0,none⟩) 512 cb) 512 (d.map bv):=by simpa using own2
 have hbb:=(own2'.lt b rfl).1;have hfil:=Fil.of_own own2';have hb02:Below w0.heap.size w0 w2:=hb1.trans hb2;refine⟨w0.heap.size,Nat.le_refl _,?_⟩;clear own1 r1 hb1 own2 own2' hb2;refine tail_cons (l:= ?seg3) ?hseg3 ?_
 case hseg3=>simp only[pick,lE1,lE2,lE3];rfl
 simp only[Act.put,List.setIfInBounds_toArray,List.set_cons_zero,List.set_cons_succ,Nat.zero_add];repeat (go_big_quiet_step (fail))
 refine wpQuiet_nil ?_;obtain⟨w3,hw3⟩:=nmE (w2.alloc (.cells #[.int .i64 (i:Int), .slice (some ⟨b,0,none⟩) 512 cb] 140));have hro:=alp w2 (i:Int) (some ⟨b,0,none⟩) 512 cb;rw[hw3]at hro;have hb23:=abE hw3;have hn3:=anE hw3;have hb3:Below w0.heap.size w0 w3:=hb02.trans (hb23.mono hb02.size);refine aag (some 57) (w1:=w3) (v:= .slice (some ⟨w2.heap.size,0,none⟩) 1 1) rfl rfl rfl ?rv1 (hb23.mono hb02.size) ⟨w0.heap.size,Nat.le_refl _,?_⟩
 case rv1=>exact aah rfl rfl hro
 refine aam (l:= ?la3) (t:= ?tl3) ?hla3 ?htl3 ?_
 case hla3=>rfl
 case htl3=>simp only[pick,lE1,lE2,lE3];rfl
 refine wpQuiet_nil ?_;simp only[Act.put,lE4,lE5,lE6];obtain⟨i0,hi0,hz0,hz1,hz2⟩:=info_parts aik;have hwcap:=K0.out.caps;have hnew:∀j u,[Value.int .i64 (i:Int), .slice (some ⟨b,0,none⟩) 512 cb][j]?=some u->w3.cell? ((⟨w2.heap.size,0,none⟩:Addr).add j)=some u:=by
  intro j u hu;have e:(⟨w2.heap.size,0,none⟩:Addr).add j=⟨w2.heap.size,j,none⟩:=by unfold Addr.add;split<;>simp_all
  rw[e,cell_of_row w3 _ j _ _ (0,0) hn3];simpa using hu
 have hone:∀u∈ [Value.int .i64 (i:Int), .slice (some ⟨b,0,none⟩) 512 cb],u.oneCell'=true:=by
  intro u hu;simp at hu;rcases hu with rfl | rfl<;>rfl
 have k3:=K0.out.below hb3;refine wpList_append_own_at w3 rfl (.tmp 51) (.tmp 57) 62 rfl 0 140 i0 _ 2 32 Tryz.underlying62 hi0 hz0 hz1 hz2 rfl (by decide) (.slice W ws.length cw) ws.length (ag6 ws) rfl k3.wrow ⟨w2.heap.size,0,none⟩ 1 1 _ rfl rfl hnew hone (by unfold maxLen;omega) (by omega) (Nat.zero_le _) ?_;intro v4 w4 own4 gr4 _ at4;have own4':w4.ownsRow 0 140 2 v4 (ws.length+1) (ag6 (ws++ [⟨i,b,cb,d⟩])):=by rw[adK];exact own4
 obtain⟨p1,p2,W',cw',rfl,p3,p4⟩:=K0.out.pushed hb3 ⟨i,b,cb,d⟩ hi hbb HD.out (hfil.keep (hb23.block b hfil.lt)) v4 own4' gr4 at4;have P3:=hE0 p3;have P4:=hE0 p4;clear p3 p4 own4 own4' gr4 at4 k3 hone hnew hi0 hz0 hz1 hz2 hn3 hro hw3;go_wp2
 go_ret
 refine⟨rfl,⟨W',cw',b,cb,P3.out.more fun j hj=> ?_⟩,HT0.out.trans P4.out (fun _ _ h=>h)⟩;rcases(P3.out.foot hj).1 with h1 | h1
 · exact .inl h1
 · exact .inr ⟨by have:=HSZ.out;omega,h1.2⟩
theorem amr (k:Rq S w g L cl W cw ls ws left false) (hws:ws.length<=1000000) (hleft:0<left) (hleft2:left<=9223372036854775807) (i:Nat) (hi:i<ls.length) (A:Option Addr) (cA:Nat) (d:List UInt8) (hd:d.length=512) (hr:Rd w w.heap.size A 512 d) (hAg:∀a,A=some a->a.block≠g):
 Calls Tryz.prog 66 #[.pointer (some ⟨g,0,none⟩), .int .i64 (i:Int), .slice A 512 cA] w fun e w'=>e= .returned (.int .i64 0)/\(∃W' cw' b cb,Rq (abj S w w') w' g L cl W' cw' ls (ws++ [⟨i,b,cb,d⟩]) (left-1) false)/\Tch S w w':=by
 obtain⟨bA,oA,rfl,hlA⟩:∃b o,A=some ⟨b,o,none⟩/\b<w.heap.size:=by
  obtain⟨b,o,e,h,_⟩:=hr.2 (by omega);exact⟨b,o,e,h⟩
 have c0:=k.c0;have c2:=k.c2;have c3:=k.c3;have h0:¬(i:Int)<0:=by omega
 have hle0:(left==0)=false:=by rw[beq_eq_false_iff_ne];omega
 have f3:=k.thaw 3;obtain⟨w0,hw0⟩:=nmE ((w.setCell ⟨g,3,none⟩ (.int .i64 (left-1))).drew);have k0:Rq S w0 g L cl W cw ls ws (left-1) false:=by rw[<-hw0];exact(k.set3 (left-1)).drew
 have hsz0:w0.heap.size=w.heap.size:=by rw[<-hw0];simp[World.setCell]
 have hb0:Tch (fun j=>j=g) w w0:=by rw[<-hw0];exact(Tch.set (S:=fun j=>j=g) w ⟨g,3,none⟩ _ rfl).drew
 have r0:Rd w0 w0.heap.size (some ⟨bA,oA,none⟩) 512 d:=by
  exact hr.tch hb0 (fun a e h=>hAg a e h)
 have HT0:Hid (Tch S w w0):=⟨hb0.os,hb0.tape,hb0.output,hb0.size,fun j hj hn=>hb0.block j hj (fun e=>hn (by rw[e];exact k.sg))⟩;clear hb0;have hA:w0.heap[g]?=some (.cells #[.slice L ls.length cl, .slice W ws.length cw, .bool false, .int .i64 (left-1)] 64 (0,0)):=k0.obj;have K0:=hE0 k0;have HW0:=hE0 hw0;have HD:=hE0 hd;have HSZ:=hE0 hsz0;have R0:=hE0 r0;clear hw0 k0 r0 hd k hr hsz0 hAg hlA hA;go_enter Tryz.func66,Tryz.ntmps66
 go_wp2_with fail
 refine aad w0.heap.size [([0,1,2,3,4,5,7],6),([],8),([9],10)] [] [11,12,13,14] (by kernel_rfl) (by kernel_rfl) (by kernel_rfl) (fun _ _ _ _ _ h=>h) ?_;rw[HW0.out];clear c0 c2 c3 hle0 hleft hleft2 f3;have q0:∀x:LaterB w0.heap.size w0,x.val.cell? ⟨g,1,none⟩=some (.slice W ws.length cw):=fun x=>(x.ext.cell (p:=⟨g,1,none⟩) K0.out.lt).trans K0.out.c1;refine tail_cons (l:= ?seg1) ?hseg1 ?_
 case hseg1=>simp only[pick,lE1,lE2,lE3];rfl
 repeat (go_big_quiet_step (fail))
 refine wpQuiet_nil ?_;clear q0;refine aag (some 53) (w1:=w0.alloc (.cells #[] 5)) (v:= .slice (some ⟨w0.heap.size,0,none⟩) 0 0) rfl rfl rfl (aah rfl rfl (agA w0)) ((Below.refl _ _).alloc (Nat.le_refl _) _) ⟨w0.heap.size,Nat.le_refl _,?_⟩;simp only[Act.put,lE4,lE5,lE6];obtain⟨w1,hw1⟩:=nmE (w0.alloc (.cells #[] 5));have own1:w1.ownsRow w0.heap.size 5 1 (.slice (some ⟨w0.heap.size,0,none⟩) 0 0) 0 (([]:List UInt8).map bv):=by rw[<-hw1];exact World.ownsRow_lit w0 _ 0 (Nat.le_refl _) (by unfold maxLen;omega) rfl
 have r1:Rd w1 w0.heap.size (some ⟨bA,oA,none⟩) 512 d:=by rw[<-hw1];exact R0.out.alloc (Nat.le_refl _) _
 have hb1:=abE hw1;rw[hw1];clear hw1;refine tail_cons (l:= ?seg2) ?hseg2 ?_
 case hseg2=>rfl
 refine wpQuiet_nil ?_;refine afz (some 55) (.tmp 53) (.tmp 54) 37 5 rfl rfl rfl rfl Tryz.underlying37 ac8 (.slice (some ⟨w0.heap.size,0,none⟩) 0 0) 0 [] rfl own1 hb1.size w0.heap.size ⟨bA,oA,none⟩ 512 cA d rfl r1 (by omega) ?_;intro x2 w2 own2 hb2;obtain⟨b,cb,rfl,_,_⟩:=aeS own2 (by omega);have own2':w2.ownsRow w0.heap.size 5 1 (.slice (some ⟨b,0,none⟩) 512 cb) 512 (d.map bv):=by simpa using own2
 have hbb:=(own2'.lt b rfl).1;have hfil:=Fil.of_own own2';have hb02:Below w0.heap.size w0 w2:=hb1.trans hb2;refine⟨w0.heap.size,Nat.le_refl _,?_⟩;clear own1 r1 hb1 own2 own2' hb2;refine tail_cons (l:= ?seg3) ?hseg3 ?_
 case hseg3=>simp only[pick,lE1,lE2,lE3];rfl
 simp only[Act.put,List.setIfInBounds_toArray,List.set_cons_zero,List.set_cons_succ,Nat.zero_add];repeat (go_big_quiet_step (fail))
 refine wpQuiet_nil ?_;obtain⟨w3,hw3⟩:=nmE (w2.alloc (.cells #[.int .i64 (i:Int), .slice (some ⟨b,0,none⟩) 512 cb] 140));have hro:=alp w2 (i:Int) (some ⟨b,0,none⟩) 512 cb;rw[hw3]at hro;have hb23:=abE hw3;have hn3:=anE hw3;have hb3:Below w0.heap.size w0 w3:=hb02.trans (hb23.mono hb02.size);refine aag (some 57) (w1:=w3) (v:= .slice (some ⟨w2.heap.size,0,none⟩) 1 1) rfl rfl rfl ?rv1 (hb23.mono hb02.size) ⟨w0.heap.size,Nat.le_refl _,?_⟩
 case rv1=>exact aah rfl rfl hro
 refine aam (l:= ?la3) (t:= ?tl3) ?hla3 ?htl3 ?_
 case hla3=>rfl
 case htl3=>simp only[pick,lE1,lE2,lE3];rfl
 refine wpQuiet_nil ?_;simp only[Act.put,lE4,lE5,lE6];obtain⟨i0,hi0,hz0,hz1,hz2⟩:=info_parts aik;have hwcap:=K0.out.caps;have hnew:∀j u,[Value.int .i64 (i:Int), .slice (some ⟨b,0,none⟩) 512 cb][j]?=some u->w3.cell? ((⟨w2.heap.size,0,none⟩:Addr).add j)=some u:=by
  intro j u hu;have e:(⟨w2.heap.size,0,none⟩:Addr).add j=⟨w2.heap.size,j,none⟩:=by unfold Addr.add;split<;>simp_all
  rw[e,cell_of_row w3 _ j _ _ (0,0) hn3];simpa using hu
 have hone:∀u∈ [Value.int .i64 (i:Int), .slice (some ⟨b,0,none⟩) 512 cb],u.oneCell'=true:=by
  intro u hu;simp at hu;rcases hu with rfl | rfl<;>rfl
 have k3:=K0.out.below hb3;refine wpList_append_own_at w3 rfl (.tmp 51) (.tmp 57) 62 rfl 0 140 i0 _ 2 32 Tryz.underlying62 hi0 hz0 hz1 hz2 rfl (by decide) (.slice W ws.length cw) ws.length (ag6 ws) rfl k3.wrow ⟨w2.heap.size,0,none⟩ 1 1 _ rfl rfl hnew hone (by unfold maxLen;omega) (by omega) (Nat.zero_le _) ?_;intro v4 w4 own4 gr4 _ at4;have own4':w4.ownsRow 0 140 2 v4 (ws.length+1) (ag6 (ws++ [⟨i,b,cb,d⟩])):=by rw[adK];exact own4
 obtain⟨p1,p2,W',cw',rfl,p3,p4⟩:=K0.out.pushed hb3 ⟨i,b,cb,d⟩ hi hbb HD.out (hfil.keep (hb23.block b hfil.lt)) v4 own4' gr4 at4;have P3:=hE0 p3;have P4:=hE0 p4;clear p3 p4 own4 own4' gr4 at4 k3 hone hnew hi0 hz0 hz1 hz2 hn3 hro hw3;go_wp2
 go_ret
 refine⟨rfl,⟨W',cw',b,cb,P3.out.more fun j hj=> ?_⟩,HT0.out.trans P4.out (fun _ _ h=>h)⟩;rcases(P3.out.foot hj).1 with h1 | h1
 · exact .inl h1
 · exact .inr ⟨by have:=HSZ.out;omega,h1.2⟩
end
theorem apR (w:World) (b o c:Nat) (bs:List UInt8) (N:Nat) (hN:bs.length=512*N) (hN2:N<=1000) (hr:Rd w w.heap.size (some ⟨b,o,none⟩) bs.length bs) (hc:bs.length<=c) (hcm:c<=9223372036854775807):
 Calls Tryz.prog 9 #[.slice (some ⟨b,o,none⟩) bs.length c] w fun e w'=>e= .returned (.pointer (some ⟨w.heap.size,0,none⟩))/\(∃L cl ls,Rq (abj (fun _=>False) w w') w' w.heap.size L cl none 0 ls [] (-1) false/\aaW ls=bs)/\Below w.heap.size w w':=by
 obtain⟨w0,hw0⟩:=nmE (w.alloc (.cells #[.slice none 0 0, .slice none 0 0, .bool false, .int .i64 (-1)] 64));obtain⟨g,hg⟩:=nmE w.heap.size;have hb0:=abE hw0;have k0:Rq (abj (fun _=>False) w w0) w0 g none 0 none 0 [] [] (-1) false:=by
  rw[<-hw0,<-hg];exact⟨heap_alloc_new w _,World.ownsRow_nil _ _ _ _,World.ownsRow_nil _ _ _ _,(fun x hx=>by cases hx),(fun x hx=>by cases hx), .inr ⟨Nat.le_refl _,by simp⟩,(fun a e=>by cases e),(fun a e=>by cases e),(fun x hx=>by cases hx),(fun x hx=>by cases hx)⟩
 have K0:=hE0 k0;have HB0:=hE0 hb0;have HW0:=hE0 hw0;have HG:=hE0 hg;have HR:=hE0 hr;have HN:=hE0 hN;have hbl:bs.length<=512000:=by omega
 clear k0 hb0 hw0 hr hN;rw[hg];clear hg;go_enter Tryz.func9,Tryz.ntmps9
 go_wp2
 rw[HW0.out,HG.out];go_loopw [4] (fun i wr=>∃j:Nat,j<=N/\i= .int .i64 ((512*j:Nat):Int)/\(∃L cl ls,Rq (abj (fun _=>False) w wr) wr g L cl none 0 ls [] (-1) false/\aaW ls=bs.take (512*j))/\Below w.heap.size w wr) (fun i _=>512*N-(intOf i).toNat)
 case atStart=>exact⟨0,Nat.zero_le _,rfl,⟨_,_,_,K0.out,rfl⟩,HB0.out⟩
 case round=>
  obtain⟨j,hj,rfl,⟨L,cl,ls,kr,hjn⟩,hb⟩:=hrel;obtain⟨t,ht⟩:=nmE (512*j);rw[ht]at hjn ⊢;have hN:=HN.out;by_cases hlt:j<N
  · obtain⟨w1,hw1⟩:=nmE wr.drew;have k1:Rq (abj (fun _=>False) w w1) w1 g L cl none 0 ls [] (-1) false:=by rw[<-hw1];exact kr.drew
    have b1:Below w.heap.size w w1:=by rw[<-hw1];exact hb.drew
    have hls:512*ls.length=t:=by
     have h1:=abG ls (fun x hx=>(k1.lf x hx).1);have h2:=congrArg List.length hjn;rw[List.length_take]at h2;omega
    obtain⟨d,hd⟩:=nmE ((bs.drop t).take 512);have hdl:d.length=512:=by rw[<-hd,List.length_take,List.length_drop];omega
    have r1:Rd w1 w.heap.size (some ⟨b,o+t,none⟩) 512 d:=by
     have:=(HR.out.below b1).sub t 512 (by omega);rw[hd]at this;exact this
    have E:bs.take (t+512)=bs.take t++d:=by rw[<-hd,List.take_add]
    obtain⟨hc1,hc2,_,_⟩:=k1.caps;unfold maxLen at hc2;have s0:(t:Int)+512<=(bs.length:Int):=by omega
    have s1:¬c=t:=by omega
    have HE:=hE0 E;have HK1:=hE0 k1;have HB1:=hE0 b1;have HW1:=hE0 hw1;have HDL:=hE0 hdl;have HJN:=hE0 hjn;have HLS:=hE0 hls;have R1:=hE0 r1;have HT:=hE0 ht;clear k1 b1 hw1 hdl hd hjn hls r1 E kr hb ht hN;go_wp2_with fail
    refine aad w1.heap.size [([0,1,2,3,4,6,7,8,9,10],5),([],11),([],12)] [] [13,14,15,16] (by kernel_rfl) (by kernel_rfl) (by kernel_rfl) (fun _ _ _ _ _ h=>h) ?_;rw[HW1.out];have q0:∀x:LaterB w1.heap.size w1,x.val.cell? ⟨g,0,none⟩=some (.slice L ls.length cl):=fun x=>(x.ext.cell (p:=⟨g,0,none⟩) HK1.out.lt).trans HK1.out.c0;have s2:0<=(t:Int)+512:=by omega
    have s3:(t:Int)+512<=(c:Int):=by omega
    have s4:((t:Int)+512).toNat=t+512:=by omega
    have s5:IntKind.i64.wrap ((t:Int)+512)=(t:Int)+512:=by rw[IntKind.wrap_i64];omega
    refine tail_cons (l:= ?seg1) ?hseg1 ?_
    case hseg1=>simp only[pick,lE1,lE2,lE3];rfl
    repeat (go_big_quiet_step (fail))
    refine wpQuiet_nil ?_;clear q0 s2 s3 s4 s5;refine aag (some 19) (w1:=w1.alloc (.cells #[] 5)) (v:= .slice (some ⟨w1.heap.size,0,none⟩) 0 0) rfl rfl rfl (aah rfl rfl (agA w1)) ((Below.refl _ _).alloc (Nat.le_refl _) _) ⟨w1.heap.size,Nat.le_refl _,?_⟩;simp only[Act.put,lE4,lE5,lE6];obtain⟨w2,hw2⟩:=nmE (w1.alloc (.cells #[] 5));have own2:w2.ownsRow w1.heap.size 5 1 (.slice (some ⟨w1.heap.size,0,none⟩) 0 0) 0 (([]:List UInt8).map bv):=by rw[<-hw2];exact World.ownsRow_lit w1 _ 0 (Nat.le_refl _) (by unfold maxLen;omega) rfl
    have r2:Rd w2 w.heap.size (some ⟨b,o+t,none⟩) 512 d:=by rw[<-hw2];exact R1.out.alloc HB1.out.size _
    have hb2:=abE hw2;rw[hw2];clear hw2;refine tail_cons (l:= ?seg2) ?hseg2 ?_
    case hseg2=>rfl
    refine wpQuiet_nil ?_;refine afz (some 25) (.tmp 19) (.tmp 24) 37 5 rfl rfl rfl rfl Tryz.underlying37 ac8 (.slice (some ⟨w1.heap.size,0,none⟩) 0 0) 0 [] rfl own2 hb2.size w.heap.size ⟨b,o+t,none⟩ 512 (c-t) d rfl r2 (by omega) ?_;intro x3 w3 own3 hb3;have own3':w3.ownsRow w1.heap.size 5 1 x3 512 (d.map bv):=by simpa[Nat.add_sub_cancel_left]using own3
    obtain⟨b3,cb,rfl,_,_⟩:=aeS own3' (by omega);have hbb:=(own3'.lt b3 rfl).1;have hfil:=Fil.of_own own3';have hb03:Below w1.heap.size w1 w3:=hb2.trans hb3;refine⟨w1.heap.size,Nat.le_refl _,?_⟩;clear own2 r2 hb2 own3 own3' hb3;refine tail_cons (l:= ?seg3) ?hseg3 ?_
    case hseg3=>rfl
    refine wpQuiet_nil ?_;simp only[Act.put,lE4,lE5,lE6];obtain⟨w4,hw4⟩:=nmE (w3.alloc (.cells #[.slice (some ⟨b3,0,none⟩) 512 cb] 37));have hro:=apQ w3 (some ⟨b3,0,none⟩) 512 cb;rw[hw4]at hro;have hb34:=abE hw4;have hn4:=anE hw4;have hb4:Below w1.heap.size w1 w4:=hb03.trans (hb34.mono hb03.size);refine aag (some 26) (w1:=w4) (v:= .slice (some ⟨w3.heap.size,0,none⟩) 1 1) rfl rfl rfl ?rv1 (hb34.mono hb03.size) ⟨w1.heap.size,Nat.le_refl _,?_⟩
    case rv1=>exact aah rfl rfl hro
    refine aam (l:= ?la3) (t:= ?tl3) ?hla3 ?htl3 ?_
    case hla3=>rfl
    case htl3=>simp only[pick,lE1,lE2,lE3];rfl
    refine wpQuiet_nil ?_;simp only[Act.put,lE4,lE5,lE6];obtain⟨i0,hi0,hz0,hz1,hz2⟩:=info_parts aq1;have hnew:∀j u,[Value.slice (some ⟨b3,0,none⟩) 512 cb][j]?=some u->w4.cell? ((⟨w3.heap.size,0,none⟩:Addr).add j)=some u:=by
     intro j u hu;have e:(⟨w3.heap.size,0,none⟩:Addr).add j=⟨w3.heap.size,j,none⟩:=by unfold Addr.add;split<;>simp_all
     rw[e,cell_of_row w4 _ j _ _ (0,0) hn4];simpa using hu
    have hone:∀u∈ [Value.slice (some ⟨b3,0,none⟩) 512 cb],u.oneCell'=true:=by
     intro u hu;simp at hu;subst hu;rfl
    have k4:=HK1.out.below hb4;have hlsb:ls.length<=1000:=by have:=HLS.out;omega
    refine wpList_append_own_at w4 rfl (.tmp 18) (.tmp 26) 57 rfl 0 37 i0 _ 1 24 Tryz.underlying57 hi0 hz0 hz1 hz2 rfl (by decide) (.slice L ls.length cl) ls.length (ls.map Wr.one) rfl k4.lrow ⟨w3.heap.size,0,none⟩ 1 1 _ rfl rfl hnew hone (by unfold maxLen;omega) (by omega) (Nat.zero_le _) ?_;intro v5 w5 own5 gr5 _ at5;have own5':w5.ownsRow 0 37 1 v5 (ls.length+1) ((ls++ [(⟨0,b3,cb,d⟩:Wr)]).map Wr.one):=by simpa[Wr.one]using own5
    obtain⟨p1,p2,L',cl',rfl,p3,p4⟩:=HK1.out.lpushed hb4 ⟨0,b3,cb,d⟩ hbb HDL.out (hfil.keep (hb34.block b3 hfil.lt)) v5 own5' gr5 at5;have hsz:=HB1.out.size;have P5:Hid (Rq (abj (fun _=>False) w (w5.setCell ⟨g,0,none⟩ (.slice L' (ls.length+1) cl'))) (w5.setCell ⟨g,0,none⟩ (.slice L' (ls.length+1) cl')) g L' cl' none 0 (ls++ [⟨0,b3,cb,d⟩]) [] (-1) false):=p3.more fun j hj=>by
     rcases(p3.foot hj).1 with(h1 | h1) | h1
     · cases h1
     · exact .inr ⟨h1.1,(p3.foot hj).2⟩
     · exact .inr ⟨by omega,h1.2⟩
    have J5:Hid (aaW (ls++ [⟨0,b3,cb,d⟩])=bs.take (t+512)):=(show _=_ by rw[ahy,HJN.out,HE.out]);have B5:Hid (Below w.heap.size w (w5.setCell ⟨g,0,none⟩ (.slice L' (ls.length+1) cl'))):=HB1.out.trans (p4.below (fun j hj=>by rcases hj with h | h;cases h;exact h.1) hsz);clear p3 p4 own5 own5' gr5 at5 k4 hone hnew hi0 hz0 hz1 hz2 hn4 hro hw4;go_wp2
    go_roundw
    case rel=>exact⟨j+1,by omega,ata (by have:=HT.out;omega),⟨L',cl',_,P5.out,by rw[J5.out];congr 1;have:=HT.out;omega⟩,B5.out⟩
    case measure=>have:=HT.out;have:=HN.out;simp[intOf];omega
  · obtain rfl:j=N:=by omega
    rw[<-ht,<-HN.out,List.take_length]at hjn;have HH:Hid (∃L cl ls,Rq (abj (fun _=>False) w wr) wr g L cl none 0 ls [] (-1) false/\aaW ls=bs):=⟨L,cl,ls,kr,hjn⟩;have HB:=hE0 hb;have s6:(bs.length:Int)<(t:Int)+512:=by omega
    have s7:(t:Int)<=512000:=by omega
    clear kr hb hjn hN ht;go_wp2
    go_ret
    exact⟨rfl,HH.out,HG.out▸HB.out⟩
def full (x:UInt8):List UInt8:=List.replicate 512 x
def sec (bs:List UInt8) (s:Nat):List UInt8:=(bs.drop (512*s)).take 512
theorem apS (bs:List UInt8) (x:Nat × List UInt8) (h:x.1*512+512<=bs.length) (h2:x.2.length=512):sec (adL bs x) x.1=x.2:=by
 have e:(bs.take (x.1*512)).length=512*x.1:=by simp;omega
 unfold sec adL lay;rw[List.drop_append,e,List.drop_eq_nil_of_le (by omega),List.nil_append,Nat.sub_self,List.drop_zero,<-h2];exact List.take_left
theorem an7 (bs:List UInt8) (x:Nat × List UInt8) (s:Nat) (h:x.1*512+512<=bs.length) (h2:x.2.length=512) (hs:x.1≠s):sec (adL bs x) s=sec bs s:=by
 apply List.ext_getElem?;intro i;unfold sec adL lay;rcases Nat.lt_or_ge i 512 with hi | hi
 · rw[List.getElem?_take_of_lt hi,List.getElem?_take_of_lt hi,List.getElem?_drop,List.getElem?_drop];have e:(bs.take (x.1*512)).length=x.1*512:=by simp;omega
   rcases Nat.lt_or_ge s x.1 with h3 | h3
   · rw[List.getElem?_append_left (by omega),List.getElem?_take_of_lt (by omega)]
   · rw[List.getElem?_append_right (by omega),e,List.getElem?_append_right (by omega),h2,List.getElem?_drop];have e2:x.1*512+512+(512*s+i-x.1*512-512)=512*s+i:=by omega
     rw[e2]
 · rw[List.getElem?_eq_none (by simp;omega),List.getElem?_eq_none (by simp;omega)]
theorem acN (y:Wr) (r:List Wr):aaW (y::r)=y.d++aaW r:=by simp[aaW]
theorem alq:∀(ls:List Wr) (i:Nat) (y:Wr),(∀x∈ls,x.d.length=512)->ls[i]?=some y->((aaW ls).drop (i*512)).take 512=y.d
 | [],_,_,_,h=>by simp at h
 | z::r,0,y,hl,h=>by
  simp at h;subst h;have:=hl z (by simp);rw[acN,Nat.zero_mul,List.drop_zero,<-this,List.take_left]
 | z::r,i+1,y,hl,h=>by
  have hz:=hl z (by simp);have e:(i+1)*512=z.d.length+i*512:=by omega
  rw[acN,e,List.drop_append,List.drop_of_length_le (by omega),List.nil_append,Nat.add_sub_cancel_left];exact alq r i y (fun x hx=>hl x (by simp[hx])) (by simpa using h)
theorem ajm:∀(ls:List Wr) (s:Nat) (x:Wr),(∀y∈ls,y.d.length=512)->x.d.length=512->s<ls.length->aaW (ls.set s x)=lay (aaW ls) (s*512) x.d
 | [],_,_,_,_,h=>by simp at h
 | z::r,0,x,hl,hx,h=>by
  have hz:=hl z (by simp);rw[List.set_cons_zero,acN,acN];unfold lay;rw[Nat.zero_mul,List.take_zero,List.nil_append,Nat.zero_add,hx,<-hz,List.drop_left]
 | z::r,s+1,x,hl,hx,h=>by
  have hz:=hl z (by simp);have ih:=ajm r s x (fun y hy=>hl y (by simp[hy])) hx (by simpa using h);have e:(s+1)*512=z.d.length+s*512:=by omega
  rw[List.set_cons_succ,acN,acN,ih];unfold lay;have e2:z.d.length+s*512+x.d.length=z.d.length+(s*512+x.d.length):=by omega
  rw[e,e2,List.take_length_add_append,List.drop_length_add_append,List.append_assoc]
def All5 (ls:List Wr):Prop:=∀y∈ls,y.d.length=512
theorem All5.set{ls:List Wr}(h:All5 ls){x:Wr}(hx:x.d.length=512) (s:Nat):All5 (ls.set s x):=fun y hy=>by
 rcases List.mem_or_eq_of_mem_set hy with h1 | rfl
 · exact h y h1
 · exact hx
theorem agB:∀(l ls:List Wr),All5 ls->(∀x∈l,x.s<ls.length/\x.d.length=512)->aaW (ac3 ls l)=aeB (aaW ls) (l.map Wr.two)
 | [],_,_,_=>rfl
 | x::r,ls,h,hl=>by
  have hx:=hl x (by simp);have e:ac3 ls (x::r)=ac3 (ls.set x.s x) r:=rfl;rw[e,agB r _ (h.set hx.2 _) (fun y hy=>by rw[List.length_set];exact hl y (by simp[hy])),ajm ls x.s x h hx.2 hx.1];rfl
theorem afA (bs:List UInt8) (l:List (Nat × List UInt8)) (x:Nat × List UInt8) (i:Nat):aa7 bs (l++ [x]) i=if x.1=i then x.2 else aa7 bs l i:=by
 unfold aa7;rw[List.reverse_append,List.reverse_singleton,List.singleton_append,List.find?_cons];by_cases h:x.1=i
 · rw[if_pos h];simp[h]
 · rw[if_neg h];have:(x.1==i)=false:=by rw[beq_eq_false_iff_ne];exact h
   rw[this]
theorem aex (ls:List Wr) (i:Nat) (y:Wr) (h5:All5 ls) (hy:ls[i]?=some y) (n:Nat):∀vs:List Wr,vs.length=n->aa7 (aaW ls) (vs.map Wr.two) i=(aeC i y vs).d:=by
 induction n with
 | zero=>
  intro vs hv;obtain rfl:=List.eq_nil_of_length_eq_zero hv;rw[List.map_nil,afw _ _ _ (by simp)];exact alq ls i y h5 hy
 | succ n ih=>
  intro vs hv;obtain⟨r,x,rfl⟩:∃r x,vs=r++ [x]:=⟨vs.dropLast,vs.getLast (by intro e;subst e;simp at hv),(List.dropLast_concat_getLast _).symm⟩;rw[List.map_append,List.map_singleton,afA,ahx,ih r (by simpa using hv)];show(if x.s=i then x.d else _)=_;split<;>rfl
structure Two (Sd Sr:Nat->Prop) (B:Nat) (w:World) (g h c:Nat) (W:Option Addr) (cw gr:Nat) (L:Option Addr) (cl:Nat) (V:Option Addr) (cv:Nat) (bs:List UInt8) (ls ws vs:List Wr) (left:Int) (off:Bool) (n:Nat):Prop where
 d:Dk Sd w g h c W cw bs ws left off
 r:Rq Sr w gr L cl V cv ls vs left off
 sd:∀j,Sd j->B<=j/\j<w.heap.size/\¬Sr j
 sr:∀j,Sr j->B<=j/\j<w.heap.size
 hj:aaW ls=bs
 hw:vs.map Wr.two=ws.map Wr.two
 l1: -1<=left
 l2:left<=9223372036854775807
 hn:ws.length<=n
 hl:ls.length<=128
 hB:B<=w.heap.size
section
variable {Sd Sr:Nat->Prop} {B:Nat} {w w1 w2:World} {g h c:Nat} {W:Option Addr} {cw gr:Nat} {L:Option Addr} {cl:Nat} {V:Option Addr} {cv:Nat} {bs:List UInt8} {ls ws vs:List Wr} {left:Int} {off:Bool} {n:Nat}
theorem Rq.grown{S:Nat->Prop}{w0 w1:World}{w:World}{g:Nat}{L:Option Addr}{cl:Nat}{W:Option Addr}{cw:Nat}{ls ws:List Wr}{left:Int}{off:Bool}(k:Rq S w g L cl W cw ls ws left off):Rq (abj S w0 w1) w g L cl W cw ls ws left off:=k.more fun _ hj=> .inl (k.foot hj).1
end
theorem Rd.own'{w:World}{base n c:Nat}{A:Option Addr}{bs:List UInt8}(h:w.ownsRow base 5 1 (.slice A n c) n (bs.map bv)):Rd w w.heap.size A n bs/\∀a,A=some a->base<=a.block:=by
 obtain⟨A',c',e,_,hr⟩:=acR h;injection e with e1;subst e1;exact⟨hr,fun a e=>(h.lt a.block (by rw[e];rfl)).1⟩
def adu (b:List UInt8) (j:Nat):List UInt8:=((List.range j).map fun i=>afk b i).flatten
theorem adM (b:List UInt8) (j:Nat):adu b (j+1)=adu b j++afk b j:=by simp[adu,List.range_succ]
theorem ae7 (b:List UInt8) (j:Nat):adu b j=b.take (512*j)++List.replicate (512*j-b.length) 0:=by
 induction j with
 | zero=>simp[adu]
 | succ j ih=>
  rw[adM,ih];unfold afk;have e:512*(j+1)=512*j+512:=by omega
  rw[e,Nat.mul_comm j 512];by_cases h:512*j<=b.length
  · rw[show 512*j-b.length=0 by omega,List.replicate_zero,List.append_nil,<-List.append_assoc,List.take_add];congr 2;omega
  · rw[List.drop_eq_nil_of_le (by omega),List.take_nil,List.nil_append,List.take_of_length_le (by omega),List.take_of_length_le (by omega),List.append_assoc,List.replicate_append_replicate];congr 2;omega
theorem aks (b:List UInt8) (K:Nat) (hK:need b.length=K):(adu b K).take b.length=b:=by
 unfold need at hK;rw[ae7,show b.take (512*K)=b from List.take_of_length_le (by omega),List.take_left]
theorem aeI (l:List (Nat × List UInt8)) (bs:List UInt8) (i:Nat) (hf:am4 bs.length l):aa7 (aeB bs l) [] i=aa7 bs l i:=by
 have sec_last:∀z:List UInt8,aa7 z [] i=sec z i:=fun z=>by
  rw[afw z [] i (by simp)];unfold sec;rw[Nat.mul_comm]
 rw[sec_last];obtain⟨r,hr⟩:=nmE l.reverse;have hl:l=r.reverse:=by rw[<-hr,List.reverse_reverse]
 subst hl;clear hr;induction r with
 | nil=>exact(sec_last bs).symm
 | cons x r ih=>
  rw[List.reverse_cons]at hf ⊢;have hf':am4 bs.length r.reverse:=fun y hy=>hf y (List.mem_append_left _ hy);have hx:=hf x (by simp);have hlen:=ab8 r.reverse bs hf';rw[ahv,afA];by_cases h:x.1=i
  · rw[if_pos h,<-h];exact apS _ x (by rw[hlen];exact hx.1) hx.2
  · rw[if_neg h,an7 _ x i (by rw[hlen];exact hx.1) hx.2 h];exact ih hf'
theorem adv (z:List UInt8) (p:Nat) (b:List UInt8) (j i:Nat):aa7 z (afx p b j) i=if p<=i/\i<p+j then afk b (i-p) else aa7 z [] i:=by
 induction j with
 | zero=>rw[if_neg (by omega)];rfl
 | succ j ih=>
  rw[agz,afA,ih];by_cases h:p+j=i
  · rw[if_pos h,if_pos (by omega),show i-p=j by omega]
  · rw[if_neg h];by_cases h2:p<=i/\i<p+j
    · rw[if_pos h2,if_pos (by omega)]
    · rw[if_neg h2,if_neg (by omega)]
theorem agC{bs bs':List UInt8}{l l':List (Nat × List UInt8)}(p j:Nat) (h:∀i,i<j->aa7 bs l (p+i)=aa7 bs' l' (p+i)):ac2 bs l p j=ac2 bs' l' p j:=by
 induction j with
 | zero=>rfl
 | succ j ih=>rw[acM,acM,ih (fun i hi=>h i (by omega)),h j (by omega)]
theorem ams (z:List UInt8) (p:Nat) (b:List UInt8) (K:Nat):ac2 z (afx p b K) p K=adu b K:=by
 have:∀j,j<=K->ac2 z (afx p b K) p j=adu b j:=fun j=>by
  induction j with
  | zero=>intro _;rfl
  | succ j ih=>
   intro hj;rw[acM,adM,ih (by omega),adv,if_pos (by omega)];congr 2;omega
 exact this K (Nat.le_refl _)
theorem afP (w:World) (n:Nat) (hn:n<=9223372036854775807) (m:Nat) (hm:need n=m):
 Calls Tryz.prog 127 #[.int .i64 (n:Int)] w fun e w'=>e= .returned (.int .i64 (m:Int))/\w=w':=by
 unfold need at hm;by_cases h:n%512=0
 · have s1:decide ((0:Int)<(n:Int)%512)=false:=decide_eq_false (by omega);have HM:Hid ((n:Int)/512=(m:Int)):=(show _=_ by omega);clear hm;go_enter Tryz.func127,Tryz.ntmps127
   go_wp2
   go_ret
   exact⟨akm HM.out,rfl⟩
 · have s1:decide ((0:Int)<(n:Int)%512)=true:=decide_eq_true (by omega);have HM:Hid ((n:Int)/512+1=(m:Int)):=(show _=_ by omega);clear hm;go_enter Tryz.func127,Tryz.ntmps127
   go_wp2
   go_ret
   exact⟨akm HM.out,rfl⟩
theorem amt (b:List UInt8) (j r:Nat):((adu b (j+1+r)).drop (512*j)).take 512=afk b j:=by
 induction r with
 | zero=>
  have hl:(adu b j).length=512*j:=by rw[ae7];simp;omega
  have hp:=ac1 b j;rw[adM,<-hl,List.drop_left,<-hp,List.take_length]
 | succ r ih=>
  have hl:(adu b (j+1+r)).length=512*(j+1+r):=by rw[ae7];simp;omega
  rw[show j+1+(r+1)=j+1+r+1 by omega,adM,List.drop_append_of_le_length (by omega),List.take_append_of_le_length (by rw[List.length_drop];omega)];exact ih
section
variable {S:Nat->Prop} {w:World} {g:Nat} {L:Option Addr} {cl:Nat} {W:Option Addr} {cw:Nat} {ls ws:List Wr} {left:Int} {off:Bool}
theorem agD (k:Rq S w g L cl W cw ls ws left false) (hws:ws.length<=1000000) (hl0:left≠0) (hl2:left<=9223372036854775807) (i:Nat) (hi:i<ls.length) (A:Option Addr) (cA:Nat) (d:List UInt8) (hd:d.length=512) (hr:Rd w w.heap.size A 512 d) (hAg:∀a,A=some a->a.block≠g):
 Calls Tryz.prog 66 #[.pointer (some ⟨g,0,none⟩), .int .i64 (i:Int), .slice A 512 cA] w fun e w'=>e= .returned (.int .i64 0)/\(∃W' cw' b cb,Rq (abj S w w') w' g L cl W' cw' ls (ws++ [⟨i,b,cb,d⟩]) (aa9 left 1) false)/\Tch S w w':=by
 by_cases h0:left<0
 · have e:aa9 left 1=left:=by simp[aa9,h0]
   rw[e];exact amq k hws h0 i hi A cA d hd hr hAg
 · have e:aa9 left 1=left-1:=by simp[aa9,h0]
   rw[e];exact amr k hws (by omega) hl2 i hi A cA d hd hr hAg
theorem ahz (k:Rq S w g L cl W cw ls ws left off) (hbad:off=true\/left=0) (i:Nat) (hi:i<ls.length) (A:Option Addr) (cA:Nat):
 Calls Tryz.prog 66 #[.pointer (some ⟨g,0,none⟩), .int .i64 (i:Int), .slice A 512 cA] w fun e w'=>e= .returned (.int .i64 6)/\Rq S w' g L cl W cw ls ws left true/\Tch S w w':=by
 by_cases h0:left=0
 · subst h0;exact amp k i hi A cA
 · obtain rfl:off=true:=by rcases hbad with h | h;exact h;exact absurd h h0
   refine(amo k h0 i hi A cA).mono ?_;rintro e w' ⟨rfl,rfl⟩;exact⟨rfl,k,Tch.refl _ _⟩
theorem apT (k:Rq S w g L cl W cw ls ws left off) (hSl:∀j,S j->j<w.heap.size) (N:Nat) (hN:ls.length=N) (hN2:N<=128) (hws:ws.length<=100000) (hl2:left<=9223372036854775807) (p:Nat) (A:Option Addr) (cA:Nat) (b:List UInt8) (hr:Rd w w.heap.size A b.length b) (hA0:A=none->cA=0) (K:Nat) (hK:need b.length=K) (hfit:p+K<=N) (m:Nat) (hm:wk K left off=m):
 Calls Tryz.prog 68 #[.pointer (some ⟨g,0,none⟩), .int .i64 (p:Int), .slice A b.length cA] w fun e w'=>e= .returned (.int .i64 (if m<K then 6 else 0))/\(∃W' cw' vs,Rq (abj S w w') w' g L cl W' cw' ls vs (aa9 left m) (off || decide (m<K))/\vs.map Wr.two=ws.map Wr.two++afx p b m)/\Tch S w w':=by
 have hmK:m<=K:=by rw[<-hm];unfold wk;split;omega;split;omega;omega
 have hbl:b.length<=65536:=by unfold need at hK;omega
 have hon:off=true->m=0:=fun e=>by rw[<-hm];unfold wk;simp[e]
 have hml:off=false->(m:Int)<=left\/left<0:=fun e=>by
  rw[<-hm];unfold wk;by_cases h0:left<0
  · exact .inr h0
  · left;simp[e,h0];omega
 have hmlt:off=false->m<K->left=(m:Int):=fun e h=>by
  rw[<-hm]at h ⊢;unfold wk at h ⊢;by_cases h0:left<0
  · simp[e,h0]at h
  · simp[e,h0]at h ⊢;omega
 obtain⟨w1,hw1⟩:=nmE w.drew;have hz1:w1.heap.size=w.heap.size:=by rw[<-hw1];rfl
 have k1:Rq S w1 g L cl W cw ls ws left off:=by rw[<-hw1];exact k.drew
 have r1:Rd w1 w1.heap.size A b.length b:=by rw[hz1,<-hw1];exact hr.drew
 have t1:Tch S w w1:=by rw[<-hw1];exact(Tch.refl _ _).drew
 have HE:=hE0 (afP w1 b.length (by omega) K hK);have s1:decide ((p:Int)<0)=false:=decide_eq_false (by omega);have s2:decide (ls.length<p)=false:=decide_eq_false (by omega);have s3:decide ((ls.length:Int)-(p:Int)<(K:Int))=false:=decide_eq_false (by omega);obtain⟨hc1,hc2,_,_⟩:=k1.caps;unfold maxLen at hc2;have HK1:=hE0 k1;have HR:=hE0 r1;have HW1:=hE0 hw1;have HZ1:=hE0 hz1;have HT1:=hE0 t1;have HK:=hE0 hK;have HN:=hE0 hN;have HSL:=hE0 hSl;clear k hr hm k1 r1 hw1 t1 hz1 hK hN hSl;go_enter Tryz.func68,Tryz.ntmps68
 go_wp2_with fail
 refine aad w1.heap.size [([0,1,2,3,4,5,6,7,8,9,10,11,12,13,15,16,17,18,19,20,21],14)] [22,23] [] (by kernel_rfl) (by kernel_rfl) (by kernel_rfl) (fun _ _ _ _ _ h=>h) ?_;rw[HW1.out];clear HW1;have z0:∀z:LaterB w1.heap.size w1,z.val.cell? ⟨g,0,none⟩=some (.slice L ls.length cl):=fun z=>(z.ext.cell (p:=⟨g,0,none⟩) HK1.out.lt).trans HK1.out.c0;refine tail_cons (l:= ?seg1) ?hseg1 ?_
 case hseg1=>simp only[pick,lE1,lE2,lE3];rfl
 repeat (go_big_quiet_step (fail))
 refine wpQuiet_nil ?_;clear z0;refine aaf (vs:= #[.int .i64 (b.length:Int)]) Tryz.call127 rfl rfl rfl (R:=fun r w'=>r= .int .i64 (K:Int)/\w'=w1) (HE.out.mono ?_) w1.heap.size (Nat.le_refl _) ?_
 · rintro e w' ⟨rfl,rfl⟩;exact⟨_,rfl,Below.refl _ _,rfl,rfl⟩
 rintro r w2 _ ⟨rfl,rfl⟩;refine aam (l:= ?la2) (t:= []) ?hla2 ?htl2 ?_
 case hla2=>simp only[pick,lE1,lE2,lE3];rfl
 case htl2=>rfl
 simp only[Act.put,lE4,lE5,lE6];repeat (go_big_quiet_step (fail))
 refine wpQuiet_nil ?_;clear s1 s2 s3 HE;have OWN1:Hid ((w2.alloc (.cells #[] 5)).ownsRow w2.heap.size 5 1 (.slice (some ⟨w2.heap.size,0,none⟩) 0 0) 0 (([]:List UInt8).map bv)):=World.ownsRow_lit w2 _ 0 (Nat.le_refl _) (by unfold maxLen;omega) rfl;have HRA:=hE0 (HR.out.alloc (Nat.le_refl _) (.cells #[] 5));go_wp2_with (first
  | (at_builtin;go_must (refine aaj rfl (.tmp 34) (.tmp 35) 37 5 rfl Tryz.underlying37 ac8 w2.heap.size (.slice (some ⟨w2.heap.size,0,none⟩) 0 0) 0 [] rfl OWN1.out w2.heap.size A b.length cA b rfl HRA.out hA0 (by omega) (by simp) ?_);intro x3 w3 own3 hb3 gr3;have own4:w3.ownsRow w2.heap.size 5 1 x3 b.length (b.map bv):=(by simpa using own3);have OWN3:=hE0 own4;have HB3:Hid (Below w2.heap.size w2 w3):=((Below.refl _ _).alloc (Nat.le_refl _) _).trans hb3;clear own3 own4 gr3 hb3))
 have HB23:=hE0 HB3.out.size;obtain⟨B2,hB2⟩:=nmE w2.heap.size;rw[hB2]at OWN3 HB3 HB23;have HB2:=hE0 hB2;clear OWN1 HRA HR;clear hB2;go_loopw [7] (fun o wr=>∃al:List UInt8,b.length<=al.length/\al.length<=512*K/\al=b++List.replicate (al.length-b.length) 0/\wr.ownsRow B2 5 1 o al.length (al.map bv)/\Below B2 w2 wr) (fun o _=>match o with | .slice _ n _=>512*K-n | _=>0)
 case atStart=>exact⟨b,Nat.le_refl _,(by have:=HK.out;unfold need at this;omega),by simp,OWN3.out,HB3.out⟩
 case round=>
  obtain⟨al,h1,h2,h3,hown,hb⟩:=hrel;obtain⟨_,A7,c7,rfl⟩:=acT hown;by_cases hmod:al.length%512=0
  · have hl:al.length=512*K:=by have:=HK.out;unfold need at this;omega
    have e:al=adu b K:=by
     rw[ae7,List.take_of_length_le (by omega),<-hl];exact h3
    have s1:decide ((0:Int)<(al.length:Int)%512)=false:=decide_eq_false (by omega);have s4:(al.length:Int)/512=(K:Int):=by omega
    have hbs:Below w2.heap.size w2 wr:=by rw[HB2.out];exact hb
    have k4:=HK1.out.below hbs;have t4:Tch S w wr:=HT1.out.trans (Tch.of_below (S:=S) hbs) (fun _ _ h=>h);have k4':Rq (abj S wr wr) wr g L cl W cw ls ws (aa9 left 0) off:=by rw[afy];exact k4.grown
    have hA7:0<K->∃ba,A7=some ⟨ba,0,none⟩/\al.length<=c7/\Rd wr wr.heap.size (some ⟨ba,0,none⟩) al.length al/\¬S ba/\ba≠g:=fun h0=>by
     obtain⟨ba,cap,e1,hc,hrd⟩:=aeS hown (by omega);injection e1 with e1 _ e3;subst e1 e3;have hba:=(hown.lt ba rfl).1;have hz:=HZ1.out;have hb2:=HB2.out;refine⟨ba,rfl,hc,hrd,fun hs=> ?_,fun e=> ?_⟩
     · have:=HSL.out _ hs;omega
     · have:=HK1.out.lt;omega
    have hc7:c7<=9223372036854775807:=by
     rcases hown.2 with⟨h',_⟩ | ⟨_,_,_,h',_,_,_,hm,_⟩
     · injection h' with _ _ e;omega
     · injection h' with _ _ e;unfold maxLen at hm;omega
    have HA7:=hE0 hA7;have HAL:=hE0 hl;have HE:=hE0 e;have HT4:=hE0 t4;have K4:=hE0 k4';clear h3 hown hb e hbs k4 t4 k4' hA7 HB3 OWN3 HB23 hl;generalize wr=w5 at*;go_wp2
    clear s1;go_loopw [8] (fun i wr=>∃j:Nat,j<=m/\i= .int .i64 j/\(∃W' cw' vs,Rq (abj S w5 wr) wr g L cl W' cw' ls vs (aa9 left j) off/\vs.map Wr.two=ws.map Wr.two++afx p b j)/\Tch S w5 wr) (fun i _=>K-(intOf i).toNat)
    case atStart=>exact⟨0,Nat.zero_le _,rfl,⟨W,cw,ws,K4.out,by simp[afx]⟩,Tch.refl _ _⟩
    case round=>
     obtain⟨j,hj,rfl,⟨W',cw',vs,kr,hvs⟩,ht⟩:=hrel;have hvl:vs.length=ws.length+j:=by have:=congrArg List.length hvs;simpa[aeH]using this
     by_cases hlt:j<K
     · obtain⟨ba,rfl,hbc,hrd,hbS,hbg⟩:=HA7.out (by omega);have rr:=hrd.tch ht (fun a e hs=>by injection e with e;subst e;exact hbS hs);have rs:=rr.sub (512*j) 512 (by have:=HAL.out;omega);have ed:(al.drop (512*j)).take 512=afk b j:=by
        rw[HE.out,show K=j+1+(K-(j+1)) by omega];exact amt b j _
       rw[ed,Nat.zero_add]at rs;have HVS:=hE0 hvs;have HT:=hE0 ht;have hne:¬c7=512*j:=by have:=HAL.out;omega
       have hin:512*j+512<=c7:=by have:=HAL.out;omega
       by_cases hjm:j<m
       · have hof:off=false:=by
          cases off
          · rfl
          · have:=hon rfl;omega
         subst hof;have hml':=hml rfl;have hl0:aa9 left j≠0:=by unfold aa9;split<;>omega
         have hl3:aa9 left j<=9223372036854775807:=by unfold aa9;split<;>omega
         have HW:=agD kr (by omega) hl0 hl3 (p+j) (by have:=HN.out;omega) (some ⟨ba,512*j,none⟩) (c7-512*j) (afk b j) (ac1 b j) rs (fun a e=>by
          injection e with e;subst e;exact hbg)
         rw[ahw left j (by omega),Int.natCast_add]at HW;have HW:=hE0 HW;clear rr rs ed hvs ht kr hl0 hl3 hrd;go_wp2_with fail
         with_reducible refine HW.out.mono ?_
         rintro e w6 ⟨rfl,⟨W3,cw3,b3,cb3,k3⟩,t3⟩;have t03:=HT.out.regrow t3;have hsr:=HT.out.size;have k3':Rq (abj S w5 w6) w6 g L cl W3 cw3 ls (vs++ [⟨p+j,b3,cb3,afk b j⟩]) (aa9 left (j+1)) false:=k3.more fun i hi=>by
          have h3:=t3.size;rcases(k3.foot hi).1 with(h | h) | h
          · exact .inl h
          · exact .inr ⟨h.1,by omega⟩
          · exact .inr ⟨by omega,h.2⟩
         have e3:(vs++ [(⟨p+j,b3,cb3,afk b j⟩:Wr)]).map Wr.two=ws.map Wr.two++afx p b (j+1):=by rw[List.map_append,HVS.out,agz,List.append_assoc];rfl
         have K3:=hE0 k3';have E3:=hE0 e3;have T3:=hE0 t03;clear k3 t3 t03 k3' e3 HW;go_wp2
         go_roundw
         case rel=>exact⟨j+1,by omega,by go_num,⟨W3,cw3,_,K3.out,E3.out⟩,T3.out⟩
         case measure=>simp[intOf];omega
       · obtain rfl:j=m:=by omega
         have hbad:off=true\/aa9 left j=0:=by
          cases off
          · right;have:=hmlt rfl hlt;unfold aa9;split<;>omega
          · exact .inl rfl
         have HW:=ahz kr hbad (p+j) (by have:=HN.out;omega) (some ⟨ba,512*j,none⟩) (c7-512*j);rw[Int.natCast_add]at HW;have HW:=hE0 HW;clear rr rs ed hvs ht kr hrd;go_wp2_with fail
         with_reducible refine HW.out.mono ?_
         rintro e w6 ⟨rfl,k3,t3⟩;have t03:=HT.out.regrow t3;have hsr:=HT.out.size;have hs4:=HT4.out.size;have k3':Rq (abj S w w6) w6 g L cl W' cw' ls vs (aa9 left j) true:=k3.more fun i hi=>by
          have h3:=t3.size;rcases(k3.foot hi).1 with h | h
          · exact .inl h
          · exact .inr ⟨by omega,by omega⟩
         have K3:=hE0 k3';have T3:=hE0 (HT4.out.trans t03 (fun _ _ h=>h));clear k3 t3 t03 k3' HW;go_wp2
         go_ret
         exact⟨rfl,⟨W',cw',_,K3.out,HVS.out⟩,T3.out⟩
     · obtain rfl:j=K:=by omega
       obtain rfl:m=j:=by omega
       have hsr:=ht.size;have hs4:=HT4.out.size;have k3':Rq (abj S w wr) wr g L cl W' cw' ls vs (aa9 left m) off:=kr.more fun i hi=>by
        rcases(kr.foot hi).1 with h | h
        · exact .inl h
        · exact .inr ⟨by omega,h.2⟩
       have K3:=hE0 k3';have T3:=hE0 (HT4.out.trans ht (fun _ _ h=>h));have HVS:=hE0 hvs;clear kr ht hvs k3';go_wp2
       go_ret
       exact⟨rfl,⟨W',cw',_,K3.out,HVS.out⟩,T3.out⟩
  · have s1:decide ((0:Int)<(al.length:Int)%512)=true:=decide_eq_true (by omega);have hlt:al.length<512*K:=by
     rcases Nat.lt_or_ge al.length (512*K)with h | h
     · exact h
     · exfalso;have:al.length=512*K:=by omega
       omega
    have hbw:Below wr.heap.size wr (wr.alloc (.cells #[.int .u8 0] 5)):=(Below.refl _ _).alloc (Nat.le_refl _) _;have OWN:=hE0 (aax hown hbw);have hn4:Fill (wr.alloc (.cells #[.int .u8 0] 5)) wr.heap.size 5 [0]:=heap_alloc_new wr _;have RD:=hE0 hn4.reads;have hB2w:B2<=wr.heap.size:=by
     have h5:=hb.size;have h6:=HB2.out;omega
    have e3:al++ [0]=b++List.replicate ((al++ [(0:UInt8)]).length-b.length) 0:=by
     rw[List.length_append,List.length_singleton,show al.length+1-b.length=(al.length-b.length)+1 by omega,List.replicate_succ',<-List.append_assoc,<-h3]
    have HE3:=hE0 e3;have HB:=hE0 (hb.trans (hbw.mono hB2w));clear h3 hown hb hbw hn4 e3 OWN3 HB3;go_wp2_with (first
     | (at_builtin;go_must (refine aaj rfl (.tmp 41) (.tmp 42) 37 5 rfl Tryz.underlying37 ac8 B2 _ al.length al rfl OWN.out _ (some ⟨wr.heap.size,0,none⟩) 1 1 [0] rfl RD.out (fun e=>by cases e) (by omega) (by simp;omega) ?_);intro x4 w4 own4 hb4 gr4;have OWN4:=hE0 own4;have HB4:=hE0 (HB.out.trans hb4);clear own4 gr4 hb4))
    go_roundw
    case rel=>
     obtain⟨_,A8,c8,rfl⟩:=acT OWN4.out;refine⟨al++ [0],by simp;omega,by simp;omega,HE3.out,?_,HB4.out⟩;have:=OWN4.out;rw[List.length_append,List.length_singleton]at this ⊢;exact this
    case measure=>
     obtain⟨_,A8,c8,rfl⟩:=acT OWN4.out;simp;omega
end
theorem af5{w:World}{base n c:Nat}{bs:List UInt8}(h:w.ownsRow base 5 1 (.slice none n c) n (bs.map bv)):n=0/\c=0:=by
 rcases h.2 with⟨h',h0⟩ | ⟨_,_,_,h',_⟩
 · injection h' with _ _ e;exact⟨h0,e⟩
 · injection h' with e;cases e
theorem aeE{w:World}{base n c:Nat}{A:Option Addr}{bs:List UInt8}(h:w.ownsRow base 5 1 (.slice A n c) n (bs.map bv)):n<=c/\c<=maxLen:=by
 rcases h.2 with⟨h',h0⟩ | ⟨_,_,_,h',_,_,h1,h2,_⟩
 · injection h' with _ _ e;rw[h0,e];exact⟨Nat.le_refl _,Nat.zero_le _⟩
 · injection h' with _ _ e;rw[e];exact⟨h1,h2⟩
section
variable {S:Nat->Prop} {w:World} {g:Nat} {L:Option Addr} {cl:Nat} {W:Option Addr} {cw:Nat} {ls ws:List Wr} {left:Int} {off:Bool}
theorem arH (k:Rq S w g L cl W cw ls ws left off) (h5:All5 ls) (hN2:ls.length<=128) (p n K:Nat) (hK:need n=K) (hfit:p+K<=ls.length) (ho:off=true->n=0) (out:List UInt8) (hout:(ac2 (aaW ls) (ws.map Wr.two) p K).take n=out) (hol:out.length=n):
 Calls Tryz.prog 181 #[.pointer (some ⟨g,0,none⟩), .int .i64 (p:Int), .int .i64 (n:Int)] w fun e w'=>anl out w e w':=by
 have hbl:n<=65536:=by unfold need at hK;omega
 obtain⟨w1,hw1⟩:=nmE w.drew;have hz1:w1.heap.size=w.heap.size:=by rw[<-hw1];rfl
 have hb1:=adE hw1;have k1:=k.below hb1;have HE:=hE0 (fun W=>afP W n (by omega) K hK);have s0:decide ((n:Int)<0)=false:=decide_eq_false (by omega);have s1:decide ((p:Int)<0)=false:=decide_eq_false (by omega);have s2:decide (ls.length<p)=false:=decide_eq_false (by omega);have s3:decide ((ls.length:Int)-(p:Int)<(K:Int))=false:=decide_eq_false (by omega);have HK1:=hE0 k1;have HW1:=hE0 hw1;have HZ1:=hE0 hz1;have HB1:=hE0 hb1;have HK:=hE0 hK;have H5:=hE0 h5;have HOUT:=hE0 hout;have HOL:=hE0 hol;clear k k1 hw1 hz1 hb1 hK h5 hout hol;go_enter Tryz.func181,Tryz.ntmps181
 go_wp2_with fail
 refine aad w1.heap.size [([0,1,2,3,4,5,6,7,8,9,10,11,12,13,14,15,16,18,19,20,21,22,23,24],17)] [25,26] [] (by kernel_rfl) (by kernel_rfl) (by kernel_rfl) (fun _ _ _ _ _ h=>h) ?_;rw[HW1.out];clear HW1;have z0:∀z:LaterB w1.heap.size w1,z.val.cell? ⟨g,0,none⟩=some (.slice L ls.length cl):=fun z=>(z.ext.cell (p:=⟨g,0,none⟩) HK1.out.lt).trans HK1.out.c0;refine tail_cons (l:= ?seg1) ?hseg1 ?_
 case hseg1=>simp only[pick,lE1,lE2,lE3];rfl
 repeat (go_big_quiet_step (fail))
 refine wpQuiet_nil ?_;clear z0;refine aaf (vs:= #[.int .i64 (n:Int)]) Tryz.call127 rfl rfl rfl (R:=fun r w'=>r= .int .i64 (K:Int)/\w'=w1) ((HE.out w1).mono ?_) w1.heap.size (Nat.le_refl _) ?_
 · rintro e w' ⟨rfl,rfl⟩;exact⟨_,rfl,Below.refl _ _,rfl,rfl⟩
 rintro r w2 _ ⟨rfl,rfl⟩;refine aam (l:= ?la2) (t:= []) ?hla2 ?htl2 ?_
 case hla2=>simp only[pick,lE1,lE2,lE3];rfl
 case htl2=>rfl
 simp only[Act.put,lE4,lE5,lE6];repeat (go_big_quiet_step (fail))
 refine wpQuiet_nil ?_;clear s0 s1 s2 s3;obtain⟨B,hB⟩:=nmE w2.heap.size;have HB:=hE0 hB;clear hB;go_wp2
 go_loopw [8,9] (fun o t wr=>∃j:Nat,j<=K/\t= .int .i64 j/\wr.ownsRow B 5 1 o (512*j) ((ac2 (aaW ls) (ws.map Wr.two) p j).map bv)/\Below B w2 wr/\(0<j->off=false)) (fun _ t _=>K-(intOf t).toNat)
 case atStart=>exact⟨0,Nat.zero_le _,rfl,World.ownsRow_nil _ _ _ _,Below.refl _ _,fun h=>absurd h (by omega)⟩
 case round=>
  obtain⟨j,hj,rfl,hown,hb,_⟩:=hrel;have hb2:Below w2.heap.size w2 wr:=by rw[HB.out];exact hb
  have kr:=HK1.out.below hb2;have hBw:B<=wr.heap.size:=by have:=hb2.size;have:=HB.out;omega
  by_cases hlt:j<K
  · have hof:off=false:=by
     cases off
     · rfl
     · have:=ho rfl;have:=HK.out;unfold need at this;omega
    subst hof;obtain⟨y,hy⟩:∃y,ls[p+j]?=some y:=⟨ls[p+j],List.getElem?_eq_getElem (by omega)⟩;have hrd:=af4 kr (p+j) y hy;obtain⟨x,hx⟩:=nmE (aa7 (aaW ls) (ws.map Wr.two) (p+j));have hxx:=aex ls (p+j) y H5.out hy _ ws rfl;rw[hx]at hxx;rw[<-hxx,Int.natCast_add]at hrd;have hxl:x.length=512:=by
     rw[<-hx];refine acv _ _ _ (fun z hz=> ?_) (by rw[abG ls H5.out];omega);obtain⟨v,hv,rfl⟩:=List.mem_map.1 hz;obtain⟨h1,h2,_⟩:=kr.wf v hv;rw[abG ls H5.out];exact⟨by show v.s*512+512<=_;omega,h2⟩
    have hsu:=acM (aaW ls) (ws.map Wr.two) p j;rw[hx]at hsu;have HRD:=hE0 hrd;have HXL:=hE0 hxl;have HSU:=hE0 hsu;have HOWN:=hE0 hown;have HBB:=hE0 hb;clear hrd hxl hsu hown hb hx hxx hy kr;go_wp2_with fail
    with_reducible refine(HE.out wr).mono ?_
    rintro e w3 ⟨rfl,rfl⟩;go_wp2_with fail
    with_reducible refine HRD.out.mono ?_
    rintro e w3 ⟨A',c',rfl,o3,b3⟩;rw[HXL.out]at o3 ⊢;have r3:=(Rd.own' o3).1;have hA3:A'=none->c'=0:=fun e=>by subst e;exact(af5 o3).2
    have HO3:=hE0 r3;have OWN3:=hE0 (aax HOWN.out b3);have HB3:=hE0 (HBB.out.trans (b3.mono hBw));have hB3:B<=w3.heap.size:=Nat.le_trans hBw b3.size;clear o3 b3 r3 HRD HOWN;go_wp2_with (first
     | (at_builtin;go_must (refine aaj rfl (.tmp 56) (.tmp 57) 37 5 rfl Tryz.underlying37 ac8 B _ (512*j) (ac2 (aaW ls) (ws.map Wr.two) p j) rfl OWN3.out w3.heap.size A' 512 c' x rfl HO3.out hA3 (by omega) hB3 ?_);intro x4 w4 own4 hb4 gr4;have OWN4:=hE0 own4;have HB4:=hE0 (HB3.out.trans hb4);clear own4 gr4 hb4))
    go_roundw
    case rel=>exact⟨j+1,by omega,by go_num,by rw[HSU.out];exact OWN4.out,HB4.out,fun _=>trivial⟩
    case measure=>simp[intOf];omega
  · obtain rfl:j=K:=by omega
    obtain⟨A7,c7,e7,hc7,hr7⟩:=acR hown;subst e7;have hcl:=aeE hown;have hcn:A7=none->c7=0:=fun e=>by subst e;exact(af5 hown).2
    unfold maxLen at hcl;have hn:n<=512*j:=by have:=HK.out;unfold need at this;omega
    have hrs:Rd wr wr.heap.size A7 n out:=by
     rcases A7 with _ | ⟨b7,o7,s7⟩
     · have h0:n=0:=by
        have:=(af5 hown).1;omega
       subst h0;have:out= []:=List.eq_nil_of_length_eq_zero HOL.out;rw[this];exact Rd.nil_
     · rcases Nat.eq_zero_or_pos n with h0 | h0
       · subst h0;have:out= []:=List.eq_nil_of_length_eq_zero HOL.out;rw[this];exact⟨rfl,fun h=>absurd h (by omega)⟩
       · obtain⟨b,o,e,_⟩:=hr7.2 (by omega);injection e with e;injection e with e1 e2 e3;subst e1 e2 e3;have:=hr7.sub 0 n (by omega);rw[List.drop_zero,HOUT.out]at this;exact this
    have RS:=hE0 (hrs.alloc (Nat.le_refl _) (.cells #[] 5));have OWN1:Hid ((wr.alloc (.cells #[] 5)).ownsRow wr.heap.size 5 1 (.slice (some ⟨wr.heap.size,0,none⟩) 0 0) 0 (([]:List UInt8).map bv)):=World.ownsRow_lit wr _ 0 (Nat.le_refl _) (by unfold maxLen;omega) rfl;have HBB:=hE0 hb;clear hown hr7 hrs hb kr;go_wp2_with fail
    with_reducible refine(HE.out wr).mono ?_
    rintro e w3 ⟨rfl,rfl⟩;go_wp2_with (first
     | (at_builtin;go_must (refine aaj rfl (.tmp 59) (.tmp 62) 37 5 rfl Tryz.underlying37 ac8 wr.heap.size (.slice (some ⟨wr.heap.size,0,none⟩) 0 0) 0 [] rfl OWN1.out wr.heap.size A7 n c7 out rfl RS.out hcn (by omega) (by simp) ?_);intro x2 w2' own2 hb2' gr2;have own3:w2'.ownsRow wr.heap.size 5 1 x2 out.length (out.map bv):=(by rw[HOL.out];simpa using own2);have OWN3:=hE0 own3;have HB2:=hE0 hb2';clear own2 own3 gr2 hb2'))
    go_ret2
    obtain⟨_,A',c',rfl⟩:=acT OWN3.out;have hbe:Below B w2 w2':=HBB.out.trans ((((Below.refl _ _).alloc (Nat.le_refl _) _).trans HB2.out).mono hBw);refine⟨A',c',rfl,?_,HB1.out.trans ?_⟩
    · obtain⟨q1,q2⟩:=OWN3.out;refine⟨q1,q2.imp id fun⟨g',cap',cur,a,b,c⟩=>⟨g',cap',cur,a,?_,c⟩⟩;have:=HZ1.out;have:=HB.out;omega
    · rw[<-HZ1.out,HB.out];exact hbe
end
def ac4:List Rk->List Value
 | []=> []
 | x::r=> .int .i64 x.o:: .int .i64 x.s:: .bool x.u::ac4 r
theorem afQ (a b:List Rk):ac4 (a++b)=ac4 a++ac4 b:=by
 induction a with
 | nil=>rfl
 | cons x r ih=>simp[ac4,ih]
theorem ajn:∀(l:List Rk) (i:Nat) (x:Rk),l[i]?=some x->(ac4 l)[i*3]?=some (.int .i64 x.o)/\(ac4 l)[i*3+1]?=some (.int .i64 x.s)/\(ac4 l)[i*3+2]?=some (.bool x.u)
 | [],_,_,h=>by simp at h
 | y::r,0,x,h=>by
  simp at h;subst h;exact⟨rfl,rfl,rfl⟩
 | y::r,i+1,x,h=>by
  have:=ajn r i x (by simpa using h);have e:(i+1)*3=i*3+1+1+1:=by omega
  rw[e];exact⟨by simpa[ac4]using this.1,by simpa[ac4]using this.2.1,by simpa[ac4]using this.2.2⟩
def asz (l:List Rk):Prop:=∀x∈l,(0<=x.o/\x.o<=1000000000)/\(0<=x.s/\x.s<=20000)
structure ImB (B g:Nat) (N:Int) (A1:Option Addr) (c1:Nat) (l:List Rk) (A2:Option Addr) (c2:Nat) (d:List (List UInt8)) (xs:List Value) (w:World):Prop where
 obj:w.heap[g]?=some (.cells #[.int .i64 N, .slice A1 l.length c1, .slice A2 d.length c2] 59 (0,0))
 rl:w.ownsRow B 132 3 (.slice A1 l.length c1) l.length (ac4 l)
 rd:w.ownsRow B 37 1 (.slice A2 d.length c2) d.length xs
 dt:DtO w d xs
 hB:B<=g
 hl:asz l
section
variable {B g n:Nat} {N:Int} {A1 A2:Option Addr} {c1 c2:Nat} {l:List Rk} {d:List (List UInt8)} {xs:List Value} {w w3 w4 w':World}
theorem ImB.stay (h:ImB B g N A1 c1 l A2 c2 d xs w) (hb:Below w.heap.size w w'):ImB B g N A1 c1 l A2 c2 d xs w':=
 ⟨(hb.block _ (aaa h.obj)).trans h.obj,aaO h.rl hb (abl h.rl),aaO h.rd hb (abl h.rd),h.dt.stay hb,h.hB,h.hl⟩
theorem ImB.lt (h:ImB B g N A1 c1 l A2 c2 d xs w):g<w.heap.size:=aaa h.obj
theorem aef{w:World}{B c:Nat}{A:Option Addr}{l:List Rk}(h:w.ownsRow B 132 3 (.slice A l.length c) l.length (ac4 l)) (hl:asz l):RkRd w w.heap.size A l:=fun hn=>by
 rcases h.2 with⟨hv,h0⟩ | ⟨b,cap,cur,hv,hbg,hg,hnc,hcm,hsz,htk⟩
 · omega
 · injection hv with e1 e2 e3;subst e1;refine⟨b,0,rfl,aaa hg,fun j x hx=> ?_⟩;have hj:j<l.length:=(List.getElem?_eq_some_iff.1 hx).1;obtain⟨q0,q1,q2⟩:=ajn l j x hx;have hb:=hl x (List.mem_of_getElem? hx);have hc:∀(i:Nat) (v:Value),i<l.length*3->(ac4 l)[i]?=some v->w.cell? ⟨b,i,none⟩=some v:=fun i v hi hv=>by
    rw[cell_of_row _ _ _ _ _ _ hg];rw[<-htk,List.getElem?_take,if_pos hi]at hv;rw[<-hv];simp
   simp only[Nat.zero_add];exact⟨hc _ _ (by omega) q0,hc _ _ (by omega) q1,hc _ _ (by omega) q2,by omega,by omega⟩
theorem ImB.rkrd (h:ImB B g N A1 c1 l A2 c2 d xs w):RkRd w w.heap.size A1 l:=aef h.rl h.hl
theorem ImB.dtrd (h:ImB B g N A1 c1 l A2 c2 d xs w):DtRd w w.heap.size A2 d:=h.dt.rd h.rd
theorem ImB.off (h:ImB B g N A1 c1 l A2 c2 d xs w){k:Nat}{cs:Array Value}{fz:Nat × Nat}{t:TypeId}(hk:w.heap[k]?=some (.cells cs t fz)) (ht:t≠59):g≠k:=fun e=>by
 subst e;have h2:=h.obj;rw[hk]at h2;injection h2 with h2;injection h2 with _ h2 _;exact ht h2
theorem ImB.pushB (h:ImB B g N A1 c1 l A2 c2 d xs w3){x:Rk}{v:Value}(own:w4.ownsRow B 132 3 v (l.length+1) (ac4 (l++ [x]))) (gr:w3.grownBy w4 (Value.slice A1 l.length c1).ownBlock) (hx:(0<=x.o/\x.o<=1000000000)/\(0<=x.s/\x.s<=20000)){B0:Nat}{w0:World}(hb:Below B0 w0 w3) (hB0:B0<=B) (hw0:B0<=w3.heap.size):
 ∃A1' c1',v= .slice A1' (l.length+1) c1'/\w4.heap[g]?=w3.heap[g]?/\ImB B g N A1' c1' (l++ [x]) A2 c2 d xs (w4.setCell ⟨g,1,none⟩ v)/\Below B0 w0 (w4.setCell ⟨g,1,none⟩ v):=by
 have hrow:=aif h.rl;have hg4:w4.heap[g]?=w3.heap[g]?:=gr.block g h.lt fun e=>by
  obtain⟨cs,fz,hc⟩:=hrow g e.symm;exact h.off hc (by decide) rfl
 have obj4:=hg4.trans h.obj;obtain⟨A,c,rfl,_⟩:=aaU own;have hrd4:w4.ownsRow B 37 1 (.slice A2 d.length c2) d.length xs:=aa0 h.rd gr fun k hk hrk=>by
  obtain⟨cs,fz,hc⟩:=hrow k hrk;exact abi h.rd hk hc (by decide)
 have hdt4:DtO w4 d xs:=h.dt.grown gr fun k hk=>by
  obtain⟨cs,fz,hc⟩:=hrow k hk;exact⟨cs,_,fz,by decide,hc⟩
 have gs:=abf w4 g 1 (.slice A (l.length+1) c);have ge:∀k,(Value.slice A1 l.length c1).ownBlock=some k->B0<=k:=fun k hk=>Nat.le_trans hB0 (abS h.rl k hk);refine⟨A,c,rfl,hg4,⟨?_,?_,?_,?_,h.hB,?_⟩,?_⟩
 · rw[List.length_append,List.length_singleton];exact heap_setCell_same w4 g 1 _ _ _ obj4
 · rw[List.length_append,List.length_singleton];exact aa0 own gs fun k hk hrk=>by injection hrk with hrk;subst hrk;exact abi own hk obj4 (by decide)
 · exact aa0 hrd4 gs fun k hk hrk=>by injection hrk with hrk;subst hrk;exact abi hrd4 hk obj4 (by decide)
 · exact hdt4.grown gs fun k hrk=>by injection hrk with hrk;subst hrk;exact⟨_,_,_,by decide,obj4⟩
 · intro y hy;rcases List.mem_append.1 hy with hy | hy
   · exact h.hl y hy
   · simp at hy;subst hy;exact hx
 · exact(hb.grown gr hw0 ge).setCell (p:=⟨g,1,none⟩) (Nat.le_trans hB0 h.hB) _
theorem ImB.pushD (h:ImB B g N A1 c1 l A2 c2 d xs w3){y:List UInt8}{A:Option Addr}{k:Nat}{v:Value}(hy:y.length<=100000) (oy:w3.ownsRow 0 5 1 (.slice A y.length k) y.length (y.map bv)) (own:w4.ownsRow B 37 1 v (d.length+1) (xs++ [.slice A y.length k])) (gr:w3.grownBy w4 (Value.slice A2 d.length c2).ownBlock){B0:Nat}{w0:World}(hb:Below B0 w0 w3) (hB0:B0<=B) (hw0:B0<=w3.heap.size):
 ∃A2' c2',v= .slice A2' (d.length+1) c2'/\w4.heap[g]?=w3.heap[g]?/\ImB B g N A1 c1 l A2' c2' (d++ [y]) (xs++ [.slice A y.length k]) (w4.setCell ⟨g,2,none⟩ v)/\Below B0 w0 (w4.setCell ⟨g,2,none⟩ v):=by
 have hrow:=aif h.rd;have hg4:w4.heap[g]?=w3.heap[g]?:=gr.block g h.lt fun e=>by
  obtain⟨cs,fz,hc⟩:=hrow g e.symm;exact h.off hc (by decide) rfl
 have obj4:=hg4.trans h.obj;obtain⟨A',c,rfl,_⟩:=aaU own;have hrl4:w4.ownsRow B 132 3 (.slice A1 l.length c1) l.length (ac4 l):=aa0 h.rl gr fun k hk hrk=>by
  obtain⟨cs,fz,hc⟩:=hrow k hrk;exact abi h.rl hk hc (by decide)
 have hlx:xs.length=d.length:=by have:=h.rd.1;omega
 have hdt4:DtO w4 (d++ [y]) (xs++ [.slice A y.length k]):=(h.dt.grown gr fun k hk=>by
  obtain⟨cs,fz,hc⟩:=hrow k hk;exact⟨cs,_,fz,by decide,hc⟩).snoc hlx hy (aa0 oy gr fun k hk hrk=>by
   obtain⟨cs,fz,hc⟩:=hrow k hrk;exact abi oy hk hc (by decide))
 have gs:=abf w4 g 2 (.slice A' (d.length+1) c);have ge:∀k,(Value.slice A2 d.length c2).ownBlock=some k->B0<=k:=fun k hk=>Nat.le_trans hB0 (abS h.rd k hk);refine⟨A',c,rfl,hg4,⟨?_,?_,?_,?_,h.hB,h.hl⟩,?_⟩
 · rw[List.length_append,List.length_singleton];exact heap_setCell_same w4 g 2 _ _ _ obj4
 · exact aa0 hrl4 gs fun k hk hrk=>by injection hrk with hrk;subst hrk;exact abi hrl4 hk obj4 (by decide)
 · rw[List.length_append,List.length_singleton];exact aa0 own gs fun k hk hrk=>by injection hrk with hrk;subst hrk;exact abi own hk obj4 (by decide)
 · exact hdt4.grown gs fun k hrk=>by injection hrk with hrk;subst hrk;exact⟨_,_,_,by decide,obj4⟩
 · exact(hb.grown gr hw0 ge).setCell (p:=⟨g,2,none⟩) (Nat.le_trans hB0 h.hB) _
theorem ImB.setD (h:ImB B g N A1 c1 l A2 c2 d xs w){j:Nat}(hj:j<d.length){y:List UInt8}{A:Option Addr}{k:Nat}(hy:y.length<=100000) (oy:w.ownsRow 0 5 1 (.slice A y.length k) y.length (y.map bv)){B0:Nat}{w0:World}(hb:Below B0 w0 w) (hB0:B0<=B):
 ∃q,A2=some ⟨q,0,none⟩/\(∃u,w.cell? ⟨q,j,none⟩=some u)/\w.frozen? ⟨q,j,none⟩=false/\q≠g/\ImB B g N A1 c1 l A2 c2 (d.set j y) (xs.set j (.slice A y.length k)) (w.setCell ⟨q,j,none⟩ (.slice A y.length k))/\Below B0 w0 (w.setCell ⟨q,j,none⟩ (.slice A y.length k)):=by
 obtain⟨q,rfl,hq⟩:∃q,A2=some ⟨q,0,none⟩/\∃cs fz,w.heap[q]?=some (.cells cs 37 fz):=by
  rcases h.rd.2 with⟨_,h0⟩ | ⟨q,cap,cur,hv,_,hg,_⟩
  · omega
  · injection hv with e1 _ _;exact⟨q,e1,_,_,hg⟩
 obtain⟨cs,fz,hq⟩:=hq;have hlx:xs.length=d.length:=by have:=h.rd.1;omega
 have hqg:q≠g:=fun e=>h.off hq (by decide) e.symm;have gs:=abf w q j (.slice A y.length k);have hset:=h.rd.stored j (.slice A y.length k);refine⟨q,rfl,?_,h.rd.frozenAt j,hqg,⟨?_,?_,?_,?_,h.hB,h.hl⟩,?_⟩
 · have:=h.rd.cellAt j (by omega);exact⟨_,this.trans (List.getElem?_eq_getElem (by omega))⟩
 · rw[List.length_set];exact(heap_setCell_other _ _ _ _ (fun e=>hqg e.symm)).trans h.obj
 · exact aa0 h.rl gs fun k hk hrk=>by injection hrk with hrk;subst hrk;exact abi h.rl hk hq (by decide)
 · rw[List.length_set];exact hset.1
 · intro i z hz;have oy':=aa0 oy gs fun k hk hrk=>by injection hrk with hrk;subst hrk;exact abi oy hk hq (by decide)
   have hdt:=h.dt.grown gs fun k hrk=>by injection hrk with hrk;subst hrk;exact⟨_,_,_,by decide,hq⟩
   by_cases hij:j=i
   · subst hij;rw[List.getElem?_set_self hj]at hz;injection hz with hz;subst hz;exact⟨hy,A,k,List.getElem?_set_self (by omega),oy'⟩
   · rw[List.getElem?_set_ne hij]at hz ⊢;exact hdt i z hz
 · exact hb.setCell (p:=⟨q,j,none⟩) (Nat.le_trans hB0 (abS h.rd q rfl)) _
end
section
variable {B g:Nat} {N:Int} {A1 A2:Option Addr} {c1 c2:Nat} {l:List Rk} {d:List (List UInt8)} {xs:List Value} {w:World}
theorem ImB.row (h:ImB B g N A1 c1 l A2 c2 d xs w) (hd:0<d.length):∃q,A2=some ⟨q,0,none⟩/\q<w.heap.size/\∀i v,i<d.length->xs[i]?=some v->w.cell? ⟨q,i,none⟩=some v:=by
 rcases h.rd.2 with⟨_,h0⟩ | ⟨q,cap,cur,hv,_,hg,_⟩
 · omega
 · injection hv with e1 _ _;subst e1;exact⟨q,rfl,aaa hg,fun i v hi hx=>(h.rd.cellAt i (by omega)).trans hx⟩
theorem ImB.laid (h:ImB B g N A1 c1 l A2 c2 d xs w){g0:Nat}(hg0:g0<B){x0 x1 x2:Value}(hg:w.heap[g0]?=some (.cells #[x0,x1,x2] 59 (0,0))) (y0 y1 y2:Value):
 RkRd (((w.setCell ⟨g0,0,none⟩ y0).setCell ⟨g0,1,none⟩ y1).setCell ⟨g0,2,none⟩ y2) (((w.setCell ⟨g0,0,none⟩ y0).setCell ⟨g0,1,none⟩ y1).setCell ⟨g0,2,none⟩ y2).heap.size A1 l/\DtRd (((w.setCell ⟨g0,0,none⟩ y0).setCell ⟨g0,1,none⟩ y1).setCell ⟨g0,2,none⟩ y2) (((w.setCell ⟨g0,0,none⟩ y0).setCell ⟨g0,1,none⟩ y1).setCell ⟨g0,2,none⟩ y2).heap.size A2 d:=by
 have s0:=abf w g0 0 y0;have k1:=heap_setCell_same w g0 0 _ _ y0 hg;have s1:=abf (w.setCell ⟨g0,0,none⟩ y0) g0 1 y1;have k2:=heap_setCell_same _ g0 1 _ _ y1 k1;have s2:=abf ((w.setCell ⟨g0,0,none⟩ y0).setCell ⟨g0,1,none⟩ y1) g0 2 y2;have hr:∀{w1 w2:World} {t:TypeId} {size n:Nat} {v:Value} {ys:List Value},w1.ownsRow B t size v n ys->w1.grownBy w2 (some g0)->w2.ownsRow B t size v n ys:=fun ho hgr=>aa0 ho hgr fun k hk hrk=>by
  injection hrk with hrk;have:=abS ho k hk;omega
 have r1:=hr (hr (hr h.rl s0) s1) s2;have r2:=hr (hr (hr h.rd s0) s1) s2;have d1:=h.dt.grown s0 fun k hrk=>by injection hrk with hrk;subst hrk;exact⟨_,_,_,by decide,hg⟩
 have d2:=d1.grown s1 fun k hrk=>by injection hrk with hrk;subst hrk;exact⟨_,_,_,by decide,k1⟩
 have d3:=d2.grown s2 fun k hrk=>by injection hrk with hrk;subst hrk;exact⟨_,_,_,by decide,k2⟩
 exact⟨aef r1 h.hl,d3.rd r2⟩
end
theorem ajo{P:Program}{ops:Array Oper}{Q:Exit->Act->World->Prop}{i B:Nat}{o:Oper}{a:Act}{w:World}{K:Nat->Act->World->Prop}(d:Option Tmp) (s x:Operand) (t e:TypeId) (hoi:ops[i]?=some o) (hd:o.dst=d) (hw:Region.wanted o (yielded ops a.tmps)=true)
 (ho:o.op= .call {callee:= .builtin .append,args:= #[s,x],argTypes:= #[t,t]}) (ht:P.underlying t=some (.slice e)) (hinfo:(P.info? e).map (fun i=>(i.zero,i.size,i.bytes))=some (some (.int .u8 0),1,1))
 (v:Value) (n:Nat) (bs:List UInt8) (hs:a.eval s=v) (hown:w.ownsRow B e 1 v n (bs.map bv)) (hB:B<=w.heap.size)
 (B2:Nat) (A:Addr) (m c:Nat) (cs:List UInt8) (hx:a.eval x= .slice (some A) m c) (hr:Rd w B2 (some A) m cs) (hb:n+m<=1000000)
 (h:∀v' w',w'.ownsRow B e 1 v' (n+m) ((bs++cs).map bv)->Below B w w'->∃B',B<=B'/\K B' (a.put d v') w'):wpOp P ops Q i (fun a'' w''=>Below B w w''/\∃B',B<=B'/\K B' a'' w'') a w:=by
 subst hd;obtain⟨i0,hi,hz0,hz1,hz2⟩:=info_parts hinfo;unfold wpOp;simp only[hoi];rw[if_pos hw];refine .inl (wp_append_own w s x t ho B e i0 (.int .u8 0) 1 1 ht hi hz0 hz1 hz2 rfl (by decide) v n _ hs hown A m c (cs.map bv) hx (by simp[hr.1]) (acJ hr) (adX cs) (by unfold maxLen;omega) (by omega) hB ?_);intro v' w' h1 h2 _;have hb':Below B w w':=(Below.refl _ _).grown h2 hB (fun k hk=>(hown.lt k hk).1);exact⟨hb',h v' w' (by simpa using h1) hb'⟩
theorem ajp:(Tryz.prog.info? 132).map (fun i=>(i.zero,i.size,i.bytes))=some (some (.agg #[.int .i64 0, .int .i64 0, .bool false]),3,24):=by kernel_rfl
theorem ahA (w:World) (o s:Int) (u:Bool):(Instr.buildSlice 56 1 #[(0, .agg #[.int .i64 o, .int .i64 s, .bool u])]).run Tryz.prog w= .ok (.slice (some ⟨w.heap.size,0,none⟩) 1 1) (w.alloc (.cells #[.int .i64 o, .int .i64 s, .bool u] 132)):=by
 obtain⟨i0,hi,hz0,hz1,hz2⟩:=info_parts ajp;refine run_buildSlice w 56 132 1 _ _ i0 _ Tryz.underlying56 hi hz0 (by omega) (by omega) ?_;rw[hz1];have e:Array.range (1*3)= #[0,1,2]:=by decide
 rw[e];simp[Instr.fill,Value.cells]
theorem apU (n:Nat) (hn:n<=1000000) (z:List UInt8) (hz:List.replicate n (0:UInt8)=z) (W:World):(Instr.makeSlice 37 (.int .i64 (n:Int)) (.int .i64 (n:Int))).run Tryz.prog W= .ok (.slice (some ⟨W.heap.size,0,none⟩) n n) (W.alloc (.cells (rowB z) 5)):=by
 have:=run_make_row' (P:=Tryz.prog) 37 5 (.int .u8 0) 1 Tryz.underlying37 aca rfl .i64 .i64 n (by omega) (by omega) W;rw[abI,hz]at this;exact this
theorem apV{P:Program}{o:Oper}{a:Act}{w w1:World}{v L C:Value}{t:TypeId}{l c:Operand}(ho:o.op= .makeSlice t l c) (hl:a.eval l=L) (hc:a.eval c=C)
 (hr:(Instr.makeSlice t L C).run P w= .ok v w1):(execOp a.eval o).run P w= .ok (.value v) w1:=by
 unfold execOp;simp only[ho];rw[hl,hc,Sem.run_bind,hr];rfl
theorem afB (w:World):(Instr.buildSlice 37 0 #[]).run Tryz.prog w= .ok (.slice (some ⟨w.heap.size,0,none⟩) 0 0) (w.alloc (.cells #[] 5)):=by
 obtain⟨i0,hi,hz0,hz1,hz2⟩:=info_parts aca;have e:Array.range 0= #[]:=by decide
 simp[Instr.buildSlice,run_underlying Tryz.underlying37,sizeOf,typeInfo,hi,newRow,Instr.fill,e]
theorem adf (s:ByteArray):(s.toList !=s.toList)=false:=by simp
def aaS (b:List UInt8) (i j:Nat):Bool:=abC ((b.drop j).take 4)==abn 0 ((b.drop i).take (j-i))
def aaQ:List UInt8->Nat->Nat->Option (List Rk)
 | _,0,_=>some []
 | b,k+1,o=>match adT (abC (b.take 8))with
  | none=>none
  | some (s,u)=>(aaQ (b.drop 8) k (o+s)).map (⟨(o:Int),(s:Int),u⟩:: ·)
def aaK:List Rk->Nat
 | []=>0
 | x::l=>(if x.u then x.s.toNat-16 else 0)+aaK l
def ae8:List Rk->List UInt8->List (List UInt8)
 | [],_=> []
 | x::l,b=>if x.u then b.take (x.s.toNat-16)::ae8 l (b.drop (x.s.toNat-16)) else ae8 l b
def abH (b:List UInt8):Nat:=abC ((b.drop 8).take 8)
def abU (b:List UInt8):Nat:=abC ((b.drop 16).take 8)
def acE (b:List UInt8):Nat:=
 if b.length<28 then 3 else if b.take 8≠imMarkB then 3 else if aaS b 0 24=false then 9
 else if ab3 (abH b:Int)=false then 3 else if 1024<abU b then 3 else 0
def aq2 (n:Nat) (o:Option (List Rk)):Nat × List Rk:=match o with
 | none=>(3,[])
 | some l=>if abe (n:Int) 184 false l=false then (3,[]) else (0,l)
def abB (b:List UInt8) (n k:Nat):Nat × List Rk:=
 if b.length<32+8*k then (3,[]) else if aaS b 28 (28+8*k)=false then (9,[])
 else aq2 n (aaQ (b.drop 28) k 184)
def adV (b:List UInt8) (l:List Rk):Nat × List (List UInt8):=
 if b.length≠32+8*l.length+aaK l+8 then (3,[])
 else if aaS b (32+8*l.length) (32+8*l.length+aaK l)=false then (9,[])
 else if aaS b 0 (32+8*l.length+aaK l+4)=false then (9,[])
 else (0,ae8 l (b.drop (32+8*l.length)))
theorem afC:∀{k:Nat}{b:List UInt8}{o:Nat}{l:List Rk},aaQ b k o=some l->l.length=k
 | 0,b,o,l,h=>by
  rw[aaQ]at h;injection h with h;rw[<-h];rfl
 | k+1,b,o,l,h=>by
  rw[aaQ]at h;split at h
  · cases h
  · rename_i s u e
    cases hm:aaQ (b.drop 8) k (o+s)with
    | none=>rw[hm]at h;cases h
    | some l'=>
     rw[hm]at h;injection h with h;rw[<-h,List.length_cons,afC hm]
theorem aeJ:∀{k:Nat}{b:List UInt8}{o:Nat}{l:List Rk},aaQ b k o=some l->aaQ b (k+1) o=match adT (abC ((b.drop (8*k)).take 8))with
  | none=>none
  | some (s,u)=>some (l++ [⟨((o+(l.map (·.s.toNat)).sum:Nat):Int),(s:Int),u⟩])
 | 0,b,o,l,h=>by
  rw[aaQ]at h;injection h with h;subst h;rw[aaQ,Nat.mul_zero,List.drop_zero]
  cases hu:adT (abC (b.take 8))with
  | none=>rfl
  | some x=>simp[aaQ]
 | k+1,b,o,l,h=>by
  rw[aaQ]at h;split at h
  · cases h
  · rename_i s u e
    cases hm:aaQ (b.drop 8) k (o+s)with
    | none=>rw[hm]at h;cases h
    | some l'=>
     rw[hm]at h;injection h with h;subst h;have ih:=aeJ hm;rw[aaQ,e];dsimp only;rw[ih,List.drop_drop,show 8+8*k=8*(k+1) from by omega]
     cases hu:adT (abC ((b.drop (8*(k+1))).take 8))with
     | none=>rfl
     | some x=>simp[Nat.add_assoc]
theorem agE{k:Nat}:∀{j:Nat}{b:List UInt8}{o:Nat},aaQ b k o=none->aaQ b (k+j) o=none:=by
 induction k with
 | zero=>intro j b o h;rw[aaQ]at h;cases h
 | succ k ih=>
  intro j b o h;rw[show k+1+j=(k+j)+1 from by omega];rw[aaQ]at h ⊢;split at h
  · rfl
  · rename_i s u e
    cases hm:aaQ (b.drop 8) k (o+s)with
    | none=>rw[ih hm];rfl
    | some l'=>rw[hm]at h;cases h
theorem arI{a m:List UInt8}(h:a≠m):((adh a).toList==m)=false:=by
 unfold adh;rw[beq_eq_false_iff_ne];simpa using h
def arJ (b:List UInt8):Value:=if acE b=0 then .tuple #[.int .i64 (abH b:Int), .int .i64 (abU b:Int), .nilIface] else .tuple #[.int .i64 0, .int .i64 0, .iface 90 (.int .i64 (acE b:Int))]
theorem amu (w:World) (A:Option Addr) (n c B:Nat) (b:List UInt8) (hr:Rd w B A n b) (hnc:n<=c) (hc:c<=9223372036854775807) (hn:n<=900000):
 Calls Tryz.prog 243 #[.slice A n c] w fun e w'=>e= .returned (arJ b)/\w=w':=by
 have hbl:b.length=n:=hr.1;unfold arJ acE;rw[hbl];by_cases h28:n<28
 · rw[if_pos h28];have g1:decide (n<28)=true:=decide_eq_true h28;clear hr hbl;go_enter Tryz.func243,Tryz.ntmps243
   go_wp2
   go_ret3
   exact⟨rfl,rfl⟩
 rw[if_neg h28];have g1:decide (n<28)=false:=decide_eq_false h28;by_cases hm:b.take 8≠imMarkB
 · rw[if_pos hm];obtain⟨g,off,rfl,_⟩:=hr.2 (by omega);obtain⟨sx,hsx⟩:=nmE (adh (b.take 8));have q1:(convert 37 9 (.slice (some ⟨g,off,none⟩) 8 c)).run Tryz.prog w= .ok (.string sx) w:=by
    have h:=hr.sub 0 8 (by omega);rw[List.drop_zero,Nat.add_zero]at h;rw[<-hsx];exact aaJ (c:=c) h
   have e1:=arI hm;rw[hsx]at e1;unfold imMarkB at e1;have g3:(8:Int)<=(c:Int):=by omega
   clear hr hbl hm hsx;go_enter Tryz.func243,Tryz.ntmps243
   go_wp2
   go_ret3
   exact⟨rfl,rfl⟩
 have hm':b.take 8=imMarkB:=Decidable.byContradiction hm;rw[if_neg hm];by_cases hs:aaS b 0 24=false
 · rw[if_pos hs];have HS:=hE0 (acu w A n c B b 0 24 hr hnc hc hn (by omega) (by omega) false hs);obtain⟨g,off,rfl,_⟩:=hr.2 (by omega);have q1:(convert 37 9 (.slice (some ⟨g,off,none⟩) 8 c)).run Tryz.prog w= .ok (.string ⟨#[67,78,84,76,1,0,0,0]⟩) w:=by
    have h:=hr.sub 0 8 (by omega);rw[List.drop_zero,hm',Nat.add_zero]at h;have h2:=aaJ (c:=c) h;rw[akg]at h2;exact h2
   have g3:(8:Int)<=(c:Int):=by omega
   clear hr hbl hm hm' hs;go_enter Tryz.func243,Tryz.ntmps243
   go_wp2_with fail
   refine HS.out.mono ?_;rintro e w2 ⟨rfl,rfl⟩;go_wp2
   go_ret3
   exact⟨rfl,rfl⟩
 have hs':aaS b 0 24=true:=by simpa using hs
 rw[if_neg hs];by_cases hl:ab3 (abH b:Int)=false\/1024<abU b
 · have e:(if (if ab3 (abH b:Int)=false then 3 else if 1024<abU b then 3 else 0)=0 then Value.tuple #[.int .i64 (abH b:Int), .int .i64 (abU b:Int), .nilIface] else .tuple #[.int .i64 0, .int .i64 0, .iface 90 (.int .i64 (((if ab3 (abH b:Int)=false then 3 else if 1024<abU b then 3 else 0):Nat):Int))])= .tuple #[.int .i64 0, .int .i64 0, .iface 90 (.int .i64 3)]:=by
    rcases hl with hl | hl
    · rw[if_pos hl];rfl
    · rw[if_pos hl];split<;>rfl
   rw[e];have HS:=hE0 (acu w A n c B b 0 24 hr hnc hc hn (by omega) (by omega) true hs');have HG1:=hE0 (adY A n c B b 8 w hr hnc (by omega) (by omega));have HG2:=hE0 (adY A n c B b 16 w hr hnc (by omega) (by omega));unfold abH abU at hl;have hN2:abC ((b.drop 8).take 8)<18446744073709551616:=aaG _ (List.length_take_le _ _);have hK2:abC ((b.drop 16).take 8)<18446744073709551616:=aaG _ (List.length_take_le _ _);obtain⟨N,hN⟩:=nmE (abC ((b.drop 8).take 8));obtain⟨K,hK⟩:=nmE (abC ((b.drop 16).take 8));rw[hN]at HG1 hl hN2;rw[hK]at HG2 hl hK2;obtain⟨g,off,rfl,_⟩:=hr.2 (by omega);have q1:(convert 37 9 (.slice (some ⟨g,off,none⟩) 8 c)).run Tryz.prog w= .ok (.string ⟨#[67,78,84,76,1,0,0,0]⟩) w:=by
    have h:=hr.sub 0 8 (by omega);rw[List.drop_zero,hm',Nat.add_zero]at h;have h2:=aaJ (c:=c) h;rw[akg]at h2;exact h2
   have g3:(8:Int)<=(c:Int):=by omega
   clear hr hbl hm hm' hs hs' hN hK e;obtain⟨y,hy⟩:=nmE (ab3 (N:Int));have HL:=hE0 (agw w N hN2 y hy);rw[hy]at hl;clear hy
   cases y with
   | false=>
    clear hl;go_enter Tryz.func243,Tryz.ntmps243
    go_wp2_with fail
    refine HS.out.mono ?_;rintro e w2 ⟨rfl,rfl⟩;go_wp2_with fail
    refine HG1.out.mono ?_;rintro e w2 ⟨rfl,rfl⟩;go_wp2_with fail
    refine HG2.out.mono ?_;rintro e w2 ⟨rfl,rfl⟩;go_wp2_with fail
    refine HL.out.mono ?_;rintro e w2 ⟨rfl,rfl⟩;go_wp2
    go_ret3
    exact⟨rfl,rfl⟩
   | true=>
    have hk:1024<K:=hl.resolve_left (by simp);have g2:decide (1024<K)=true:=decide_eq_true hk;clear hl;go_enter Tryz.func243,Tryz.ntmps243
    go_wp2_with fail
    refine HS.out.mono ?_;rintro e w2 ⟨rfl,rfl⟩;go_wp2_with fail
    refine HG1.out.mono ?_;rintro e w2 ⟨rfl,rfl⟩;go_wp2_with fail
    refine HG2.out.mono ?_;rintro e w2 ⟨rfl,rfl⟩;go_wp2_with fail
    refine HL.out.mono ?_;rintro e w2 ⟨rfl,rfl⟩;go_wp2
    go_ret3
    exact⟨rfl,rfl⟩
 have hl1:ab3 (abH b:Int)=true:=by
  cases h:ab3 (abH b:Int)with
  | true=>rfl
  | false=>exact absurd (Or.inl h) hl
 have hl2:abU b<=1024:=by
  refine Nat.le_of_not_lt fun h=>hl (Or.inr h)
 have e:(if ab3 (abH b:Int)=false then 3 else if 1024<abU b then 3 else 0)=0:=by rw[hl1,if_neg (by simp),if_neg (by omega)]
 rw[e,if_pos rfl];exact anP w A n c B b hr hnc hc hn (by omega) hm' hs' _ _ rfl rfl hl1 hl2
def RkC (cs:Array Value) (l:List Rk):Prop:=∀j x,l[j]?=some x->cs[j*3]?=some (.int .i64 x.o)/\cs[j*3+1]?=some (.int .i64 x.s)/\cs[j*3+2]?=some (.bool x.u)/\
 (-9223372036854775808<=x.o/\x.o<=9223372036854775807)/\(-9223372036854775808<=x.s/\x.s<=9223372036854775807)
theorem RkC.rd{w:World}{g:Nat}{cs:Array Value}{t:TypeId}{l:List Rk}(h:RkC cs l) (hg:w.heap[g]?=some (.cells cs t (0,0))):RkRd w w.heap.size (some ⟨g,0,none⟩) l:=fun _=>by
 refine⟨g,0,rfl,aaa hg,fun j x hx=> ?_⟩;obtain⟨h0,h1,h2,h3⟩:=h j x hx;simp only[Nat.zero_add];exact⟨(cell_of_row _ _ _ _ _ _ hg).trans h0,(cell_of_row _ _ _ _ _ _ hg).trans h1,(cell_of_row _ _ _ _ _ _ hg).trans h2,h3⟩
theorem RkC.snoc{cs:Array Value}{l:List Rk}{k:Nat}(h:RkC cs l) (hs:cs.size=3*k) (hl:l.length<k) (o s:Int) (u:Bool) (ho: -9223372036854775808<=o/\o<=9223372036854775807) (hsb: -9223372036854775808<=s/\s<=9223372036854775807):
 RkC (((cs.setIfInBounds (l.length*3) (.int .i64 o)).setIfInBounds (l.length*3+1) (.int .i64 s)).setIfInBounds (l.length*3+2) (.bool u)) (l++ [⟨o,s,u⟩]):=by
 intro j x hx;by_cases hj:j<l.length
 · rw[List.getElem?_append_left hj]at hx;obtain⟨h0,h1,h2,h3⟩:=h j x hx;simp only[Array.getElem?_setIfInBounds];rw[if_neg (by omega),if_neg (by omega),if_neg (by omega),if_neg (by omega),if_neg (by omega),if_neg (by omega),if_neg (by omega),if_neg (by omega),if_neg (by omega)];exact⟨h0,h1,h2,h3⟩
 · rw[List.getElem?_append_right (by omega)]at hx;have e:j=l.length:=by
    have:=(List.getElem?_eq_some_iff.1 hx).1;simp at this;omega
   subst e;simp at hx;subst hx;simp only[Array.getElem?_setIfInBounds];simp[hs];refine⟨?_,?_,?_,ho,hsb⟩<;>omega
theorem arK (W:World) (k:Nat) (hk:k<=1024):∃cs,cs.size=3*k/\(Instr.makeSlice 56 (.int .i64 (k:Int)) (.int .i64 (k:Int))).run Tryz.prog W= .ok (.slice (some ⟨W.heap.size,0,none⟩) k k) (W.alloc (.cells cs 132)):=by
 obtain⟨i0,hi,hz0,hz1,hz2⟩:=info_parts arD;have h:=run_makeSlice (P:=Tryz.prog) W 56 132 i0 _ Tryz.underlying56 hi hz0 .i64 .i64 k k (by omega) (by omega) (by rw[hz1];omega) (by rw[hz2];omega) (by omega);refine⟨_,?_,h⟩;rw[size_madeCells,hz1];omega
end Go.Proofs.YthnfclimjmmckaaGreatDoor
