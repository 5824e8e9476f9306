/- Texts of mine, joined. -/
import Derived.RegionTactic
import Derived.ChangeAlike
import Derived.BigRegion
import Derived.Test.YtncadccbepjekaaGreatDoorU28
set_option maxRecDepth 100000
set_option maxHeartbeats 8000000
namespace Go.Proofs.YtncadccbepjekaaGreatDoor
open Go.RowKit
def adI (x y:Sk):Int:=if x.ok=true/\(y.ok=false\/y.G<=x.G) then 0 else if y.ok=true then 1 else-1
section
variable {S:Nat->Prop} {w:World} {g:Nat} {L:Option Addr} {cl:Nat} {W:Option Addr} {cw:Nat} {ls ws:List Wr} {left:Int} {off:Bool}
def al6 (x y:Sk) (base:Nat) (cap:Int):Nat × Nat × List Rk × List (List UInt8):=
 if adI x y<0 then (8,0,[],[]) else
 if ¬(base%16=0/\base<=4611686018427387904/\1024<=cap/\cap<=16384) then (1,0,[],[]) else
 if adI x y=0 then (if cap<(x.n:Int) then (10,0,[],[]) else (0,x.n,x.l,x.d)) else (if cap<(y.n:Int) then (10,0,[],[]) else (0,y.n,y.l,y.d))
theorem aev (x y:Sk):adI x y= -1\/adI x y=0\/adI x y=1:=by
 unfold adI;split
 · exact .inr (.inl rfl)
 · split
   · exact .inr (.inr rfl)
   · exact .inl rfl
theorem at6{w w':World}{g:Nat}{A1 A2:Option Addr}{l:List Rk}{d:List (List UInt8)}{t:TypeId}(h:RkRd w w.heap.size A1 l/\DtRd w w.heap.size A2 d) (hA:∀a,A2=some a->a.block≠g) (hg:w.heap[g]?=some (.cells #[.int .i64 0, .slice none 0 0, .slice none 0 0] t (0,0))) (hs:w'.heap.size=w.heap.size) (hk:∀k,k≠g->w'.heap[k]?=w.heap[k]?):RkRd w' w'.heap.size A1 l/\DtRd w' w'.heap.size A2 d:=by
 rw[hs];refine⟨h.1.off hg hk,fun hn=> ?_⟩;obtain⟨b,o,e,hB,hc⟩:=h.2 hn;refine⟨b,o,e,hB,fun j y hy=> ?_⟩;obtain⟨A',k,h1,h2,h3⟩:=hc j y hy;refine⟨A',k,by rw[<-h1];simp[World.cell?,hk b (hA _ e)],⟨h2.1,fun hn=> ?_⟩,h3⟩;obtain⟨b2,o2,e2,hB2,hc2⟩:=h2.2 hn;have hbg:b2≠g:=by
  intro e3;subst e3;obtain⟨u,hu⟩:∃u,y[0]?=some u:=⟨y[0]'hn,List.getElem?_eq_getElem _⟩;have h0:=hc2 0 u hu;rw[cell_of_row _ _ _ _ _ _ hg]at h0;rcases o2 with _ | _ | _ | o2<;>simp at h0
 exact⟨b2,o2,e2,hB2,fun j u hu=>by rw[<-hc2 j u hu];simp[World.cell?,hk b2 hbg]⟩
end
def DS (N:Nat) (S:Nat->Prop) (w:World) (g:Nat) (s:Dst):Prop:=
 ∃h c W cw ws,Dk S w g h c W cw s.bs ws s.left s.off/\ws.map Wr.two=s.wt/\s.bs.length=512*N/\∀j,S j->j<w.heap.size
section
variable {N:Nat} {S S':Nat->Prop} {w w1 w2:World} {g:Nat} {s:Dst}
theorem DS.below (h:DS N S w g s) (hb:Below w.heap.size w w1):DS N S w1 g s:=by
 obtain⟨q,c,W,cw,ws,k,e1,e2,hs⟩:=h;exact⟨q,c,W,cw,ws,k.below hb,e1,e2,fun j hj=>Nat.lt_of_lt_of_le (hs j hj) hb.size⟩
theorem DS.tch{R:Nat->Prop}(h:DS N S w g s) (ht:Tch R w w1) (hd:∀j,S j->¬R j):DS N S w1 g s:=by
 obtain⟨q,c,W,cw,ws,k,e1,e2,hs⟩:=h;exact⟨q,c,W,cw,ws,k.tch ht hd,e1,e2,fun j hj=>Nat.lt_of_lt_of_le (hs j hj) ht.size⟩
theorem DS.regrow (h:DS N (adz (adz S w w1) w1 w2) w2 g s) (h1:w.heap.size<=w1.heap.size) (h2:w1.heap.size<=w2.heap.size):DS N (adz S w w2) w2 g s:=by
 obtain⟨q,c,W,cw,ws,k,e1,e2,hs⟩:=h;exact⟨q,c,W,cw,ws,k.regrow h1 h2,e1,e2,fun j hj=>by
  rcases hj with h | h
  · exact hs j (.inl (.inl h))
  · exact h.2⟩
theorem DS.grown (h:DS N S w1 g s) (_ht:Tch S w w1):DS N (adz S w w1) w1 g s:=by
 obtain⟨q,c,W,cw,ws,k,e1,e2,hs⟩:=h;exact⟨q,c,W,cw,ws,k.more fun j hj=> .inl (k.foot hj).1,e1,e2,fun j hj=>by
  rcases hj with h | h
  · exact hs j h
  · exact h.2⟩
def StpD (N:Nat) (S:Nat->Prop) (w:World) (g:Nat) (r:Nat × Dst) (e:Ending) (w':World):Prop:=e= .returned (ahA r.1)/\DS N (adz S w w') w' g r.2/\Tch S w w'
theorem DS.flush (h:DS N S w g s) (hN2:N<=128):
 Calls Tryz.prog 209 #[.pointer (some ⟨g,0,none⟩)] w fun e w'=>StpD N S w g (dfl s) e w':=by
 obtain⟨q,c,W,cw,ws,k,e1,e2,hs⟩:=h;obtain⟨bs,wt,left,off⟩:=s;dsimp only at k e1 e2
 cases off with
 | true=>
  refine(anO k).mono ?_;rintro e w' ⟨rfl,rfl⟩;exact⟨rfl,DS.grown ⟨q,c,W,cw,ws,k,e1,e2,hs⟩ (Tch.refl _ _),Tch.refl _ _⟩
 | false=>
  have hf:=k.fits;refine(app k (by omega)).mono ?_;rintro e w' ⟨rfl,k',ht⟩;refine⟨rfl,DS.grown ⟨q,c,none,0,[],?_,rfl,?_,fun j hj=>Nat.lt_of_lt_of_le (hs j hj) ht.size⟩ ht,ht⟩
  · unfold dfl;rw[if_neg Bool.false_ne_true,<-e1];exact k'
  · unfold dfl;rw[if_neg Bool.false_ne_true,<-e1];dsimp only;rw[aaI _ _ hf];exact e2
theorem DS.outs (h:DS N S w g s) (hN2:N<=128) (hw:s.wt.length<=100000) (hl:s.left<=9223372036854775807) (p:Nat) (A:Option Addr) (cA:Nat) (b:List UInt8) (hr:Rd w w.heap.size A b.length b) (hbc:b.length<=cA) (hcm:cA<=9223372036854775807) (hA:0<b.length->∀a,A=some a->¬S a.block) (hp:p+need b.length<=N):
 Calls Tryz.prog 208 #[.pointer (some ⟨g,0,none⟩), .int .i64 (p:Int), .slice A b.length cA] w fun e w'=>StpD N S w g (adS s p b) e w':=by
 obtain⟨q,c,W,cw,ws,k,e1,e2,hs⟩:=h;obtain⟨bs,wt,left,off⟩:=s;dsimp only at k e1 e2 hw hl;have hws:ws.length<=100000:=by have:=congrArg List.length e1;simp at this;omega
 refine(anZ k N e2 hN2 hws hl p A cA b hr hbc hcm hA _ rfl hp _ rfl).mono ?_;rintro e w' ⟨rfl,⟨W',cw',vs,k',hv⟩,ht⟩;unfold adS;refine⟨?_,⟨q,c,W',cw',vs,k',?_,e2,fun j hj=> ?_⟩,ht⟩
 · dsimp only;split
   · rfl
   · rfl
 · rw[hv,e1]
 · rcases hj with h | h
   · exact Nat.lt_of_lt_of_le (hs j h) ht.size
   · exact h.2
theorem DS.two{r:Nat × Dst}{P:Ending->World->Prop}{f:FuncId}{vs:Array Value}(ht:Tch S w w1) (hc:Calls Tryz.prog f vs w1 fun e w2=>StpD N (adz S w w1) w1 g r e w2) (h1:w.heap.size<=w1.heap.size) (hP:∀e w2,e= .returned (ahA r.1)->DS N (adz S w w2) w2 g r.2->Tch S w w2->P e w2):Calls Tryz.prog f vs w1 P:=
 hc.mono fun e w2 h=>hP e w2 h.1 (h.2.1.regrow h1 h.2.2.size) (ht.regrow h.2.2)
theorem StpD.from{r:Nat × Dst}{e:Ending}(hb:Below w.heap.size w w1) (h0:e= .returned (ahA r.1)) (h1:DS N (adz S w1 w2) w2 g r.2) (h2:Tch S w1 w2):StpD N S w g r e w2:=by
 refine⟨h0,?_,(Tch.of_below (S:=S) hb).trans h2 fun i hi hg=>hg⟩;obtain⟨q,c,W,cw,ws,k,e1,e2,hs⟩:=h1;have hg:∀j,adz S w1 w2 j->adz S w w2 j:=fun j hj=>by
  rcases hj with h | h
  · exact .inl h
  · exact .inr ⟨Nat.le_trans hb.size h.1,h.2⟩
 refine⟨q,c,W,cw,ws,k.more fun j hj=>hg j (k.foot hj).1,e1,e2,fun j hj=> ?_⟩;rcases hj with h | h
 · exact hs j (.inl h)
 · exact h.2
theorem DS.read (h:DS N S w g s) (hN2:N<=128) (ho:s.off=false) (p:Nat) (hp:p<N):
 Calls Tryz.prog 204 #[.pointer (some ⟨g,0,none⟩), .int .i64 (p:Int)] w fun e w'=>arm (aaZ s.bs s.wt p) w e w':=by
 obtain⟨q,c,W,cw,ws,k,e1,e2,hs⟩:=h;rw[ho]at k;rw[<-e1];exact amF k (by omega) p (by omega)
theorem DS.reads (h:DS N S w g s) (hN2:N<=128) (ho:s.off=false) (p n:Nat) (hp:p+need n<=N):
 Calls Tryz.prog 206 #[.pointer (some ⟨g,0,none⟩), .int .i64 (p:Int), .int .i64 (n:Int)] w fun e w'=>arm ((adC s.bs s.wt p (need n)).take n) w e w':=by
 obtain⟨q,c,W,cw,ws,k,e1,e2,hs⟩:=h;rw[<-e1];exact apH k N e2 hN2 p n _ rfl hp (fun e=>by rw[ho]at e;cases e) _ rfl
end
def Find (s:Sk) (w:World) (e:Ending) (w':World):Prop:=
 ∃A1 c1 A2 c2,e= .returned (.tuple #[skV s A1 c1 A2 c2, .nilIface])/\RkRd w' w'.heap.size A1 s.l/\DtRd w' w'.heap.size A2 s.d/\(∀a,A2=some a->w.heap.size<=a.block)/\Below w.heap.size w w'
theorem Find.plain{w w':World}(G N S:Nat){e:Ending}(he:e= .returned (.tuple #[.agg #[.int .u64 (G:Int), .int .u64 (N:Int), .int .u32 (S:Int), .bool false, .int .i64 0, .slice none 0 0, .slice none 0 0], .nilIface])) (hb:Below w.heap.size w w'):Find ⟨G,N,S,false,0,[],[]⟩ w e w':=
 ⟨none,0,none,0,he,fun h=>absurd h (by simp),fun h=>absurd h (by simp),fun _ h=>(by cases h),hb⟩
theorem aqB{fn:Func}{R:Ending->World->Prop}{a:Act}{w:World}{p u:Tmp}{g:Nat}{x y0 y1 y2 y3 y4 y5 y6:Value}(hres:fn.results= #[.cell p 148, .tmp u]) (hp:a.tmps.getD p undef= .pointer (some ⟨g,0,none⟩)) (hx:a.tmps.getD u undef=x) (hd:a.defers= [])
 (hg:w.heap[g]?=some (.cells #[y0,y1,y2,y3,y4,y5,y6] 148 (0,0))) (hR:R (.returned (.tuple #[.agg #[y0,y1,y2,y3,y4,y5,y6],x])) w):bodyPost Tryz.prog fn R .ret a w:=by
 obtain⟨⟨c0,c1,c2,c3,c4,c5,c6⟩,_⟩:=ah8 hg;refine bodyPost_ret (v:= .tuple #[.agg #[y0,y1,y2,y3,y4,y5,y6],x]) ?_ hd hR;rw[results_cell_tmp hres,hp,hx];simp[go_sem,c0,c1,c2,c3,c4,c5,c6]
theorem asi{b:List UInt8}(h:(afi b).1≠0):(afi b).2=(0,[],[]):=by
 unfold afi at h ⊢;repeat' split
 all_goals first
  | rfl
  | (exfalso;simp_all)
theorem anb{G N S s:Nat}{Γ:Nat × Nat × List Rk × List (List UInt8)}(h:¬(Γ.1=0/\s=S)):asf G N S s Γ=⟨G,N,S,false,0,[],[]⟩:=if_neg h
section
variable {N:Nat} {S:Nat->Prop} {w:World} {g:Nat} {s:Dst}
theorem DS.sectors (h:DS N S w g s) (hN2:N<=128):Calls Tryz.prog 147 #[.pointer (some ⟨g,0,none⟩)] w fun e w'=>e= .returned (.int .i64 (N:Int))/\w=w':=by
 obtain⟨q,c,W,cw,ws,k,e1,e2,hs⟩:=h;have:=ad6 k (by omega);rw[e2,Nat.mul_div_cancel_left _ (by omega)]at this;exact this
theorem ahg (h:DS N S w g s) (hN2:N<=128) (half:Nat) (hh:N/2=half):
 Calls Tryz.prog 83 #[.pointer (some ⟨g,0,none⟩)] w fun e w'=>e= .returned (.int .i64 (half:Int))/\w=w':=by
 have HS:=hE0 (h.sectors hN2);have hhi:(N:Int)/2=(half:Int):=by omega
 clear h;go_enter Tryz.func83,Tryz.ntmps83
 go_wp2_with fail
 refine HS.out.mono ?_;rintro e w1 ⟨rfl,rfl⟩;go_wp2
 go_ret
 exact⟨apo (by omega),rfl⟩
theorem akF (h:DS N S w g s) (hN2:N<=128) (half M:Nat) (hh:N/2=half) (h1:1<=half) (hM:512*(half-1)=M):
 Calls Tryz.prog 80 #[.pointer (some ⟨g,0,none⟩)] w fun e w'=>e= .returned (.int .i64 (M:Int))/\w=w':=by
 have HS:=hE0 (ahg h hN2 half hh);clear h;go_enter Tryz.func80,Tryz.ntmps80
 go_wp2_with fail
 refine HS.out.mono ?_;rintro e w1 ⟨rfl,rfl⟩;go_wp2
 go_ret
 exact⟨apo (by omega),rfl⟩
end
theorem asW{fn:Func}{R:Ending->World->Prop}{a:Act}{w:World}{p u:Tmp}{g:Nat}{x y0 y1 y2:Value}(hres:fn.results= #[.cell p 107, .tmp u]) (hp:a.tmps.getD p undef= .pointer (some ⟨g,0,none⟩)) (hx:a.tmps.getD u undef=x) (hd:a.defers= [])
 (hg:w.heap[g]?=some (.cells #[y0,y1,y2] 107 (0,0))) (hR:R (.returned (.tuple #[.agg #[y0,y1,y2],x])) w):bodyPost Tryz.prog fn R .ret a w:=by
 obtain⟨⟨c0,c1,c2⟩,_⟩:=adg hg;refine bodyPost_ret (v:= .tuple #[.agg #[y0,y1,y2],x]) ?_ hd hR;rw[results_cell_tmp hres,hp,hx];simp[go_sem,c0,c1,c2]
theorem aog (w:World) (A:Option Addr) (n c:Nat) (b:List UInt8) (hr:Rd w w.heap.size A n b) (hnc:n<=c) (hc:c<=9223372036854775807) (hn:n<=900000) (G Q M:Nat) (hM:M<4294967296) (k:Sk) (hk:asf G Q M (abd 0 b) (afi b)=k):
 Calls Tryz.prog 207 #[.slice A n c, .int .u32 (M:Int)] w fun e w'=>∃A1 c1 A2 c2,e= .returned (.tuple #[.agg #[.int .i64 (k.n:Int), .slice A1 k.l.length c1, .slice A2 k.d.length c2], .bool k.ok])/\RkRd w' w'.heap.size A1 k.l/\DtRd w' w'.heap.size A2 k.d/\(∀a,A2=some a->w.heap.size<=a.block)/\Below w.heap.size w w':=by
 obtain⟨w1,ha1,n1,b1⟩:=agV w 107 (.int .i64 0) (.slice none 0 0) (.slice none 0 0);have hr1:=(hr.below b1.out).more b1.out.size;obtain⟨sm,hsm⟩:=nmE (abd 0 b);have hsml:sm<4294967296:=by rw[<-hsm];exact aei _ _
 have hs:=agz A n c w1.heap.size b w1 hr1 (by omega);rw[hsm]at hs hk;have HS:=hE0 hs;have HG:=hE0 (aoe w1 A n c w1.heap.size b hr1 (Nat.le_refl _) hnc hc hn);obtain⟨Γ,hΓ⟩:=nmE (afi b);have hge:Γ.1≠0->Γ.2=(0,[],[]):=by rw[<-hΓ];exact asi
 rw[hΓ]at HG hk;have HK:=hE0 hk;have HGE:=hE0 hge;clear hr hr1 hs hsm hΓ hk hge;obtain⟨kd,im,il,id⟩:=Γ;dsimp only at HG HK HGE;obtain⟨i1,hi1⟩:=nmE il.length;obtain⟨i2,hi2⟩:=nmE id.length;rw[hi1,hi2]at HG;have HI1:=hE0 hi1;have HI2:=hE0 hi2;clear hi1 hi2;by_cases he:sm=M
 · subst he;have gs:((sm:Int)==(sm:Int))=true:=by simp
   go_enter Tryz.func207,Tryz.ntmps207
   go_wp2_with (first | (rw[ha1.out]) | fail)
   refine HS.out.mono ?_;rintro e w2 ⟨rfl,rfl⟩;go_wp2_with fail
   refine HG.out.mono ?_;rintro e w2 ⟨A9,B9,a9,c9,rfl,hr9,hd9,hA9,b9⟩;have n2:=hE0 ((b9.block _ (aaa n1.out)).trans n1.out);have HA9:Hid (∀a,B9=some a->w.heap.size<a.block):=(show ∀a,_->_ from fun a e=>by have:=hA9 a e;have:=aaa n1.out;omega);have HB2:=hE0 (b1.out.trans (b9.mono b1.out.size));obtain⟨wa,ha2,m2,b2⟩:=agV w2 107 (.int .i64 0) (.slice none 0 0) (.slice none 0 0);obtain⟨wb,hp2,m3,b3,⟨z0,z1,z2⟩,⟨e0,e1,e2⟩,hle⟩:=auv m2 (.int .i64 (im:Int)) (.slice A9 i1 a9) (.slice B9 i2 c9);have hb23:=b3.out w2.heap.size w2 (Nat.le_refl _) b2.out;have HB3:=hE0 (HB2.out.trans (hb23.mono HB2.out.size));have n3:=hE0 ((hb23.block _ (aaa n2.out)).trans n2.out);have HIM:Hid (RkRd wb wb.heap.size A9 il/\DtRd wb wb.heap.size B9 id):=⟨(hr9.below hb23).more hb23.size,(hd9.below hb23).more hb23.size⟩;clear hr9 hd9 hA9 b9 hb23 HG;have hev:(ahA kd= .nilIface/\kd=0)\/(ahA kd= .iface 130 (.int .i64 (kd:Int))/\kd≠0):=by
    unfold ahA;by_cases h:kd=0
    · exact .inl ⟨if_pos h,h⟩
    · exact .inr ⟨if_neg h,h⟩
   rcases hev with⟨e,h0⟩ | ⟨e,h0⟩;all_goals
    rw[e];have H0:=hE0 h0;clear e h0;go_wp2_with (first | (rw[ha2.out]) | (rw[hp2.out]) | fail)
    clear z0 z1 z2 e0 e1 e2 hle;obtain⟨⟨t0,t1,t2⟩,_,hlt⟩:=adg m3.out;obtain⟨wz,hz,nz,bz,⟨u0,u1,u2⟩,⟨g0,g1,g2⟩,hlu⟩:=auv n3 (.int .i64 (im:Int)) (.slice A9 i1 a9) (.slice B9 i2 c9);have HFIN:Hid (RkRd wz wz.heap.size A9 il/\DtRd wz wz.heap.size B9 id):=at6 HIM.out (fun a e=>by have:=HA9.out a e;omega) n3.out (by rw[<-hz.out];simp[World.setCell]) (fun k hk=>by rw[<-hz.out,heap_setCell_other _ _ _ _ hk,heap_setCell_other _ _ _ _ hk,heap_setCell_other _ _ _ _ hk]);go_region
    all_goals
     go_wp2_with (first | (rw[hz.out]) | fail)
    refine asW (g:=w.heap.size) Tryz.results207 rfl rfl rfl nz.out ?_;have hk:=HK.out;have hbd:Below wz.heap.size wz wz.drew:=(Below.refl _ _).drew;first
     | (have h0:kd=0:=H0.out
        unfold asf at hk;rw[if_pos ⟨h0,rfl⟩]at hk;subst hk;exact⟨A9,a9,B9,c9,by dsimp only;rw[HI1.out,HI2.out];rfl,HFIN.out.1.below hbd,HFIN.out.2.below hbd,(fun a e=>Nat.le_of_lt (HA9.out a e)),(bz.out _ _ (Nat.le_refl _) HB3.out).drew⟩)
     | (have h0:kd≠0:=H0.out
        rw[anb (fun h=>h0 h.1)]at hk;subst hk;have he:=HGE.out h0;injection he with e1 e2;injection e2 with e2 e3;subst e1 e2 e3;exact⟨A9,a9,B9,c9,by dsimp only;rw[HI1.out,HI2.out];rfl,HFIN.out.1.below hbd,HFIN.out.2.below hbd,(fun a e=>Nat.le_of_lt (HA9.out a e)),(bz.out _ _ (Nat.le_refl _) HB3.out).drew⟩)
 · have gs:((sm:Int)==(M:Int))=false:=by rw[beq_eq_false_iff_ne];omega
   have hk:=HK.out;rw[anb (fun h=>he h.2)]at hk;subst hk;obtain⟨wz,hz,nz,bz,⟨u0,u1,u2⟩,⟨g0,g1,g2⟩,hlu⟩:=auv n1 (.int .i64 0) (.slice none 0 0) (.slice none 0 0);clear he HK HGE HG;go_enter Tryz.func207,Tryz.ntmps207
   go_wp2_with (first | (rw[ha1.out]) | fail)
   refine HS.out.mono ?_;rintro e w2 ⟨rfl,rfl⟩;go_wp2_with (first | (rw[hz.out]) | fail)
   (try simp only[Exit.inBlock,Exit.then])
   refine asW (g:=w.heap.size) (x:= .bool false) Tryz.results207 ?_ ?_ ?_ nz.out ?_
   · rfl
   · rfl
   · rfl
   · exact⟨none,0,none,0,rfl,fun h=>absurd h (by simp),fun h=>absurd h (by simp),fun _ h=>(by cases h),bz.out _ _ (Nat.le_refl _) b1.out⟩
section
variable {N:Nat} {S:Nat->Prop} {w:World} {g:Nat} {s:Dst}
theorem anc (h:DS N S w g s) (hN2:N<=128) (ho:s.off=false) (half:Nat) (hh:N/2=half) (h1:1<=half) (p:Nat) (hp2:p+half<=N) (sk:Sk) (hsk:ak0 (aaZ s.bs s.wt p) half (fun n=>(adC s.bs s.wt (p+1) (need n)).take n)=sk):
 Calls Tryz.prog 143 #[.pointer (some ⟨g,0,none⟩), .int .i64 (p:Int)] w fun e w'=>Find sk w e w':=by
 obtain⟨w1,ha1,n1,b1⟩:=apE w 148 (.int .u64 0) (.int .u64 0) (.int .u32 0) (.bool false) (.int .i64 0) (.slice none 0 0) (.slice none 0 0);have hrd:=(h.below b1.out).read hN2 ho p (by omega);obtain⟨b,hb⟩:=nmE (aaZ s.bs s.wt p);have hb5:b.length=512:=by
  obtain⟨_,_,_,_,ws,k,e1,e2,_⟩:=h;rw[<-hb,<-e1];exact acZ _ _ _ k.fits (by omega)
 unfold arm at hrd;rw[hb,hb5]at hrd;rw[hb]at hsk;have HRD:=hE0 hrd;obtain⟨M,hM⟩:=nmE (512*(half-1));have hMl:M<=65536:=by omega
 have HROOM:=hE0 (fun W (hW:Below w.heap.size w W)=>akF (h.below hW) hN2 half M hh h1 hM);have HREADS:=hE0 (fun W (hW:Below w.heap.size w W) (Q:Nat) (hQ:Q<=M)=>(h.below hW).reads hN2 ho (p+1) Q (by unfold need;omega));have HSK:=hE0 hsk;have HM:=hE0 hM;have hpl:p<=128:=by omega
 clear h hrd hb hsk hh h1 hp2 hM;go_enter Tryz.func143,Tryz.ntmps143
 go_wp2_with (first | (rw[ha1.out]) | fail)
 refine HRD.out.mono ?_;rintro e w2 ⟨A2,c2,rfl,o2,b2⟩;have hc2:=akp o2;unfold maxLen at hc2;have HB2:=hE0 (b1.out.trans (b2.mono b1.out.size));have HG:=hE0 (aqv w2 A2 512 c2 b (ab8 o2) hc2.1);have n2:=hE0 ((b2.block _ (aaa n1.out)).trans n1.out);clear o2 b2 HRD hc2;go_wp2_with fail
 refine HG.out.mono ?_;rintro e w3 ⟨rfl,hb3⟩;obtain⟨ok,hok⟩:=nmE (acC b);obtain⟨G,hG⟩:=nmE (ahL b (slG b));obtain⟨Q,hQ⟩:=nmE (ahL b (slN b));obtain⟨C,hC⟩:=nmE (ahL b (slS b));have HOK:Hid (acC b=ok/\ahL b (slG b)=G/\ahL b (slN b)=Q/\ahL b (slS b)=C):=⟨hok,hG,hQ,hC⟩;rw[hok,hG,hQ,hC];have HB3:=hE0 (HB2.out.trans (hb3.mono HB2.out.size));have n3:=hE0 ((hb3.block _ (aaa n2.out)).trans n2.out);obtain⟨w4,ha4,m4,b4⟩:=agV w3 146 (.int .u64 0) (.int .u64 0) (.int .u32 0);obtain⟨w5,hp5,m5,b5,⟨z0,z1,z2⟩,⟨e0,e1,e2⟩,hle⟩:=auv m4 (.int .u64 (G:Int)) (.int .u64 (Q:Int)) (.int .u32 (C:Int));have hb5':=b5.out w3.heap.size w3 (Nat.le_refl _) b4.out;have HB5:=hE0 (HB3.out.trans (hb5'.mono HB3.out.size));have n5:=hE0 ((hb5'.block _ (aaa n3.out)).trans n3.out);clear hb3 hb5' HG hok hG hQ hC;have HPLAIN:Hid (acC b=false\/(acC b=true/\M<Q)->sk=⟨G,Q,C,false,0,[],[]⟩):=(show _->_ from fun hc=>by
  obtain⟨h1,h2,h3,h4⟩:=HOK.out;have hsk:=HSK.out;unfold ak0 at hsk;rcases hc with hc | ⟨hc,hf⟩
  · rw[if_pos hc]at hsk;subst hsk;have a1:=afG b (slG b) hc;have a2:=afG b (slN b) hc;have a3:=afG b (slS b) hc;have b1:G=0:=by omega
    have b2:Q=0:=by omega
    have b3:C=0:=by omega
    subst b1 b2 b3;rfl
  · obtain⟨-,f1,f2,f3⟩:=ajg hc;rw[f1]at h2;rw[f2]at h3;rw[f3]at h4;rw[if_neg (by rw[hc];decide),h2,h3,h4,if_pos (by rw[HM.out];exact hf)]at hsk;exact hsk.symm)
 go_wp2_with (first | (rw[ha4.out]) | (rw[hp5.out]) | fail)
 clear z0 z1 z2 e0 e1 e2 hle
 cases ok with
 | false=>
  have e:=HPLAIN.out (.inl HOK.out.1);subst e;clear HPLAIN;go_quiet (fail)
  obtain⟨wk,hwk⟩:=nmE (w5.drewN nq);have hbk:Below w5.heap.size w5 wk:=by rw[<-hwk];exact amC _ _
  have n6:=hE0 ((hbk.block _ (aaa n5.out)).trans n5.out);obtain⟨⟨v0,v1,v2⟩,_,hlv⟩:=adg ((hbk.block _ (aaa m5.out)).trans m5.out);have HB6:=hE0 (HB5.out.trans (hbk.mono HB5.out.size));rw[hwk];clear hwk hbk;obtain⟨wz,hz,nz,bz,⟨u0,u1,u2,u3,u4,u5,u6⟩,⟨g0,g1,g2,g3,g4,g5,g6⟩,hlu⟩:=auV n6 (.int .u64 (G:Int)) (.int .u64 (Q:Int)) (.int .u32 (C:Int)) (.bool false) (.int .i64 0) (.slice none 0 0) (.slice none 0 0);go_wp2_with (first | (rw[hz.out]) | fail)
  (try simp only[Exit.inBlock,Exit.then])
  refine aqB (g:=w.heap.size) (x:= .nilIface) Tryz.results143 ?_ ?_ ?_ nz.out ?_
  · rfl
  · rfl
  · rfl
  · exact Find.plain G Q C rfl (bz.out _ _ (Nat.le_refl _) HB6.out)
 | true=>
  have hrec:=asU HOK.out.1;obtain⟨-,f1,f2,f3⟩:=ajg HOK.out.1;obtain⟨-,k1,k2,k3⟩:=HOK.out;have hQl:Q<=65536:=by rw[<-k2,f2];exact hrec.2
  have hCl:C<4294967296:=by rw[<-k3,f3];exact au7 b
  have k1':slG b=G:=f1.symm.trans k1;have k2':slN b=Q:=f2.symm.trans k2;have k3':slS b=C:=f3.symm.trans k3;have HKK:Hid (slG b=G/\slN b=Q/\slS b=C):=⟨k1',k2',k3'⟩;clear hrec f1 f2 f3 k1 k2 k3 k1' k2' k3';obtain⟨y,gy⟩:=nmE (decide (M<Q));have gy':decide ((M:Int)<(Q:Int))=y:=by rw[<-gy];exact decide_eq_decide.2 (by omega)
  have GY:=hE0 gy;obtain⟨wd,hwd⟩:=nmE w5.drew;have hbd:=adE hwd;have n6:=hE0 ((hbd.block _ (aaa n5.out)).trans n5.out);have m6:=hE0 ((hbd.block _ (aaa m5.out)).trans m5.out);have HB6:=hE0 (HB5.out.trans (hbd.mono HB5.out.size));refine aar wd.heap.size [([0,1,2,3,4,5],6)] [7,8,9] [] (by kernel_rfl) (by kernel_rfl) (by kernel_rfl) (fun _ _ _ _ _ h=>h) ?_;rw[hwd];clear hwd hbd;obtain⟨⟨t0,t1,t2⟩,_,hlt⟩:=adg m6.out;have q1:=tfE t1 hlt;refine tail_cons (l:= ?segA) ?hsegA ?_
  case hsegA=>simp only[pick,lE1,lE2,lE3];rfl
  repeat (go_big_quiet_step (fail))
  refine wpQuiet_nil ?_;clear q1 t0 t1 t2 hlt;refine abD (vs:= #[.pointer (some ⟨g,0,none⟩)]) Tryz.call80 rfl rfl rfl (R:=fun r w'=>r= .int .i64 (M:Int)/\wd=w') ((HROOM.out wd HB6.out).mono ?_) ?_
  · rintro e w' ⟨rfl,rfl⟩;exact⟨_,rfl,Below.refl _ _,rfl,rfl⟩
  rintro r w' _ ⟨rfl,rfl⟩;refine⟨wd.heap.size,Nat.le_refl _,?_⟩;simp only[Act.put,lE4,lE5,lE6];refine aaO (l:= ?lastB) (t:= []) ?hlastB rfl ?_
  case hlastB=>simp only[pick,lE1,lE2,lE3];rfl
  repeat (go_big_quiet_step (fail))
  refine wpQuiet_nil ?_;clear gy gy'
  cases y with
  | true=>
   have e:=HPLAIN.out (.inr ⟨HOK.out.1,of_decide_eq_true GY.out⟩);subst e;clear HPLAIN;obtain⟨⟨v0,v1,v2⟩,_,hlv⟩:=adg m6.out;obtain⟨wz,hz,nz,bz,⟨u0,u1,u2,u3,u4,u5,u6⟩,⟨g0,g1,g2,g3,g4,g5,g6⟩,hlu⟩:=auV n6 (.int .u64 (G:Int)) (.int .u64 (Q:Int)) (.int .u32 (C:Int)) (.bool false) (.int .i64 0) (.slice none 0 0) (.slice none 0 0);go_wp2_with (first | (rw[hz.out]) | fail)
   (try simp only[Exit.inBlock,Exit.then])
   refine aqB (g:=w.heap.size) (x:= .nilIface) Tryz.results143 ?_ ?_ ?_ nz.out ?_
   · rfl
   · rfl
   · rfl
   · exact Find.plain G Q C rfl (bz.out _ _ (Nat.le_refl _) HB6.out)
  | false=>
   have hQM:Q<=M:=Nat.le_of_not_lt (of_decide_eq_false GY.out);obtain⟨o,hob⟩:=nmE ((adC s.bs s.wt (p+1) (need Q)).take Q);have hrds:=HREADS.out wd HB6.out Q hQM;unfold arm at hrds;rw[hob]at hrds;have hsk:asf G Q C (abd 0 o) (afi o)=sk:=by
    have hsk:=HSK.out;obtain⟨k1,k2,k3⟩:=HKK.out;unfold ak0 at hsk;rw[if_neg (by rw[HOK.out.1];decide),k1,k2,k3,if_neg (by rw[HM.out];exact Nat.not_lt.2 hQM)]at hsk;dsimp only at hsk;rw[hob]at hsk;exact hsk
   have HSK2:=hE0 hsk;have HRDS:=hE0 hrds;have hQi:Hid (((p:Int)+1)=((p+1:Nat):Int)):=(show _=_ from rfl);obtain⟨ol,hol⟩:=nmE o.length;have holl:ol<=65536:=by rw[<-hol,<-hob,List.length_take];omega
   rw[hol]at HRDS;obtain⟨⟨v0,v1,v2⟩,_,hlv⟩:=adg m6.out;clear hrds hsk hob hol HREADS HROOM HPLAIN;go_wp2_with fail
   rw[hQi.out];refine HRDS.out.mono ?_;rintro e w8 ⟨A8,c8,rfl,o8,b8⟩;have hc8:=akp o8;unfold maxLen at hc8;have HB8:=hE0 (HB6.out.trans (b8.mono HB6.out.size));have n8:=hE0 ((b8.block _ (aaa n6.out)).trans n6.out);have m8:=hE0 ((b8.block _ (aaa m6.out)).trans m6.out);have HIM:=hE0 (aog w8 A8 ol c8 o (ab8 o8) hc8.1 (by omega) (by omega) G Q C hCl sk HSK2.out);obtain⟨⟨x0,x1,x2⟩,_,hlx⟩:=adg m8.out;clear v0 v1 v2 hlv o8 b8 hc8 HRDS;go_wp2_with fail
   refine HIM.out.mono ?_;rintro e w9 ⟨A9,a9,B9,c9,rfl,hr9,hd9,hA9,b9⟩;clear x0 x1 x2 hlx;have HS4:Hid (sk.G=G/\sk.N=Q/\sk.S=C):=(show _/\_ from by
    rw[<-HSK2.out];unfold asf;split<;>exact⟨rfl,rfl,rfl⟩)
   obtain⟨sG,sN,sS,so,sn,sl,sd⟩:=sk;obtain⟨rfl,rfl,rfl⟩:=HS4.out;dsimp only at hr9 hd9;dsimp only;have HA9:Hid (∀a,B9=some a->w.heap.size<a.block):=(show ∀a,_->_ from fun a e=>by have:=hA9 a e;have:=aaa n8.out;omega);obtain⟨wa,ha10,m10,b10⟩:=agV w9 107 (.int .i64 0) (.slice none 0 0) (.slice none 0 0);obtain⟨wb,hp11,m11,b11,⟨z0,z1,z2⟩,⟨e0,e1,e2⟩,hle⟩:=auv m10 (.int .i64 (sn:Int)) (.slice A9 sl.length a9) (.slice B9 sd.length c9);have hb911:=b11.out w9.heap.size w9 (Nat.le_refl _) b10.out;have hb811:=b9.trans (hb911.mono b9.size);have HB11:=hE0 (HB8.out.trans (hb811.mono HB8.out.size));have n11:=hE0 ((hb811.block _ (aaa n8.out)).trans n8.out);have r11:=hE0 ((hb811.block _ (aaa m8.out)).trans m8.out);have HIM11:Hid (RkRd wb wb.heap.size A9 sl/\DtRd wb wb.heap.size B9 sd):=⟨(hr9.below hb911).more hb911.size,(hd9.below hb911).more hb911.size⟩;obtain⟨⟨x0,x1,x2⟩,_,hlx⟩:=adg m11.out;obtain⟨⟨v0,v1,v2⟩,_,hlv⟩:=adg r11.out;obtain⟨wz,hz,nz,bz,⟨u0,u1,u2,u3,u4,u5,u6⟩,⟨g0,g1,g2,g3,g4,g5,g6⟩,hlu⟩:=auV n11 (.int .u64 (sG:Int)) (.int .u64 (sN:Int)) (.int .u32 (sS:Int)) (.bool so) (.int .i64 (sn:Int)) (.slice A9 sl.length a9) (.slice B9 sd.length c9);have HFIN:Hid (RkRd wz wz.heap.size A9 sl/\DtRd wz wz.heap.size B9 sd):=by
    have hz2:wz.heap.size=wb.heap.size:=by rw[<-hz.out];simp[World.setCell]
    have hk2:∀k,k≠w.heap.size->wz.heap[k]?=wb.heap[k]?:=fun k hk=>by
     rw[<-hz.out,heap_setCell_other _ _ _ _ hk,heap_setCell_other _ _ _ _ hk,heap_setCell_other _ _ _ _ hk,heap_setCell_other _ _ _ _ hk,heap_setCell_other _ _ _ _ hk,heap_setCell_other _ _ _ _ hk,heap_setCell_other _ _ _ _ hk]
    rw[hz2];exact⟨HIM11.out.1.offS n11.out hk2,HIM11.out.2.offS (fun a e=>by have:=HA9.out a e;omega) n11.out hk2⟩
   have HBZ:=hE0 (bz.out _ _ (Nat.le_refl _) HB11.out);clear hr9 hd9 hA9 b9 hb911 hb811 HIM;go_wp2_with (first | (rw[ha10.out]) | (rw[hp11.out]) | (rw[hz.out]) | fail)
   (try simp only[Exit.inBlock,Exit.then])
   refine aqB (g:=w.heap.size) (x:= .nilIface) Tryz.results143 ?_ ?_ ?_ nz.out ?_
   · rfl
   · rfl
   · rfl
   · exact⟨A9,a9,B9,c9,rfl,HFIN.out.1,HFIN.out.2,(fun a e=>Nat.le_of_lt (HA9.out a e)),HBZ.out⟩
end
end Go.Proofs.YtncadccbepjekaaGreatDoor
