import Derived.Test.YtemicfjmidohfaaGreatDoorWc
import Derived.Test.YtemicfjmidohfaaGreatDoorWb
set_option maxRecDepth 100000
set_option maxHeartbeats 12800000
namespace Go.Proofs.YtemicfjmidohfaaGreatDoor
open Go Go.Proofs Go.RowKit
variable {X:Nat→Prop} {w W W':World} {d:Nat} {cs ds es zs:List Value} {b b':Brd}
abbrev CLT:TypeId:=75
theorem push_ok (b:Brd) (t s sl:Int) (c:Cal) (h0:0≤s) (h1:s<b.st.length) (_:0≤sl) (_:sl≤800):BCall 45 [s,sl,.agg (calL c).toArray] b (pushB b t s sl c) t fun v=>.tuple #[v,.int .i64 (pushE b s)]:=by
 intro n X cs w hO hn hI hX t0 t1
 obtain ⟨k,rfl⟩:∃ k:Nat,s=(k:Int):=⟨s.toNat,by omega⟩
 have hk:k<b.st.length:=by omega
 have hk8:k<8:=Nat.lt_of_lt_of_le hk hI.s8;have HP:=Lh (And.intro hI (And.intro hk (And.intro (show b.tr.length≤800000 from by have:=hO.tr; omega) hX)));have HO:=Lh (And.intro hO hn);have HH:=Lh (fun W (hb:Below w.heap.size w W)=>has_any k W (hI.next hb) hk);have HL:=Lh hI.len;have HT:=Lh (show (∀ W W':World,Blk W (w.heap.size+1) (calL c) CLT→Below W.heap.size W W'→Blk W' (w.heap.size+1) (calL c) CLT)∧∀ W es,Blk W (w.heap.size+1) (calL c) CLT→Bs X w 2 cs b W→Blk (setN W (w.heap.size+0) 0 es) (w.heap.size+1) (calL c) CLT from ⟨fun _ _ h hb=>h.next hb,fun _ _ h _=>h.setN (by omega) _ _⟩);clear hO hn hI hX h0 h1 hk t0 t1
 show Calls Tryz.prog 45 #[.agg cs.toArray,t,.int .i64 (k:Int),sl,.agg (calL c).toArray] w _
 go_enter Tryz.func45,Tryz.ntmps45
 go_upto_region 1 with fail
 generalize hW2:World.alloc (World.alloc (World.alloc w _) _) _=W2;have H2:=Lh (show Bt X w 2 cs b (fun W=>Blk W (w.heap.size+1) (calL c) CLT) W2 from by
  rw [←hW2];have h:=Bq.start2 (T:=BDT) w cs zBd (calL c) CLT;exact ⟨Bs.of h.1 rfl (HP.out.1.next h.1.bel),h.2⟩)
 clear hW2
 go_upto_region 3 with (first
  | (refine kld (n:=nBd) H2.out.1.b0 HL.out ?_)
  | (go_at_call 77; refine (HH.out _ H2.out.1.bel).mono ?_; rintro e w3 ⟨rfl,hb3⟩; have H3:=Lh (H2.out.next HT.out.1 _ _ (hb3.trans (bdq (w:=w3)))); clear hb3 H2 HH))
 refine rgH (fun _=>True) trivial fun hH=>?_
 refine ta 1 hH ?_;refine ta 2 hH ?_;refine rOw (t:=t) (l:=(k:Int)) 0 3 4 5 6 rd_any H3.out (by have:=HP.out.2.2.1; omega) (lo1 (by omega)) HT.out.1 HT.out.2 (fun w5 w6 es h6=>?_);have H6:=Lh h6;simp only [LAY]
 refine dnH ?_;clear h6 hH H3 HL;have hD:=show (b.did [⟨t,0,(k:Int)⟩]).at k=b.at k from rfl
 obtain ⟨j,q,hS⟩:=H6.out.1.ib.at (show k<(b.did [⟨t,0,(k:Int)⟩]).st.length from HP.out.2.1);rw [hD] at hS;obtain ⟨qa,qc,rfl,hqc⟩:=hS.q.form;obtain ⟨l,hl⟩:∃ l,(b.at k).q=l:=⟨_,rfl⟩
 obtain ⟨z,hz⟩:∃ z,(b.at k).z=z:=⟨_,rfl⟩
 have hq:=hS.q;have hc1:=hS.c1;have hc3:=hS.c3;rw [hl] at hq hc3 hqc;rw [hz] at hc1;have hlr:=HO.out.1.at k;have hr16:=HO.out.1.r1;have hr1:=HO.out.1.r0;rw [hl] at hlr;have HQ:=Lh hq;have HPE:=Lh (show ∀ v,(if z=true then 9 else if (l.length:Int)=b.room then 8 else 0)=v→pushE b k=v from fun v h=>by unfold pushE; rw [hz,hl]; exact h);have HPB:=Lh (show (pushE b k≠0→pushB b t k sl c=b.did [⟨t,0,k⟩])∧(pushE b k=0→pushB b t k sl c=Brd.did { b.set k { b.at k with q:=l++[⟨b.tk,sl,c⟩] } with tk:=b.tk+1 } [⟨t,0,k⟩,⟨t,2,2000⟩,⟨t,3,2000⟩,⟨t,1,k⟩]) from ⟨fun h=>if_pos h,fun h=>by rw [←hl]; exact if_neg (fun e=>e h)⟩);have q1:=H6.out.1.b0.cell _ hc1;have q3:=H6.out.1.b0.cell _ hc3;have q33:=H6.out.1.b0.cell 33 H6.out.1.ib.pl.2.1;have HL6:=Lh H6.out.1.ib.len;have HK3:=Lh (And.intro hk8 hc3);have HSA:=Lh hS;clear hS hq hc1 hc3 hD hl hz;obtain ⟨N,hN⟩:∃ N,l.length=N:=⟨_,rfl⟩
 rw [hN] at q3 hlr hqc HQ HPE HK3;have HN:=Lh hN;clear hN;have q33':w6.cell? ⟨w.heap.size,33,none⟩=some (.int .i64 b.room):=q33;clear q33;generalize b.room=r at *
 cases z with
 | true=>
  have HE:=Lh (HPE.out 9 rfl);go_wp2_with (first
   | (refine kld (n:=nBd) H6.out.1.b0 HL6.out ?_)
   | (obtain ⟨zs,hz,hB⟩:=H6.out.1.b1; refine kst (n:=nBd) hB hz HL6.out H6.out.1.ib.one (fun w7 hw7=>?_)))
  have H7:=H6.out.1.res H6.out.1.ib hw7.out;exact bodyPost_ret (res_ct (n:=nBd) H7.1 HL6.out) rfl ⟨H7.2.1,es,by rw [HE.out]; rfl,by rw [HPB.out.1 (by rw [HE.out]; decide)]; exact H7.2.2⟩
 | false=>
  by_cases hf:(N:Int)=r
  ·have HE:=Lh (HPE.out 8 (by rw [if_neg (by decide),if_pos hf]))
   have hge:r≤(N:Int):=by omega
   have hsz:=Lh hf;clear hf;go_wp2_with (first
    | (refine kld (n:=nBd) H6.out.1.b0 HL6.out ?_)
    | (obtain ⟨zs,hz,hB⟩:=H6.out.1.b1; refine kst (n:=nBd) hB hz HL6.out H6.out.1.ib.one (fun w7 hw7=>?_)))
   have H7:=H6.out.1.res H6.out.1.ib hw7.out;exact bodyPost_ret (res_ct (n:=nBd) H7.1 HL6.out) rfl ⟨H7.2.1,es,by rw [HE.out]; rfl,by rw [HPB.out.1 (by rw [HE.out]; decide)]; exact H7.2.2⟩
  ·have HE:=Lh (HPE.out 0 (by rw [if_neg (by decide),if_neg hf]))
   have hlt:(N:Int)<r:=by omega
   clear hf
   go_upto_region 9 with fail
   obtain ⟨tk,htk⟩:∃ tk,b.tk=tk:=⟨_,rfl⟩
   have HTK:=Lh htk;have ht0:0≤tk:=by have:=HO.out.1.t0; omega
   have ht1:tk≤1000:=by have:=HO.out.1.t1; have:=HO.out.2; omega
   have H7:=Lh (Bt.next HT.out.1 _ _ H6.out (bdq (w:=w6)));have HQ7:=Lh (HQ.out.next (bdq (w:=w6)));have HSA7:=Lh ({ HSA.out with q:=HSA.out.q.next (bdq (w:=w6)) }:StA X w6.drew es k (b.at k) j (.slice qa (b.at k).q.length qc));have hc34:=H7.out.1.ib.pl.2.2.1;rw [show (b.did [⟨t,0,(k:Int)⟩]).tk=tk from htk] at hc34;have HC34:=Lh hc34;clear hc34 htk q1 q3 q33' H6 HQ HSA HPE;refine rgH (fun W=>Ce W w.heap.size 34 tk∧Blk W (w.heap.size+1) (calL c) CLT) ⟨H7.out.1.b0.cell 34 HC34.out,H7.out.2⟩ fun hH=>?_
   generalize w6.drew=w7 at *
   refine ta 0 hH ?_;refine ta 1 hH ?_;refine ta 3 hH ?_;refine tq 4 tk hH ?_ (hy:=fun W h=>by have hq:=h.1; go_simp);refine ta 5 hH ?_;refine tq 6 (.agg (calL c).toArray) hH ?_ (hy:=fun W h=>kly h.2 rfl);refine tq 7 (.agg #[tk,sl,c.k,c.p,.int .i32 c.ch,c.o.k,c.o.c,c.o.s,c.o.a,c.o.n,.int .i32 c.o.ch,c.a,c.b]) hH ?_ (hy:=fun W h=>by dsimp only [calL]; go_simp);refine ta 10 hH ?_;have H8:=Lh (Bt.next HT.out.1 _ _ H7.out (bA (w:=w7) (o:=.cells ⟨entL ⟨tk,sl,c⟩⟩ ENT)));have hSS:=fun (W:World) (h:Bt X w 2 es (b.did [⟨t,0,(k:Int)⟩]) (fun W=>Blk W (w.heap.size+1) (calL c) CLT) W)=>show W.cell? ⟨w.heap.size,34,none⟩=some (.int .i64 tk)∧Blk W (w.heap.size+1) (calL c) CLT from ⟨h.1.b0.cell 34 HC34.out,h.2⟩
   have HSS:=Lh hSS;have HB8:=Lh (Blk.start w7 (entL ⟨tk,sl,c⟩) ENT);have HQ8:=Lh (HQ7.out.next (bA (w:=w7) (o:=.cells ⟨entL ⟨tk,sl,c⟩⟩ ENT)));have HSA8:=Lh ({ HSA7.out with q:=HSA7.out.q.next (bA (w:=w7) (o:=.cells ⟨entL ⟨tk,sl,c⟩⟩ ENT)) }:StA X (w7.alloc (.cells ⟨entL ⟨tk,sl,c⟩⟩ ENT)) es k (b.at k) j (.slice qa (b.at k).q.length qc));clear hSS;refine rCB (v:=.slice qa N N) (u:=.slice (some ⟨w7.heap.size,0,none⟩) 1 1) (w2:=w7.alloc (.cells ⟨entL ⟨tk,sl,c⟩⟩ ENT)) 2 8 (fun w=>clip_any qa N qc w hqc.1 (by omega)) (HSS.out _ H7.out) (HSS.out _ H8.out) ?_;clear H7 HQ7 HSA7 hH
   try simp only [LAY]
   generalize w7.heap.size=g8 at *
   generalize w7.alloc (.cells ⟨entL ⟨tk,sl,c⟩⟩ ENT)=w8 at *
   obtain ⟨c9,w9,hrun,hb9,hs9⟩:=so_app HQ8.out HN.out (by omega) HB8.out;have H9:=Lh (Bt.next HT.out.1 _ _ H8.out hb9);have HS9:=Lh (And.intro hs9 (show w.heap.size≤w8.heap.size from H8.out.1.bel.size));have HSA9:=Lh ({ HSA8.out with q:=HSA8.out.q.next hb9 }:StA X w9 es k (b.at k) j (.slice qa (b.at k).q.length qc));have HG:=Lh (show w.heap.size<w8.heap.size from H8.out.1.b0.lt);clear HB8 HQ8 HSA8 H8 hs9 hb9;refine rd1 9 (by kernel_rfl) rfl fun K hK=>?_
   rw [if_pos (by rfl)];refine wp_appP rfl rfl rfl hrun ?_;refine hK.out _ _ (HSS.out _ H9.out) (fun hH=>?_);clear hK K hrun;generalize w8.heap.size=g9 at *
   try simp only [LAY]
   refine tq 11 (.pointer (some ⟨w.heap.size,k * 4,none⟩)) hH ?_ (hy:=fun W h=>by go_simp; intro hh; omega);refine ta 12 hH ?_;have q3:=H9.out.1.b0.cell _ HK3.out.2;have f3:=H9.out.1.b0.free (k * 4+3);obtain ⟨ds,H10⟩:∃ ds,Hid (Bt X w 2 ds ((b.did [⟨t,0,(k:Int)⟩]).set k { b.at k with q:=l++[⟨tk,sl,c⟩] }) (fun W=>Blk W (w.heap.size+1) (calL c) CLT) (w9.setCell ⟨w.heap.size,k * 4+3,none⟩ (.slice (some ⟨g9,0,none⟩) (N+1) c9))):=by
    have h8:=k32 H9.out.1.ib (show k<(b.did [⟨t,0,(k:Int)⟩]).st.length from HP.out.2.1);have hq9:=So.of (X:=X) (f:=entL) (m:=13) (fun _=>rfl) HS9.out.1 (fun g' n' c' e hx=>by
     simp only [Value.slice.injEq,Option.some.injEq,Addr.mk.injEq] at e
     have:=HP.out.2.2.2 _ hx; have:=HG.out; omega)
    have hst:=HSA9.out.queue h8 hq9;exact ⟨_,Lh ⟨H9.out.1.put _ _ (H9.out.1.ib.set1 HP.out.2.1 (by decide) rfl hst),H9.out.2.setN (by omega) [_] _⟩⟩
   refine rd1 13 (by kernel_rfl) rfl fun K hK=>?_
   go_simp
   go_wp2_with fail
   refine hK.out _ _ ⟨?_,H10.out.2⟩ (fun hH=>?_)
   ·refine (World.cell?_setCell_other _ _ _ _ (fun e=>by have h:=congrArg Addr.off e; have h':k * 4+3=34:=h; omega)).trans ?_
    exact H9.out.1.b0.cell 34 HC34.out
   clear hK K hH q3 f3 H9 HS9 HSA9 HG HSS;generalize w9.setCell ⟨w.heap.size,k * 4+3,none⟩ (.slice (some ⟨g9,0,none⟩) (N+1) c9)=w10 at *
   refine dnH ?_;have hc34:=H10.out.1.ib.pl.2.2.1;rw [show ((b.did [⟨t,0,(k:Int)⟩]).set k { b.at k with q:=l++[⟨tk,sl,c⟩] }).tk=tk from HTK.out] at hc34;have q34:=H10.out.1.b0.cell 34 hc34;have f34:=H10.out.1.b0.free 34;clear hc34 HC34
   go_upto_region 11 with fail
   obtain ⟨b3,hb3⟩:∃ b3:Brd,b3={ (b.did [⟨t,0,(k:Int)⟩]).set k { b.at k with q:=l++[⟨tk,sl,c⟩] } with tk:=tk+1 }:=⟨_,rfl⟩
   obtain ⟨fs,H11⟩:∃ fs,Hid (Bs X w 2 fs b3 (w10.setCell ⟨w.heap.size,34,none⟩ (.int .i64 (tk+1)))):=⟨_,by
    subst hb3;exact Lh (H10.out.1.put 34 (.int .i64 (tk+1)) (H10.out.1.ib.plain (by decide) rfl rfl ⟨(get_off (by decide)).trans H10.out.1.ib.pl.2.1,List.getElem?_set_self (by rw [H10.out.1.ib.len]; decide),(get_off (by decide)).trans H10.out.1.ib.pl.2.2.2.1,(get_off (by decide)).trans H10.out.1.ib.pl.2.2.2.2⟩ (by decide) rfl (by obtain ⟨v,e,h⟩:=H10.out.1.ib.ms; exact ⟨v,(get_off (by decide)).trans e,h⟩) ⟨by decide,rfl⟩))⟩
   have HB3:=Lh (show b3.tr.length≤900000∧pushB b t k sl c=b3.did [⟨t,2,2000⟩,⟨t,3,2000⟩,⟨t,1,k⟩] from by
    refine ⟨by rw [hb3]; show (b.did [⟨t,0,(k:Int)⟩]).tr.length≤900000; rw [did_len]; have:=HP.out.2.2.1; show _+1≤_; omega,?_⟩;rw [HPB.out.2 HE.out,hb3,HTK.out]
    show Brd.mk _ _ _ _ _ _ _ _=Brd.mk _ _ _ _ _ _ _ _
    congr 1
    show b.tr++_=(b.tr++_)++_
    rw [List.append_assoc]; rfl)
   clear q34 f34 H10 hb3;generalize w10.setCell ⟨w.heap.size,34,none⟩ (.int .i64 (tk+1))=w11 at *
   refine rgH (Bt X w 2 fs b3 fun _=>True) ⟨H11.out.next bdq,trivial⟩ fun hH=>?_
   clear H11;refine tq 0 (.agg fs.toArray) hH ?_ (hy:=fun W h=>kly h.1.b0 h.1.ib.len);refine ta 1 hH ?_;refine ta 4 hH ?_;refine rA (l:=2000) 2 acq_any hH (Bt.next tru) (fun w12 _ hH=>?_);refine rA (l:=2000) 3 rel_any hH (Bt.next tru) (fun w13 _ hH=>?_);refine rA (l:=(k:Int)) 5 wr_any hH (Bt.next tru) (fun w14 _ hH=>?_);refine rTl (t:=t) 6 7 8 [⟨0,2,2000⟩,⟨0,3,2000⟩,⟨0,1,(k:Int)⟩] hH HB3.out.1 (fun w15 fs2 hH hB hI=>?_) (lo2 (by omega) (lo2 (by omega) (lo1 (by omega))))
   try simp only [LAY]
   refine ta 9 hH ?_;refine dnH ?_;go_wp2_with fail
   exact bodyPost_ret (res_ct (n:=nBd) hB hI.len) rfl ⟨hH.1.bel,fs2,by rw [HE.out]; rfl,by rw [HB3.out.2]; exact hI⟩
end Go.Proofs.YtemicfjmidohfaaGreatDoor
set_option maxRecDepth 100000
set_option maxHeartbeats 12800000
namespace Go.Proofs.YtemicfjmidohfaaGreatDoor
open Go Go.Proofs Go.RowKit
variable {X:Nat→Prop} {w W W':World} {d:Nat} {cs ds es zs:List Value} {b b':Brd}
theorem klm {P:Program} {op:Oper} {a:Act} {w:World} {b o:Nat} {vs:List Value} {ty:TypeId} {x:Operand} {n:Nat} (hB:w.rangeAt b o vs) (hl:vs.length=n) (ho:op.op=.load ty x:=by rfl) (hx:a.eval x=.pointer (some ⟨b,o,none⟩):=by rfl)
  (hu:(P.underlying ty).any TypeDesc.isRow=true:=by kernel_rfl) (hi:(P.info? ty).map (·.size)=some n:=by kernel_rfl):(execOp a.eval op).run P w=.ok (.value (.agg vs.toArray)) w:=by
 obtain ⟨d,hd,hr⟩:=isRow_of hu;unfold execOp
 simp only [ho,hx,Instr.loadAt,Instr.sureAddr,Sem.run_bind,Sem.run_pure,Result.andThen_ok,run_loadVar_mid w b o ty vs d hB hd hr (by rw [hl]; exact hi)]
theorem noent_one:∀ u∈noEnt,u.oneCell'=true:=by
 intro u hu
 simp only [noEnt,List.mem_cons,List.not_mem_nil,or_false] at hu
 rcases hu with rfl | rfl | rfl | rfl | rfl | rfl | rfl | rfl | rfl | rfl | rfl | rfl | rfl <;> rfl
def popL:List QEn→Int→Option QEn
 | [],_=>none
 | e::_,t=>if e.tk=t then some e else none
theorem popE_L (b:Brd) (s t:Int):popE b s t=popL (b.at s).q t:=by unfold popE; cases (b.at s).q <;> rfl
theorem IsBd.setX {q:Nat} (h:IsBd W X b cs) (hq:X q) (hB:Blk W q zs ENT) (us:List Value) (i:Nat):IsBd (Go.Proofs.YtemicfjmidohfaaGreatDoor.setN W q i us) X b cs where
 len:=h.len
 one:=h.one
 s8:=h.s8
 st j hj:=by obtain ⟨k,q',s⟩:=h.st j hj; exact ⟨k,q',{ s with q:=s.q.wr hq hB us i }⟩
 pl:=h.pl
 rp:=h.rp.kt (KT.setN (by decide) us i hB) (KT.setN (by decide) us i hB) (KT.setN (by decide) us i hB) (Nat.le_of_eq (setN_size _ i).symm)
 ms:=by obtain ⟨v,h1,h2⟩:=h.ms; exact ⟨v,h1,h2.stay fun c o _ ho hc=>setN_other us i fun e=>by subst e; unfold Blk at hB; rw [hB] at ho; cases ho; cases hc⟩
 lk:=by obtain ⟨v,h1,h2⟩:=h.lk; exact ⟨v,h1,h2.kt (KT.setN (by decide) us i hB)⟩
 n:=h.n
 lo:=h.lo
theorem Bs.setX (h:Bs X w d ds b W) {q:Nat} (h0:w.heap.size<q) (h1:q≠w.heap.size+d) (hq:X q) (hB:Blk W q zs ENT) (us:List Value) (i:Nat):Bs X w d ds b (setN W q i us):=by
 obtain ⟨z,h2,h3⟩:=h.b1;exact ⟨h.dp,setN_below (by omega) _ _ h.bel,h.b0.setN (by omega) _ _,⟨z,h2,h3.setN (by omega) _ _⟩,h.ib.setX hq hB _ _⟩
abbrev EBx (w W:World):Prop:=∃ zs:List Value,zs.length=13∧Blk W (w.heap.size+1+1) zs ENT
theorem pop_ok (b:Brd) (t s tk:Int) (h0:0≤s) (h1:s<b.st.length):BCall 21 [s,tk] b (popB b t s tk) t fun v=>.tuple #[v,popV (popE b s tk),.bool (popE b s tk).isSome]:=by
 intro n X cs w hO hn hI hX t0 t1
 obtain ⟨k,rfl⟩:∃ k:Nat,s=(k:Int):=⟨s.toNat,by omega⟩
 have hk:k<b.st.length:=by omega
 have hk8:k<8:=Nat.lt_of_lt_of_le hk hI.s8;obtain ⟨Y,hY⟩:∃ Y:Nat→Prop,∀ c,Y c↔X c∨c=w.heap.size+1+1:=⟨_,fun _=>Iff.rfl⟩
 have HY:=Lh hY;have hIY:IsBd w Y b cs:=hI.more fun c hc=>((hY c).1 hc).imp id (fun e=>by omega)
 have HP:=Lh (And.intro hIY (And.intro hk (show b.tr.length≤800000 from by have:=hO.tr; omega)));have HO:=Lh (And.intro hO hn);have HH:=Lh (fun W (hb:Below w.heap.size w W)=>has_any k W (hIY.next hb) hk);have HL:=Lh hI.len;have HT:=Lh (show (∀ W W':World,EBx w W→Below W.heap.size W W'→EBx w W')∧∀ W es,EBx w W→Bs Y w 1 cs b W→EBx w (setN W (w.heap.size+0) 0 es) from ⟨fun _ _ ⟨z,h1,h2⟩ hb=>⟨z,h1,h2.next hb⟩,fun _ _ ⟨z,h1,h2⟩ _=>⟨z,h1,h2.setN (by omega) _ _⟩⟩);clear hO hn hI hX h0 h1 hk t0 t1 hY hIY
 show Calls Tryz.prog 21 #[.agg cs.toArray,t,.int .i64 (k:Int),tk] w _
 go_enter Tryz.func21,Tryz.ntmps21
 go_upto_region 1 with fail
 generalize hW2:World.alloc (World.alloc (World.alloc w _) _) _=W2;have H2:=Lh (show Bt Y w 1 cs b (EBx w) W2 from by
  rw [←hW2];exact ⟨(Bs.of (Bq.start w _ zBd) rfl (HP.out.1.next (Bq.start w _ zBd).bel)).next bA,noEnt,rfl,Blk.startAt (by simp)⟩)
 clear hW2
 go_upto_region 3 with (first
  | (refine kld (n:=nBd) H2.out.1.b0 HL.out ?_)
  | (go_at_call 77; refine (HH.out _ H2.out.1.bel).mono ?_; rintro e w3 ⟨rfl,hb3⟩; have H3:=Lh (H2.out.next HT.out.1 _ _ (hb3.trans (bdq (w:=w3)))); clear hb3 H2 HH))
 refine rgH (fun _=>True) trivial fun hH=>?_
 refine ta 1 hH ?_;refine ta 2 hH ?_;refine rOw (t:=t) (l:=(k:Int)) 0 3 4 5 6 rd_any H3.out (by have:=HP.out.2.2; omega) (lo1 (by omega)) HT.out.1 HT.out.2 (fun w5 w6 es h6=>?_);have H6:=Lh h6;simp only [LAY]
 refine dnH ?_;clear h6 hH H3 HL;have hD:=show (b.did [⟨t,0,(k:Int)⟩]).at k=b.at k from rfl
 obtain ⟨j,q,hS⟩:=H6.out.1.ib.at (show k<(b.did [⟨t,0,(k:Int)⟩]).st.length from HP.out.2.1);rw [hD] at hS;obtain ⟨qa,qc,rfl,hqc⟩:=hS.q.form;obtain ⟨l,hl⟩:∃ l,(b.at k).q=l:=⟨_,rfl⟩
 have hq:=hS.q;have hc3:=hS.c3;rw [hl] at hq hc3 hqc;have hlr:=HO.out.1.at k;have hr16:=HO.out.1.r1;rw [hl] at hlr;have HQ:=Lh hq;have HPE:=Lh (show popE b k tk=popL l tk from by rw [popE_L,hl]);have HPN:=Lh (show popE b k tk=none→popB b t k tk=b.did [⟨t,0,k⟩] from fun h=>by unfold popB; rw [h]);have HPS:=Lh (show ∀ e,popE b k tk=some e→popB b t k tk=(b.set k { b.at k with q:=l.drop 1 }).did [⟨t,0,k⟩,⟨t,1,k⟩] from fun e h=>by unfold popB; rw [h,←hl]);have q3:=H6.out.1.b0.cell _ hc3;have HL6:=Lh H6.out.1.ib.len;have HK3:=Lh (And.intro hk8 hc3);have HSA:=Lh hS;clear hS hq hc3 hD hl;have HNO:=Lh (fun (w7 w8:World) (h7:w7=setN w6 (w.heap.size+1) 0 es) (h8:w8=setN w7 (w.heap.size+1+1) 0 noEnt)=>show Blk w8 (w.heap.size+1) es BDT∧Blk w8 (w.heap.size+1+1) noEnt ENT∧Below w.heap.size w w8∧IsBd w8 X (b.did [⟨t,0,(k:Int)⟩]) es from by
  obtain ⟨z,hz,hE⟩:=H6.out.2;have hR:=H6.out.1.res H6.out.1.ib h7;have hE7:Blk w7 (w.heap.size+1+1) z ENT:=by rw [h7]; exact hE.setN (by omega) _ _
  have hx:=hR.2.2.setX ((HY.out _).2 (.inr rfl)) hE7 noEnt 0;rw [h8];exact ⟨hR.1.setN (by omega) _ _,setN_all hE7 hz.symm,setN_below (by omega) _ _ hR.2.1,hx.more fun c hc=>.inl ((HY.out c).2 (.inl hc))⟩)
 cases l with
 | nil=>
  have hq3:w6.cell? ⟨w.heap.size,k * 4+3,none⟩=some (.slice qa 0 qc):=q3;clear q3;go_wp2_with (first
   | (refine kld (n:=nBd) H6.out.1.b0 HL6.out ?_)
   | (obtain ⟨zs,hz,hB⟩:=H6.out.1.b1; refine kst (n:=nBd) hB hz HL6.out H6.out.1.ib.one (fun w7 hw7=>?_))
   | (obtain ⟨zs,hz,hB⟩:=H6.out.2; refine kst (n:=13) (us:=noEnt) (show Blk w7 _ zs ENT from by rw [hw7.out]; exact hB.setN (by omega) _ _) hz rfl noent_one (fun w8 hw8=>?_)))
  have H8:=HNO.out w7 w8 hw7.out hw8.out;exact bodyPost_ret (res_cct (n:=nBd) (n2:=13) H8.1 HL6.out H8.2.1 rfl) rfl ⟨H8.2.2.1,es,by rw [HPE.out]; rfl,by rw [HPN.out HPE.out]; exact H8.2.2.2⟩
 | cons e r=>
  obtain ⟨qg,qo,rfl,hqg,hrg⟩:=So.cell (f:=entL) (m:=13) (fun _=>rfl) HQ.out 0 (Nat.zero_lt_succ _);have hr0:=hrg 0 e.tk rfl;rw [Nat.zero_mul,Nat.add_zero] at hr0;obtain ⟨N,hN⟩:∃ N,(e::r).length=N+1:=⟨r.length,rfl⟩
  have hNr:r.length=N:=by simpa using hN
  rw [hN] at q3 HQ HK3 hlr hqc;have HN:=Lh hNr;have hrl:(e::r).length=N+1:=hN;clear hN hNr hrg;have hn0:((N:Int)+1==0)=false:=by simp; omega
  by_cases ht:e.tk=tk
  rotate_left
  ·have he2:(e.tk != tk)=true:=by simpa using ht
   have HE:=Lh (show popE b k tk=none from by rw [HPE.out]; exact if_neg ht);clear hrl ht;go_wp2_with (first
    | (refine kld (n:=nBd) H6.out.1.b0 HL6.out ?_)
    | (obtain ⟨zs,hz,hB⟩:=H6.out.1.b1; refine kst (n:=nBd) hB hz HL6.out H6.out.1.ib.one (fun w7 hw7=>?_))
    | (obtain ⟨zs,hz,hB⟩:=H6.out.2; refine kst (n:=13) (us:=noEnt) (show Blk w7 _ zs ENT from by rw [hw7.out]; exact hB.setN (by omega) _ _) hz rfl noent_one (fun w8 hw8=>?_)))
   have H8:=HNO.out w7 w8 hw7.out hw8.out;exact bodyPost_ret (res_cct (n:=nBd) (n2:=13) H8.1 HL6.out H8.2.1 rfl) rfl ⟨H8.2.2.1,es,by rw [HE.out]; rfl,by rw [HPN.out HE.out]; exact H8.2.2.2⟩
  ·have he2:(e.tk != tk)=false:=by simpa using ht
   have HE:=Lh (show popE b k tk=some e from by rw [HPE.out]; exact if_pos ht);obtain ⟨t0a,hta⟩:∃ t0a,(if qc=1 then some (⟨qg,qo,none⟩:Addr) else some ⟨qg,qo+13,none⟩)=t0a:=⟨_,rfl⟩
   have hHQ:So Y ENT 13 entL w6 (.slice (some ⟨qg,qo,none⟩) (N+1) qc) (e::r):=HQ.out;have HTL:=Lh (show So Y ENT 13 entL w6 (.slice t0a N (qc - 1)) r from by rw [←HN.out]; exact So.tail2 (m:=13) hHQ hta);have HQ6:=Lh hHQ;have hcc:N+1≤qc:=hqc.1;have f3:=H6.out.1.b0.free (k * 4+3);clear hHQ hrl HQ ht
   go_upto_region 8 with fail
   obtain ⟨ds,H8⟩:∃ ds,Hid (Bt Y w 1 ds ((b.did [⟨t,0,(k:Int)⟩]).set k { b.at k with q:=r }) (fun W=>EBx w W∧So Y ENT 13 entL W (.slice (some ⟨qg,qo,none⟩) (N+1) qc) (e::r)) (w6.setCell ⟨w.heap.size,k * 4+3,none⟩ (.slice t0a N (qc - 1)))):=by
    have h8:=k32 H6.out.1.ib (show k<(b.did [⟨t,0,(k:Int)⟩]).st.length from HP.out.2.1);have hst:=HSA.out.queue h8 HTL.out;obtain ⟨z,hz,hE⟩:=H6.out.2;exact ⟨_,Lh ⟨H6.out.1.put _ _ (H6.out.1.ib.set1 HP.out.2.1 (by decide) rfl hst),⟨z,hz,hE.setN (by omega) [_] _⟩,HQ6.out.kt (KT.set H6.out.1.b0 (by decide) _ _)⟩⟩
   clear q3 f3 hr0 H6 HQ6 HTL HSA HNO hta HK3;generalize w6.setCell ⟨w.heap.size,k * 4+3,none⟩ (.slice t0a N (qc - 1))=w8 at *
   obtain ⟨b2,hb2⟩:∃ b2,(b.did [⟨t,0,(k:Int)⟩]).set k { b.at k with q:=r }=b2:=⟨_,rfl⟩
   rw [hb2] at H8;have HB2:=Lh (show b2.tr.length≤900000∧popB b t k tk=b2.did [⟨t,1,(k:Int)⟩] from by
    refine ⟨by rw [←hb2]; show (b.did [⟨t,0,(k:Int)⟩]).tr.length≤900000; rw [did_len]; have:=HP.out.2.2; show _+1≤_; omega,?_⟩;rw [HPS.out e HE.out,←hb2]
    show Brd.mk _ _ _ _ _ _ _ _=Brd.mk _ _ _ _ _ _ _ _
    congr 1
    show b.tr++_=(b.tr++_)++_
    rw [List.append_assoc]; rfl)
   have HT2:=Lh (show ∀ W W':World,(EBx w W∧So Y ENT 13 entL W (.slice (some ⟨qg,qo,none⟩) (N+1) qc) (e::r))→Below W.heap.size W W'→EBx w W'∧So Y ENT 13 entL W' (.slice (some ⟨qg,qo,none⟩) (N+1) qc) (e::r) from fun W W' ⟨⟨z,h1,h2⟩,h3⟩ hb=>⟨⟨z,h1,h2.next hb⟩,h3.next hb⟩);clear hb2 HT;refine rgH (Bt Y w 1 ds b2 fun W=>EBx w W∧So Y ENT 13 entL W (.slice (some ⟨qg,qo,none⟩) (N+1) qc) (e::r)) (H8.out.next HT2.out _ _ bdq) fun hH=>?_
   clear H8;refine tq 0 (.agg ds.toArray) hH ?_ (hy:=fun W h=>kly h.1.b0 h.1.ib.len);refine ta 1 hH ?_;refine ta 2 hH ?_;refine ta 6 hH ?_;refine ta 7 hH ?_;refine tq 8 (.agg #[e.tk,e.sl,e.c.k,e.c.p,.int .i32 e.c.ch,e.c.o.k,e.c.o.c,e.c.o.s,e.c.o.a,e.c.o.n,.int .i32 e.c.o.ch,e.c.a,e.c.b]) hH ?_ (hy:=fun W h=>by
    obtain ⟨qg',qo',e',_,hr⟩:=So.cell (f:=entL) (m:=13) (fun _=>rfl) h.2.2 0 (Nat.zero_lt_succ _)
    cases e'
    rw [Nat.zero_mul,Nat.add_zero] at hr;exact klm (vs:=[.int .i64 e.tk,.int .i64 e.sl,.int .i64 e.c.k,.int .i64 e.c.p,.int .i32 e.c.ch,.int .i64 e.c.o.k,.int .i64 e.c.o.c,.int .i64 e.c.o.s,.int .i64 e.c.o.a,.int .i64 e.c.o.n,.int .i32 e.c.o.ch,.int .i64 e.c.a,.int .i64 e.c.b]) hr rfl)
   refine rA (l:=(k:Int)) 3 wr_any hH (Bt.next HT2.out) (fun w9 _ hH=>?_);refine rTd (t:=t) 4 5 [⟨0,1,(k:Int)⟩] hH HB2.out.1 (fun _ h=>h) (fun w10 fs hH hI=>?_) (lo1 (by omega)) HT2.out;have HI:=Lh hI;clear hI
   try simp only [LAY]
   have hA:=hH.1.all1 (es:=fs) HI.out.len;obtain ⟨z,hz,hE⟩:=hH.2.1;obtain ⟨zz,hzz,hZZ⟩:=hH.1.b1;have H11:=Lh (show Bt Y w 1 ds b2 (fun W=>EBx w W∧So Y ENT 13 entL W (.slice (some ⟨qg,qo,none⟩) (N+1) qc) (e::r)) (setN w10 (w.heap.size+1) 0 fs)∧Blk (setN w10 (w.heap.size+1) 0 fs) (w.heap.size+1) fs BDT∧IsBd (setN w10 (w.heap.size+1) 0 fs) Y (popB b t k tk) fs∧Blk (setN w10 (w.heap.size+1) 0 fs) (w.heap.size+1+1) z ENT from ⟨⟨hA.1,⟨z,hz,hE.setN (by omega) _ _⟩,hH.2.2.kt (KT.setN (by decide) _ _ hZZ)⟩,hA.2,by rw [HB2.out.2]; exact HI.out.setI hZZ bd_not _ _,hE.setN (by omega) _ _⟩);refine rSt 1 9 HI.out hH.1.b1 ⟨H11.out.1,?_⟩;clear hA hE hzz hZZ hH;generalize setN w10 (w.heap.size+1) 0 fs=w11 at *
   have HF:=Lh (fun w12 (h:w12=setN w11 (w.heap.size+1+1) 0 (entL e))=>show Bt Y w 1 ds b2 (fun W=>EBx w W∧So Y ENT 13 entL W (.slice (some ⟨qg,qo,none⟩) (N+1) qc) (e::r)) w12∧Blk w12 (w.heap.size+1) fs BDT∧IsBd w12 X (popB b t k tk) fs∧Blk w12 (w.heap.size+1+1) (entL e) ENT from by
    have hy:=(HY.out (w.heap.size+1+1)).2 (.inr rfl);subst h;exact ⟨⟨H11.out.1.1.setX (by omega) (by omega) hy H11.out.2.2.2 _ _,⟨_,rfl,setN_all H11.out.2.2.2 hz.symm⟩,H11.out.1.2.2.wr hy H11.out.2.2.2 _ _⟩,H11.out.2.1.setN (by omega) _ _,(H11.out.2.2.1.setX hy H11.out.2.2.2 _ _).more fun c hc=>.inl ((HY.out c).2 (.inl hc)),setN_all H11.out.2.2.2 hz.symm⟩)
   refine kstN 10 (n:=13) (us:=entL e) H11.out.2.2.2 hz rfl (entL_one e) (fun w12 h12=>(HF.out _ h12.out).1) (fun w12 h12 hH=>?_);have H12:=Lh (HF.out _ h12.out);refine ta 11 hH ?_;refine dnH ?_;go_wp2_with fail
   exact bodyPost_ret (res_cct (n:=nBd) (n2:=13) H12.out.2.1 HI.out.len H12.out.2.2.2 rfl) rfl ⟨H12.out.1.1.bel,fs,by rw [HE.out]; rfl,H12.out.2.2.1⟩
end Go.Proofs.YtemicfjmidohfaaGreatDoor
set_option maxRecDepth 100000
set_option maxHeartbeats 12800000
namespace Go.Proofs.YtemicfjmidohfaaGreatDoor
open Go Go.Proofs Go.RowKit
variable {X:Nat→Prop} {w W W':World} {d:Nat} {cs ds es zs:List Value} {b b':Brd}
abbrev RPY:TypeId:=45
theorem IsBd.upB (h:IsBd W X b cs) (u:Bool):IsBd W X { b with up:=u } (cs.set 35 (.bool u)):=h.plain (by decide) rfl rfl ⟨(get_off (by decide)).trans h.pl.2.1,(get_off (by decide)).trans h.pl.2.2.1,List.getElem?_set_self (by rw [h.len]; decide),(get_off (by decide)).trans h.pl.2.2.2.2⟩ (by decide) rfl (by obtain ⟨v,e,h⟩:=h.ms; exact ⟨v,(get_off (by decide)).trans e,h⟩) ⟨by decide,rfl⟩
theorem IsBd.goneB (h:IsBd W X b cs) (u:Bool):IsBd W X { b with gone:=u } (cs.set 36 (.bool u)):=h.plain (by decide) rfl rfl ⟨(get_off (by decide)).trans h.pl.2.1,(get_off (by decide)).trans h.pl.2.2.1,(get_off (by decide)).trans h.pl.2.2.2.1,List.getElem?_set_self (by rw [h.len]; decide)⟩ (by decide) rfl (by obtain ⟨v,e,h⟩:=h.ms; exact ⟨v,(get_off (by decide)).trans e,h⟩) ⟨by decide,rfl⟩
theorem IsRp.len {r:Rpl} {rs:List Value} (h:IsRp W r rs):rs.length=10:=by obtain ⟨_,_,_,_,_,_,_,_,_,rfl⟩:=h.ex; rfl
theorem IsBd.pub {r:Rpl} {rs:List Value} (h:IsBd W X b cs) (hr:IsRp W r rs):IsBd W X { b with r:=r } (putN cs 37 rs):=by
 have hl:cs.length=50:=h.len;have hrl:=hr.len;have g:∀ p,p<37∨47≤p→(putN cs 37 rs)[p]? = cs[p]? := fun p hp=>by rw [putN_get _ _ _ _ (by omega),if_neg (by omega)]
 refine ⟨by rw [putN_len]; exact h.len,?_,h.s8,fun i hi=>?_,⟨(g _ (by omega)).trans h.pl.1,(g _ (by omega)).trans h.pl.2.1,(g _ (by omega)).trans h.pl.2.2.1,(g _ (by omega)).trans h.pl.2.2.2.1,(g _ (by omega)).trans h.pl.2.2.2.2⟩,?_,?_,?_,(g _ (by omega)).trans h.n,h.lo⟩
 ·have:∀ (us zs:List Value) (i:Nat),(∀ u∈us,u.oneCell'=true)→(∀ u∈zs,u.oneCell'=true)→∀ u∈putN zs i us,u.oneCell'=true:=by
   intro us
   induction us with
   | nil=>intro zs i _ h2; exact h2
   | cons u us ih=>intro zs i h1 h2; exact ih _ _ (fun x hx=>h1 x (List.mem_cons_of_mem _ hx)) (one_set h2 _ (h1 u (by simp)))
  exact this rs cs 37 hr.one h.one
 ·obtain ⟨k',q',c0,c1,c2,c3,r0,r1,r2⟩:=h.st i hi
  have hi8:i<8:=Nat.lt_of_lt_of_le hi h.s8;exact ⟨k',q',(g _ (by omega)).trans c0,(g _ (by omega)).trans c1,(g _ (by omega)).trans c2,(g _ (by omega)).trans c3,r0,r1,r2⟩
 ·have e:((putN cs 37 rs).drop 37).take 10=rs:=by
   refine List.ext_getElem? fun p=>?_
   simp only [List.getElem?_take,List.getElem?_drop]
   split
   ·rw [putN_get _ _ _ _ (by omega),if_pos (by omega),Nat.add_sub_cancel_left]
   ·rw [List.getElem?_eq_none (by omega)]
  rw [e]; exact hr
 ·obtain ⟨v,e,r⟩:=h.ms; exact ⟨v,(g _ (by omega)).trans e,r⟩
 ·obtain ⟨v,e,r⟩:=h.lk; exact ⟨v,(g _ (by omega)).trans e,r⟩
theorem up_ok (b:Brd) (t:Int):BCall 38 [] b (upB b t) t fun v=>.tuple #[v,.bool b.up]:=by
 intro n X cs w hO hn hI hX t0 t1
 have HP:=Lh (And.intro hI (show b.tr.length≤900000 from by have:=hO.tr; omega));have HL:=Lh hI.len;clear hO hn hI hX t0 t1
 show Calls Tryz.prog 38 #[.agg cs.toArray,t] w _
 go_enter Tryz.func38,Tryz.ntmps38
 go_upto_region 1 with fail
 generalize hW2:World.alloc (World.alloc w _) _=W2;have H2:=Lh (show Bs X w 1 cs b W2 from by rw [←hW2]; exact Bs.of (Bq.start w _ zBd) rfl (HP.out.1.next (Bq.start w _ zBd).bel));clear hW2;obtain ⟨u,hu⟩:∃ u,b.up=u:=⟨_,rfl⟩
 have hc:=HP.out.1.pl.2.2.2.1;rw [hu] at hc;have HC:=Lh hc;have HU:=Lh hu;clear hc hu;refine rgH (Bt X w 1 cs b fun _=>True) ⟨H2.out.next bdq,trivial⟩ fun hH=>?_
 clear H2;refine tq 0 (.agg cs.toArray) hH ?_ (hy:=fun W h=>kly h.1.b0 h.1.ib.len);refine ta 1 hH ?_;refine ta 5 hH ?_;refine tq 6 (.bool u) hH ?_ (hy:=fun W h=>by have hq:=h.1.b0.cell 35 HC.out; go_simp);refine rA (l:=2001) 2 acq_any hH (Bt.next tru) (fun w5 _ hH=>?_);refine rTl (t:=t) 3 4 7 [⟨0,2,2001⟩] hH HP.out.2 (fun w6 es hH hB hI=>?_) (lo1 (by omega))
 try simp only [LAY]
 refine ta 8 hH ?_;refine dnH ?_;go_wp2_with fail
 exact bodyPost_ret (res_ct (n:=nBd) hB hI.len) rfl ⟨hH.1.bel,es,by rw [HU.out]; rfl,hI⟩
theorem gone_ok (b:Brd) (t:Int):BCall 63 [] b (goneB b t) t fun v=>.tuple #[v,.bool b.gone]:=by
 intro n X cs w hO hn hI hX t0 t1
 have HP:=Lh (And.intro hI (show b.tr.length≤900000 from by have:=hO.tr; omega));have HL:=Lh hI.len;clear hO hn hI hX t0 t1
 show Calls Tryz.prog 63 #[.agg cs.toArray,t] w _
 go_enter Tryz.func63,Tryz.ntmps63
 go_upto_region 1 with fail
 generalize hW2:World.alloc (World.alloc w _) _=W2;have H2:=Lh (show Bs X w 1 cs b W2 from by rw [←hW2]; exact Bs.of (Bq.start w _ zBd) rfl (HP.out.1.next (Bq.start w _ zBd).bel));clear hW2;obtain ⟨u,hu⟩:∃ u,b.gone=u:=⟨_,rfl⟩
 have hc:=HP.out.1.pl.2.2.2.2;rw [hu] at hc;have HC:=Lh hc;have HU:=Lh hu;clear hc hu;refine rgH (Bt X w 1 cs b fun _=>True) ⟨H2.out.next bdq,trivial⟩ fun hH=>?_
 clear H2;refine tq 0 (.agg cs.toArray) hH ?_ (hy:=fun W h=>kly h.1.b0 h.1.ib.len);refine ta 1 hH ?_;refine ta 5 hH ?_;refine tq 6 (.bool u) hH ?_ (hy:=fun W h=>by have hq:=h.1.b0.cell 36 HC.out; go_simp);refine rA (l:=2003) 2 acq_any hH (Bt.next tru) (fun w5 _ hH=>?_);refine rTl (t:=t) 3 4 7 [⟨0,2,2003⟩] hH HP.out.2 (fun w6 es hH hB hI=>?_) (lo1 (by omega))
 try simp only [LAY]
 refine ta 8 hH ?_;refine dnH ?_;go_wp2_with fail
 exact bodyPost_ret (res_ct (n:=nBd) hB hI.len) rfl ⟨hH.1.bel,es,by rw [HU.out]; rfl,hI⟩
theorem leave_ok (b:Brd) (t:Int):BCall 23 [] b (leaveB b t) t fun v=>v:=by
 intro n X cs w hO hn hI hX t0 t1
 have HP:=Lh (And.intro hI (show b.tr.length≤900000 from by have:=hO.tr; omega));have HL:=Lh hI.len;clear hO hn hI hX t0 t1
 show Calls Tryz.prog 23 #[.agg cs.toArray,t] w _
 go_enter Tryz.func23,Tryz.ntmps23
 go_upto_region 1 with fail
 generalize hW2:World.alloc (World.alloc w _) _=W2;have H2:=Lh (show Bs X w 1 cs b W2 from by rw [←hW2]; exact Bs.of (Bq.start w _ zBd) rfl (HP.out.1.next (Bq.start w _ zBd).bel));clear hW2;have hq:=H2.out.b0.cell 36 HP.out.1.pl.2.2.2.2;have hf:=H2.out.b0.free 36
 go_upto_region 2 with fail
 obtain ⟨ds,H4⟩:∃ ds,Hid (Bs X w 1 ds { b with gone:=true } (W2.setCell ⟨w.heap.size,36,none⟩ (.bool true))):=⟨_,Lh (H2.out.put 36 (.bool true) (H2.out.ib.goneB true))⟩
 clear hq hf H2;generalize W2.setCell ⟨w.heap.size,36,none⟩ (.bool true)=w4 at *
 refine rgH (Bt X w 1 ds { b with gone:=true } fun _=>True) ⟨H4.out.next bdq,trivial⟩ fun hH=>?_
 clear H4;refine tq 0 (.agg ds.toArray) hH ?_ (hy:=fun W h=>kly h.1.b0 h.1.ib.len);refine ta 1 hH ?_;refine rA (l:=2003) 2 rel_any hH (Bt.next tru) (fun w5 _ hH=>?_);refine rTl (t:=t) 3 4 5 [⟨0,3,2003⟩] hH HP.out.2 (fun w6 es hH hB hI=>?_) (lo1 (by omega))
 try simp only [LAY]
 refine dnH ?_;go_wp2_with fail
 exact bodyPost_ret (res_c (n:=nBd) hB hI.len) rfl ⟨hH.1.bel,es,rfl,hI⟩
theorem raise_ok (b:Brd) (t:Int):BCall 40 [] b (raiseB b t) t fun v=>.tuple #[v,.bool (!b.up)]:=by
 intro n X cs w hO hn hI hX t0 t1
 have HP:=Lh (And.intro hI (show b.tr.length≤900000 from by have:=hO.tr; omega));have HL:=Lh hI.len;clear hO hn hI hX t0 t1
 show Calls Tryz.prog 40 #[.agg cs.toArray,t] w _
 go_enter Tryz.func40,Tryz.ntmps40
 go_upto_region 1 with fail
 generalize hW2:World.alloc (World.alloc w _) _=W2;have H2:=Lh (show Bs X w 1 cs b W2 from by rw [←hW2]; exact Bs.of (Bq.start w _ zBd) rfl (HP.out.1.next (Bq.start w _ zBd).bel));clear hW2;obtain ⟨u,hu⟩:∃ u,b.up=u:=⟨_,rfl⟩
 have hq:=H2.out.b0.cell 35 HP.out.1.pl.2.2.2.1;rw [hu] at hq;have HU:=Lh hu;have hf:=H2.out.b0.free 35;clear hu
 go_upto_region 3 with fail
 obtain ⟨ds,H4⟩:∃ ds,Hid (Bs X w 1 ds { b with up:=true } (W2.setCell ⟨w.heap.size,35,none⟩ (.bool true))):=⟨_,Lh (H2.out.put 35 (.bool true) (H2.out.ib.upB true))⟩
 clear hq hf H2;generalize W2.setCell ⟨w.heap.size,35,none⟩ (.bool true)=w4 at *
 refine rgH (Bt X w 1 ds { b with up:=true } fun _=>True) ⟨H4.out.next bdq,trivial⟩ fun hH=>?_
 clear H4;refine tq 0 (.agg ds.toArray) hH ?_ (hy:=fun W h=>kly h.1.b0 h.1.ib.len);refine ta 1 hH ?_;refine ta 6 hH ?_;refine rA (l:=2001) 2 acq_any hH (Bt.next tru) (fun w5 _ hH=>?_);refine rA (l:=2001) 3 rel_any hH (Bt.next tru) (fun w5 _ hH=>?_);refine rTl (t:=t) 4 5 7 [⟨0,2,2001⟩,⟨0,3,2001⟩] hH HP.out.2 (fun w6 es hH hB hI=>?_) (lo2 (by omega) (lo1 (by omega)))
 try simp only [LAY]
 refine ta 8 hH ?_;refine dnH ?_;go_wp2_with fail
 exact bodyPost_ret (res_ct (n:=nBd) hB hI.len) rfl ⟨hH.1.bel,es,by rw [HU.out]; rfl,hI⟩
theorem stripes_ok (b:Brd):BAsk 8 [] b fun w e w'=>e=.returned (.int .i64 (b.st.length:Int))∧Below w.heap.size w w':=by
 intro n X cs w hO hn hI
 have HB:=Lh (And.intro (Blk.start w cs BDT) (bA (w:=w) (o:=.cells ⟨cs⟩ BDT)));have HC:=Lh hI.pl.1;clear hO hn hI
 show Calls Tryz.prog 8 #[.agg cs.toArray] w _
 go_enter Tryz.func8,Tryz.ntmps8
 go_upto_region 1 with fail
 generalize w.alloc _=W2 at *
 have q0:=HB.out.1.cell 32 HC.out;go_wp2_with fail
 go_ret
 exact ⟨rfl,HB.out.2⟩
theorem load_ok (b:Brd) (t:Int) (n:Nat) (X:Nat→Prop) (cs:List Value) (w:World) (hO:BOk b n) (hn:n≤1000) (hI:IsBd w X b cs):Calls Tryz.prog 51 #[.agg cs.toArray,t] w fun e w'=>Below w.heap.size w w'∧∃ ds rs:List Value,e=.returned (.tuple #[.agg ds.toArray,.agg rs.toArray])∧IsBd w' X (loadB b t) ds∧IsRp w' b.r rs:=by
 have HP:=Lh (And.intro hI (show b.tr.length≤900000 from by have:=hO.tr; omega));have HL:=Lh hI.len;obtain ⟨rs,hrs⟩:∃ rs,(cs.drop 37).take 10=rs:=⟨_,rfl⟩
 have HR:=Lh (show IsRp w b.r rs from hrs▸hI.rp);have HRS:=Lh hrs;have hT:∀ W W':World,(∃ zs:List Value,zs.length=10∧Blk W (w.heap.size+1+1) zs RPY)→Below W.heap.size W W'→∃ zs:List Value,zs.length=10∧Blk W' (w.heap.size+1+1) zs RPY:=fun W W' ⟨z,h1,h2⟩ hb=>⟨z,h1,h2.next hb⟩
 have HT:=Lh hT;clear hO hn hI hrs hT
 go_enter Tryz.func51,Tryz.ntmps51
 go_upto_region 1 with fail
 generalize hW2:World.alloc (World.alloc (World.alloc w _) _) _=W2;have H2:=Lh (show Bt X w 1 cs b (fun W=>∃ zs:List Value,zs.length=10∧Blk W (w.heap.size+1+1) zs RPY) W2 from by
  rw [←hW2];exact ⟨(Bs.of (Bq.start w _ zBd) rfl (HP.out.1.next (Bq.start w _ zBd).bel)).next bA,_,rfl,Blk.startAt (vs:=[.int .i64 0,.bool false,.pointer none,.pointer none,.int .i64 0,.slice none 0 0,.int .i64 0,.int .i64 0,.complex .f64 0 0,.complex .f64 0 0]) (by simp)⟩)
 clear hW2;refine rgH (Bt X w 1 cs b fun W=>∃ zs:List Value,zs.length=10∧Blk W (w.heap.size+1+1) zs RPY) (H2.out.next HT.out _ _ bdq) fun hH=>?_
 clear H2;refine tq 0 (.agg cs.toArray) hH ?_ (hy:=fun W h=>kly h.1.b0 h.1.ib.len);refine ta 1 hH ?_;refine ta 5 hH ?_;refine tq 6 (.agg rs.toArray) hH ?_ (hy:=fun W h=>klm (n:=10) (h.1.b0.rngT fun j u hj=>by
  rw [←HRS.out,List.getElem?_take] at hj;split at hj
  ·rwa [List.getElem?_drop] at hj
  ·cases hj) HR.out.len)
 refine rA (l:=2002) 2 acq_any hH (Bt.next HT.out) (fun w5 _ hH=>?_);refine rTl (t:=t) 3 4 7 [⟨0,2,2002⟩] hH HP.out.2 (fun w6 es hH hB hI=>?_) (lo1 (by omega)) HT.out (fun W es ⟨z,h1,h2⟩ _=>⟨z,h1,h2.setN (by omega) _ _⟩)
 try simp only [LAY]
 obtain ⟨zs,hz,hZ⟩:=hH.2;have HE:=Lh (fun w7 (e:w7=setN w6 (w.heap.size+1+1) 0 rs)=>show Bt X w 1 cs b (fun W=>∃ zs:List Value,zs.length=10∧Blk W (w.heap.size+1+1) zs RPY) w7∧Blk w7 (w.heap.size+1) es BDT∧IsBd w7 X (loadB b t) es∧Blk w7 (w.heap.size+1+1) rs RPY∧IsRp w7 b.r rs from by
  have hrp:=HR.out.next hH.1.bel;subst e;have hA:=setN_all (us:=rs) hZ (by rw [HR.out.len,hz]);exact ⟨⟨hH.1.oth (by omega) (by omega) hZ (by decide) _ _,rs,HR.out.len,hA⟩,hB.setN (by omega) _ _,hI.setI hZ (by decide) _ _,hA,hrp.kt (KT.setN (by decide) _ _ hZ) (KT.setN (by decide) _ _ hZ) (KT.setN (by decide) _ _ hZ) (Nat.le_of_eq (setN_size _ 0).symm)⟩)
 refine kstN 8 (n:=10) hZ hz HR.out.len HR.out.one (fun w7 hw7=>(HE.out _ hw7.out).1) (fun w7 hw7 hH=>?_);have H8:=Lh (HE.out _ hw7.out);refine dnH ?_;go_wp2_with fail
 exact bodyPost_ret (res_cc (n:=nBd) (n2:=10) H8.out.2.1 hI.len H8.out.2.2.2.1 HR.out.len) rfl ⟨H8.out.1.1.bel,es,rs,rfl,H8.out.2.2.1,H8.out.2.2.2.2⟩
theorem publ_ok (b:Brd) (t:Int) (r:Rpl) (rs:List Value) (n:Nat) (X:Nat→Prop) (cs:List Value) (w:World) (hO:BOk b n) (hn:n≤1000) (hI:IsBd w X b cs) (hr:IsRp w r rs):Calls Tryz.prog 55 #[.agg cs.toArray,t,.agg rs.toArray] w (RB (publB b t r) X (fun v=>v) w):=by
 have HP:=Lh (And.intro hI (And.intro (show b.tr.length≤900000 from by have:=hO.tr; omega) hr));have HL:=Lh (And.intro hI.len hr.len);clear hO hn hI hr
 go_enter Tryz.func55,Tryz.ntmps55
 go_upto_region 1 with fail
 generalize hW2:World.alloc (World.alloc (World.alloc w _) _) _=W2;have H2:=Lh (show Bs X w 2 cs b W2∧Blk W2 (w.heap.size+1) rs RPY∧IsRp W2 r rs from by
  rw [←hW2];have h:=Bq.start2 (T:=BDT) w cs zBd rs RPY;exact ⟨Bs.of h.1 rfl (HP.out.1.next h.1.bel),h.2,HP.out.2.2.next h.1.bel⟩)
 clear hW2
 go_upto_region 2 with (first
  | (refine kld (n:=10) H2.out.2.1 HL.out.2 ?_)
  | (refine kstm (n:=10) (o:=37) (us:=rs) H2.out.1.b0 (by rw [HL.out.1,HL.out.2]; decide) HL.out.2 HP.out.2.2.one (fun w4 hw4=>?_)))
 obtain ⟨ds,H4⟩:∃ ds,Hid (Bs X w 2 ds { b with r:=r } w4):=by
  have hI:=H2.out.1.ib.pub H2.out.2.2;obtain ⟨z,h1,h2⟩:=H2.out.1.b1;refine ⟨putN cs 37 rs,Lh ?_⟩;rw [hw4.out];exact ⟨by decide,setN_below (Nat.le_refl _) _ _ H2.out.1.bel,setN_blk _ _ H2.out.1.b0,⟨z,h1,h2.setN (by omega) _ _⟩,hI.setI H2.out.1.b0 bd_not _ _⟩
 clear hw4 H2;refine rgH (Bt X w 2 ds { b with r:=r } fun _=>True) ⟨H4.out.next bdq,trivial⟩ fun hH=>?_
 clear H4;refine tq 0 (.agg ds.toArray) hH ?_ (hy:=fun W h=>kly h.1.b0 h.1.ib.len);refine ta 1 hH ?_;refine rA (l:=2002) 2 rel_any hH (Bt.next tru) (fun w5 _ hH=>?_);refine rTl (t:=t) 3 4 5 [⟨0,3,2002⟩] hH HP.out.2.1 (fun w6 es hH hB hI=>?_) (lo1 (by omega))
 try simp only [LAY]
 refine dnH ?_;go_wp2_with fail
 exact bodyPost_ret (res_c (n:=nBd) hB hI.len) rfl ⟨hH.1.bel,es,rfl,hI⟩
end Go.Proofs.YtemicfjmidohfaaGreatDoor
set_option maxRecDepth 100000
set_option maxHeartbeats 12800000
namespace Go.Proofs.YtemicfjmidohfaaGreatDoor
open Go Go.Proofs Go.RowKit
variable {X:Nat→Prop} {w W W':World} {d:Nat} {cs ds es zs:List Value} {b b':Brd}
theorem src_nilQ {P:Program} {t e:TypeId} (ht:P.underlying t=some (.slice e)) (size:Nat) (w:World):Src P size t (.slice none 0 0) 0 [] w where
 kind:=.inl ⟨e,ht⟩
 len w':=by simp [Builtin.lenOf]
 cells:=by simp [Builtin.firstCells]
 cellsD:=by simp [Builtin.firstCells]
 newsLen:=by simp
 one:=by simp
theorem isen_of {v:Value} {l:List QEn} (h:So X ENT 13 entL W v l):IsEn W v l:=by
 obtain ⟨a,cap,rfl,h1,h2⟩:=h.form;refine ⟨a,cap,rfl,h1,h2,fun hl=>?_⟩;rcases h with ⟨_,rfl⟩ | ⟨g,off,cap',cur,e,hB,_,_,_,h4⟩
 ·exact absurd rfl hl
 ·cases e
  refine ⟨g,off,rfl,hB.lt,fun j hj i u hu=>?_⟩;rw [←h4 j hj i (by have:=(List.getElem?_eq_some_iff.1 hu).1; exact this)] at hu;exact hB.cell _ hu
theorem so_clone {l:List QEn} {a:Option Addr} {cap n g:Nat} (h:So X ENT 13 entL W (.slice a n cap) l) (hn:l.length=n) (hl:n≤1000):∃ v' w',(∀ ty,(Builtin.append_ #[ENS,ENS] ty #[.slice (some ⟨g,0,none⟩) 0 0,.slice a n cap]).run Tryz.prog W=.ok v' w')∧Below W.heap.size W w'∧IsEn w' v' l:=by
 obtain ⟨i,z,hi,hz,hs,hby,hzs⟩:=info_ex (P:=Tryz.prog) (e:=ENT) (z:=.agg #[.int .i64 0,.int .i64 0,.int .i64 0,.int .i64 0,.int .i32 0,.int .i64 0,.int .i64 0,.int .i64 0,.int .i64 0,.int .i64 0,.int .i32 0,.int .i64 0,.int .i64 0]) (m:=13) (bs:=104) (by kernel_rfl) rfl;have hf:∀ x,(entL x).length=13:=fun _=>rfl
 have hsrc:Src Tryz.prog i.size ENS (.slice a n cap) n (l.flatMap entL) W:=by
  rcases h with ⟨h1,rfl⟩ | ⟨g',off,cap',cur,h1,hg,hc,hm,_,h4⟩
  ·simp only [Value.slice.injEq] at h1
   obtain ⟨rfl,rfl,rfl⟩:=h1;exact src_nilQ Tryz.underlying24 i.size W
  ·simp only [Value.slice.injEq] at h1
   obtain ⟨rfl,_,rfl⟩:=h1;refine Src.ofSlice W Tryz.underlying24 ⟨g',off,none⟩ n cap (l.flatMap entL) (by rw [flat_len hf,hn,hs]) (fun j v hv=>?_) (flat_one entL_one l);have hj:j<l.length * 13:=by rw [←flat_len hf]; exact (List.getElem?_eq_some_iff.1 hv).1
   have hd:j=j / 13 * 13+j % 13:=by rw [Nat.mul_comm]; exact (Nat.div_add_mod j 13).symm
   have hq:j / 13<l.length:=by rw [Nat.div_lt_iff_lt_mul (by decide)]; exact hj
   rw [hd,flat_at hf l _ _ hq (Nat.mod_lt _ (by decide)),←h4 _ hq _ (Nat.mod_lt _ (by decide)),Nat.add_assoc,←hd] at hv;rw [Addr.add_mid];exact hg.cell _ hv
 rcases Nat.eq_zero_or_pos n with h0 | h0
 ·subst h0
  obtain rfl:=List.length_eq_zero_iff.1 hn;exact ⟨_,_,fun ty=>run_append_nothing (P:=Tryz.prog) W ENS ENS ty ENT i Tryz.underlying24 hi (some ⟨g,0,none⟩) 0 0 (Nat.le_refl _) _ (by simpa using hsrc),Below.refl _ _,some ⟨g,0,none⟩,0,rfl,Nat.le_refl _,by omega,fun h=>absurd rfl h⟩
 ·have hold:(Builtin.firstCells i.size 0 (.slice (some ⟨g,0,none⟩) 0 0)).run Tryz.prog W.drew=.ok ([]:List Value).toArray W.drew:=run_firstCells_some W.drew i.size 0 ⟨g,0,none⟩ 0 0 [] (by simp) (fun j v hv=>by cases hv)
  have hrun:=fun ty=>run_append_grow_src (P:=Tryz.prog) W ENS ENS ty ENT i z Tryz.underlying24 hi hz (some ⟨g,0,none⟩) 0 0 [] hold _ n (l.flatMap entL) hsrc (by omega) (by omega) (growslice_fits (by omega) (by rw [hby]; omega))
  have hcap:=grownCap_ge W (0+n) 0 ENT;refine ⟨_,_,hrun,(bdq).alloc (Nat.le_refl _) _,isen_of (X:=fun _=>False) (So.of (f:=entL) (m:=13) hf (.inr ⟨W.heap.size,_,_,by rw [hn,Nat.zero_add],World.alloc_heap_new W.drew _,by rw [hn]; omega,grownCap_le_maxLen W (0+n) 0 ENT (by unfold maxLen; omega),?_⟩) (fun _ _ _ _ h=>h))⟩;have hlen:(l.flatMap entL).length=l.length * 13:=flat_len hf l;rw [List.nil_append,Array.toList_append,←hlen,List.take_left]
theorem wpl_appP {P:Program} {w:World} {ops:Array Oper} {rest:List Oper} {o:Oper} {a:Act} {Q:Exit→Act→World→Prop} {x y:Operand} {t t':TypeId} {u v v':Value} {w':World} (hr:∀ ty,(Builtin.append_ #[t,t'] ty #[u,v]).run P w=.ok v' w') (h:wpList P ops Q rest (a.put o.dst v') w') (hg:o.guard=none:=by rfl)
  (ho:o.op=.call { callee:=.builtin .append,args := #[x,y],argTypes := #[t,t'] }:=by rfl) (hx:a.eval x=u:=by rfl) (hy:a.eval y=v:=by rfl):wpList P ops Q (o::rest) a w:=wpList_plain hg fun _ hK=>wp_appP ho hx hy hr (hK _ _ h)
theorem clone_en (v:Value) (l:List QEn) (w:World) (h:So X ENT 13 entL w v l) (hl:l.length≤1000):Calls Tryz.prog 89 #[v] w fun e w'=>∃ v,e=.returned v∧IsEn w' v l∧Below w.heap.size w w':=by
 have hnl := @Lib.run_eql_slice_nil Tryz.prog;obtain ⟨a,cap,rfl,h1,h2⟩:=h.form;obtain ⟨n,hn⟩:∃ n,l.length=n:=⟨_,rfl⟩
 rw [hn] at h hl h1 ⊢;have HN:=Lh (And.intro hn (h.next (bA (o:=.cells ⟨[]⟩ ENT))))
 cases a with
 | none=>
  have HE:=Lh (show IsEn w (.slice none 0 0) l from by
   rcases h with ⟨_,rfl⟩ | ⟨_,_,_,_,e,_⟩
   ·exact ⟨none,0,rfl,Nat.le_refl _,by omega,fun h=>absurd rfl h⟩
   ·cases e)
  clear h hn
  go_enter Tryz.func89,Tryz.ntmps89
  go_wp2_with fail
  go_ret
  exact ⟨_,rfl,HE.out,Below.refl _ _⟩
 | some p=>
  obtain ⟨v9,w9,hrun,hb9,he9⟩:=so_clone (g:=w.heap.size) HN.out.2 HN.out.1 hl;have H9:=Lh (And.intro he9 (bA.trans (hb9.mono (by simp))));clear h hn hb9 he9
  go_enter Tryz.func89,Tryz.ntmps89
  go_wp2_with (refine wpl_appP hrun ?_)
  go_ret
  exact ⟨_,rfl,H9.out⟩
theorem queue_ok (b:Brd) (s:Int) (h0:0≤s) (h1:s<b.st.length):BAsk 36 [s] b fun w e w'=>∃ v,e=.returned v∧IsEn w' v (b.at s).q∧Below w.heap.size w w':=by
 intro n X cs w hO hn hI
 obtain ⟨k,rfl⟩:∃ k:Nat,s=(k:Int):=⟨s.toNat,by omega⟩
 have hk:k<b.st.length:=by omega
 have hk8:k<8:=Nat.lt_of_lt_of_le hk hI.s8;obtain ⟨j,q,hS⟩:=hI.at hk;have hlr:=hO.at k;have hr16:=hO.r1;have HB:=Lh (And.intro (Blk.start w cs BDT) (And.intro (bA (w:=w) (o:=.cells ⟨cs⟩ BDT)) hI.len));have HH:=Lh (fun W (hb:Below w.heap.size w W)=>has_any k W (hI.next hb) hk);have HC:=Lh hS.c3;have HQ:=Lh (fun W (hb:Below w.heap.size w W)=>clone_en q (b.at k).q W (hS.q.next hb) (by omega));clear hO hn hI h0 h1 hS hk hlr hr16
 show Calls Tryz.prog 36 #[.agg cs.toArray,.int .i64 (k:Int)] w _
 go_enter Tryz.func36,Tryz.ntmps36
 go_upto_region 1 with fail
 generalize w.alloc _=W2 at *
 go_wp2_with (first
  | (refine kld (n:=nBd) HB.out.1 HB.out.2.2 ?_)
  | (go_at_call 77; refine (HH.out _ HB.out.2.1).mono ?_; rintro e w3 ⟨rfl,hb3⟩; have H3:=Lh (And.intro (HB.out.1.next hb3) (HB.out.2.1.trans (hb3.mono HB.out.2.1.size))); clear hb3 HB HH; have q3:=H3.out.1.cell _ HC.out)
  | (go_at_call 89; refine (HQ.out _ H3.out.2).mono ?_; rintro e w4 ⟨v,rfl,hv,hb4⟩; have H4:=Lh (And.intro hv (H3.out.2.trans (hb4.mono H3.out.2.size))); clear hv hb4))
 go_ret
 exact ⟨_,rfl,H4.out⟩
end Go.Proofs.YtemicfjmidohfaaGreatDoor
namespace Go.Proofs.YtemicfjmidohfaaGreatDoor
open Go Go.Proofs Go.RowKit
theorem ball_ok:BAll where
 new site stripes room X w _ _ _ _ _ _ _:=new_ok site stripes room X w
 hold:=holder_ok
 trace:=trace_ok
 lock:=lock_ok
 unlock:=unlock_ok
 push:=push_ok
 pop b t s k h0 h1 _ _:=pop_ok b t s k h0 h1
 sl:=seal_ok
 empty:=empty_ok
 fill:=fill_ok
 filled:=filled_ok
 fetch:=fetch_ok
 stripes:=stripes_ok
 queue:=queue_ok
 up:=up_ok
 raise:=raise_ok
 pub b t r rs n X cs w hO hn hI _ hr _ _:=publ_ok b t r rs n X cs w hO hn hI hr
 load b t n X cs w hO hn hI _ _ _:=load_ok b t n X cs w hO hn hI
 leave:=leave_ok
 gone:=gone_ok
end Go.Proofs.YtemicfjmidohfaaGreatDoor
