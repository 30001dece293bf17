/-
  The document's own vault (moothillref15): Write, into an empty one.
-/
import Derived.Test.YtnjdckoljmgcjaaGreatDoorW36
set_option maxRecDepth 100000
set_option maxHeartbeats 4000000
namespace Go.Proofs.YtnjdckoljmgcjaaGreatDoor
open Go.ChangeShapes Go.WideShapes Go.ChangeAt Go.RowKit Go.Maps Go.WideMaps
set_option linter.unusedVariables false
set_option linter.unusedSimpArgs false
section
variable {P:Program} {w:World} {ops:Array Oper} {o:Oper} {a:Act} {K:Act→World→Prop} {Q:Exit→Act→World→Prop} {E:Prop}
theorem zeZ (hg:o.guard=none) (t e:TypeId) (x:Operand) (ho:o.op=.buildSlice t 1 #[(0,x)]) (cs:Array Value) (hx:a.eval x=.agg cs)
  (hrun:∀w,(Instr.buildSlice t 1 #[(0,.agg cs)]).run P w=.ok (.slice (some ⟨w.heap.size,0,none⟩) 1 1) (w.alloc (.cells cs e)))
  (h:K (a.put o.dst (.slice (some ⟨w.heap.size,0,none⟩) 1 1)) (w.alloc (.cells cs e))):if Region.wanted o (yielded ops a.tmps)=true then Oper.wp P o a w K Q else E:=by
 have hw:Region.wanted o (yielded ops a.tmps)=true:=by simp [Region.wanted,hg]
 rw [if_pos hw]
 unfold Oper.wp
 simp [execOp,ho,hx,hrun,Result.andThen]
 exact h
end
theorem zdm {w:World} {base n size g:Nat} {E T:TypeId} {cs:Array Value} {v:Value} {xs:List Value} (h:w.ownsRow base E size v n xs) (hg:Blk w g T cs) (hne:E≠T):v.ownBlock≠some g:=by
 rcases h.2 with ⟨rfl,_⟩ | ⟨g',cap,cur,rfl,_,hh,_⟩
 ·simp [Value.ownBlock]
 ·intro he
  have:g'=g:=by simpa [Value.ownBlock] using he
  subst this
  unfold Blk at hg
  rw [hh] at hg
  injection hg with hg
  injection hg with _ ht
  exact hne ht
theorem zhE {B:Nat} {a w:World} {row:Option Nat} (h:a.grownBy w row) (hB:∀b,row=some b→B≤b) (hg:B≤a.heap.size):Below B a w :=
 ⟨h.os,h.tape,h.output,h.size,fun i hi=>h.block i (by omega) (fun e=>by have:=hB i e.symm;omega)⟩
theorem zfj {w:World} {b o:Nat} {x:J} (h:w.rangeAt b o (jC x)):w.rangeAt b o [.int .i64 x.r,.int .i64 x.s]:=by
 intro j v hv
 have hj:j<2:=(List.getElem?_eq_some_iff.1 hv).1
 refine h j v ?_
 rw [←hv]
 rcases (show j=0∨j=1 by omega) with rfl | rfl <;> rfl
theorem zsX:okK za8:=by unfold okK za8;decide
theorem oldK {xs:List J} (hA:∀x∈xs,AnyJ x) (k:Nat) (r s:Int):okK (getV (xs.take k) r s).c:=by
 cases h:zeh (xs.take k) r s with
 | none=>rw [zek h];exact zsX
 | some x =>
  rw [zcN h]
  exact (hA x (List.mem_of_mem_take (zdD h).1)).2.1
theorem zkS (u:Value):(Tryz.prog.info? 36).map (·.size)=some (#[u]:Array Value).size:=by show _=some 1;kernel_rfl
theorem zfm (r s:Int):(Tryz.prog.info? 78).map (·.size)=some ([Value.int .i64 r,Value.int .i64 s]:List Value).length:=by show _=some 2;kernel_rfl
def RwAt (w:World) (k:Nat) (cur:Value) (xs:List J) (i:Nat) (wr:World):Prop :=
 Blk wr k 36 #[.slice none 0 0]∧Blk wr (k+1) 36 #[.slice none 0 0]∧Blk wr (k+1+1) 36 #[cur]∧DocX k wr cur (xs.take i)∧Below k w wr
section
variable {w wr w':World} {k:Nat} {cur:Value} {xs:List J} {i:Nat}
theorem RwAt.on (h:RwAt w k cur xs i wr) (hb:Below wr.heap.size wr w'):RwAt w k cur xs i w':=by
 obtain ⟨h1,h2,h3,h4,h5⟩:=h
 exact ⟨h1.below hb h1.lt,h2.below hb h2.lt,h3.below hb h3.lt,h4.on hb,h5.trans (hb.mono (by have:=h1.lt;omega))⟩
theorem RwAt.v1 (h:RwAt w k cur xs i wr):Blk wr k 36 #[.slice none 0 0]:=h.1
theorem RwAt.v2 (h:RwAt w k cur xs i wr):Blk wr (k+1) 36 #[.slice none 0 0]:=h.2.1
theorem RwAt.v3 (h:RwAt w k cur xs i wr):Blk wr (k+1+1) 36 #[cur]:=h.2.2.1
theorem RwAt.doc (h:RwAt w k cur xs i wr):DocX k wr cur (xs.take i):=h.2.2.2.1
theorem RwAt.bel (h:RwAt w k cur xs i wr):Below k w wr:=h.2.2.2.2
end
def zpg (xs:List J) (w:World) (e:Ending) (w':World):Prop :=
 ∃cur,e=.returned (.tuple #[.agg #[cur],.bool (mayV [] xs)])∧DocX w.heap.size w' cur (if mayV [] xs=true then xs else [])∧Below w.heap.size w w'
theorem zjB (base:Nat) (A:Option Addr) (xs:List J) (n cap:Nat) (w:World) (h:DocX base w (.slice A n cap) xs) (hn:xs.length=n) (hl:n≤900) (hX:∀x∈xs,AnyJ x) :
  Calls Tryz.prog 8 #[.agg #[.slice none 0 0],.slice A n cap] w (zpg xs w):=by
 have HD:=hid h
 obtain ⟨A',cap',e,hA0,hA1⟩:=zaM h
 injection e with e1 e2 e3
 subst e1
 subst e3
 rw [hn] at hA0 hA1
 have HA0:=hid hA0
 have HA1:=hid hA1
 have HN:=hid hn
 have HX:=hid hX
 obtain ⟨i0,hi0,hz0,hz1,hz2⟩:=info_parts zfX
 have HI:=hid (And.intro hi0 (And.intro hz0 (And.intro hz1 hz2)))
 clear h hA0 hA1 hn hX hi0 hz0 hz1 hz2 e2
 go_enter Tryz.func8,Tryz.ntmps8
 go_upto_region 4 with fail
 obtain ⟨W,hW⟩:∃W,((w.alloc (.cells #[.slice none 0 0] 36)).alloc (.cells #[.slice none 0 0] 36)).alloc (.cells #[.slice none 0 0] 36)=W:=⟨_,rfl⟩
 rw [hW]
 obtain ⟨K0,K1,K2,KB⟩:=zeP hW
 clear hW
 obtain ⟨k,hk⟩:∃k,w.heap.size=k:=⟨_,rfl⟩
 rw [hk] at K0 K1 K2 KB
 rw [hk]
 have HK:=hid hk
 clear hk
 have R0:Hid (RwAt w k (.slice none 0 0) xs 0 W):=hid ⟨K0.out,K1.out,K2.out,World.ownsRow_nil _ _ _ _,KB.out⟩
 clear K0 K1 K2 KB
 go_wp2
 go_loopw [7] (fun iv wr=>∃(i:Nat) (cur:Value),i≤n∧iv=.int .i64 (i:Int)∧Hid (RwAt w k cur xs i wr)∧Hid (FolV xs i)) (fun iv _=>n - (intOf iv).toNat)
 case atStart=>exact ⟨0,_,Nat.zero_le _,rfl,R0,hid (fun j hj h=>absurd h (by omega))⟩
 case round =>
  obtain ⟨i,cur,hi,rfl,HR,HFo⟩:=hrel
  clear R0
  by_cases hlt:i<n
  ·have hltx:i<xs.length:=by rw [HN.out];exact hlt
   have hlti:(i:Int)<(n:Int):=by omega
   obtain ⟨bv,rfl,hbv⟩:∃bv,A=some ⟨bv,0,none⟩∧bv<k:=by
    cases A with
    | none=>have:=HA0.out rfl;omega
    | some a=>obtain ⟨b,rfl,_,_,h⟩:=HA1.out a rfl;exact ⟨b,rfl,by rw [←HK.out];exact h⟩
   have RL:=hid ((zfS (show w.ownsRow base 83 22 (.slice (some ⟨bv,0,none⟩) n cap) n (zaQ xs) from (by have h:=HD.out;unfold DocX at h;rw [HN.out] at h;exact h)) hltx).below_ HR.out.bel hbv)
   have HXi:=hid (HX.out xs[i] (List.getElem_mem hltx))
   have HO:=hid (And.intro (oldV HX.out i xs[i].r xs[i].s) (oldK HX.out i xs[i].r xs[i].s))
   have HNo:=hid (zi9 xs [] i hltx)
   have HFs:=hid (HFo.out.succ hltx)
   have HTk:Hid (xs.take (i+1)=xs.take i ++ [xs[i]]):=hid (List.take_succ_eq_append_getElem hltx)
   rw [List.nil_append] at HNo
   obtain ⟨x,hx⟩:∃x,xs[i]=x:=⟨_,rfl⟩
   rw [hx] at RL HXi HO HNo HFs HTk
   clear hx
   obtain ⟨old,hold⟩:∃o,getV (xs.take i) x.r x.s=o:=⟨_,rfl⟩
   have HGet:=hid (fun w h=>zoc k cur (xs.take i) x.r x.s w h (by rw [List.length_take];omega))
   rw [hold] at HO HNo HFs HGet
   clear hold
   have HFl:=hid (fun w=>zr3 x old HXi.out.ok HO.out.1.1 HXi.out.2.1 HO.out.2 w (by have:=HXi.out.sizes;omega) (by have:=HXi.out.sizes;omega) (by have:=HO.out.1.2.1;omega) (by have:=HO.out.1.2.2;omega))
   obtain ⟨fl,hfl⟩:∃f,zbf x old=f:=⟨_,rfl⟩
   rw [hfl] at HFl HNo HFs
   clear hfl
   have LX:=hid (zhv x)
   have LV:=hid (zkS cur)
   have LI:=hid (zfm x.r x.s)
   have A0:=hid (HR.out.on (zag (Below.refl _ _)))
   have RL0:Hid (wr.drew.rangeAt bv (i * 22) (jC x)):=hid (RL.out.below_ (zag (Below.refl _ _)) (by have:=HR.out.v1.lt;omega))
   have hkw:bv<wr.heap.size:=by have:=HR.out.v1.lt;omega
   clear HR RL
   go_upto_region 7 with fail
   refine wp_region_held_drew (S:=fun w'=>Blk w' (k+1+1) 36 #[cur]∧w'.rangeAt bv (i * 22) (jC x)) (by kernel_rfl) (by exact ⟨A0.out.v3,RL0.out⟩) (fun hHeld=>?_)
   refine ta 0 rfl hHeld ?_
   refine ta 1 rfl hHeld ?_
   refine ta 2 rfl hHeld ?_
   try simp only [Act.put,g1,g2,g3,g4,g5,g6]
   refine tk 3 ((.agg (rowJ x))) rfl (fun _ _ _ h=>h) (za7 (by kernel_rfl) 83 (.tmp 24) rfl bv (i * 22) rfl (jC x) _ (fun _ h=>And.right h) Tryz.underlying83 rfl LX.out) hHeld ?_
   try simp only [Act.put,g1,g2,g3,g4,g5,g6]
   refine tk 4 (.agg (#[cur])) rfl (fun _ _ _ h=>h) (za4 (by kernel_rfl) 36 (.tmp 6) rfl (k+1+1) rfl 36 (#[cur]) (0,0) _ (fun _ h=>Blk.heap (And.left h)) Tryz.underlying36 rfl LV.out) hHeld ?_
   try simp only [Act.put,g1,g2,g3,g4,g5,g6]
   refine ta 5 rfl hHeld ?_
   refine ta 6 rfl hHeld ?_
   refine ta 7 rfl hHeld ?_
   refine ta 8 rfl hHeld ?_
   try simp only [Act.put,g1,g2,g3,g4,g5,g6]
   refine tk 9 ((nm x.r x.s)) rfl (fun _ _ _ h=>h) (za7 (by kernel_rfl) 78 (.tmp 30) rfl bv (i * 22) rfl ([.int .i64 x.r,.int .i64 x.s]) _ (fun _ h=>zfj (And.right h)) Tryz.underlying78 rfl LI.out) hHeld ?_
   try simp only [Act.put,g1,g2,g3,g4,g5,g6]
   refine wpAnyH_ready (rs:=[10]) (by kernel_rfl) (by simp) ?_
   refine AllReadyH.cons (o:=_) rfl (fun K hK=>?_) AllReadyH.nil
   go_simp
   go_at_call 23
   with_reducible refine (HGet.out _ A0.out.doc).mono ?_
   rintro e w3 ⟨rfl,hb3⟩
   have hle3:Hid (wr.heap.size≤w3.heap.size):=hid hb3.size
   have A1:=hid (A0.out.on hb3)
   have RL1:=hid (RL0.out.below_ hb3 hkw)
   clear hb3
   refine hK.out _ _ (by exact ⟨A1.out.v3,RL1.out⟩) (fun hHeld=>?_)
   clear hK K
   try simp only [Act.put,g1,g2,g3,g4,g5,g6]
   refine wpAnyH_ready (rs:=[11]) (by kernel_rfl) (by simp) ?_
   refine AllReadyH.cons (o:=_) rfl (fun K hK=>?_) AllReadyH.nil
   go_simp
   go_at_call 22
   with_reducible refine (HFl.out _).mono ?_
   rintro e w4 ⟨rfl,hb4⟩
   have A2:=hid (A1.out.on hb4)
   have RL2:=hid (RL1.out.below_ hb4 (Nat.lt_of_lt_of_le hkw (show wr.heap.size≤w3.heap.size from hle3.out)))
   have hkw4:Hid (bv<w4.heap.size):=hid (Nat.lt_of_lt_of_le hkw (Nat.le_trans hle3.out hb4.size))
   clear hb4
   refine hK.out _ _ (by exact ⟨A2.out.v3,RL2.out⟩) (fun hHeld=>?_)
   clear hK K
   try simp only [Act.put,g1,g2,g3,g4,g5,g6]
   refine ta 12 rfl hHeld ?_
   try simp only [Act.put,g1,g2,g3,g4,g5,g6]
   refine wpAnyH_done (by kernel_rfl) ?_ _
   clear hHeld
   clear A0 A1 RL0 RL1 HGet HFl hle3
   cases fl
   ·have HR:=hid (HNo.out rfl)
    have LV0:=hid (zkS (.slice none 0 0))
    have q0:w4.cell? ⟨k,0,none⟩=some (.slice none 0 0):=(A2.out.v1.cell 0).trans rfl
    have q1:w4.cell? ⟨k+1,0,none⟩=some (.slice none 0 0):=(A2.out.v2.cell 0).trans rfl
    have f1:=A2.out.v2.frozen 0
    have FB:Hid (Below k w (w4.setCell ⟨k+1,0,none⟩ (.slice none 0 0))):=hid (A2.out.bel.setCell (p:=⟨k+1,0,none⟩) (by show k≤k+1;omega) _)
    have FV:Hid (Blk (w4.setCell ⟨k+1,0,none⟩ (.slice none 0 0)) (k+1) 36 #[.slice none 0 0]):=hid ((A2.out.v2.set_ 0 (.slice none 0 0)).as rfl)
    clear HNo HFs A2
    go_wp2
    (try simp only [Exit.inBlock,Exit.then]);refine bodyPost_ret (v:=.tuple #[.agg #[.slice none 0 0],.bool false]) (zcr (p:=4) (q:=5) (ty:=36) (by kernel_rfl) _ _ (k+1) 36 #[.slice none 0 0] (0,0) _ (.bool false) rfl rfl FV.out.heap Tryz.underlying36 rfl LV0.out) rfl ?_
    exact ⟨_,by rw [HR.out],by rw [HR.out,if_neg (by simp)];exact World.ownsRow_nil _ _ _ _,by rw [HK.out];exact FB.out⟩
   ·have HF2:=hid (HFs.out rfl)
    have B0:=hid (A2.out.on (zag (Below.refl _ _)))
    have RM:=hid (RL2.out.below_ (zag (Below.refl _ _)) hkw4.out)
    have HB:=hid (zd0 x)
    clear HNo HFs A2 RL2
    go_upto_region 9 with fail
    refine wp_region_held_drew (S:=fun w'=>w'.rangeAt bv (i * 22) (jC x)) (by kernel_rfl) (by exact RM.out) (fun hHeld=>?_)
    refine ta 0 rfl hHeld ?_
    refine ta 2 rfl hHeld ?_
    refine ta 3 rfl hHeld ?_
    refine ta 4 rfl hHeld ?_
    try simp only [Act.put,g1,g2,g3,g4,g5,g6]
    refine tk 5 ((.agg (rowJ x))) rfl (fun _ _ _ h=>h) (za7 (by kernel_rfl) 83 (.tmp 40) rfl bv (i * 22) rfl (jC x) _ (fun _ h=>h) Tryz.underlying83 rfl LX.out) hHeld ?_
    try simp only [Act.put,g1,g2,g3,g4,g5,g6]
    refine wpAnyH_ready (rs:=[1,6]) (by kernel_rfl) (by simp) ?_
    refine AllReadyH.cons (o:=_) rfl (fun K hK=>?_) (AllReadyH.cons (o:=_) rfl (fun K hK=>?_) AllReadyH.nil)
    ·have q0:w4.cell? ⟨k+1+1,0,none⟩=some cur:=((B0.out.v3).cell 0).trans rfl
     go_simp
     clear q0
     refine hK.out _ _ (by exact RM.out) (fun hHeld=>?_)
     clear hK K
     try simp only [Act.put,g1,g2,g3,g4,g5,g6]
     refine wpAnyH_ready (rs:=[6]) (by kernel_rfl) (by simp) ?_
     refine AllReadyH.cons (o:=_) rfl (fun K hK=>?_) AllReadyH.nil
     refine zeZ rfl 34 83 (.tmp 41) rfl (rowJ x) rfl HB.out ?_
     have B1:=hid (B0.out.on ((Below.refl _ _).alloc (Nat.le_refl _) (.cells (rowJ x) 83)))
     have RM1:=hid (RM.out.below_ ((Below.refl _ _).alloc (Nat.le_refl _) (.cells (rowJ x) 83)) hkw4.out)
     refine hK.out _ _ (by exact RM1.out) (fun hHeld=>?_)
     clear hK K
     try simp only [Act.put,g1,g2,g3,g4,g5,g6]
     refine wpAnyH_ready (rs:=[7]) (by kernel_rfl) (by simp) ?_
     refine AllReadyH.cons (o:=_) rfl (fun K hK=>?_) AllReadyH.nil
     refine zel rfl (.tmp 37) (.tmp 42) 34 rfl k 83 i0 (.agg (rowJ zau)) 22 184 Tryz.underlying34 HI.out.1 HI.out.2.1 HI.out.2.2.1 HI.out.2.2.2 rfl (by decide) _ _ _ rfl B1.out.doc ⟨_,0,none⟩ 1 1 (jC x) rfl rfl (zlB _ _ _) (zf5 _) (by rw [List.length_take];unfold maxLen;omega) (by rw [List.length_take];omega) (by have:=B1.out.v1.lt;show k≤(w4.drew.alloc (.cells (rowJ x) 83)).heap.size;omega) ?_
     intro cur2 w6 hown6 hg6
     obtain ⟨g6,cap6,rfl⟩:=ownsRow_succ hown6
     obtain ⟨n6,hn6⟩:∃m,(xs.take i).length+1=m:=⟨_,rfl⟩
     rw [hn6] at hown6 ⊢
     have n1:=zdm B1.out.doc B1.out.v1 (by decide)
     have n2:=zdm B1.out.doc B1.out.v2 (by decide)
     have n3:=zdm B1.out.doc B1.out.v3 (by decide)
     have H6:Hid (Blk w6 k 36 #[.slice none 0 0]∧Blk w6 (k+1) 36 #[.slice none 0 0]∧Blk w6 (k+1+1) 36 #[cur]∧DocX k w6 (.slice (some ⟨g6,0,none⟩) n6 cap6) (xs.take (i+1))∧Below k w w6):=hid ⟨B1.out.v1.grown hg6 (Ne.symm n1),B1.out.v2.grown hg6 (Ne.symm n2),B1.out.v3.grown hg6 (Ne.symm n3),(by unfold DocX;rw [HTk.out,List.length_append,zeQ];show w6.ownsRow k _ 22 _ ((xs.take i).length+1) _;rw [hn6];exact hown6),B1.out.bel.grown hg6 (by have:=B1.out.v1.lt;omega) (fun b e=>(B1.out.doc.lt b e).1)⟩
     have RM6:Hid (w6.rangeAt bv (i * 22) (jC x)):=hid (RM1.out.below_ (zhE hg6 (fun b e=>(B1.out.doc.lt b e).1) (by have:=B1.out.v1.lt;omega)) hbv)
     clear hown6 hg6 n1 n2 n3
     refine hK.out _ _ (by exact RM6.out) (fun hHeld=>?_)
     clear hK K
     try simp only [Act.put,g1,g2,g3,g4,g5,g6]
     refine ta 8 rfl hHeld ?_
     try simp only [Act.put,g1,g2,g3,g4,g5,g6]
     refine wpAnyH_ready (rs:=[9]) (by kernel_rfl) (by simp) ?_
     refine AllReadyH.cons (o:=_) rfl (fun K hK=>?_) AllReadyH.nil
     have f6:=H6.out.2.2.1.frozen 0
     have q6:w6.cell? ⟨k+1+1,0,none⟩=some cur:=(H6.out.2.2.1.cell 0).trans rfl
     go_simp
     have t7:zai (fun b=>b=k+1+1) w6 (w6.setCell ⟨k+1+1,0,none⟩ (.slice (some ⟨g6,0,none⟩) n6 cap6)):=(zai.refl (fun b=>b=k+1+1) w6).set (p:=⟨k+1+1,0,none⟩) (.inl rfl) (.slice (some ⟨g6,0,none⟩) n6 cap6)
     have n4:=zdm H6.out.2.2.2.1 H6.out.2.2.1 (by decide)
     have R7:Hid (RwAt w k (.slice (some ⟨g6,0,none⟩) n6 cap6) xs (i+1) (w6.setCell ⟨k+1+1,0,none⟩ (.slice (some ⟨g6,0,none⟩) n6 cap6))):=hid ⟨H6.out.1.turns t7 (by omega),H6.out.2.1.turns t7 (by omega),(H6.out.2.2.1.set_ 0 (.slice (some ⟨g6,0,none⟩) n6 cap6)).as rfl,H6.out.2.2.2.1.kept (zaD (World.grownBy.refl _ _) (.inl rfl) _) (.inr n4),H6.out.2.2.2.2.setCell (p:=⟨k+1+1,0,none⟩) (by show k≤k+1+1;omega) _⟩
     have RM7:Hid ((w6.setCell ⟨k+1+1,0,none⟩ (.slice (some ⟨g6,0,none⟩) n6 cap6)).rangeAt bv (i * 22) (jC x)):=hid (fun j v hv=>(zep t7 (RM6.out j v hv) (by have:=H6.out.1.lt;show bv<_;omega) (by show ¬bv=_;omega)))
     clear t7 n4 f6 q6
     refine hK.out _ _ (by exact RM7.out) (fun hHeld=>?_)
     clear hK K
     try simp only [Act.put,g1,g2,g3,g4,g5,g6]
     refine wpAnyH_done (by kernel_rfl) ?_ _
     clear hHeld H6 RM6 RM7 RM1 B1
     go_wp2
     go_roundw
     case rel=>exact ⟨i+1,(.slice (some ⟨g6,0,none⟩) n6 cap6),by omega,by go_num,R7,HF2⟩
     case measure=>simp only [intOf];omega
    ·refine zeZ rfl 34 83 (.tmp 41) rfl (rowJ x) rfl HB.out ?_
     have B1:=hid (B0.out.on ((Below.refl _ _).alloc (Nat.le_refl _) (.cells (rowJ x) 83)))
     have RM1:=hid (RM.out.below_ ((Below.refl _ _).alloc (Nat.le_refl _) (.cells (rowJ x) 83)) hkw4.out)
     refine hK.out _ _ (by exact RM1.out) (fun hHeld=>?_)
     clear hK K
     try simp only [Act.put,g1,g2,g3,g4,g5,g6]
     refine wpAnyH_ready (rs:=[1]) (by kernel_rfl) (by simp) ?_
     refine AllReadyH.cons (o:=_) rfl (fun K hK=>?_) AllReadyH.nil
     have q0:(w4.alloc (.cells (rowJ x) 83)).cell? ⟨k+1+1,0,none⟩=some cur:=((B1.out.v3).cell 0).trans rfl
     go_simp
     clear q0
     refine hK.out _ _ (by exact RM1.out) (fun hHeld=>?_)
     clear hK K
     try simp only [Act.put,g1,g2,g3,g4,g5,g6]
     refine wpAnyH_ready (rs:=[7]) (by kernel_rfl) (by simp) ?_
     refine AllReadyH.cons (o:=_) rfl (fun K hK=>?_) AllReadyH.nil
     refine zel rfl (.tmp 37) (.tmp 42) 34 rfl k 83 i0 (.agg (rowJ zau)) 22 184 Tryz.underlying34 HI.out.1 HI.out.2.1 HI.out.2.2.1 HI.out.2.2.2 rfl (by decide) _ _ _ rfl B1.out.doc ⟨_,0,none⟩ 1 1 (jC x) rfl rfl (zlB _ _ _) (zf5 _) (by rw [List.length_take];unfold maxLen;omega) (by rw [List.length_take];omega) (by have:=B1.out.v1.lt;show k≤(w4.drew.alloc (.cells (rowJ x) 83)).heap.size;omega) ?_
     intro cur2 w6 hown6 hg6
     obtain ⟨g6,cap6,rfl⟩:=ownsRow_succ hown6
     obtain ⟨n6,hn6⟩:∃m,(xs.take i).length+1=m:=⟨_,rfl⟩
     rw [hn6] at hown6 ⊢
     have n1:=zdm B1.out.doc B1.out.v1 (by decide)
     have n2:=zdm B1.out.doc B1.out.v2 (by decide)
     have n3:=zdm B1.out.doc B1.out.v3 (by decide)
     have H6:Hid (Blk w6 k 36 #[.slice none 0 0]∧Blk w6 (k+1) 36 #[.slice none 0 0]∧Blk w6 (k+1+1) 36 #[cur]∧DocX k w6 (.slice (some ⟨g6,0,none⟩) n6 cap6) (xs.take (i+1))∧Below k w w6):=hid ⟨B1.out.v1.grown hg6 (Ne.symm n1),B1.out.v2.grown hg6 (Ne.symm n2),B1.out.v3.grown hg6 (Ne.symm n3),(by unfold DocX;rw [HTk.out,List.length_append,zeQ];show w6.ownsRow k _ 22 _ ((xs.take i).length+1) _;rw [hn6];exact hown6),B1.out.bel.grown hg6 (by have:=B1.out.v1.lt;omega) (fun b e=>(B1.out.doc.lt b e).1)⟩
     have RM6:Hid (w6.rangeAt bv (i * 22) (jC x)):=hid (RM1.out.below_ (zhE hg6 (fun b e=>(B1.out.doc.lt b e).1) (by have:=B1.out.v1.lt;omega)) hbv)
     clear hown6 hg6 n1 n2 n3
     refine hK.out _ _ (by exact RM6.out) (fun hHeld=>?_)
     clear hK K
     try simp only [Act.put,g1,g2,g3,g4,g5,g6]
     refine ta 8 rfl hHeld ?_
     try simp only [Act.put,g1,g2,g3,g4,g5,g6]
     refine wpAnyH_ready (rs:=[9]) (by kernel_rfl) (by simp) ?_
     refine AllReadyH.cons (o:=_) rfl (fun K hK=>?_) AllReadyH.nil
     have f6:=H6.out.2.2.1.frozen 0
     have q6:w6.cell? ⟨k+1+1,0,none⟩=some cur:=(H6.out.2.2.1.cell 0).trans rfl
     go_simp
     have t7:zai (fun b=>b=k+1+1) w6 (w6.setCell ⟨k+1+1,0,none⟩ (.slice (some ⟨g6,0,none⟩) n6 cap6)):=(zai.refl (fun b=>b=k+1+1) w6).set (p:=⟨k+1+1,0,none⟩) (.inl rfl) (.slice (some ⟨g6,0,none⟩) n6 cap6)
     have n4:=zdm H6.out.2.2.2.1 H6.out.2.2.1 (by decide)
     have R7:Hid (RwAt w k (.slice (some ⟨g6,0,none⟩) n6 cap6) xs (i+1) (w6.setCell ⟨k+1+1,0,none⟩ (.slice (some ⟨g6,0,none⟩) n6 cap6))):=hid ⟨H6.out.1.turns t7 (by omega),H6.out.2.1.turns t7 (by omega),(H6.out.2.2.1.set_ 0 (.slice (some ⟨g6,0,none⟩) n6 cap6)).as rfl,H6.out.2.2.2.1.kept (zaD (World.grownBy.refl _ _) (.inl rfl) _) (.inr n4),H6.out.2.2.2.2.setCell (p:=⟨k+1+1,0,none⟩) (by show k≤k+1+1;omega) _⟩
     have RM7:Hid ((w6.setCell ⟨k+1+1,0,none⟩ (.slice (some ⟨g6,0,none⟩) n6 cap6)).rangeAt bv (i * 22) (jC x)):=hid (fun j v hv=>(zep t7 (RM6.out j v hv) (by have:=H6.out.1.lt;show bv<_;omega) (by show ¬bv=_;omega)))
     clear t7 n4 f6 q6
     refine hK.out _ _ (by exact RM7.out) (fun hHeld=>?_)
     clear hK K
     try simp only [Act.put,g1,g2,g3,g4,g5,g6]
     refine wpAnyH_done (by kernel_rfl) ?_ _
     clear hHeld H6 RM6 RM7 RM1 B1
     go_wp2
     go_roundw
     case rel=>exact ⟨i+1,(.slice (some ⟨g6,0,none⟩) n6 cap6),by omega,by go_num,R7,HF2⟩
     case measure=>simp only [intOf];omega
  ·have hke:i=n:=by omega
   have hnI:¬(i:Int)<(n:Int):=by omega
   have HMv:Hid (mayV [] xs=true):=hid (FolV.all (by rw [HN.out,←hke];exact HFo.out))
   have HD2:Hid (DocX k wr cur xs):=hid (by
    have h:=HR.out.doc
    rw [hke,←HN.out,List.take_length] at h
    exact h)
   obtain ⟨B,cb,rfl,_,_⟩:=zaM HD2.out
   have LV0:=hid (zkS (.slice B xs.length cb))
   have q0:wr.cell? ⟨k+1+1,0,none⟩=some (.slice B xs.length cb):=(HR.out.v3.cell 0).trans rfl
   have q1:wr.cell? ⟨k+1,0,none⟩=some (.slice none 0 0):=(HR.out.v2.cell 0).trans rfl
   have f1:=HR.out.v2.frozen 0
   have FB:Hid (Below k w (wr.setCell ⟨k+1,0,none⟩ (.slice B xs.length cb))):=hid (HR.out.bel.setCell (p:=⟨k+1,0,none⟩) (by show k≤k+1;omega) _)
   have FV:Hid (Blk (wr.setCell ⟨k+1,0,none⟩ (.slice B xs.length cb)) (k+1) 36 #[(.slice B xs.length cb)]):=hid ((HR.out.v2.set_ 0 (.slice B xs.length cb)).as rfl)
   have n4:=zdm HD2.out HR.out.v2 (by decide)
   have FD:Hid (DocX k (wr.setCell ⟨k+1,0,none⟩ (.slice B xs.length cb)) (.slice B xs.length cb) xs):=hid (HD2.out.kept (zaD (World.grownBy.refl _ _) (.inl rfl) _) (.inr n4))
   clear HR HFo HD2 n4
   go_wp2
   (try simp only [Exit.inBlock,Exit.then]);refine bodyPost_ret (v:=.tuple #[.agg #[(.slice B xs.length cb)],.bool true]) (zcr (p:=4) (q:=5) (ty:=36) (by kernel_rfl) _ _ (k+1) 36 #[(.slice B xs.length cb)] (0,0) _ (.bool true) rfl rfl FV.out.heap Tryz.underlying36 rfl LV0.out) rfl ?_
   exact ⟨_,by rw [HMv.out],by rw [HMv.out,if_pos rfl,HK.out];exact FD.out,by rw [HK.out];exact FB.out⟩
end Go.Proofs.YtnjdckoljmgcjaaGreatDoor
