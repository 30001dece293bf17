/-
  The contracts of choose, tidy, create and Open (package vault).
-/
import Derived.Test.YtnjdckoljmgcjaaGreatDoorW28
set_option maxRecDepth 100000
set_option maxHeartbeats 4000000
namespace Go.Proofs.YtnjdckoljmgcjaaGreatDoor
open Go.ChangeShapes Go.WideShapes Go.ChangeAt Go.RowKit Go.Maps Go.WideMaps
set_option linter.unusedVariables false
set_option linter.unusedSimpArgs false
def flC (v:Nat) (whole:Bool) (good:Int):Array Value:=#[.pointer (some ⟨v,0,none⟩),.bool whole,.int .i64 good]
def OwnF (f v m mi b:Nat):Prop:=b=f∨OwnV v m mi b
def Tk (w W:World) (f:Nat) (whole:Bool) (good:Nat) (base v g:Nat) (cur gen:Int) (m x mi:Nat) (l:List J) (nl:List Nt):Prop :=
 Blk W f 73 (flC v whole (good:Int))∧VAt W base v g cur gen m x mi l nl∧zai (OwnF f v m mi) w W∧zad W∧(v<w.heap.size∧m<w.heap.size∧x<w.heap.size∧mi<w.heap.size∧f<w.heap.size)∧0<base∧base≤f
section
variable {w W W':World} {f:Nat} {whole:Bool} {good:Nat} {base v g:Nat} {cur gen:Int} {m x mi:Nat} {l:List J} {nl:List Nt}
theorem Tk.box (h:Tk w W f whole good base v g cur gen m x mi l nl):Blk W f 73 (flC v whole (good:Int)):=h.1
theorem Tk.vat (h:Tk w W f whole good base v g cur gen m x mi l nl):VAt W base v g cur gen m x mi l nl:=h.2.1
theorem Tk.turns (h:Tk w W f whole good base v g cur gen m x mi l nl):zai (OwnF f v m mi) w W:=h.2.2.1
theorem Tk.parts (h:Tk w W f whole good base v g cur gen m x mi l nl):zad W:=h.2.2.2.1
theorem Tk.lowb (h:Tk w W f whole good base v g cur gen m x mi l nl):0<base∧base≤f:=h.2.2.2.2.2
theorem Tk.lts (h:Tk w W f whole good base v g cur gen m x mi l nl):v<w.heap.size∧m<w.heap.size∧x<w.heap.size∧mi<w.heap.size∧f<w.heap.size:=h.2.2.2.2.1
theorem Tk.start (hf:Blk w f 73 (flC v whole (good:Int))) (h:VAt w base v g cur gen m x mi l nl) (hP:zad w) (hb:0<base) (hbf:base≤f):Tk w w f whole good base v g cur gen m x mi l nl :=
 ⟨hf,h,zai.refl _ _,hP,⟨h.lts.1,h.lts.2.1,h.lts.2.2.1,h.lts.2.2.2,hf.lt⟩,hb,hbf⟩
theorem zbO {S:Nat→Prop} (hP:zad w) (t:zai S w W) (hS:¬S 0):zad W:=by
 have hlt:=hP.lt
 unfold zad World.var? at *
 rw [zcx] at *
 simp only [Option.bind_some] at *
 rw [t.block 0 hlt hS]
 exact hP
theorem Tk.other {S:Nat→Prop} (h:Tk w W f whole good base v g cur gen m x mi l nl) (t:zai S W W') (hS:∀b,S b→w.heap.size≤b):Tk w W' f whole good base v g cur gen m x mi l nl:=by
 obtain ⟨l1,l2,l3,l4,l5⟩:=h.lts
 have nS:∀b,b<w.heap.size→¬S b:=fun b hb hs=>by have:=hS b hs;omega
 exact ⟨h.1.turns t (nS _ l5),h.2.1.stay t ⟨nS _ l1,nS _ l2,nS _ l3,nS _ l4⟩,h.2.2.1.trans t (fun i hi hs=>absurd hs (nS i hi)),zbO h.parts t (nS _ (by have:=h.2.2.2.2.2;omega)),h.2.2.2.2⟩
theorem Tk.on (h:Tk w W f whole good base v g cur gen m x mi l nl) (hb:Below W.heap.size W W'):Tk w W' f whole good base v g cur gen m x mi l nl:=h.other (S:=fun _=>False) (zai.of_below hb) (fun _ h=>h.elim)
theorem Tk.drew (h:Tk w W f whole good base v g cur gen m x mi l nl):Tk w W.drew f whole good base v g cur gen m x mi l nl:=h.on (zag (Below.refl _ _))
theorem Tk.grown {q:Nat} (h:Tk w W f whole good base v g cur gen m x mi l nl) (hg:W.grownBy W' (some q)) (hq:w.heap.size≤q):Tk w W' f whole good base v g cur gen m x mi l nl :=
 h.other (S:=fun b=>b=q) (zai.of_grown hg (fun b e=>by injection e with e;exact e.symm)) (fun b e=>by rw [e];exact hq)
theorem Tk.step {l':List J} {nl':List Nt} {cur' gen':Int} (h:Tk w W f whole good base v g cur gen m x mi l nl) (hv:VAt W' base v g cur' gen' m x mi l' nl') (t:zai (OwnV v m mi) W W'):Tk w W' f whole good base v g cur' gen' m x mi l' nl':=by
 have hf:¬OwnV v m mi f:=h.2.1.type_ne h.1 (by decide)
 have hlo:=h.vat.low
 exact ⟨h.1.turns t hf,hv,h.2.2.1.trans t (fun i _ hs=>.inr hs),zbO h.parts t (by unfold OwnV;have:=h.2.2.2.2.2;omega),h.2.2.2.2⟩
theorem Tk.put {whole':Bool} {good':Nat} (h:Tk w W f whole good base v g cur gen m x mi l nl) (i:Nat) (u:Value) (hc:(flC v whole (good:Int)).setIfInBounds i u=flC v whole' (good':Int)):Tk w (W.setCell ⟨f,i,none⟩ u) f whole' good' base v g cur gen m x mi l nl:=by
 have t:zai (fun b=>b=f) W (W.setCell ⟨f,i,none⟩ u):=(zai.refl (fun b=>b=f) W).set (p:=⟨f,i,none⟩) (.inl rfl) u
 obtain ⟨c1,c2⟩:=h.vat.cells_ne h.box
 have hf:¬OwnV v m mi f:=h.2.1.type_ne h.1 (by decide)
 have hx:x≠f:=by
  rintro rfl
  have h1:=h.vat.ix.1
  have h2:=h.box
  unfold Blk at h1 h2
  rw [h1] at h2
  injection h2 with h2
  injection h2 with _ h3 _
  exact absurd h3 (by decide)
 exact ⟨hc ▸ h.1.set_ i u,h.2.1.stay t ⟨fun e=>hf (.inl e.symm),Ne.symm c1,hx,Ne.symm c2⟩,h.2.2.1.trans t (fun i _ e=>.inl e),zbO h.parts t (by have:=h.2.2.2.2.2;omega),h.2.2.2.2⟩
end
theorem za2 {w:World} {f v:Nat} {whole:Bool} {good:Int} (h:Blk w f 73 (flC v whole good)):w.cell? ⟨f,0,none⟩=some (.pointer (some ⟨v,0,none⟩))∧w.cell? ⟨f,1,none⟩=some (.bool whole)∧w.cell? ⟨f,2,none⟩=some (.int .i64 good) :=
 ⟨(h.cell 0).trans rfl,(h.cell 1).trans rfl,(h.cell 2).trans rfl⟩
def zkd (w:World) (f:Nat) (whole:Bool) (good:Nat) (base v g:Nat) (cur gen:Int) (m x mi:Nat) (l:List J) (e:Ending) (w':World):Prop :=
 e=.returned (.bool true)∧Tk w w' f whole good base v g cur gen m x mi l (zaP l)
theorem zne (f base v g:Nat) (cur gen:Int) (m x mi:Nat) (A:Option Addr) (n c:Nat) (w:World) (h:Tk w w f false 0 base v g cur gen m x mi [] (zaP [])) (hn:n=2) (hc:A=none→c=0) (hA:Sees .u8 w A [1,1]) :
  Calls Tryz.prog 48 #[.pointer (some ⟨f,0,none⟩),.slice A n c] w (zkd w f false 0 base v g cur 1 m x mi []):=by
 subst hn
 have A0:=hid h
 have HIn:=hid (zgZ A [1,1] 2 c w rfl (by decide) hc hA)
 have HSh:Hid (zal [1] 0 18446744073709551615=([],0,1)):=hid (by decide)
 obtain ⟨c0,c1,c2⟩:=za2 h.box
 clear h hc hA
 go_enter Tryz.func48,Tryz.ntmps48
 go_wp2_with fail
 with_reducible refine HIn.out.mono ?_
 rintro e w1 ⟨q,rfl,hin,hb,hg⟩
 have A1:=hid (A0.out.on hb)
 have I1:=hid hin
 have HQ:=hid hg
 clear c0 c1 c2 hin hb hg A0 HIn
 go_wp2_with fail
 with_reducible refine (zdp q 1 [1] _ I1.out).mono ?_
 rintro e w2 ⟨rfl,hin,hg⟩
 have A2:=hid (A1.out.grown hg HQ.out)
 have I2:=hid hin
 clear hin hg A1 I1
 go_wp2_with fail
 with_reducible refine (za6 q [1] 0 18446744073709551615 _ [] 0 1 _ I2.out (zuH _) (by simp) (by simp) (by first | rfl | decide) HSh.out).mono ?_
 rintro e w3 ⟨rfl,hin,hg⟩
 have A3:=hid (A2.out.grown hg HQ.out)
 have I3:=hid hin
 clear hin hg A2 I2
 go_wp2_with fail
 with_reducible refine (zlI q [] 0 _ I3.out).mono ?_
 rintro e w4 ⟨rfl,rfl⟩
 obtain ⟨c0,c1,c2⟩:=za2 A3.out.box
 obtain ⟨lo,hi,hbv⟩:=A3.out.vat.blk
 obtain ⟨⟨_,_,d2,_⟩,fz⟩:=zbw hbv
 have f2:=fz 2
 obtain ⟨p1,p2⟩:=A3.out.vat.put (cur':=cur) (gen':=1) 2 (.int .u64 1) (fun lo hi=>⟨lo,hi,rfl⟩)
 have A4:=hid (A3.out.step p1 (p2.more (fun _ _ e=>.inl e)))
 clear p1 p2 hbv fz A3 I3
 go_wp2
 go_ret
 exact ⟨rfl,A4.out⟩
theorem zp2 (f good base v g:Nat) (cur gen:Int) (m x mi:Nat) (l:List J) (A:Option Addr) (n c:Nat) (w:World) (h:Tk w w f false good base v g cur gen m x mi l (zaP l)) (h0:0<good) (hn:n=1) (hc:A=none→c=0) (hA:Sees .u8 w A [4]) :
  Calls Tryz.prog 48 #[.pointer (some ⟨f,0,none⟩),.slice A n c] w (zkd w f true good base v g cur gen m x mi l):=by
 subst hn
 have A0:=hid h
 have HIn:=hid (zgZ A [4] 1 c w rfl (by decide) hc hA)
 obtain ⟨c0,c1,c2⟩:=za2 h.box
 have hgi:(0:Int)<(good:Int):=by omega
 clear h hc hA
 go_enter Tryz.func48,Tryz.ntmps48
 go_wp2_with fail
 with_reducible refine HIn.out.mono ?_
 rintro e w1 ⟨q,rfl,hin,hb,hg⟩
 have A1:=hid (A0.out.on hb)
 have I1:=hid hin
 have HQ:=hid hg
 clear c0 c1 c2 hin hb hg A0 HIn
 go_wp2_with fail
 with_reducible refine (zdp q 4 [] _ I1.out).mono ?_
 rintro e w2 ⟨rfl,hin,hg⟩
 have A2:=hid (A1.out.grown hg HQ.out)
 have I2:=hid hin
 clear hin hg A1 I1
 obtain ⟨c0,c1,c2⟩:=za2 A2.out.box
 go_wp2_with fail
 with_reducible refine (zlI q [] 0 _ I2.out).mono ?_
 rintro e w4 ⟨rfl,rfl⟩
 have fz:=A2.out.box.frozen 1
 have A4:=hid (A2.out.put (whole':=true) (good':=good) 1 (.bool true) rfl)
 clear A2 I2
 go_wp2
 go_ret
 exact ⟨rfl,A4.out⟩
theorem zkX (f good base v g:Nat) (whole:Bool) (cur gen:Int) (m x mi:Nat) (l:List J) (y:J) (A:Option Addr) (n c:Nat) (w:World) (h:Tk w w f whole good base v g cur gen m x mi l (zaP l)) (h0:0<good) (hG:zbv y) (hall:∀z∈l,zbv z) (hlen:l.length<900)
  (hn:(zbe y).length=n) (hc:A=none→c=0) (hA:Sees .u8 w A (zbe y)) :
  Calls Tryz.prog 48 #[.pointer (some ⟨f,0,none⟩),.slice A n c] w (zkd w f whole good base v g cur gen m x mi (l ++ [y])):=by
 have hsl:=zcz hG
 have A0:=hid h
 have HIn:=hid (zgZ A (zbe y) n c w hn (by omega) hc hA)
 have HK:=hid (fun w h hP hgb=>zmH base v g cur gen m x mi l y w h hP hgb hG hall hlen)
 obtain ⟨y2,hs2,he2⟩:=zqh y [] hG.ok hG.okk hG.right
 rw [List.append_nil] at hs2
 have HS:=hid hs2
 have HE:=hid (zrK he2)
 have SL:Hid (zao (encJ y) 0):=hid ⟨zuH _,zjK y hG.ok hG.okk hG.right,by unfold zbe at hsl;rw [List.length_cons] at hsl;omega⟩
 have L1:=hid (zaE y)
 obtain ⟨c0,c1,c2⟩:=za2 h.box
 have hgi:(0:Int)<(good:Int):=by omega
 clear h hc hA hs2 he2 hG hall
 go_enter Tryz.func48,Tryz.ntmps48
 go_wp2_with fail
 with_reducible refine HIn.out.mono ?_
 rintro e w1 ⟨q,rfl,hin,hb,hg⟩
 have A1:=hid (A0.out.on hb)
 have I1:Hid (InAt w1 q (2 :: encJ y) 0):=hid hin
 have HQ:=hid hg
 clear c0 c1 c2 hin hb hg A0 HIn
 go_wp2_with fail
 with_reducible refine (zdp q 2 (encJ y) _ I1.out).mono ?_
 rintro e w2 ⟨rfl,hin,hg⟩
 have A2:=hid (A1.out.grown hg HQ.out)
 have I2:=hid hin
 clear hin hg A1 I1
 have hpq:0<q:=by have:=HQ.out;have:=A2.out.lts;have:=A2.out.lowb;omega
 go_wp2_with fail
 with_reducible refine (zj1 q (encJ y) 0 [] 0 y2 _ I2.out SL.out A2.out.parts hpq HS.out).mono ?_
 rw [HE.out]
 rintro e w3 ⟨rfl,hin,hg⟩
 have A3:=hid (A2.out.grown hg HQ.out)
 have I3:=hid hin
 clear hin hg A2 I2
 have hst:=zgb y 66 w3
 go_upto_region 12 with fail
 clear hst
 obtain ⟨W,hW⟩:∃W,(w3.alloc (.cells zrow 66)).setRow w3.heap.size (rowJ y)=W:=⟨_,rfl⟩
 have A4:Hid (Tk w W f whole good base v g cur gen m x mi l (zaP l)):=hid (by rw [←hW];exact (A3.out.on ((Below.refl _ w3).alloc (Nat.le_refl _) (.cells zrow 66))).other (zaN _ _ _) (fun b e=>by rw [e];have:=A3.out.turns.size;omega))
 have I4:Hid (InAt W q [] 0):=hid (by rw [←hW];exact (I3.out.keep ((Below.refl _ _).alloc (by have:=I3.out.lt;omega) _)).setRow I3.out.lt)
 rw [hW]
 obtain ⟨K0,KB⟩:=zcS hW
 clear hW A3 I3 KB
 go_wp2_with fail
 with_reducible refine (zlI q [] 0 _ I4.out).mono ?_
 rintro e w5 ⟨rfl,rfl⟩
 obtain ⟨k,hk⟩:∃k,w3.heap.size=k:=⟨_,rfl⟩
 rw [hk] at K0
 rw [hk]
 clear hk I4
 go_upto_region 14 with fail
 refine wp_region_held_drew (S:=fun w'=>Blk w' f 73 (flC v whole (good:Int))∧Blk w' k 66 (rowJ y)) (by kernel_rfl) (by exact ⟨A4.out.drew.box,K0.out.drew⟩) (fun hHeld=>?_)
 refine ta 0 rfl hHeld ?_
 refine ta 1 rfl hHeld ?_
 refine ta 2 rfl hHeld ?_
 try simp only [Act.put,g1,g2,g3,g4,g5,g6]
 refine tl 3 ?_ rfl ?_ hHeld ?_
 rotate_left 1
 focus (intro w' hSw;(try dsimp only at hSw);(have q0:w'.cell? ⟨f,0,none⟩=some (.pointer (some ⟨v,0,none⟩)):=((And.left hSw).cell 0).trans rfl);go_simp;try with_reducible rfl)
 try simp only [Act.put,g1,g2,g3,g4,g5,g6]
 refine tk 4 (.agg (rowJ y)) rfl (fun _ _ _ h=>h) (za4 (by kernel_rfl) 66 (.tmp 8) rfl k rfl 66 (rowJ y) (0,0) _ (fun _ h=>Blk.heap (And.right h)) Tryz.underlying66 rfl L1.out) hHeld ?_
 try simp only [Act.put,g1,g2,g3,g4,g5,g6]
 refine wpAnyH_ready (rs:=[5]) (by kernel_rfl) (by simp) ?_
 refine AllReadyH.cons (o:=_) rfl (fun K hK=>?_) AllReadyH.nil
 go_simp
 go_at_call 31
 with_reducible refine (HK.out _ A4.out.drew.vat A4.out.drew.parts A4.out.lowb.1).mono ?_
 rintro e w6 ⟨rfl,hv6,t6⟩
 have A5:=hid (A4.out.drew.step hv6 t6)
 have K1:Hid (Blk w6 k 66 (rowJ y)):=hid (K0.out.drew.turns t6 (A4.out.drew.vat.type_ne K0.out.drew.heap (by decide)))
 clear hv6 t6
 refine hK.out _ _ (by exact ⟨A5.out.box,K1.out⟩) (fun hHeld=>?_)
 clear hK K
 try simp only [Act.put,g1,g2,g3,g4,g5,g6]
 refine wpAnyH_done (by kernel_rfl) ?_ _
 clear hHeld
 clear A4 K0 K1
 go_wp2
 go_ret
 exact ⟨rfl,A5.out⟩
def logR (xs:List J):List (List Nat):=[1,1] :: [4] :: xs.map zbe
theorem zmx (xs:List J):(logR xs).length=xs.length+2:=by simp [logR]
theorem znn {xs:List J} (h:∀x∈xs,zbv x):∀r∈logR xs,r.length≤414:=fun r hr=>by
 unfold logR at hr
 rcases List.mem_cons.1 hr with rfl | hr
 ·decide
 rcases List.mem_cons.1 hr with rfl | hr
 ·decide
 obtain ⟨x,hx,rfl⟩:=List.mem_map.1 hr
 exact zcz (h x hx)
theorem zj0 {xs:List J} (h:∀x∈xs,zbv x):∀r∈logR xs,∀y∈r,y<256:=fun r hr y hy=>by
 unfold logR at hr
 rcases List.mem_cons.1 hr with rfl | hr
 ·simp at hy;omega
 rcases List.mem_cons.1 hr with rfl | hr
 ·simp at hy;omega
 obtain ⟨x,hx,rfl⟩:=List.mem_map.1 hr
 exact zhz (h x hx) y hy
def stW (j:Nat):Bool:=decide (2≤j)
def stG (j:Nat):Int:=if j=0 then 0 else 1
def stL (xs:List J) (j:Nat):List J:=xs.take (j - 2)
theorem zr4 (xs:List J) (hG:∀x∈xs,zbv x) (hlen:xs.length<900) (j:Nat) (hj:j<(logR xs).length) (f good base v g:Nat) (cur:Int) (m x mi:Nat) (A:Option Addr) (n c:Nat) (w:World)
  (h:Tk w w f (stW j) good base v g cur (stG j) m x mi (stL xs j) (zaP (stL xs j))) (h0:j=0→good=0) (h1:0<j→0<good) (hn:(logR xs)[j].length=n) (hc:A=none→c=0) (hA:Sees .u8 w A (logR xs)[j]) :
  Calls Tryz.prog 48 #[.pointer (some ⟨f,0,none⟩),.slice A n c] w (zkd w f (stW (j+1)) good base v g cur (stG (j+1)) m x mi (stL xs (j+1))):=by
 match j,hj,h,h0,h1,hn,hA with
 | 0,_,h,h0,_,hn,hA =>
  obtain rfl:=h0 rfl
  exact zne f base v g cur 0 m x mi A n c w h hn.symm hc hA
 | 1,_,h,_,h1,hn,hA =>
  have:=zp2 f good base v g cur 1 m x mi [] A n c w h (h1 (by decide)) hn.symm hc hA
  exact this
 | j+2,hj,h,_,h1,hn,hA =>
  have hj2:j<xs.length:=by rw [zmx] at hj;omega
  have e:(logR xs)[j+2]=zbe xs[j]:=by simp [logR]
  rw [e] at hn hA
  have hw:stW (j+2)=true∧stW (j+3)=true:=by unfold stW;exact ⟨by simp,by simp⟩
  have hg:stG (j+2)=1∧stG (j+3)=1:=⟨rfl,rfl⟩
  have hl:stL xs (j+3)=stL xs (j+2) ++ [xs[j]]:=by
   unfold stL
   simp only [Nat.add_sub_cancel]
   rw [show j+3 - 2=j+1 by omega,List.take_succ_eq_append_getElem hj2]
  have ht:(stL xs (j+2)).length<900:=by unfold stL;rw [List.length_take];omega
  have ha:∀z∈stL xs (j+2),zbv z:=fun z hz=>hG z (List.mem_of_mem_take hz)
  have:=zkX f good base v g (stW (j+2)) cur 1 m x mi (stL xs (j+2)) xs[j] A n c w h (h1 (by omega)) (hG _ (List.getElem_mem hj2)) ha ht hn hc hA
  rw [←hl] at this
  rw [hw.1] at this
  rw [show j+2+1=j+3 from rfl,hw.2]
  exact this
theorem zpJ (xs:List J) (rs:List (List Nat)) (hrs:rs=[]∨rs=logR xs) (hG:∀x∈xs,zbv x) (hlen:xs.length<900) (j:Nat) (hj:j<rs.length) (f good base v g:Nat) (cur:Int) (m x mi:Nat) (A:Option Addr) (n c:Nat) (w:World)
  (h:Tk w w f (stW j) good base v g cur (stG j) m x mi (stL xs j) (zaP (stL xs j))) (h0:j=0→good=0) (h1:0<j→0<good) (hn:rs[j].length=n) (hc:A=none→c=0) (hA:Sees .u8 w A rs[j]) :
  Calls Tryz.prog 48 #[.pointer (some ⟨f,0,none⟩),.slice A n c] w (zkd w f (stW (j+1)) good base v g cur (stG (j+1)) m x mi (stL xs (j+1))):=by
 rcases hrs with rfl | rfl
 ·simp at hj
 ·exact zr4 xs hG hlen j hj f good base v g cur m x mi A n c w h h0 h1 hn hc hA
theorem zrV {w:World} {f v:Nat} {whole:Bool} {good:Int} (h:Blk w f 73 (flC v whole good)) {o:Nat} {u:Value} (hc:w.cell? ⟨f,o,none⟩=some u):(∀B n c,u≠.slice B n c)∧∀x,u≠.int .u8 x:=by
 rw [h.cell o] at hc
 match o,hc with
 | 0,hc=>injection hc with hc;subst hc;exact ⟨(fun _ _ _ h=>by cases h),(fun _ h=>by cases h)⟩
 | 1,hc=>injection hc with hc;subst hc;exact ⟨(fun _ _ _ h=>by cases h),(fun _ h=>by cases h)⟩
 | 2,hc=>injection hc with hc;subst hc;exact ⟨(fun _ _ _ h=>by cases h),(fun _ h=>by cases h)⟩
 | o+3,hc=>cases hc
theorem zrk {w:World} {g v:Nat} {cur gen:Int} {m x:Nat} {lo hi:Int} (h:Blk w v 97 (vaC g cur gen m x lo hi)) {o:Nat} {u:Value} (hc:w.cell? ⟨v,o,none⟩=some u):(∀B n c,u≠.slice B n c)∧∀x,u≠.int .u8 x:=by
 rw [h.cell o] at hc
 match o,hc with
 | 0,hc=>injection hc with hc;subst hc;exact ⟨(fun _ _ _ h=>by cases h),(fun _ h=>by cases h)⟩
 | 1,hc=>injection hc with hc;subst hc;exact ⟨(fun _ _ _ h=>by cases h),(fun _ h=>by cases h)⟩
 | 2,hc=>injection hc with hc;subst hc;exact ⟨(fun _ _ _ h=>by cases h),(fun _ h=>by cases h)⟩
 | 3,hc=>injection hc with hc;subst hc;exact ⟨(fun _ _ _ h=>by cases h),(fun _ h=>by cases h)⟩
 | 4,hc=>injection hc with hc;subst hc;exact ⟨(fun _ _ _ h=>by cases h),(fun _ h=>by cases h)⟩
 | 5,hc=>injection hc with hc;subst hc;exact ⟨(fun _ _ _ h=>by cases h),(fun _ h=>by cases h)⟩
 | 6,hc=>injection hc with hc;subst hc;exact ⟨(fun _ _ _ h=>by cases h),(fun _ h=>by cases h)⟩
 | o+7,hc=>cases hc
theorem zmg {w:World} {b:Nat} {es:Array MapEntry} {clock:Nat} (h:w.heap[b]?=some (.map es clock)) {o:Nat} {u:Value} (hc:w.cell? ⟨b,o,none⟩=some u):False:=by
 unfold World.cell? at hc
 simp [h] at hc
theorem Tk.bare {w W:World} {f:Nat} {whole:Bool} {good:Nat} {base v g:Nat} {cur gen:Int} {m x mi:Nat} {l:List J} {nl:List Nt} (h:Tk w W f whole good base v g cur gen m x mi l nl) {b o:Nat} {u:Value} (hc:W.cell? ⟨b,o,none⟩=some u) (hu:(∃B n c,u=.slice B n c)∨∃x,u=.int .u8 x):¬OwnF f v m mi b:=by
 have key:∀{P:Prop},((∀B n c,u≠.slice B n c)∧∀x,u≠.int .u8 x)→P:=fun hn=>by
  rcases hu with ⟨B,n,c,rfl⟩ | ⟨x,rfl⟩
  ·exact absurd rfl (hn.1 B n c)
  ·exact absurd rfl (hn.2 x)
 rintro (rfl | rfl | rfl | rfl)
 ·exact key (zrV h.box hc)
 ·obtain ⟨lo,hi,hb⟩:=h.vat.blk
  exact key (zrk hb hc)
 ·obtain ⟨es,clock,hm⟩:=h.vat.st.isMap
  exact zmg hm hc
 ·obtain ⟨D,⟨es,clock,hm,_⟩,_⟩:=h.vat.ix.2.1
  exact zmg hm hc
theorem zep {S:Nat→Prop} {w w':World} (t:zai S w w') {b o:Nat} {u:Value} (hc:w.cell? ⟨b,o,none⟩=some u) (hb:b<w.heap.size) (hS:¬S b):w'.cell? ⟨b,o,none⟩=some u :=
 (World.cell?_of_block (w:=w) (by simpa using t.block b hb hS)).trans hc
theorem zbg.apart {S:Nat→Prop} {w w':World} {A:Option Addr} {rs:List (List Nat)} (h:zbg w A rs) (t:zai S w w') (hS:∀b o u,w.cell? ⟨b,o,none⟩=some u→((∃B n c,u=.slice B n c)∨∃x,u=.int .u8 x)→¬S b):zbg w' A rs:=fun j r hj=>by
 obtain ⟨b,o,B,c,h1,h2,h3,h4,h5,h6⟩:=h j r hj
 refine ⟨b,o,B,c,h1,Nat.lt_of_lt_of_le h2 t.size,zep t h3 h2 (hS _ _ _ h3 (.inl ⟨_,_,_,rfl⟩)),h4,h5,fun i x hi=>?_⟩
 obtain ⟨b2,o2,e,hb2,hc2⟩:=h6 i x hi
 exact ⟨b2,o2,e,Nat.lt_of_lt_of_le hb2 t.size,zep t hc2 hb2 (hS _ _ _ hc2 (.inr ⟨_,rfl⟩))⟩
theorem zcn.apart {S:Nat→Prop} {w w':World} {A:Option Addr} {rs:List (List Nat)} (h:zcn w A rs.length) (hs:zbg w A rs) (t:zai S w w') (hS:∀b o u,w.cell? ⟨b,o,none⟩=some u→((∃B n c,u=.slice B n c)∨∃x,u=.int .u8 x)→¬S b):zcn w' A rs.length:=fun j b o B n c hj he hc hB=>by
 obtain ⟨b2,o2,B2,c2,h1,h2,h3,_⟩:=hs j rs[j] (List.getElem?_eq_getElem hj)
 rw [he] at h1
 injection h1 with h1
 injection h1 with h1 h4
 subst h1
 subst h4
 rw [zep t h3 h2 (hS _ _ _ h3 (.inl ⟨_,_,_,rfl⟩))] at hc
 refine h j b o B n c hj he ?_ hB
 rw [h3]
 exact hc
theorem zeF (v:Nat) (whole:Bool) (good:Int):(Tryz.prog.info? 73).map (·.size)=some (flC v whole good).size:=by kernel_rfl
theorem zgO (v:Nat) (whole:Bool) (good:Int):(flC v whole good).all (·.oneCell')=true:=by simp [flC,Value.oneCell']
def zuX (k:Nat) (whole:Bool) (good:Nat) (g:Nat) (gen:Int) (l:List J) (w:World) (e:Ending) (w':World):Prop :=
 ∃v m x mi,e=.returned (.agg (flC v whole (good:Int)))∧zbZ w' w.heap.size v g (k:Int) gen m x mi l∧Below w.heap.size w w'
theorem Tk.shift {w W W':World} {f:Nat} {whole whole':Bool} {good good':Nat} {base v g:Nat} {cur gen gen':Int} {m x mi:Nat} {l l':List J} {nl nl':List Nt} (h:Tk w W f whole good base v g cur gen m x mi l nl) (k:Tk W W' f whole' good' base v g cur gen' m x mi l' nl'):Tk w W' f whole' good' base v g cur gen' m x mi l' nl' :=
 ⟨k.1,k.2.1,h.turns.trans k.turns (fun _ _ h=>h),k.parts,h.lts,h.lowb⟩
theorem Tk.self {w W:World} {f:Nat} {whole:Bool} {good:Nat} {base v g:Nat} {cur gen:Int} {m x mi:Nat} {l:List J} {nl:List Nt} (h:Tk w W f whole good base v g cur gen m x mi l nl):Tk W W f whole good base v g cur gen m x mi l nl :=
 Tk.start h.box h.vat h.parts h.lowb.1 h.lowb.2
def RdAt (xs:List J) (rs:List (List Nat)) (w0 wr:World) (A:Option Addr) (f base v g:Nat) (cur:Int) (m x mi:Nat) (j:Nat):Prop :=
 Tk w0 wr f (stW j) (zaf (rs.take j)).length base v g cur (stG j) m x mi (stL xs j) (zaP (stL xs j))∧zbg wr A rs∧zcn wr A rs.length
theorem zjQ (based g:Nat) (d:Dk) (dv:Nat→Value) (k:Nat) (a:Int) (xs:List J) (rs:List (List Nat)) (mt:List Nat) (w:World) (D:zaj w based g d dv) (ho:d.Ok) (hk:k<2) (ha:a=k) (hP:zad w)
  (hG:∀x∈xs,zbv x) (hlen:xs.length<900) (hrs:rs=[]∨rs=logR xs) (ht:Torn mt) (hl:d.l k=zaf rs ++ mt) (h8:∀x∈d.l k,x<256) (hsz:(d.l k).length≤4096) :
  Calls Tryz.prog 19 #[.pointer (some ⟨g,0,none⟩),.int .i64 a] w (zuX k (stW rs.length) (zaf rs).length g (stG rs.length) (stL xs rs.length) w):=by
 subst ha
 have hgb:=hP.lt
 have HEm:=hid (fun w hg=>zhZ g (k:Int) w hg)
 have HRd:=hid (fun w D=>zgC based g d dv k (k:Int) w D ho rfl hk)
 have hshort:∀r∈rs,r.length≤414:=by
  rcases hrs with rfl | rfl
  ·intro r hr;simp at hr
  ·exact znn hG
 have HSc:=hid (fun A n c w hn hc hA0 hA=>zsI A (d.l k) mt rs n c w hn (by omega) hc hA0 h8 hA (fun r hr=>by have:=hshort r hr;omega) ht hl)
 have HTk:=hid (zpJ xs rs hrs hG hlen)
 have HShort:=hid hshort
 have HD:=hid D
 have HP:=hid hP
 have hfl:(zaf rs).length≤4096:=by rw [hl,List.length_append] at hsz;omega
 have hqn:∃q,(d.l k).length=q:=⟨_,rfl⟩
 obtain ⟨q,hq⟩:=hqn
 have HQ:=hid hq
 clear D ho hP hG hrs ht hl h8 hsz hshort hq
 go_enter Tryz.func19,Tryz.ntmps19
 go_upto_region 1 with fail
 obtain ⟨W,hW⟩:∃W,w.alloc (.cells #[.pointer none,.bool false,.int .i64 0] 73)=W:=⟨_,rfl⟩
 rw [hW]
 obtain ⟨K0,KB⟩:=za1 hW
 clear hW
 have HP1:=hid (HP.out.below KB.out)
 have HD1:=hid (HD.out.on KB.out)
 have hwW:w.heap.size<W.heap.size:=K0.out.lt
 go_wp2_with fail
 with_reducible refine (HEm.out _ (by omega)).mono ?_
 rintro e w1 ⟨v,m,x,mi,rfl,hv,hb⟩
 have V1:=hid hv
 have K1:=hid (K0.out.below hb K0.out.lt)
 have B1:=hid (KB.out.trans (hb.mono (Nat.le_of_lt hwW)))
 have D1:=hid (HD1.out.on hb)
 have P1:=hid (HP1.out.below hb)
 have hs1:W.heap.size≤w1.heap.size:=hb.size
 clear hv hb K0 KB HP1 HD1
 go_upto_region 2 with fail
 obtain ⟨W2,hW2⟩:∃W2,w1.alloc (.cells #[.pointer (some ⟨v,0,none⟩),.bool false,.int .i64 0] 73)=W2:=⟨_,rfl⟩
 rw [hW2]
 obtain ⟨K2,KB2⟩:=za1 hW2
 clear hW2
 have V2:=hid (V1.out.on KB2.out)
 have K3:=hid (K1.out.below KB2.out K1.out.lt)
 have B2:=hid (B1.out.trans (KB2.out.mono (by have:=K1.out.lt;omega)))
 have D2:=hid (D1.out.on KB2.out)
 have P2:=hid (P1.out.below KB2.out)
 have hs2:w1.heap.size<W2.heap.size:=K2.out.lt
 obtain ⟨f,hf⟩:∃f,w1.heap.size=f:=⟨_,rfl⟩
 rw [hf] at K2 hs1 hs2
 rw [hf]
 clear V1 K1 B1 D1 P1 KB2 hf HEm
 go_upto_region 3 with (first
  | (go_at_call 15;(with_reducible refine (HRd.out _ D2.out).mono ?_);rintro e w3 ⟨s,rfl,hown,hb⟩;obtain ⟨A,c,rfl,hA0,hcc,hA⟩:=zda hown;rw [HQ.out];have HA0:=hid hA0;have HA:=hid hA;have HCC:Hid (q≤c):=hid (by rw [←HQ.out];exact hcc);have HB3:=hid hb;clear hA0 hA hcc hb hown)
  | (go_at_call 47;(with_reducible refine (HSc.out A q c _ HQ.out HCC.out HA0.out HA.out).mono ?_);rintro e w4 ⟨A1,c1,rfl,s1,s2,s3,s4,s5⟩;have HSR:=hid s3;have HNB:=hid s4;have HB4:=hid (HB3.out.trans (s5.mono HB3.out.size));clear s1 s3 s4 s5))
 have V4:=hid (V2.out.on HB4.out)
 have K4:=hid (K3.out.below HB4.out K3.out.lt)
 have F4:=hid (K2.out.below HB4.out K2.out.lt)
 have B4:=hid (B2.out.trans (HB4.out.mono (by have:=K3.out.lt;omega)))
 have P4:=hid (P2.out.below HB4.out)
 have hs4:f<w4.heap.size:=F4.out.lt
 have R0:Hid (RdAt xs rs w4 w4 A1 f W.heap.size v g (k:Int) m x mi 0):=hid ⟨Tk.start F4.out V4.out P4.out (by omega) hs1,HSR.out,HNB.out⟩
 clear V2 K2 K3 B2 D2 P2 HB3 HB4 HA0 HA HCC HSR HNB F4 V4 P4 HD HP HRd HSc
 obtain ⟨N,hN⟩:∃N,rs.length=N:=⟨_,rfl⟩
 have HN:=hid hN
 rw [hN]
 clear hN
 have hN9:N≤900:=by have:=zeb rs;rw [HN.out] at this;omega
 go_wp2
 go_loopw [23] (fun iv wr=>∃j:Nat,j≤N∧iv=.int .i64 (j:Int)∧Hid (RdAt xs rs w4 wr A1 f W.heap.size v g (k:Int) m x mi j)) (fun iv _=>N - (intOf iv).toNat)
 case atStart=>exact ⟨0,Nat.zero_le _,rfl,R0⟩
 case round =>
  obtain ⟨j,hj,rfl,HR⟩:=hrel
  clear R0
  by_cases hlt:j<N
  ·have hlt2:j<rs.length:=by rw [HN.out];exact hlt
   obtain ⟨b,o,B,cB,rfl,hbl,hcell,_,h8,hsees⟩:=HR.out.2.1 j rs[j] (List.getElem?_eq_getElem hlt2)
   have hnil:Hid (B=none→cB=0):=hid (HR.out.2.2 j b o B _ cB hlt2 rfl hcell)
   have HSE:=hid hsees
   have T0:=hid HR.out.1.self
   have HSL:=hid (HShort.out _ (List.getElem_mem hlt2))
   have HFL:=hid (zbR hlt2)
   have hg0:Hid (j=0→(zaf (rs.take j)).length=0):=hid (fun h=>by subst h;rfl)
   have hg1:Hid (0<j→0<(zaf (rs.take j)).length):=hid (fun h=>by
    have:=zeb (rs.take j)
    rw [List.length_take] at this
    omega)
   have HGm:=hid (zct rs j)
   have HTj:=hid (fun A n c w h hn hc hA=>HTk.out j hlt2 f (zaf (rs.take j)).length W.heap.size v g (k:Int) m x mi A n c w h hg0.out hg1.out hn hc hA)
   have HTu:=hid HR.out.1
   have HRs:=hid HR.out.2
   clear hsees h8 HR
   obtain ⟨good,hgood⟩:∃n,(zaf (rs.take j)).length=n:=⟨_,rfl⟩
   rw [hgood] at HTj HTu T0 HFL HGm
   obtain ⟨r,hr⟩:∃r,rs[j]=r:=⟨_,rfl⟩
   rw [hr] at HTj HSE HSL HFL hcell
   obtain ⟨n,hn⟩:∃n,r.length=n:=⟨_,rfl⟩
   rw [hn] at hcell HSL
   have HNr:=hid hn
   have hn16:n≤16384:=by have:=HSL.out;omega
   have hgood4:good≤4096:=by have:=HGm.out;omega
   obtain ⟨F,hF⟩:∃F,(zaK r).length=F:=⟨_,rfl⟩
   have HF:=hid hF
   have hF5:F≤430:=by rw [←hF];have:=zdI (r:=r) (by omega);have:=HSL.out;omega
   rw [hF] at HFL
   have hjN:(j:Int)<(N:Int):=by omega
   clear hgood hr hn hF hg0 hg1
   go_upto_region 7 with (go_at_call 48;(with_reducible refine (HTj.out B n cB _ T0.out HNr.out hnil.out HSE.out).mono ?_);rintro e w5 ⟨rfl,tk⟩;have T5:=hid tk;clear tk hcell)
   have c2:=(za2 T5.out.box).2.2
   have f2:=T5.out.box.frozen 2
   have q0:IntKind.i64.wrap ((good:Int)+(F:Int))=(good:Int)+(F:Int):=IntWalk.i64_in _ (by omega)
   go_region_with (go_at_call 49;(with_reducible refine (zju B r n cB _ HNr.out hn16).mono ?_);rintro e w6 ⟨rfl,hb6⟩;rw [HF.out];have T6:=hid (T5.out.drew.on hb6);have c2':=(za2 T6.out.box).2.2;have f2':=T6.out.box.frozen 2;clear hb6)
   all_goals (
    have T7:=hid (T6.out.put (whole':=stW (j+1)) (good':=good+F) 2 (.int .i64 ((good:Int)+(F:Int))) (by rw [Int.natCast_add];rfl))
    have T8:=hid (T7.out)
    have HBa:=hid (fun b o u (h:wr.cell? ⟨b,o,none⟩=some u) hu=>T0.out.bare h hu)
    have RN:Hid (RdAt xs rs w4 (w6.setCell ⟨f,2,none⟩ (.int .i64 ((good:Int)+(F:Int)))) (some ⟨b,o,none⟩) f W.heap.size v g (k:Int) m x mi (j+1)):=hid ⟨by rw [HFL.out];exact HTu.out.shift T8.out,HRs.out.1.apart T8.out.turns HBa.out,HRs.out.2.apart HRs.out.1 T8.out.turns HBa.out⟩
    clear T5 T6 T7 T8 T0 HTu HRs HTj HBa
    go_wp2
    go_roundw
    case rel=>exact ⟨j+1,by omega,by go_num,RN⟩
    case measure=>simp only [intOf];omega)
  ·have hjN:j=rs.length:=by rw [HN.out];omega
   have hnj:¬(j:Int)<(N:Int):=by omega
   have TF:Hid (Tk w4 wr f (stW N) (zaf rs).length W.heap.size v g (k:Int) (stG N) m x mi (stL xs N) (zaP (stL xs N))):=hid (by
    have h:=HR.out.1
    rw [hjN,List.take_length,HN.out] at h
    exact h)
   have LF:=hid (zeF v (stW N) ((zaf rs).length:Int))
   have FO:=hid (zgO v (stW N) ((zaf rs).length:Int))
   have KR:Hid (Blk wr w.heap.size 73 #[.pointer none,.bool false,.int .i64 0]):=hid (K4.out.turns TF.out.turns (by
    have h1:=TF.out.vat.low
    unfold OwnF OwnV
    omega))
   have BR:Hid (Below w.heap.size w wr):=hid (B4.out.trans (TF.out.turns.below (by omega) (fun i hi=>by
    have h1:=TF.out.vat.low
    unfold OwnF OwnV
    omega)))
   clear HR HTk
   go_wp2_with (first
    | (with_reducible refine wpList_load_row (o:=⟨some 37,_,_,_,_,_⟩) rfl 73 (.tmp 5) rfl f rfl 73 (flC v (stW N) ((zaf rs).length:Int)) (0,0) _ TF.out.box.heap Tryz.underlying73 rfl LF.out ?_)
    | ((with_reducible refine wpList_store_row (o:=⟨none,_,_,_,_,_⟩) rfl 73 (.tmp 4) (.tmp 37) rfl w.heap.size (flC v (stW N) ((zaf rs).length:Int)) rfl ?hy 73 #[.pointer none,.bool false,.int .i64 0] KR.out.heap LF.out rfl FO.out ?_);(case hy=>rfl)))
   refine bodyPost_ret (v:=.agg (flC v (stW N) ((zaf rs).length:Int))) (results_cell_row (p:=4) (ty:=73) (by kernel_rfl) _ _ w.heap.size 73 (flC v (stW N) ((zaf rs).length:Int)) (0,0) _ rfl (setRow_heap wr w.heap.size _ _ _ _ KR.out.heap) Tryz.underlying73 rfl LF.out) rfl ?_
   have tr:=zaN wr w.heap.size (flC v (stW N) ((zaf rs).length:Int))
   refine ⟨v,m,x,mi,by rw [HN.out],?_,zak BR.out (Nat.le_refl _)⟩
   rw [HN.out]
   have h1:=TF.out.vat.low
   exact (TF.out.vat.stay tr (by omega)).lower (by omega)
theorem zeP {w W:World} {T U V:TypeId} {a b c:Array Value} (h:((w.alloc (.cells a T)).alloc (.cells b U)).alloc (.cells c V)=W) :
  Hid (Blk W w.heap.size T a)∧Hid (Blk W (w.heap.size+1) U b)∧Hid (Blk W (w.heap.size+1+1) V c)∧Hid (Below w.heap.size w W):=by
 obtain ⟨h1,h2,h3⟩:=zcE (w:=w) (T:=T) (U:=U) (a:=a) (b:=b) rfl
 subst h
 have h4:=Blk.new ((w.alloc (.cells a T)).alloc (.cells b U)) V c
 rw [show ((w.alloc (.cells a T)).alloc (.cells b U)).heap.size=w.heap.size+1+1 by simp] at h4
 exact ⟨hid (h1.out.alloc _),hid (h2.out.alloc _),hid h4,hid (h3.out.alloc (by simp;omega) _)⟩
abbrev noC:Array Value:=#[.pointer none,.bool false,.int .i64 0]
theorem ziC (va vb:Nat) (ga gb:Int) (w:World) :
  Calls Tryz.prog 18 #[.agg (flC va true ga),.agg (flC vb false gb)] w fun e w'=>e=.returned (.tuple #[.agg (flC va true ga),.bool true])∧Below w.heap.size w w':=by
 have LA:=hid (zeF va true ga)
 have LB:=hid (zeF vb false gb)
 go_enter Tryz.func18,Tryz.ntmps18
 go_upto_region 1 with fail
 obtain ⟨W,hW⟩:∃W,((w.alloc (.cells (flC va true ga) 73)).alloc (.cells (flC vb false gb) 73)).alloc (.cells noC 73)=W:=⟨_,rfl⟩
 rw [hW]
 obtain ⟨K0,K1,K2,KB⟩:=zeP hW
 clear hW
 obtain ⟨k,hk⟩:∃k,w.heap.size=k:=⟨_,rfl⟩
 rw [hk] at K0 K1 K2 KB
 rw [hk]
 have HK:=hid hk
 clear hk
 have a1:=(za2 K0.out).2.1
 have b1:=(za2 K1.out).2.1
 go_quiet (fail)
 obtain ⟨wD,hwD⟩:∃wD,W.drewN nq=wD:=⟨_,rfl⟩
 have DB:=hid (zav (Below.refl W.heap.size W) nq)
 rw [hwD] at DB
 rw [hwD]
 have C0:=hid (K0.out.below DB.out K0.out.lt)
 have C1:=hid (K1.out.below DB.out K1.out.lt)
 have C2:=hid (K2.out.below DB.out K2.out.lt)
 have CB:=hid (KB.out.trans (DB.out.mono (by have:=K0.out.lt;omega)))
 clear hwD DB K0 K1 K2 KB a1 b1
 go_upto_region 3 with fail
 have F3:=hid (zgO va true ga)
 have G0:=hid C0.out.drew
 have G2:=hid C2.out.drew
 refine wp_region_held_drew (S:=fun w'=>Blk w' k 73 (flC va true ga)) (by kernel_rfl) (by exact G0.out) (fun hHeld=>?_)
 refine tk 0 (.agg (flC va true ga)) rfl (fun _ _ _ h=>h) (za4 (by kernel_rfl) 73 (.tmp 2) rfl k rfl 73 (flC va true ga) (0,0) _ (fun _ h=>Blk.heap h) Tryz.underlying73 rfl LA.out) hHeld ?_
 try simp only [Act.put,g1,g2,g3,g4,g5,g6]
 refine ta 1 rfl hHeld ?_
 try simp only [Act.put,g1,g2,g3,g4,g5,g6]
 refine tl 2 ?_ rfl ?_ hHeld ?_
 rotate_left 1
 focus (intro w' hSw;(try dsimp only at hSw);(have q0:w'.cell? ⟨k,1,none⟩=some (.bool true):=(za2 hSw).2.1);go_simp;try with_reducible rfl)
 try simp only [Act.put,g1,g2,g3,g4,g5,g6]
 have E0:=hid (G0.out.turns (zaN wD.drew (k+1+1) (flC va true ga)) (by omega))
 refine wpAnyH_ready (rs:=[3]) (by kernel_rfl) (by simp) ?_
 refine AllReadyH.cons (o:=_) rfl (fun K hK=>?_) AllReadyH.nil
 refine zbk (by kernel_rfl) 73 (.tmp 4) (.tmp 23) rfl (k+1+1) (flC va true ga) rfl rfl 73 noC G2.out.heap LA.out rfl F3.out ?_
 refine hK.out _ _ (by exact E0.out) (fun hHeld=>?_)
 clear hK K
 try simp only [Act.put,g1,g2,g3,g4,g5,g6]
 refine ta 4 rfl hHeld ?_
 try simp only [Act.put,g1,g2,g3,g4,g5,g6]
 refine wpAnyH_done (by kernel_rfl) ?_ _
 clear hHeld
 clear E0 G0
 go_wp2_with fail
 (try simp only [Exit.inBlock,Exit.then]);refine bodyPost_ret (v:=.tuple #[.agg (flC va true ga),.bool true]) (zcr (p:=4) (q:=5) (ty:=73) (by kernel_rfl) _ _ (k+1+1) 73 (flC va true ga) (0,0) _ (.bool true) rfl rfl (setRow_heap _ (k+1+1) _ _ _ _ G2.out.heap) Tryz.underlying73 rfl LA.out) rfl ⟨rfl,(by rw [HK.out];exact zak (zag CB.out) (by omega))⟩
theorem zkQ (va vb:Nat) (ga gb:Int) (w:World) :
  Calls Tryz.prog 18 #[.agg (flC va false ga),.agg (flC vb false gb)] w fun e w'=>e=.returned (.tuple #[.agg (flC vb false gb),.bool false])∧Below w.heap.size w w':=by
 have LA:=hid (zeF va false ga)
 have LB:=hid (zeF vb false gb)
 go_enter Tryz.func18,Tryz.ntmps18
 go_upto_region 1 with fail
 obtain ⟨W,hW⟩:∃W,((w.alloc (.cells (flC va false ga) 73)).alloc (.cells (flC vb false gb) 73)).alloc (.cells noC 73)=W:=⟨_,rfl⟩
 rw [hW]
 obtain ⟨K0,K1,K2,KB⟩:=zeP hW
 clear hW
 obtain ⟨k,hk⟩:∃k,w.heap.size=k:=⟨_,rfl⟩
 rw [hk] at K0 K1 K2 KB
 rw [hk]
 have HK:=hid hk
 clear hk
 have a1:=(za2 K0.out).2.1
 have b1:=(za2 K1.out).2.1
 go_quiet (fail)
 obtain ⟨wD,hwD⟩:∃wD,W.drewN nq=wD:=⟨_,rfl⟩
 have DB:=hid (zav (Below.refl W.heap.size W) nq)
 rw [hwD] at DB
 rw [hwD]
 have C0:=hid (K0.out.below DB.out K0.out.lt)
 have C1:=hid (K1.out.below DB.out K1.out.lt)
 have C2:=hid (K2.out.below DB.out K2.out.lt)
 have CB:=hid (KB.out.trans (DB.out.mono (by have:=K0.out.lt;omega)))
 clear hwD DB K0 K1 K2 KB a1 b1
 have FA:=hid (zgO vb false gb)
 go_upto_region 3 with (first
  | (with_reducible refine wpList_load_row (o:=⟨some 22,_,_,_,_,_⟩) rfl 73 (.tmp 3) rfl (k+1) rfl 73 (flC vb false gb) (0,0) _ C1.out.heap Tryz.underlying73 rfl LB.out ?_)
  | ((with_reducible refine wpList_store_row (o:=⟨none,_,_,_,_,_⟩) rfl 73 (.tmp 2) (.tmp 22) rfl k (flC vb false gb) rfl ?hy 73 (flC va false ga) C0.out.heap LB.out rfl FA.out ?_);(case hy=>rfl)))
 have TR:=hid (zaN wD k (flC vb false gb))
 have D0:Hid (Blk (wD.setRow k (flC vb false gb)) k 73 (flC vb false gb)):=hid (Blk.rowAt C0.out)
 have D2:=hid (C2.out.turns TR.out (by omega))
 have DB:Hid (Below k w (wD.setRow k (flC vb false gb))):=hid (zak CB.out (Nat.le_refl _))
 obtain ⟨wE,hwE⟩:∃wE,wD.setRow k (flC vb false gb)=wE:=⟨_,rfl⟩
 rw [hwE] at D0 D2 DB
 rw [hwE]
 clear hwE TR C0 C1 C2 CB
 have F3:=hid (zgO vb false gb)
 have G0:=hid D0.out.drew
 have G2:=hid D2.out.drew
 refine wp_region_held_drew (S:=fun w'=>Blk w' k 73 (flC vb false gb)) (by kernel_rfl) (by exact G0.out) (fun hHeld=>?_)
 refine tk 0 (.agg (flC vb false gb)) rfl (fun _ _ _ h=>h) (za4 (by kernel_rfl) 73 (.tmp 2) rfl k rfl 73 (flC vb false gb) (0,0) _ (fun _ h=>Blk.heap h) Tryz.underlying73 rfl LB.out) hHeld ?_
 try simp only [Act.put,g1,g2,g3,g4,g5,g6]
 refine ta 1 rfl hHeld ?_
 try simp only [Act.put,g1,g2,g3,g4,g5,g6]
 refine tl 2 ?_ rfl ?_ hHeld ?_
 rotate_left 1
 focus (intro w' hSw;(try dsimp only at hSw);(have q0:w'.cell? ⟨k,1,none⟩=some (.bool false):=(za2 hSw).2.1);go_simp;try with_reducible rfl)
 try simp only [Act.put,g1,g2,g3,g4,g5,g6]
 have E0:=hid (G0.out.turns (zaN wE.drew (k+1+1) (flC vb false gb)) (by omega))
 refine wpAnyH_ready (rs:=[3]) (by kernel_rfl) (by simp) ?_
 refine AllReadyH.cons (o:=_) rfl (fun K hK=>?_) AllReadyH.nil
 refine zbk (by kernel_rfl) 73 (.tmp 4) (.tmp 23) rfl (k+1+1) (flC vb false gb) rfl rfl 73 noC G2.out.heap LB.out rfl F3.out ?_
 refine hK.out _ _ (by exact E0.out) (fun hHeld=>?_)
 clear hK K
 try simp only [Act.put,g1,g2,g3,g4,g5,g6]
 refine ta 4 rfl hHeld ?_
 try simp only [Act.put,g1,g2,g3,g4,g5,g6]
 refine wpAnyH_done (by kernel_rfl) ?_ _
 clear hHeld
 clear E0 G0
 go_wp2_with fail
 (try simp only [Exit.inBlock,Exit.then]);refine bodyPost_ret (v:=.tuple #[.agg (flC vb false gb),.bool false]) (zcr (p:=4) (q:=5) (ty:=73) (by kernel_rfl) _ _ (k+1+1) 73 (flC vb false gb) (0,0) _ (.bool false) rfl rfl (setRow_heap _ (k+1+1) _ _ _ _ G2.out.heap) Tryz.underlying73 rfl LB.out) rfl ⟨rfl,(by rw [HK.out];exact zak (zag DB.out) (by omega))⟩
end Go.Proofs.YtnjdckoljmgcjaaGreatDoor
