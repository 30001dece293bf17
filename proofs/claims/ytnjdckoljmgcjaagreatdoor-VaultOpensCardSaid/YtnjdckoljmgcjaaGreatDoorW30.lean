/-
  The contract of mayCome (package vault), of a vault that knows nothing.
-/
import Derived.Test.YtnjdckoljmgcjaaGreatDoorW29
set_option maxRecDepth 100000
set_option maxHeartbeats 4000000
namespace Go.Proofs.YtnjdckoljmgcjaaGreatDoor
open Go.ChangeShapes Go.WideShapes Go.ChangeAt Go.RowKit Go.Maps Go.WideMaps
set_option linter.unusedVariables false
set_option linter.unusedSimpArgs false
def DAt (based g:Nat) (v0:Nat→Value) (w0:World) (d:Dk) (v:Nat→Value) (w:World):Prop :=
 zaj w based g d v∧zai (OwnD g v0) w0 w∧∀b,OwnD g v b→OwnD g v0 b∨w0.heap.size≤b
section
variable {based g:Nat} {v0 v v2:Nat→Value} {w0 w w':World} {d d2:Dk}
theorem DAt.disk (h:DAt based g v0 w0 d v w):zaj w based g d v:=h.1
theorem DAt.turns (h:DAt based g v0 w0 d v w):zai (OwnD g v0) w0 w:=h.2.1
theorem DAt.own (h:DAt based g v0 w0 d v w):∀b,OwnD g v b→OwnD g v0 b∨w0.heap.size≤b:=h.2.2
theorem DAt.start (h:zaj w based g d v):DAt based g v w d v w:=⟨h,zai.refl _ _,fun b hb=>.inl hb⟩
theorem DAt.on (h:DAt based g v0 w0 d v w) (hb:Below w.heap.size w w'):DAt based g v0 w0 d v w':=⟨h.1.on hb,h.2.1.then hb,h.2.2⟩
theorem DAt.step {r:Value} {e:Ending} (h:DAt based g v0 w0 d v w) (k:zby based g v d2 r w e w'):e=.returned r∧∃v2,DAt based g v0 w0 d2 v2 w'∧zai (OwnD g v) w w':=by
 obtain ⟨v2,he,D2,T2,O2⟩:=k
 refine ⟨he,v2,⟨D2,h.2.1.trans T2 (fun i hi hs=>(h.2.2 i hs).resolve_right (Nat.not_le_of_lt hi)),fun b hb=>?_⟩,T2⟩
 rcases O2 b hb with h1 | h1
 ·exact h.2.2 b h1
 ·exact .inr (Nat.le_trans h.2.1.size h1)
theorem DAt.does (h:DAt based g v0 w0 d v w) {r:Value}:zby based g v0 d r w0 (.returned r) w:=⟨v,rfl,h.1,h.2.1,h.2.2⟩
theorem DAt.other {S:Nat→Prop} (h:DAt based g v0 w0 d v w) (t:zai S w w') (hS:∀b,S b→w0.heap.size≤b∧¬OwnD g v b):DAt based g v0 w0 d v w' :=
 ⟨h.1.stay t (fun b hb hs=>(hS b hs).2 hb),h.2.1.trans t (fun i hi hs=>absurd (hS i hs).1 (by omega)),h.2.2⟩
end
def zco (d:Dk) (good:Nat):Dk × Int:=if (zbX d 1 0).2=0 then zbX (zbX d 1 0).1 0 good else zbX d 1 0
theorem zqm (base v g:Nat) (gen:Int) (m x mi:Nat) (l:List J) (nl:List Nt) (good based:Nat) (d:Dk) (dv:Nat→Value) (w:World) (h:VAt w base v g 0 gen m x mi l nl) (D:zaj w based g d dv) (ho:d.Ok) :
  Calls Tryz.prog 21 #[.agg (flC v true (good:Int))] w (zby based g dv (zco d good).1 (.int .i64 (zco d good).2) w):=by
 have V0:=hid h
 have D0:=hid D
 have HT1:=hid (fun dv w D=>zgF based g d dv 1 0 1 0 w D ho (by decide) rfl rfl)
 have HT2:=hid (fun dv w D=>zgF based g (zbX d 1 0).1 dv 0 good 0 (good:Int) w D (zrv ho 1 0) (by decide) rfl rfl)
 have HY:Hid ((zbX d 1 0).2≠0→zco d good=zbX d 1 0):=hid (fun h=>by unfold zco;rw [if_neg h])
 have HZ:Hid ((zbX d 1 0).2=0→zco d good=zbX (zbX d 1 0).1 0 good):=hid (fun h=>by unfold zco;rw [if_pos h])
 obtain ⟨d1,hd1⟩:∃y,(zbX d 1 0).1=y:=⟨_,rfl⟩
 obtain ⟨e1,he1⟩:∃y,(zbX d 1 0).2=y:=⟨_,rfl⟩
 rw [he1] at HY HZ
 rw [hd1] at HZ HT2
 rw [hd1,he1] at HT1
 have HY2:Hid (e1≠0→(zco d good).1=d1∧(zco d good).2=e1):=hid (fun h=>by rw [HY.out h,hd1,he1];exact ⟨rfl,rfl⟩)
 clear h D ho hd1 he1 HY
 go_enter Tryz.func21,Tryz.ntmps21
 go_upto_region 1 with fail
 obtain ⟨W,hW⟩:∃W,w.alloc (.cells (flC v true (good:Int)) 73)=W:=⟨_,rfl⟩
 rw [hW]
 obtain ⟨K0,KB⟩:=za1 hW
 clear hW
 obtain ⟨k,hk⟩:∃k,w.heap.size=k:=⟨_,rfl⟩
 rw [hk] at K0
 rw [hk]
 clear hk
 have A0:=hid ((DAt.start D0.out).on KB.out |>.on (zag (Below.refl _ _)))
 have V1:=hid ((V0.out.on KB.out).drew)
 have F1:=hid K0.out.drew
 clear V0 D0 K0 KB
 obtain ⟨lo,hi,hbv⟩:=V1.out.blk
 have HB:=hid hbv
 clear hbv
 refine wp_region_held_drew (S:=fun w'=>Blk w' k 73 (flC v true (good:Int))∧Blk w' v 97 (vaC g 0 gen m x lo hi)) (by kernel_rfl) (by exact ⟨F1.out,HB.out⟩) (fun hHeld=>?_)
 refine ta 0 rfl hHeld ?_
 try simp only [Act.put,g1,g2,g3,g4,g5,g6]
 refine tl 1 ?_ rfl ?_ hHeld ?_
 rotate_left 1
 focus (intro w' hSw;(try dsimp only at hSw);(have q0:w'.cell? ⟨k,0,none⟩=some (.pointer (some ⟨v,0,none⟩)):=(za2 (And.left hSw)).1);go_simp;try with_reducible rfl)
 try simp only [Act.put,g1,g2,g3,g4,g5,g6]
 refine ta 2 rfl hHeld ?_
 refine ta 3 rfl hHeld ?_
 try simp only [Act.put,g1,g2,g3,g4,g5,g6]
 refine tl 4 ?_ rfl ?_ hHeld ?_
 rotate_left 1
 focus (intro w' hSw;(try dsimp only at hSw);(have q0:w'.cell? ⟨v,0,none⟩=some (.pointer (some ⟨g,0,none⟩)):=((And.right hSw).cell 0).trans rfl);go_simp;try with_reducible rfl)
 try simp only [Act.put,g1,g2,g3,g4,g5,g6]
 refine ta 5 rfl hHeld ?_
 try simp only [Act.put,g1,g2,g3,g4,g5,g6]
 refine tl 6 ?_ rfl ?_ hHeld ?_
 rotate_left 1
 focus (intro w' hSw;(try dsimp only at hSw);(have q0:w'.cell? ⟨k,0,none⟩=some (.pointer (some ⟨v,0,none⟩)):=(za2 (And.left hSw)).1);go_simp;try with_reducible rfl)
 try simp only [Act.put,g1,g2,g3,g4,g5,g6]
 refine wpAnyH_ready (rs:=[7]) (by kernel_rfl) (by simp) ?_
 refine AllReadyH.cons (o:=_) rfl (fun K hK=>?_) AllReadyH.nil
 go_simp
 go_at_call 52
 with_reducible refine (znx v _ ((zbw HB.out).1.2.1)).mono ?_
 rintro e w1 ⟨rfl,rfl⟩
 refine hK.out _ _ (by exact ⟨F1.out,HB.out⟩) (fun hHeld=>?_)
 clear hK K
 try simp only [Act.put,g1,g2,g3,g4,g5,g6]
 refine wpAnyH_ready (rs:=[8]) (by kernel_rfl) (by simp) ?_
 refine AllReadyH.cons (o:=_) rfl (fun K hK=>?_) AllReadyH.nil
 go_simp
 go_at_call 50
 with_reducible refine (HT1.out dv _ A0.out.disk).mono ?_
 intro e w2 h2
 obtain ⟨rfl,dv2,a2,t2⟩:=A0.out.step h2
 have A2:=hid a2
 have V2:=hid (V1.out.beside A0.out.disk t2)
 have F2:=hid (F1.out.turns t2 (A0.out.disk.far F1.out.heap (by decide) (by decide)))
 have HB2:=hid (HB.out.turns t2 (V1.out.apartD A0.out.disk).1)
 clear h2 a2 t2
 refine hK.out _ _ (by exact ⟨F2.out,HB2.out⟩) (fun hHeld=>?_)
 clear hK K
 try simp only [Act.put,g1,g2,g3,g4,g5,g6]
 refine ta 9 rfl hHeld ?_
 try simp only [Act.put,g1,g2,g3,g4,g5,g6]
 refine wpAnyH_done (by kernel_rfl) ?_ _
 clear hHeld
 clear A0 V1 F1 HB
 by_cases h0:e1=0
 ·subst h0
  have HZ2:=hid (HZ.out rfl)
  clear HY2 HZ HT1
  go_upto_region 4 with fail
  have A3:=hid (A2.out.on (zag (Below.refl _ _)))
  have V3:=hid V2.out.drew
  have F3:=hid F2.out.drew
  obtain ⟨lo,hi,hbv⟩:=V3.out.blk
  have HB:=hid hbv
  clear hbv HB2 A2 V2 F2
  refine wp_region_held_drew (S:=fun w'=>Blk w' k 73 (flC v true (good:Int))∧Blk w' v 97 (vaC g 0 gen m x lo hi)) (by kernel_rfl) (by exact ⟨F3.out,HB.out⟩) (fun hHeld=>?_)
  refine ta 0 rfl hHeld ?_
  try simp only [Act.put,g1,g2,g3,g4,g5,g6]
  refine tl 1 ?_ rfl ?_ hHeld ?_
  rotate_left 1
  focus (intro w' hSw;(try dsimp only at hSw);(have q0:w'.cell? ⟨k,0,none⟩=some (.pointer (some ⟨v,0,none⟩)):=(za2 (And.left hSw)).1);go_simp;try with_reducible rfl)
  try simp only [Act.put,g1,g2,g3,g4,g5,g6]
  refine ta 2 rfl hHeld ?_
  refine ta 3 rfl hHeld ?_
  try simp only [Act.put,g1,g2,g3,g4,g5,g6]
  refine tl 4 ?_ rfl ?_ hHeld ?_
  rotate_left 1
  focus (intro w' hSw;(try dsimp only at hSw);(have q0:w'.cell? ⟨v,0,none⟩=some (.pointer (some ⟨g,0,none⟩)):=((And.right hSw).cell 0).trans rfl);go_simp;try with_reducible rfl)
  try simp only [Act.put,g1,g2,g3,g4,g5,g6]
  refine ta 5 rfl hHeld ?_
  try simp only [Act.put,g1,g2,g3,g4,g5,g6]
  refine tl 6 ?_ rfl ?_ hHeld ?_
  rotate_left 1
  focus (intro w' hSw;(try dsimp only at hSw);(have q0:w'.cell? ⟨k,0,none⟩=some (.pointer (some ⟨v,0,none⟩)):=(za2 (And.left hSw)).1);go_simp;try with_reducible rfl)
  try simp only [Act.put,g1,g2,g3,g4,g5,g6]
  refine ta 7 rfl hHeld ?_
  refine ta 8 rfl hHeld ?_
  try simp only [Act.put,g1,g2,g3,g4,g5,g6]
  refine tl 9 ?_ rfl ?_ hHeld ?_
  rotate_left 1
  focus (intro w' hSw;(try dsimp only at hSw);(have q0:w'.cell? ⟨v,1,none⟩=some (.int .i64 0):=((And.right hSw).cell 1).trans rfl);go_simp;try with_reducible rfl)
  try simp only [Act.put,g1,g2,g3,g4,g5,g6]
  refine ta 10 rfl hHeld ?_
  try simp only [Act.put,g1,g2,g3,g4,g5,g6]
  refine tl 11 ?_ rfl ?_ hHeld ?_
  rotate_left 1
  focus (intro w' hSw;(try dsimp only at hSw);(have q0:w'.cell? ⟨k,2,none⟩=some (.int .i64 (good:Int)):=(za2 (And.left hSw)).2.2);go_simp;try with_reducible rfl)
  try simp only [Act.put,g1,g2,g3,g4,g5,g6]
  refine wpAnyH_ready (rs:=[12]) (by kernel_rfl) (by simp) ?_
  refine AllReadyH.cons (o:=_) rfl (fun K hK=>?_) AllReadyH.nil
  go_simp
  go_at_call 50
  with_reducible refine (HT2.out dv2 _ A3.out.disk).mono ?_
  intro e w3 h3
  obtain ⟨rfl,dv3,a3,t3⟩:=A3.out.step h3
  have A4:=hid a3
  have F4:=hid (F3.out.turns t3 (A3.out.disk.far F3.out.heap (by decide) (by decide)))
  have HB4:=hid (HB.out.turns t3 (V3.out.apartD A3.out.disk).1)
  clear h3 a3 t3
  refine hK.out _ _ (by exact ⟨F4.out,HB4.out⟩) (fun hHeld=>?_)
  clear hK K
  try simp only [Act.put,g1,g2,g3,g4,g5,g6]
  refine ta 13 rfl hHeld ?_
  try simp only [Act.put,g1,g2,g3,g4,g5,g6]
  refine wpAnyH_done (by kernel_rfl) ?_ _
  clear hHeld
  clear F4 HB4 HB A3 V3 F3
  go_wp2
  go_ret
  rw [HZ2.out]
  exact A4.out.does
 ·obtain ⟨y1,y2⟩:=HY2.out h0
  have HY3:=hid (And.intro y1 y2)
  clear y1 y2 HY2 HZ HT1 HT2 HB2 V2 F2
  go_wp2
  go_ret
  rw [HY3.out.1,HY3.out.2]
  exact A2.out.does
theorem zj3 {w:World} {base:Nat} {S:Nat→Prop} {s:Value} {l:List Nat} {n:Nat} (hn:l.length=n) (h:w.ownsRow base 5 1 s n (l.map bv)) (hS:∀b,S b→b<base) :
  ∃B c,s=.slice B n c∧(B=none→c=0)∧n≤c∧c≤maxLen∧zd6 S w B l:=by
 subst hn
 have hc:=h
 rcases h.2 with ⟨rfl,h0⟩ | ⟨g,cap,cur,rfl,hg,hcl,hcap,hm,_⟩
 ·have:l=[]:=List.eq_nil_of_length_eq_zero h0
  subst this
  exact ⟨none,0,rfl,fun _=>rfl,Nat.le_refl _,by decide,zd6.nil _ _ _⟩
 ·obtain ⟨B,c,e,k1,k2,k3,_⟩:=zg5 rfl hc
  injection e with e1 e2 e3
  subst e1
  subst e3
  exact ⟨_,_,rfl,k1,hcap,hm,zd6.of_sees k3 (fun b o e _ hs=>by
   injection e with e
   injection e with e
   subst e
   have:=hS _ hs
   omega)⟩
theorem zfc {based g:Nat} {v:Nat→Value} {w w':World} {d:Dk} (hP:zad w) (D:zaj w based g d v) (hgb:0<based) (t:zai (OwnD g v) w w'):zad w' :=
 zbO hP t (fun h=>by have:=(D.own h).1;omega)
def zmA (based g:Nat) (dv:Nat→Value) (d:Dk) (l:List J) (w:World) (e:Ending) (w':World):Prop :=
 ∃v m x mi dv2,e=.returned (.tuple #[.pointer (some ⟨v,0,none⟩),.int .i64 0])∧zbZ w' w.heap.size v g 0 1 m x mi l∧DAt based g dv w d dv2 w'
theorem zlu (based g:Nat) (d:Dk) (dv:Nat→Value) (w:World) (D:zaj w based g d dv) (ho:d.Ok) (hd:d.dn=false) (ha:d.arm=false) (h0:d.l 0=[]) (h1:d.l 1=[]) (hsz:100≤d.sz) (hP:zad w) (hgb:0<based) :
  Calls Tryz.prog 20 #[.pointer (some ⟨g,0,none⟩)] w (zmA based g dv (zef d 0 picN) [] w):=by
 have HT:=hid (fun (k:Nat) dv' w D (hk:k<2)=>(show Calls Tryz.prog 50 #[.pointer (some ⟨g,0,none⟩),.int .i64 (k:Int),.int .i64 0] w (zby based g dv' d (.int .i64 0) w) from by
  have h:=zgF based g d dv' k 0 (k:Int) 0 w D ho hk rfl rfl
  have e:zbX d k 0=(d,0):=by
   unfold zbX
   match k,hk with
   | 0,_=>rw [h0];rfl
   | 1,_=>rw [h1];rfl
  rw [e] at h
  exact h))
 have HPut:=hid (fun dv' w B c D hA0 hc hcm hA=>zl6 based g d dv' 0 0 B picN picN.length c w D ho (by decide) rfl hd ha rfl (by have:=zdE;unfold zcV;rw [h0,h1];simp;omega) hA0 hc hcm hA)
 have D0:=hid (DAt.start D)
 have HP:=hid hP
 clear D ho hd ha h0 h1 hP
 go_enter Tryz.func20,Tryz.ntmps20
 go_wp2
 go_loopw [8] (fun iv wr=>∃(k:Nat) (dv':Nat→Value),k≤2∧iv=.int .i64 (k:Int)∧Hid (DAt based g dv w d dv' wr∧zad wr)) (fun iv _=>2 - (intOf iv).toNat)
 case atStart=>exact ⟨0,dv,by omega,rfl,hid ⟨D0.out,HP.out⟩⟩
 case round =>
  obtain ⟨k,dv',hk,rfl,HA⟩:=hrel
  clear D0 HP
  have A0:=hid HA.out.1
  have P0:=hid HA.out.2
  clear HA
  by_cases hlt:k<2
  ·have hlti:(k:Int)<2:=by omega
   go_wp2_with (go_at_call 50;(with_reducible refine (HT.out k dv' _ A0.out.disk hlt).mono ?_);intro e w1 h2;obtain ⟨rfl,dv2,a2,t2⟩:=A0.out.step h2;have A2:=hid a2;have P2:=hid (zfc P0.out A0.out.disk hgb t2);clear h2 a2 t2)
   go_roundw
   case rel=>exact ⟨k+1,dv2,by omega,by go_num,hid ⟨A2.out,P2.out⟩⟩
   case measure=>simp only [intOf];omega
  ·have hke:k=2:=by omega
   subst hke
   go_wp2_with fail
   with_reducible refine (zhZ g 0 _ P0.out.lt).mono ?_
   rintro e w1 ⟨v,m,x,mi,rfl,hv,hb⟩
   have V1:=hid (hv.lower A0.out.turns.size)
   have A1:=hid (A0.out.on hb)
   have P1:=hid (P0.out.below hb)
   clear hv hb A0 P0
   obtain ⟨lo,hi,hbv⟩:=V1.out.drew.blk
   have HB:=hid hbv
   clear hbv
   have V2:=hid V1.out.drew
   have A2:=hid (A1.out.on (zag (Below.refl _ _)))
   have P2:=hid P1.out.drew
   clear V1 A1 P1
   go_upto_region 9 with fail
   refine wp_region_held_drew (S:=fun w'=>Blk w' v 97 (vaC g 0 0 m x lo hi)) (by kernel_rfl) (by exact HB.out) (fun hHeld=>?_)
   refine ta 0 rfl hHeld ?_
   refine ta 1 rfl hHeld ?_
   refine ta 2 rfl hHeld ?_
   refine ta 3 rfl hHeld ?_
   try simp only [Act.put,g1,g2,g3,g4,g5,g6]
   refine tl 4 ?_ rfl ?_ hHeld ?_
   rotate_left 1
   focus (intro w' hSw;(try dsimp only at hSw);(have q0:w'.cell? ⟨v,1,none⟩=some (.int .i64 0):=(hSw.cell 1).trans rfl);go_simp;try with_reducible rfl)
   try simp only [Act.put,g1,g2,g3,g4,g5,g6]
   refine ta 5 rfl hHeld ?_
   try simp only [Act.put,g1,g2,g3,g4,g5,g6]
   refine wpAnyH_ready (rs:=[6]) (by kernel_rfl) (by simp) ?_
   refine AllReadyH.cons (o:=_) rfl (fun K hK=>?_) AllReadyH.nil
   go_simp
   go_at_call 51
   with_reducible refine (zkR w.heap.size v g 0 m x mi _ V2.out P2.out).mono ?_
   rintro e w3 ⟨s,rfl,hown,hb3⟩
   obtain ⟨B,c,rfl,k1,k2,k3,k4⟩:=zj3 (S:=OwnD g dv') rfl hown (fun b hb=>(A2.out.disk.own hb).2)
   have A3:=hid (A2.out.on hb3)
   have V3:=hid (V2.out.on hb3)
   have HB3:=hid (HB.out.below hb3 HB.out.lt)
   have HK:=hid (And.intro k1 (And.intro k2 (And.intro k3 k4)))
   clear hown hb3 k1 k2 k3 k4
   refine hK.out _ _ (by exact HB3.out) (fun hHeld=>?_)
   clear hK K
   try simp only [Act.put,g1,g2,g3,g4,g5,g6]
   refine wpAnyH_ready (rs:=[7]) (by kernel_rfl) (by simp) ?_
   refine AllReadyH.cons (o:=_) rfl (fun K hK=>?_) AllReadyH.nil
   go_simp
   go_at_call 30
   with_reducible refine (HPut.out dv' _ B c A3.out.disk HK.out.1 HK.out.2.1 HK.out.2.2.1 HK.out.2.2.2).mono ?_
   intro e w4 h4
   obtain ⟨rfl,dv4,a4,t4⟩:=A3.out.step h4
   have A4:=hid a4
   have V4:=hid (V3.out.beside A3.out.disk t4)
   have HB4:=hid (HB3.out.turns t4 (V3.out.apartD A3.out.disk).1)
   clear h4 a4 t4
   refine hK.out _ _ (by exact HB4.out) (fun hHeld=>?_)
   clear hK K
   try simp only [Act.put,g1,g2,g3,g4,g5,g6]
   refine ta 8 rfl hHeld ?_
   try simp only [Act.put,g1,g2,g3,g4,g5,g6]
   refine wpAnyH_done (by kernel_rfl) ?_ _
   clear hHeld
   have c2:=(zbw HB4.out).1.2.2.1
   have f2:=(zbw HB4.out).2 2
   obtain ⟨p1,p2⟩:=V4.out.put (cur':=0) (gen':=1) 2 (.int .u64 1) (fun lo hi=>⟨lo,hi,rfl⟩)
   have V5:=hid p1
   have A5:=hid (A4.out.other p2 (fun b hb=>by
    subst hb
    exact ⟨V4.out.low.1,(V4.out.apartD A4.out.disk).1⟩))
   clear p1 p2 HB HB3 HB4 V2 V3 V4 A2 A3 A4 HK HPut HT
   go_wp2
   (try simp only [Exit.inBlock,Exit.then]);refine bodyPost_ret (results_tmp2 (t:=2) (u:=3) (by kernel_rfl) _ _ _) rfl ?_
   exact ⟨v,m,x,mi,dv4,rfl,V5.out,A5.out⟩
theorem zs4 (v:Nat) (b:Bool) (x:Int) (T:TypeId) (w:World):(storeCells ⟨w.heap.size,0,none⟩ (flC v b x).toList).run Tryz.prog (w.alloc (.cells #[.pointer none,.bool false,.int .i64 0] T))=.ok () ((w.alloc (.cells #[.pointer none,.bool false,.int .i64 0] T)).setRow w.heap.size (flC v b x)) :=
 zbL (Blk.new w T #[.pointer none,.bool false,.int .i64 0]) (flC v b x) rfl (zgO v b x)
theorem zh3 (based g:Nat) (d:Dk) (dv:Nat→Value) (k:Nat) (mt:List Nat) (w:World) (D:zaj w based g d dv) (ho:d.Ok) (hk:k<2) (hP:zad w) (ht:Torn mt) (hl:d.l k=mt) (h8:∀x∈d.l k,x<256) (hsz:(d.l k).length≤4096) :
  Calls Tryz.prog 19 #[.pointer (some ⟨g,0,none⟩),.int .i64 (k:Int)] w fun e w'=>∃v,e=.returned (.agg (flC v false 0))∧Below w.heap.size w w':=by
 refine (zjQ based g d dv k (k:Int) [] [] mt w D ho hk rfl hP (fun x hx=>by simp at hx) (by decide) (Or.inl rfl) ht (by rw [hl];rfl) h8 hsz).mono ?_
 rintro e w' ⟨v,m,x,mi,rfl,hv,hb⟩
 exact ⟨v,rfl,hb⟩
theorem zlJ (based g:Nat) (d:Dk) (dv:Nat→Value) (xs:List J) (mt:List Nat) (w:World) (D:zaj w based g d dv) (ho:d.Ok) (hP:zad w) (hG:∀x∈xs,zbv x) (hlen:xs.length<900) (ht:Torn mt) (hl:d.l 0=zaf (logR xs) ++ mt) (h8:∀x∈d.l 0,x<256) (hsz:(d.l 0).length≤4096) :
  Calls Tryz.prog 19 #[.pointer (some ⟨g,0,none⟩),.int .i64 0] w fun e w'=>∃v m x mi,e=.returned (.agg (flC v true (((zaf (logR xs)).length:Nat):Int)))∧zbZ w' w.heap.size v g 0 1 m x mi xs∧Below w.heap.size w w':=by
 refine (zjQ based g d dv 0 0 xs (logR xs) mt w D ho (by decide) rfl hP hG hlen (Or.inr rfl) ht hl h8 hsz).mono ?_
 rintro e w' ⟨v,m,x,mi,rfl,hv,hb⟩
 have hn:=zmx xs
 have e1:stW (logR xs).length=true:=by unfold stW;rw [hn];simp
 have e2:stG (logR xs).length=1:=by unfold stG;rw [hn];rfl
 have e3:stL xs (logR xs).length=xs:=by unfold stL;rw [hn];simp
 rw [e2,e3] at hv
 rw [e1]
 exact ⟨v,m,x,mi,rfl,hv,hb⟩
theorem zg2 (based g:Nat) (d:Dk) (dv:Nat→Value) (w:World) (D:zaj w based g d dv) (ho:d.Ok) (hd:d.dn=false) (ha:d.arm=false) (h0:d.l 0=[]) (h1:d.l 1=[]) (hsz:100≤d.sz) (hP:zad w) (hgb:0<based) :
  Calls Tryz.prog 7 #[.pointer (some ⟨g,0,none⟩)] w (zmA based g dv (zef d 0 picN) [] w):=by
 have HR:=hid (fun (k:Nat) w D hP (hk:k<2)=>zh3 based g d dv k [] w D ho hk hP zjt (by
  match k,hk with
  | 0,_=>exact h0
  | 1,_=>exact h1) (by
  match k,hk with
  | 0,_=>rw [h0];intro x hx;simp at hx
  | 1,_=>rw [h1];intro x hx;simp at hx) (by
  match k,hk with
  | 0,_=>rw [h0];decide
  | 1,_=>rw [h1];decide))
 have HR0:Hid (∀w,zaj w based g d dv→zad w→Calls Tryz.prog 19 #[.pointer (some ⟨g,0,none⟩),.int .i64 0] w fun e w'=>∃v,e=.returned (.agg (flC v false 0))∧Below w.heap.size w w'):=hid (fun w D hP=>HR.out 0 w D hP (by decide))
 have HR1:Hid (∀w,zaj w based g d dv→zad w→Calls Tryz.prog 19 #[.pointer (some ⟨g,0,none⟩),.int .i64 1] w fun e w'=>∃v,e=.returned (.agg (flC v false 0))∧Below w.heap.size w w'):=hid (fun w D hP=>HR.out 1 w D hP (by decide))
 have HCr:=hid (fun w D hP=>zlu based g d dv w D ho hd ha h0 h1 hsz hP hgb)
 have D0:=hid D
 have P0:=hid hP
 clear D ho hd ha h0 h1 hP HR
 go_enter Tryz.func7,Tryz.ntmps7
 go_wp2_with fail
 with_reducible refine (HR0.out _ D0.out P0.out).mono ?_
 rintro e w1 ⟨va,rfl,hb⟩
 have D1:=hid (D0.out.on hb)
 have P1:=hid (P0.out.below hb)
 have B1:=hid hb
 clear hb HR0
 go_wp2_with fail
 with_reducible refine (HR1.out _ D1.out P1.out).mono ?_
 rintro e w2 ⟨vb,rfl,hb⟩
 have D2:=hid (D1.out.on hb)
 have P2:=hid (P1.out.below hb)
 have B2:=hid (B1.out.trans (hb.mono B1.out.size))
 clear hb HR1 D1 P1 B1
 go_wp2_with fail
 with_reducible refine (zkQ va vb 0 0 _).mono ?_
 rintro e w3 ⟨rfl,hb⟩
 have D3:=hid (D2.out.on hb)
 have P3:=hid (P2.out.below hb)
 have B3:=hid (B2.out.trans (hb.mono B2.out.size))
 clear hb D2 P2 B2
 have hst:=zs4 vb false 0 73 w3
 go_upto_region 2 with fail
 clear hst
 obtain ⟨W,hW⟩:∃W,(w3.alloc (.cells #[.pointer none,.bool false,.int .i64 0] 73)).setRow w3.heap.size (flC vb false 0)=W:=⟨_,rfl⟩
 rw [hW]
 obtain ⟨K0,KB⟩:=zcS hW
 have D4:=hid (D3.out.on KB.out)
 have P4:=hid (P3.out.below KB.out)
 have B4:=hid (B3.out.trans (KB.out.mono B3.out.size))
 clear hW K0 KB D3 P3 B3
 go_wp2_with fail
 with_reducible refine (HCr.out _ D4.out P4.out).mono ?_
 rintro e w5 ⟨v,m,x,mi,dv2,rfl,hv,hda⟩
 have HV:=hid (hv.lower (base':=w.heap.size) B4.out.size)
 have HA:Hid (DAt based g dv w (zef d 0 picN) dv2 w5):=hid ⟨hda.disk,(zai.of_below B4.out).trans hda.turns (fun _ _ h=>h),fun b hb=>(hda.own b hb).imp id (fun h=>Nat.le_trans B4.out.size h)⟩
 clear hv hda HCr D4 P4 B4
 go_wp2
 (try simp only [Exit.inBlock,Exit.then]);refine bodyPost_ret (results_tmp2 (t:=2) (u:=3) (by kernel_rfl) _ _ _) rfl ?_
 exact ⟨v,m,x,mi,dv2,rfl,HV.out,HA.out⟩
def zuJ (based g:Nat) (dv:Nat→Value) (d:Dk) (er:Int) (l:List J) (w:World) (e:Ending) (w':World):Prop :=
 (er=0→zmA based g dv d l w e w')∧(er≠0→∃dv2,e=.returned (.tuple #[.pointer none,.int .i64 er])∧DAt based g dv w d dv2 w')
theorem zen (based g:Nat) (d:Dk) (dv:Nat→Value) (xs:List J) (m0 m1:List Nat) (w:World) (D:zaj w based g d dv) (ho:d.Ok) (hP:zad w) (hG:∀x∈xs,zbv x) (hlen:xs.length<900)
  (ht0:Torn m0) (ht1:Torn m1) (hl0:d.l 0=zaf (logR xs) ++ m0) (hl1:d.l 1=m1) (h80:∀x∈d.l 0,x<256) (h81:∀x∈d.l 1,x<256) (hs0:(d.l 0).length≤4096) (hs1:(d.l 1).length≤4096) :
  Calls Tryz.prog 7 #[.pointer (some ⟨g,0,none⟩)] w (zuJ based g dv (zco d (zaf (logR xs)).length).1 (zco d (zaf (logR xs)).length).2 xs w):=by
 have HR0:=hid (fun w D hP=>zlJ based g d dv xs m0 w D ho hP hG hlen ht0 hl0 h80 hs0)
 have HR1:Hid (∀w,zaj w based g d dv→zad w→Calls Tryz.prog 19 #[.pointer (some ⟨g,0,none⟩),.int .i64 1] w fun e w'=>∃v,e=.returned (.agg (flC v false 0))∧Below w.heap.size w w'):=hid (fun w D hP=>zh3 based g d dv 1 m1 w D ho (by decide) hP ht1 hl1 h81 hs1)
 have HTi:=hid (fun base v m x mi w h D=>zqm base v g 1 m x mi xs (zaP xs) (zaf (logR xs)).length based d dv w h D ho)
 have D0:=hid D
 have P0:=hid hP
 clear D ho hP hG ht0 ht1 hl0 hl1 h80 h81 hs0 hs1
 obtain ⟨good,hgood⟩:∃n,(zaf (logR xs)).length=n:=⟨_,rfl⟩
 rw [hgood] at HR0 HTi ⊢
 obtain ⟨d2,hd2⟩:∃y,(zco d good).1=y:=⟨_,rfl⟩
 obtain ⟨e2,he2⟩:∃y,(zco d good).2=y:=⟨_,rfl⟩
 rw [hd2,he2] at HTi ⊢
 clear hgood hd2 he2
 go_enter Tryz.func7,Tryz.ntmps7
 go_wp2_with fail
 with_reducible refine (HR0.out _ D0.out P0.out).mono ?_
 rintro e w1 ⟨v,m,x,mi,rfl,hv,hb⟩
 have D1:=hid (D0.out.on hb)
 have P1:=hid (P0.out.below hb)
 have B1:=hid hb
 have V1:=hid hv
 clear hv hb HR0
 go_wp2_with fail
 with_reducible refine (HR1.out _ D1.out P1.out).mono ?_
 rintro e w2 ⟨vb,rfl,hb⟩
 have D2:=hid (D1.out.on hb)
 have B2:=hid (B1.out.trans (hb.mono B1.out.size))
 have V2:=hid (V1.out.on hb)
 clear hb HR1 D1 P1 B1 V1
 go_wp2_with fail
 with_reducible refine (ziC v vb (good:Int) 0 _).mono ?_
 rintro e w3 ⟨rfl,hb⟩
 have D3:=hid (D2.out.on hb)
 have B3:=hid (B2.out.trans (hb.mono B2.out.size))
 have V3:=hid (V2.out.on hb)
 clear hb D2 B2 V2
 have hst:=zs4 v true (good:Int) 73 w3
 go_upto_region 2 with fail
 clear hst
 obtain ⟨W,hW⟩:∃W,(w3.alloc (.cells #[.pointer none,.bool false,.int .i64 0] 73)).setRow w3.heap.size (flC v true (good:Int))=W:=⟨_,rfl⟩
 rw [hW]
 obtain ⟨K0,KB⟩:=zcS hW
 have D4:=hid (D3.out.on KB.out)
 have B4:=hid (B3.out.trans (KB.out.mono B3.out.size))
 have V4:=hid (V3.out.on KB.out)
 obtain ⟨q,hq⟩:∃q,w3.heap.size=q:=⟨_,rfl⟩
 rw [hq] at K0
 rw [hq]
 clear hW hq KB D3 B3 V3
 have LF:=hid (zeF v true (good:Int))
 have A4:Hid (DAt based g dv w d dv W):=hid (DAt.on (DAt.start D0.out) B4.out)
 go_wp2_with (first
  | (with_reducible refine wpList_load_row (o:=⟨some 21,_,_,_,_,_⟩) rfl 73 (.tmp 4) rfl q rfl 73 (flC v true (good:Int)) (0,0) _ K0.out.heap Tryz.underlying73 rfl LF.out ?_))
 with_reducible refine (HTi.out _ v m x mi _ V4.out D4.out).mono ?_
 intro e w5 h5
 obtain ⟨rfl,dv5,a5,t5⟩:=A4.out.step h5
 have A5:=hid a5
 have V5:=hid (V4.out.beside D4.out t5)
 have K5:=hid (K0.out.turns t5 (D4.out.far K0.out.heap (by decide) (by decide)))
 have V6:=hid (V5.out.lower (base':=w.heap.size) (Nat.le_refl _))
 clear h5 a5 t5 V4 D4 K0 A4 V5
 by_cases h0:e2=0
 ·subst h0
  have c0:=(za2 K5.out).1
  go_wp2
  (try simp only [Exit.inBlock,Exit.then]);refine bodyPost_ret (results_tmp2 (t:=2) (u:=3) (by kernel_rfl) _ _ _) rfl ?_
  exact ⟨fun _=>⟨v,m,x,mi,dv5,rfl,V6.out,A5.out⟩,fun h=>absurd rfl h⟩
 ·go_wp2
  (try simp only [Exit.inBlock,Exit.then]);refine bodyPost_ret (results_tmp2 (t:=2) (u:=3) (by kernel_rfl) _ _ _) rfl ?_
  exact ⟨fun h=>absurd h h0,fun _=>⟨dv5,rfl,A5.out⟩⟩
def AnyJ (x:J):Prop:=okJ x∧okK x.c∧(zbl x.r∧zbl x.s)∧x.c.foot.size≤200∧x.c.path.size≤200
theorem AnyJ.ok {x:J} (h:AnyJ x):okJ x:=h.1
theorem AnyJ.ints {x:J} (h:AnyJ x):zbl x.r∧zbl x.s:=h.2.2.1
theorem AnyJ.sizes {x:J} (h:AnyJ x):x.c.foot.size≤200∧x.c.path.size≤200:=h.2.2.2
theorem AnyJ.good {x:J} (h:AnyJ x) (hr:zbr x=true):zbv x:=⟨h.1,h.2.1,hr⟩
theorem zqn (r s:Int):okJ (newJ r s):=⟨⟨by show (0:Int)≤0;decide,by show (0:Int)<_;decide⟩,by show (0:Int)≤0;decide,by show (0:Int)<_;decide⟩
theorem zfB (r s:Int):(newJ r s).c.foot.size=0∧(newJ r s).c.path.size=0:=⟨rfl,rfl⟩
theorem oldV {xs:List J} (hA:∀x∈xs,AnyJ x) (k:Nat) (r s:Int):okJ (getV (xs.take k) r s)∧(getV (xs.take k) r s).c.foot.size≤200∧(getV (xs.take k) r s).c.path.size≤200:=by
 cases h:zeh (xs.take k) r s with
 | none=>rw [zek h];exact ⟨zqn r s,by rw [(zfB r s).1];decide,by rw [(zfB r s).2];decide⟩
 | some x =>
  rw [zcN h]
  have hx:=hA x (List.mem_of_mem_take (zdD h).1)
  exact ⟨hx.ok,hx.sizes⟩
theorem zqG {xs:List J} (hA:∀x∈xs,AnyJ x) (k:Nat):zfR (xs.take k):=fun x hx=>(hA x (List.mem_of_mem_take hx)).ints
theorem Blk.ji {w:World} {g:Nat} {T:TypeId} {x:J} (h:Blk w g T (rowJ x)):w.rangeAt g 0 (idC (x.r,x.s)):=h.jn
def FolV (xs:List J) (k:Nat):Prop:=∀(j:Nat) (hj:j<xs.length),j<k→zbf xs[j] (getV (xs.take j) xs[j].r xs[j].s)=true
theorem FolV.succ {xs:List J} {k:Nat} (h:FolV xs k) (hk:k<xs.length) (hf:zbf xs[k] (getV (xs.take k) xs[k].r xs[k].s)=true):FolV xs (k+1):=fun j hj hjk=>by
 by_cases e:j=k
 ·subst e;exact hf
 ·exact h j hj (by omega)
theorem FolV.all {xs:List J} (h:FolV xs xs.length):mayV [] xs=true:=zmL xs [] (fun k hk=>by rw [List.nil_append];exact h k hk hk)
def MyAt (w:World) (xs:List J) (t k:Nat) (wr:World):Prop:=StM wr t k (xs.take k)∧Below w.heap.size w wr∧w.heap.size≤t
theorem zsA (base v g:Nat) (cur gen:Int) (m x0 mi:Nat) (nl:List Nt) (A:Option Addr) (xs:List J) (n ca:Nat) (w:World) (h:VAt w base v g cur gen m x0 mi [] nl) (hn:xs.length=n) (hl:n≤900) (hA:zcw w A xs) (hX:∀x∈xs,AnyJ x) (hP:zad w) :
  Calls Tryz.prog 25 #[.pointer (some ⟨v,0,none⟩),.slice A n ca] w fun e w'=>e=.returned (.bool (mayV [] xs))∧Below w.heap.size w w':=by
 have hmm:=@run_makeMap Tryz.prog
 have V0:=hid h
 have HA:=hid hA
 have HX:=hid hX
 have HP:=hid hP
 have HN:=hid hn
 have HGet:=hid (fun (y:IdT) (w:World) (h:VAt w base v g cur gen m x0 mi [] nl) (hr:zbl y.1) (hs:zbl y.2)=>(show Calls Tryz.prog 36 #[.pointer (some ⟨v,0,none⟩),.agg (rowI y)] w fun e w'=>e=.returned (.agg (rowJ (newJ y.1 y.2)))∧Below w.heap.size w w' from zje base v g cur gen m x0 mi [] nl y.1 y.2 w h hr hs (fun z hz=>by simp at hz)))
 clear h hA hX hP hn
 go_enter Tryz.func25,Tryz.ntmps25
 go_wp2
 obtain ⟨W0,hW0⟩:∃W,w.alloc (.map #[] 0)=W:=⟨_,rfl⟩
 have M0:Hid (MyAt w xs w.heap.size 0 W0):=hid (by rw [←hW0];exact ⟨StM.made w,(Below.refl _ w).alloc (Nat.le_refl _) _,Nat.le_refl _⟩)
 rw [hW0]
 obtain ⟨t,ht⟩:∃t,w.heap.size=t:=⟨_,rfl⟩
 rw [ht] at M0
 rw [ht]
 clear hW0
 go_loopw [13] (fun iv wr=>∃k:Nat,k≤n∧iv=.int .i64 (k:Int)∧Hid (MyAt w xs t k wr)∧Hid (FolV xs k)) (fun iv _=>n - (intOf iv).toNat)
 case atStart=>exact ⟨0,Nat.zero_le _,rfl,M0,hid (fun j hj h=>absurd h (by omega))⟩
 case round =>
  obtain ⟨k,hk,rfl,HM,HFo⟩:=hrel
  clear M0
  by_cases hlt:k<n
  ·have hltx:k<xs.length:=by rw [HN.out];exact hlt
   have hlti:(k:Int)<(n:Int):=by omega
   obtain ⟨b,o,rfl,hbl,hra⟩:=HA.out k xs[k] (List.getElem?_eq_getElem hltx)
   have HRA:Hid (wr.rangeAt b (o+k * 22) (jC xs[k])):=hid (fun i v hv=>(HM.out.2.1.cell (p:=⟨b,o+k * 22+i,none⟩) hbl).trans (hra i v hv))
   have HXk:=hid (HX.out xs[k] (List.getElem_mem hltx))
   have HOld:=hid (oldV HX.out k xs[k].r xs[k].s)
   have HNo:=hid (zi9 xs [] k hltx)
   have HFs:=hid (FolV.succ HFo.out hltx)
   have HTk:Hid (xs.take (k+1)=xs.take k ++ [xs[k]]):=hid (List.take_succ_eq_append_getElem hltx)
   have HIt:=hid (zqG HX.out k)
   rw [List.nil_append] at HNo
   clear hra
   obtain ⟨x,hx⟩:∃x,xs[k]=x:=⟨_,rfl⟩
   rw [hx] at HRA HXk HOld HNo HTk HFs
   clear hx
   have LJ:=hid (zim x)
   have L1:=hid (zaE x)
   have LI:=hid (zlU (x.r,x.s))
   have P0:=hid (HP.out.below HM.out.2.1)
   have V1:=hid (V0.out.on HM.out.2.1)
   have hst:=zgb x 66 wr
   go_upto_region 5 with (first
    | (with_reducible refine wpList_load_mid (op:=⟨some 16,_,_,_,_,_⟩) rfl 66 (.tmp 15) rfl b (o+k * 22) rfl (jC x) _ HRA.out Tryz.underlying66 rfl LJ.out ?_;rw [zeD]))
   clear hst
   obtain ⟨W1,hW1⟩:∃W,(wr.alloc (.cells zrow 66)).setRow wr.heap.size (rowJ x)=W:=⟨_,rfl⟩
   rw [hW1]
   obtain ⟨K7,KB7⟩:=zcS hW1
   clear hW1
   have M1:Hid (MyAt w xs t k W1):=hid ⟨HM.out.1.same (KB7.out.block t HM.out.1.lt),HM.out.2.1.trans (KB7.out.mono HM.out.2.1.size),HM.out.2.2⟩
   have P1:=hid (P0.out.below KB7.out)
   have V2:=hid (V1.out.on KB7.out)
   obtain ⟨q7,hq7⟩:∃q,wr.heap.size=q:=⟨_,rfl⟩
   have ht7:t<q7:=by rw [←hq7];exact HM.out.1.lt
   rw [hq7] at K7
   rw [hq7]
   clear hq7 HM P0 V1 HRA KB7
   obtain ⟨lk,hlk⟩:∃z,zhx (xs.take k) x.r x.s=z:=⟨_,rfl⟩
   obtain ⟨hb,hhb⟩:∃b,hasV (xs.take k) x.r x.s=b:=⟨_,rfl⟩
   have hlook:(Instr.lookup 92 (.map (some t)) (.agg (rowI (x.r,x.s))) true).run Tryz.prog W1=.ok (.tuple #[.agg (rowJ lk),.bool hb]) W1:=by
    rw [←hlk,←hhb]
    exact M1.out.1.look HXk.out.ints.1 HXk.out.ints.2
   have HGv:Hid (getV (xs.take k) x.r x.s=if hb=true then lk else newJ x.r x.s):=hid (by
    rw [←hlk,←hhb]
    split
    ·next hh=>exact (zd2 hh).symm
    ·next hh=>exact zek (by unfold hasV at hh;simpa using hh))
   clear hlk hhb
   have hst:=zgb lk 66 W1
   go_upto_region 6 with (first
    | (with_reducible refine wpList_load_mid (op:=⟨some 20,_,_,_,_,_⟩) rfl 55 (.tmp 19) rfl q7 0 rfl (idC (x.r,x.s)) _ K7.out.ji Tryz.underlying55 rfl LI.out ?_;rw [zgL]))
   clear hst hlook
   obtain ⟨W2,hW2⟩:∃W,(W1.alloc (.cells zrow 66)).setRow W1.heap.size (rowJ lk)=W:=⟨_,rfl⟩
   rw [hW2]
   obtain ⟨K8,KB8⟩:=zcS hW2
   clear hW2
   have M2:Hid (MyAt w xs t k W2):=hid ⟨M1.out.1.same (KB8.out.block t M1.out.1.lt),M1.out.2.1.trans (KB8.out.mono M1.out.2.1.size),M1.out.2.2⟩
   have P2:=hid (P1.out.below KB8.out)
   have V3:=hid (V2.out.on KB8.out)
   have J7:=hid (K7.out.below KB8.out K7.out.lt)
   obtain ⟨q8,hq8⟩:∃q,W1.heap.size=q:=⟨_,rfl⟩
   have h78:q7<q8:=by rw [←hq8];exact K7.out.lt
   rw [hq8] at K8
   rw [hq8]
   clear hq8 M1 P1 V2 K7 KB8
   cases hb with
   | false =>
    have HOk:Hid (okJ (newJ x.r x.s)∧(newJ x.r x.s).c.foot.size≤4611686018427387903∧(newJ x.r x.s).c.path.size≤4611686018427387903):=hid ⟨zqn _ _,by rw [(zfB _ _).1];decide,by rw [(zfB _ _).2];decide⟩
    go_wp2_with (first
     | (with_reducible refine wpList_load_mid (op:=⟨some 28,_,_,_,_,_⟩) rfl 55 (.tmp 27) rfl q7 0 rfl (idC (x.r,x.s)) _ J7.out.ji Tryz.underlying55 rfl LI.out ?_;rw [zgL]))
    with_reducible refine (HGet.out (x.r,x.s) _ V3.out HXk.out.ints.1 HXk.out.ints.2).mono ?_
    rintro e w3 ⟨rfl,hb3⟩
    have M3:Hid (MyAt w xs t k w3):=hid ⟨M2.out.1.same (hb3.block t M2.out.1.lt),M2.out.2.1.trans (hb3.mono M2.out.2.1.size),M2.out.2.2⟩
    have P3:=hid (P2.out.below hb3)
    have I7:=hid (J7.out.below hb3 J7.out.lt)
    have I8:=hid (K8.out.below hb3 K8.out.lt)
    have hst:=zbL I8.out (rowJ (newJ x.r x.s)) rfl (zaS (newJ x.r x.s))
    clear hb3 M2 P2 J7 K8 V3
    go_upto_region 8 with fail
    clear hst
    have TR:=hid (zaN w3 q8 (rowJ (newJ x.r x.s)))
    have M4:Hid (MyAt w xs t k (w3.setRow q8 (rowJ (newJ x.r x.s)))):=hid ⟨M3.out.1.same (TR.out.block t M3.out.1.lt (by omega)),zak M3.out.2.1 (by have:=M3.out.2.2;omega),M3.out.2.2⟩
    have P4:=hid (zbO P3.out TR.out (by have:=P3.out.lt;have:=HP.out.lt;have:=M3.out.2.2;omega))
    have G7:=hid (I7.out.turns TR.out (by omega))
    have G8:Hid (Blk (w3.setRow q8 (rowJ (newJ x.r x.s))) q8 66 (rowJ (newJ x.r x.s))):=hid (Blk.rowAt I8.out)
    obtain ⟨W4,hW4⟩:∃W,w3.setRow q8 (rowJ (newJ x.r x.s))=W:=⟨_,rfl⟩
    rw [hW4] at M4 P4 G7 G8
    rw [hW4]
    clear hW4 TR M3 P3 I7 I8
    have HF:=hid (zhA x (newJ x.r x.s) HXk.out.ok HOk.out.1 _ P4.out (by have:=HXk.out.sizes;omega) (by have:=HXk.out.sizes;omega) HOk.out.2.1 HOk.out.2.2)
    obtain ⟨fl,hfl⟩:∃f,zbf x (newJ x.r x.s)=f:=⟨_,rfl⟩
    rw [hfl] at HF
    have HNo2:Hid (fl=false→mayV [] xs=false):=hid (fun hf=>HNo.out (by rw [HGv.out,if_neg (by simp),hfl];exact hf))
    have HFl2:Hid (fl=true→FolV xs (k+1)):=hid (fun hf=>HFs.out (by rw [HGv.out,if_neg (by simp),hfl];exact hf))
    clear hfl
    have L8:=hid (zaE (newJ x.r x.s))
    go_wp2_with (first
     | (with_reducible refine wpList_load_row (o:=⟨some 30,_,_,_,_,_⟩) rfl 66 (.tmp 7) rfl q7 rfl 66 (rowJ x) (0,0) _ G7.out.heap Tryz.underlying66 rfl L1.out ?_)
     | (with_reducible refine wpList_load_row (o:=⟨some 31,_,_,_,_,_⟩) rfl 66 (.tmp 8) rfl q8 rfl 66 (rowJ (newJ x.r x.s)) (0,0) _ G8.out.heap Tryz.underlying66 rfl L8.out ?_))
    with_reducible refine HF.out.mono ?_
    rintro e w5 ⟨rfl,hb5⟩
    have B5:=hid (M4.out.2.1.trans (hb5.mono M4.out.2.1.size))
    cases fl with
    | false =>
     have HR:=hid (HNo2.out rfl)
     clear HF HNo2 M4 hb5
     go_wp2
     go_ret
     exact ⟨by rw [HR.out];rfl,B5.out⟩
    | true =>
     have J9:=hid (G7.out.below hb5 G7.out.lt)
     have S9:=M4.out.1.same (hb5.block t M4.out.1.lt)
     obtain ⟨w6,q0,hs6,hg6⟩:=S9.put (by unfold maxLen;omega) x HIt.out HXk.out.ints.1 HXk.out.ints.2
     have q1:(Instr.mapUpdate 92 (.map (some t)) (.agg (rowI (x.r,x.s))) (.agg (rowJ x))).run Tryz.prog w5=.ok () w6:=q0
     have M9:Hid (MyAt w xs t (k+1) w6):=hid ⟨by rw [HTk.out];exact hs6,B5.out.trans (zci hg6 M4.out.2.2 B5.out.size),M4.out.2.2⟩
     clear q0 hs6 hg6 S9 hb5 HF HNo2 M4
     go_wp2_with (first
      | (with_reducible refine wpList_load_mid (op:=⟨some 36,_,_,_,_,_⟩) rfl 55 (.tmp 35) rfl q7 0 rfl (idC (x.r,x.s)) _ J9.out.ji Tryz.underlying55 rfl LI.out ?_;rw [zgL])
      | (with_reducible refine wpList_load_row (o:=⟨some 37,_,_,_,_,_⟩) rfl 66 (.tmp 7) rfl q7 rfl 66 (rowJ x) (0,0) _ J9.out.heap Tryz.underlying66 rfl L1.out ?_))
     clear q1
     have HF3:=hid (HFl2.out (by simp))
     go_roundw
     case rel=>exact ⟨k+1,by omega,by go_num,M9,HF3⟩
     case measure=>simp only [intOf];omega
   | true =>
    have HE:Hid (getV (xs.take k) x.r x.s=lk):=hid (by rw [HGv.out];exact if_pos rfl)
    have HOk:Hid (okJ lk∧lk.c.foot.size≤4611686018427387903∧lk.c.path.size≤4611686018427387903):=hid (by
     have h:=HOld.out
     rw [HE.out] at h
     exact ⟨h.1,by omega,by omega⟩)
    have HF:=hid (zhA x (lk) HXk.out.ok HOk.out.1 _ P2.out (by have:=HXk.out.sizes;omega) (by have:=HXk.out.sizes;omega) HOk.out.2.1 HOk.out.2.2)
    obtain ⟨fl,hfl⟩:∃f,zbf x (lk)=f:=⟨_,rfl⟩
    rw [hfl] at HF
    have HNo2:Hid (fl=false→mayV [] xs=false):=hid (fun hf=>HNo.out (by rw [HGv.out,if_pos rfl,hfl];exact hf))
    have HFl2:Hid (fl=true→FolV xs (k+1)):=hid (fun hf=>HFs.out (by rw [HGv.out,if_pos rfl,hfl];exact hf))
    clear hfl
    have L8:=hid (zaE (lk))
    go_wp2_with (first
     | (with_reducible refine wpList_load_row (o:=⟨some 30,_,_,_,_,_⟩) rfl 66 (.tmp 7) rfl q7 rfl 66 (rowJ x) (0,0) _ J7.out.heap Tryz.underlying66 rfl L1.out ?_)
     | (with_reducible refine wpList_load_row (o:=⟨some 31,_,_,_,_,_⟩) rfl 66 (.tmp 8) rfl q8 rfl 66 (rowJ (lk)) (0,0) _ K8.out.heap Tryz.underlying66 rfl L8.out ?_))
    with_reducible refine HF.out.mono ?_
    rintro e w5 ⟨rfl,hb5⟩
    have B5:=hid (M2.out.2.1.trans (hb5.mono M2.out.2.1.size))
    cases fl with
    | false =>
     have HR:=hid (HNo2.out rfl)
     clear HF HNo2 M2 hb5
     go_wp2
     go_ret
     exact ⟨by rw [HR.out];rfl,B5.out⟩
    | true =>
     have J9:=hid (J7.out.below hb5 J7.out.lt)
     have S9:=M2.out.1.same (hb5.block t M2.out.1.lt)
     obtain ⟨w6,q0,hs6,hg6⟩:=S9.put (by unfold maxLen;omega) x HIt.out HXk.out.ints.1 HXk.out.ints.2
     have q1:(Instr.mapUpdate 92 (.map (some t)) (.agg (rowI (x.r,x.s))) (.agg (rowJ x))).run Tryz.prog w5=.ok () w6:=q0
     have M9:Hid (MyAt w xs t (k+1) w6):=hid ⟨by rw [HTk.out];exact hs6,B5.out.trans (zci hg6 M2.out.2.2 B5.out.size),M2.out.2.2⟩
     clear q0 hs6 hg6 S9 hb5 HF HNo2 M2
     go_wp2_with (first
      | (with_reducible refine wpList_load_mid (op:=⟨some 36,_,_,_,_,_⟩) rfl 55 (.tmp 35) rfl q7 0 rfl (idC (x.r,x.s)) _ J9.out.ji Tryz.underlying55 rfl LI.out ?_;rw [zgL])
      | (with_reducible refine wpList_load_row (o:=⟨some 37,_,_,_,_,_⟩) rfl 66 (.tmp 7) rfl q7 rfl 66 (rowJ x) (0,0) _ J9.out.heap Tryz.underlying66 rfl L1.out ?_))
     clear q1
     have HF3:=hid (HFl2.out (by simp))
     go_roundw
     case rel=>exact ⟨k+1,by omega,by go_num,M9,HF3⟩
     case measure=>simp only [intOf];omega
  ·have hke:k=n:=by omega
   have hnI:¬(k:Int)<(n:Int):=by omega
   have HR:Hid (mayV [] xs=true):=hid (FolV.all (by rw [HN.out,←hke];exact HFo.out))
   have HB:=hid HM.out.2.1
   clear HM HFo
   go_wp2
   go_ret
   exact ⟨by rw [HR.out];rfl,(by rw [←ht];exact HB.out)⟩
end Go.Proofs.YtnjdckoljmgcjaaGreatDoor
