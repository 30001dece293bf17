/-
  The document's commands, compared.
-/
import Derived.Test.YtnjdckoljmgcjaaGreatDoorW30
set_option maxRecDepth 100000
set_option maxHeartbeats 4000000
namespace Go.Proofs.YtnjdckoljmgcjaaGreatDoor
open Go.ChangeShapes Go.WideShapes Go.ChangeAt Go.RowKit Go.Maps Go.WideMaps
set_option linter.unusedVariables false
set_option linter.unusedSimpArgs false
theorem zov (base v g based:Nat) (m x mi:Nat) (l:List J) (nl:List Nt) (d:Dk) (dv:Nat→Value) (n:Nat) (w:World) (h:VAt w base v g 0 1 m x mi l nl) (D:zaj w based g d dv) (ho:d.Ok) (hsz:d.sz=4096) (ha:(d.l 0).length≤20) (hb:d.l 1=[]) (hn:n≤3000) :
  Calls Tryz.prog 28 #[.pointer (some ⟨v,0,none⟩),.int .i64 (n:Int)] w fun e w'=>e=.returned (.int .i64 0)∧Below w.heap.size w w':=by
 obtain ⟨lo,hi,hbv⟩:=h.blk
 have c0:=(zbw hbv).1.1
 have hL:4076≤zcV d∧zcV d≤4096:=by
  unfold zcV
  rw [hsz,hb]
  simp
  omega
 have D0:=hid D
 have V0:=hid h
 have HLf:=hid (zfP based g d dv w D ho)
 have HSz:=hid (fun w (c0:w.cell? ⟨g,0,none⟩=some (.int .i64 d.sz))=>zm5 g d w c0)
 rw [hsz] at HSz
 have HRm:=hid (fun w h=>zsd base v g 0 m x mi l nl w h)
 have HS:=hid hsz
 clear h D ho ha hb hbv hsz
 obtain ⟨L,hLe⟩:∃L,zcV d=L:=⟨_,rfl⟩
 rw [hLe] at hL HLf
 clear hLe
 go_enter Tryz.func28,Tryz.ntmps28
 go_wp2_with fail
 with_reducible refine HLf.out.mono ?_
 rintro e w1 ⟨rfl,nq,hw1⟩
 have B1:Hid (Below w.heap.size w w1):=hid (by rw [←hw1];exact zav (Below.refl _ _) nq)
 have V1:=hid (V0.out.on B1.out)
 have D1:=hid (D0.out.on B1.out)
 obtain ⟨lo1,hi1,hbv1⟩:=V1.out.blk
 have c0:=(zbw hbv1).1.1
 have z0:w1.cell? ⟨g,0,none⟩=some (.int .i64 4096):=by rw [D1.out.cells.1,HS.out]
 clear hw1 HLf hbv1 V0 D0 D1
 have e1:IntKind.i64.wrap (4096 - L)=4096 - L:=IntWalk.i64_in _ (by omega)
 go_wp2_with fail
 with_reducible refine (HSz.out _ z0).mono ?_
 rintro e w2 ⟨rfl,rfl⟩
 go_wp2_with fail
 with_reducible refine (HRm.out _ V1.out).mono ?_
 rintro e w3 ⟨⟨k,hk,rfl⟩,hb3⟩
 have B3:=hid (B1.out.trans (hb3.mono B1.out.size))
 clear hb3 V1 HRm HSz c0 z0 B1
 have e2:IntKind.i64.wrap (L - (n:Int))=L - (n:Int):=IntWalk.i64_in _ (by omega)
 have e3:IntKind.i64.wrap (L - (n:Int) - (k:Int))=L - (n:Int) - (k:Int):=IntWalk.i64_in _ (by omega)
 have e4:IntKind.i64.wrap (4096 - L - 1)=4096 - L - 1:=IntWalk.i64_in _ (by omega)
 have e5:¬L<4096 - L - 1:=by omega
 have e6:4096 - L - 1<L:=by omega
 have e7:IntKind.i64.wrap (4096 - L - 1 - (k:Int))=4096 - L - 1 - (k:Int):=IntWalk.i64_in _ (by omega)
 have e8:4096 - L - 1 - (k:Int)≤L - (n:Int) - (k:Int):=by omega
 have e9:min L (4096 - L - 1)=4096 - L - 1:=by omega
 go_wp2_with fail
 go_ret
 exact ⟨rfl,B3.out⟩
theorem zeE:∀{xs:List J},(∀x∈xs,zbv x)→(zaf (xs.map zbe)).length≤xs.length * 421
 | [],_=>by simp [zaf]
 | x :: xs,h=>by
  have h1:=zhJ (h x (by simp))
  have h2:=zeE (xs:=xs) (fun y hy=>h y (by simp [hy]))
  rw [zbu,zdi,List.append_nil] at h1
  rw [List.map_cons,zbu,List.length_append,List.length_cons]
  omega
def zf8 (d:Dk) (xs:List J):Dk:=if xs=[] then d else zef d 0 (zaf (xs.map zbe))
def ztS (base v g based m x mi:Nat) (d:Dk) (dv:Nat→Value) (er:Int) (l:List J) (w:World) (e:Ending) (w':World):Prop :=
 e=.returned (.int .i64 er)∧zbZ w' base v g 0 1 m x mi l∧∃dv2,zaj w' based g d dv2∧zai (fun b=>OwnD g dv b∨OwnV v m mi b) w w'∧∀b,OwnD g dv2 b→OwnD g dv b∨w.heap.size≤b
def WrAt (w:World) (base v g based m x mi:Nat) (d:Dk) (dv dv2:Nat→Value) (xs:List J) (k:Nat) (wr:World):Prop :=
 zbZ wr base v g 0 1 m x mi (xs.take k)∧zaj wr based g d dv2∧zai (fun b=>OwnD g dv b∨OwnV v m mi b) w wr∧zad wr
section
variable {w:World} {base v g based m x mi:Nat} {d:Dk} {dv dv2:Nat→Value} {xs:List J} {k:Nat} {wr w':World}
theorem WrAt.vat (h:WrAt w base v g based m x mi d dv dv2 xs k wr):zbZ wr base v g 0 1 m x mi (xs.take k):=h.1
theorem WrAt.disk (h:WrAt w base v g based m x mi d dv dv2 xs k wr):zaj wr based g d dv2:=h.2.1
theorem WrAt.turns (h:WrAt w base v g based m x mi d dv dv2 xs k wr):zai (fun b=>OwnD g dv b∨OwnV v m mi b) w wr:=h.2.2.1
theorem WrAt.parts (h:WrAt w base v g based m x mi d dv dv2 xs k wr):zad wr:=h.2.2.2
theorem WrAt.on (h:WrAt w base v g based m x mi d dv dv2 xs k wr) (hb:Below wr.heap.size wr w'):WrAt w base v g based m x mi d dv dv2 xs k w':=⟨h.1.on hb,h.2.1.on hb,h.2.2.1.then hb,h.2.2.2.below hb⟩
end
theorem znp (base v g based m x mi:Nat) (d:Dk) (dv:Nat→Value) (A:Option Addr) (xs:List J) (n ca:Nat) (w:World) (h:zbZ w base v g 0 1 m x mi []) (D:zaj w based g d dv) (ho:d.Ok) (hdn:d.dn=false) (har:d.arm=false) (hsz:d.sz=4096) (hl0:(d.l 0).length≤20) (hl1:d.l 1=[])
  (hn:xs.length=n) (hl:n≤6) (hA:zcw w A xs) (hAb:∀b o,A=some ⟨b,o,none⟩→xs≠[]→b<base∧b<based) (hX:∀x∈xs,AnyJ x) (hP:zad w) (hgb:0<base) (hgd:0<based) :
  Calls Tryz.prog 10 #[.pointer (some ⟨v,0,none⟩),.slice A n ca] w
   (ztS base v g based m x mi (if mayV [] xs=true then zf8 d xs else d) dv (if mayV [] xs=true then 0 else 10) (if mayV [] xs=true then xs else []) w):=by
 have HMay:=hid (zsA base v g 0 1 m x mi (zaP []) A xs n ca w h hn (by omega) hA hX hP)
 have V0:=hid h
 have D0:=hid D
 have HA:=hid hA
 have HAb:=hid hAb
 have HP:=hid hP
 have HN:=hid hn
 cases hm:mayV [] xs with
 | false =>
  rw [if_neg (by simp),if_neg (by simp),if_neg (by simp)]
  rw [hm] at HMay
  clear h D ho hdn har hsz hl0 hl1 hA hAb hX hP hm
  go_enter Tryz.func10,Tryz.ntmps10
  go_wp2_with fail
  with_reducible refine HMay.out.mono ?_
  rintro e w1 ⟨rfl,hb⟩
  have HB:=hid hb
  clear hb
  go_wp2
  go_ret
  exact ⟨rfl,V0.out.on HB.out,dv,D0.out.on HB.out,zai.of_below HB.out,fun b hb=>.inl hb⟩
 | true =>
  rw [if_pos rfl,if_pos rfl,if_pos rfl]
  rw [hm] at HMay
  have HG:Hid (∀x∈xs,zbv x):=hid (fun x hx=>(hX x hx).good (zit hm x hx))
  by_cases hx0:xs=[]
  ·have hn0:n=0:=by rw [←hn,hx0];rfl
   subst hn0
   have HE:Hid (zf8 d xs=d):=hid (if_pos hx0)
   have HX0:=hid hx0
   clear h D ho hdn har hsz hl0 hl1 hA hAb hX hP hm hx0
   go_enter Tryz.func10,Tryz.ntmps10
   go_wp2_with fail
   with_reducible refine HMay.out.mono ?_
   rintro e w1 ⟨rfl,hb⟩
   have HB:=hid hb
   clear hb
   go_wp2
   go_ret
   rw [HE.out,HX0.out]
   exact ⟨rfl,V0.out.on HB.out,dv,D0.out.on HB.out,zai.of_below HB.out,fun b hb=>.inl hb⟩
  ·have hn0:¬n=0:=fun e=>hx0 (List.eq_nil_of_length_eq_zero (by rw [hn];exact e))
   have hni:¬(n:Int)=0:=by omega
   have hfl:=zeE HG.out
   have HE:Hid (zf8 d xs=zef d 0 (zaf (xs.map zbe))):=hid (if_neg hx0)
   have HX0:=hid hx0
   obtain ⟨fs,hfs⟩:∃f,zaf (xs.map zbe)=f:=⟨_,rfl⟩
   rw [hfs] at hfl HE
   obtain ⟨N,hN⟩:∃N,fs.length=N:=⟨_,rfl⟩
   have HFN:=hid hN
   have hN2:N≤3000:=by rw [hN,hn] at hfl;omega
   have HFs:=hid hfs
   have HRec:=hid (fun w (hA:zcw w A xs) (hP:zad w)=>(show Calls Tryz.prog 27 #[.int .u8 2,.slice A n ca] w (fun e w'=>∃A9 c9,e=.returned (.slice A9 n c9)∧zbg w' A9 (xs.map zbe)∧zcn w' A9 (xs.map zbe).length∧Below w.heap.size w w') from
    (zej A xs n ca w hn (by omega) hA HG.out hP).mono fun e w' ⟨A9,c9,he,_,_,h3,h4,h5⟩=>⟨A9,c9,by rw [he,List.length_map,hn],h3,h4,h5⟩))
   have HFr:=hid (fun A9 c9 w h3 h4=>(show Calls Tryz.prog 26 #[.slice A9 n c9] w (zcy fs w) from by
    rw [←hfs]
    exact ze6 A9 (xs.map zbe) n c9 w (by simpa using hn) (by omega) (fun r hr=>by
     obtain ⟨z,hz,rfl⟩:=List.mem_map.1 hr
     have:=zcz (HG.out z hz)
     omega) (by rw [hfs,hN];omega) h3 h4))
   have hL:4076≤zcV d:=by
    unfold zcV
    rw [hsz,hl1]
    simp
    omega
   have HRo:=hid (fun w h D=>zov base v g based m x mi [] (zaP []) d dv N w h D ho hsz hl0 hl1 hN2)
   have HLf:=hid (fun w D=>zfP based g d dv w D ho)
   have HPut:=hid (fun w B c D hA0 hc hcm hA=>zl6 based g d dv 0 0 B fs N c w D ho (by decide) rfl hdn har hN (by omega) hA0 hc hcm hA)
   have HKn:=hid (fun (k:Nat) (y:J) w h hP hG hall=>zmH base v g 0 1 m x mi (xs.take k) y w h hP hgb hG hall (by rw [List.length_take];omega))
   rw [HE.out]
   obtain ⟨L,hLe⟩:∃L,zcV d=L:=⟨_,rfl⟩
   rw [hLe] at hL HLf
   clear h D ho hdn har hsz hl0 hl1 hA hAb hX hP hm hx0 hfs hN hfl hLe
   go_enter Tryz.func10,Tryz.ntmps10
   go_wp2_with fail
   with_reducible refine HMay.out.mono ?_
   rintro e w1 ⟨rfl,hb⟩
   have B1:=hid hb
   clear hb HMay
   go_wp2_with fail
   with_reducible refine (HRec.out _ (HA.out.below B1.out) (HP.out.below B1.out)).mono ?_
   rintro e w2 ⟨A9,c9,rfl,k3,k4,k5⟩
   have HF2:=hid (HFr.out A9 c9 w2 k3 k4)
   have B2:=hid (B1.out.trans (k5.mono B1.out.size))
   clear k3 k4 k5 HRec HFr B1
   go_wp2_with fail
   with_reducible refine HF2.out.mono ?_
   rintro e w3 ⟨s,rfl,hown,hb⟩
   rw [HFN.out] at hown
   obtain ⟨B,c,rfl,k1,k2,k3,k4⟩:=zj3 (S:=OwnD g dv) HFN.out hown (fun b hb=>Nat.lt_of_lt_of_le (D0.out.own hb).2 B2.out.size)
   have HK:=hid (And.intro k1 (And.intro k2 (And.intro k3 k4)))
   have B3:=hid (B2.out.trans (hb.mono B2.out.size))
   clear hown hb k1 k2 k3 k4 HF2 B2
   go_wp2_with fail
   with_reducible refine (HRo.out _ (V0.out.on B3.out) (D0.out.on B3.out)).mono ?_
   rintro e w4 ⟨rfl,hb⟩
   have AP4:=hid (HK.out.2.2.2.below hb)
   have B4:=hid (B3.out.trans (hb.mono B3.out.size))
   clear hb HRo B3
   have V4:=hid (V0.out.on B4.out)
   have D4:=hid (D0.out.on B4.out)
   obtain ⟨lo4,hi4,hbv4⟩:=V4.out.blk
   have c0:=(zbw hbv4).1.1
   clear hbv4
   have hNL:¬L<(N:Int):=by omega
   go_wp2_with fail
   with_reducible refine (HLf.out _ D4.out).mono ?_
   rintro e w5 ⟨rfl,nq,hw5⟩
   have hb5:Below w4.heap.size w4 w5:=by rw [←hw5];exact zav (Below.refl _ _) nq
   have AP5:=hid ((AP4.out.below hb5).below (zag (Below.refl _ _)))
   have V5:=hid (V4.out.on hb5).drew
   have D5:=hid (D4.out.on hb5).drew
   have B5:=hid (zag (B4.out.trans (hb5.mono B4.out.size)))
   clear hb5 hw5 AP4 V4 D4 B4 c0 HLf
   obtain ⟨lo,hi,hbv⟩:=V5.out.blk
   have HB:=hid hbv
   clear hbv
   go_upto_region 11 with fail
   refine wp_region_held_drew (S:=fun w'=>Blk w' v 97 (vaC g 0 1 m x lo hi)) (by kernel_rfl) (by exact HB.out) (fun hHeld=>?_)
   refine ta 0 rfl hHeld ?_
   refine ta 1 rfl hHeld ?_
   refine ta 2 rfl hHeld ?_
   try simp only [Act.put,g1,g2,g3,g4,g5,g6]
   refine tl 3 ?_ rfl ?_ hHeld ?_
   rotate_left 1
   focus (intro w' hSw;(try dsimp only at hSw);(have q0:w'.cell? ⟨v,0,none⟩=some (.pointer (some ⟨g,0,none⟩)):=(hSw.cell 0).trans rfl);go_simp;try with_reducible rfl)
   try simp only [Act.put,g1,g2,g3,g4,g5,g6]
   refine ta 4 rfl hHeld ?_
   refine ta 5 rfl hHeld ?_
   refine ta 6 rfl hHeld ?_
   try simp only [Act.put,g1,g2,g3,g4,g5,g6]
   refine tl 7 ?_ rfl ?_ hHeld ?_
   rotate_left 1
   focus (intro w' hSw;(try dsimp only at hSw);(have q0:w'.cell? ⟨v,1,none⟩=some (.int .i64 0):=(hSw.cell 1).trans rfl);go_simp;try with_reducible rfl)
   try simp only [Act.put,g1,g2,g3,g4,g5,g6]
   refine ta 8 rfl hHeld ?_
   try simp only [Act.put,g1,g2,g3,g4,g5,g6]
   refine wpAnyH_ready (rs:=[9]) (by kernel_rfl) (by simp) ?_
   refine AllReadyH.cons (o:=_) rfl (fun K hK=>?_) AllReadyH.nil
   go_simp
   go_at_call 30
   with_reducible refine (HPut.out _ B c D5.out HK.out.1 HK.out.2.1 HK.out.2.2.1 AP5.out).mono ?_
   intro e w6 h6
   obtain ⟨rfl,dv6,a6,t6⟩:=(DAt.start D5.out).step h6
   have W6:Hid (WrAt w base v g based m x mi (zef d 0 fs) dv dv6 xs 0 w6):=hid ⟨V5.out.beside D5.out t6,a6.disk,(zai.of_below B5.out).trans t6 (fun i _ hs=>.inl hs),zfc (HP.out.below B5.out) D5.out hgd t6⟩
   have HO6:=hid a6.own
   have HB6:=hid (HB.out.turns t6 (V5.out.apartD D5.out).1)
   clear h6 a6 t6
   refine hK.out _ _ (by exact HB6.out) (fun hHeld=>?_)
   clear hK K
   try simp only [Act.put,g1,g2,g3,g4,g5,g6]
   refine ta 10 rfl hHeld ?_
   try simp only [Act.put,g1,g2,g3,g4,g5,g6]
   refine wpAnyH_done (by kernel_rfl) ?_ _
   clear hHeld
   have HO7:Hid (∀b,OwnD g dv6 b→OwnD g dv b∨w.heap.size≤b):=hid (fun b hb=>(HO6.out b hb).imp id (fun h=>Nat.le_trans B5.out.size h))
   clear HB HB6 HO6 AP5 V5 D5 B5 HK HPut
   go_wp2
   go_loopw [50] (fun iv wr=>∃k:Nat,k≤n∧iv=.int .i64 (k:Int)∧Hid (WrAt w base v g based m x mi (zef d 0 fs) dv dv6 xs k wr)) (fun iv _=>n - (intOf iv).toNat)
   case atStart=>exact ⟨0,Nat.zero_le _,rfl,W6⟩
   case round =>
    obtain ⟨k,hk,rfl,HW⟩:=hrel
    clear W6
    by_cases hlt:k<n
    ·have hltx:k<xs.length:=by rw [HN.out];exact hlt
     have hlti:(k:Int)<(n:Int):=by omega
     have HS2:=hid (HA.out.turns HW.out.turns (fun b o e hne hs=>by
      have h1:=HAb.out b o e hne
      rcases hs with hs | hs
      ·have:=(D0.out.own hs).1
       omega
      ·have:=V0.out.low
       unfold OwnV at hs
       omega))
     obtain ⟨b,o,rfl,hbl,hra⟩:=HS2.out k xs[k] (List.getElem?_eq_getElem hltx)
     have HRA:=hid hra
     have HGk:=hid (HG.out xs[k] (List.getElem_mem hltx))
     have HTk:Hid (xs.take (k+1)=xs.take k ++ [xs[k]]):=hid (List.take_succ_eq_append_getElem hltx)
     have HGt:Hid (∀z∈xs.take k,zbv z):=hid (fun z hz=>HG.out z (List.mem_of_mem_take hz))
     clear hra HS2
     obtain ⟨y,hy⟩:∃y,xs[k]=y:=⟨_,rfl⟩
     rw [hy] at HRA HGk HTk
     clear hy
     have LJ:=hid (zim y)
     have L1:=hid (zaE y)
     have hst:=zgb y 66 wr
     go_upto_region 17 with (first
      | (with_reducible refine wpList_load_mid (op:=⟨some 53,_,_,_,_,_⟩) rfl 66 (.tmp 52) rfl b (o+k * 22) rfl (jC y) _ HRA.out Tryz.underlying66 rfl LJ.out ?_;rw [zeD]))
     clear hst
     obtain ⟨W1,hW1⟩:∃W,(wr.alloc (.cells zrow 66)).setRow wr.heap.size (rowJ y)=W:=⟨_,rfl⟩
     rw [hW1]
     obtain ⟨K7,KB7⟩:=zcS hW1
     have HW1:=hid (HW.out.on KB7.out)
     clear hW1 KB7 HW HRA
     go_wp2_with (first
      | (with_reducible refine wpList_load_row (o:=⟨some 55,_,_,_,_,_⟩) rfl 66 (.tmp 9) rfl wr.heap.size rfl 66 (rowJ y) (0,0) _ K7.out.heap Tryz.underlying66 rfl L1.out ?_))
     with_reducible refine (HKn.out k y _ HW1.out.vat HW1.out.parts HGk.out HGt.out).mono ?_
     rintro e w8 ⟨rfl,hv8,t8⟩
     have HW2:Hid (WrAt w base v g based m x mi (zef d 0 fs) dv dv6 xs (k+1) w8):=hid ⟨by rw [HTk.out];exact hv8,HW1.out.disk.beside HW1.out.vat t8,HW1.out.turns.trans t8 (fun i _ hs=>.inr hs),HW1.out.vat.parts HW1.out.parts hgb t8⟩
     clear hv8 t8 HW1
     go_wp2
     go_roundw
     case rel=>exact ⟨k+1,by omega,by go_num,HW2⟩
     case measure=>simp only [intOf];omega
    ·have hke:k=n:=by omega
     have hnI:¬(k:Int)<(n:Int):=by omega
     have HV:Hid (zbZ wr base v g 0 1 m x mi xs):=hid (by
      have h:=HW.out.vat
      rw [hke,←HN.out,List.take_length] at h
      exact h)
     have HD:=hid HW.out.disk
     have HT:=hid HW.out.turns
     clear HW
     go_wp2
     go_ret
     exact ⟨rfl,HV.out,dv6,HD.out,HT.out,HO7.out⟩
end Go.Proofs.YtnjdckoljmgcjaaGreatDoor
namespace Go.Proofs.YtnjdckoljmgcjaaGreatDoor
open Go.ChangeShapes Go.WideShapes Go.ChangeAt Go.RowKit
set_option linter.unusedVariables false
set_option linter.unusedSimpArgs false
theorem znE (k u:Int) (f:ByteArray) (q:Int) (s:ByteArray) (m n t k' u':Int) (f':ByteArray) (q':Int) (s':ByteArray) (m' n' t':Int) (w:World) :
  (Op.equalIn 10000 80 (val ⟨k,u,f,q,s,m,n,t⟩) (val ⟨k',u',f',q',s',m',n',t'⟩)).run Tryz.prog w=.ok ((k == k') && ((u == u') && (decide (f=f') && ((q == q') && (decide (s=s') && ((m == m') && ((n == n') && ((t == t') && true)))))))) w:=by
 have ht:Tryz.prog.underlying 80=some (.struct (Tryz.prog.fieldsOf 80)):=by kernel_rfl
 have hp:Tryz.prog.stoodInHeld 80=false:=by kernel_rfl
 rw [run_equalIn_struct w 9999 _ _ _ ht hp]
 have a0:=run_part_plain (P:=Tryz.prog) (w:=w) (e:=3) (by kernel_rfl) (xs:=#[.int .i64 k,.int .u64 u,.string f,.int .u64 q,.string s,.int .i64 m,.int .u64 n,.int .i64 t]) (off:=0) rfl
 have b0:=run_part_plain (P:=Tryz.prog) (w:=w) (e:=3) (by kernel_rfl) (xs:=#[.int .i64 k',.int .u64 u',.string f',.int .u64 q',.string s',.int .i64 m',.int .u64 n',.int .i64 t']) (off:=0) rfl
 have e0:=run_equalIn_int (P:=Tryz.prog) w 9998 3 .i64 .i64 k k' Tryz.underlying3
 have a1:=run_part_plain (P:=Tryz.prog) (w:=w) (e:=51) (by kernel_rfl) (xs:=#[.int .i64 k,.int .u64 u,.string f,.int .u64 q,.string s,.int .i64 m,.int .u64 n,.int .i64 t]) (off:=1) rfl
 have b1:=run_part_plain (P:=Tryz.prog) (w:=w) (e:=51) (by kernel_rfl) (xs:=#[.int .i64 k',.int .u64 u',.string f',.int .u64 q',.string s',.int .i64 m',.int .u64 n',.int .i64 t']) (off:=1) rfl
 have e1:=run_equalIn_int (P:=Tryz.prog) w 9998 51 .u64 .u64 u u' Tryz.underlying51
 have a2:=run_part_plain (P:=Tryz.prog) (w:=w) (e:=9) (by kernel_rfl) (xs:=#[.int .i64 k,.int .u64 u,.string f,.int .u64 q,.string s,.int .i64 m,.int .u64 n,.int .i64 t]) (off:=2) rfl
 have b2:=run_part_plain (P:=Tryz.prog) (w:=w) (e:=9) (by kernel_rfl) (xs:=#[.int .i64 k',.int .u64 u',.string f',.int .u64 q',.string s',.int .i64 m',.int .u64 n',.int .i64 t']) (off:=2) rfl
 have e2:=run_equalIn_string (P:=Tryz.prog) w 9998 9 f f' Tryz.underlying9
 rw [zdz] at e2
 have a3:=run_part_plain (P:=Tryz.prog) (w:=w) (e:=51) (by kernel_rfl) (xs:=#[.int .i64 k,.int .u64 u,.string f,.int .u64 q,.string s,.int .i64 m,.int .u64 n,.int .i64 t]) (off:=3) rfl
 have b3:=run_part_plain (P:=Tryz.prog) (w:=w) (e:=51) (by kernel_rfl) (xs:=#[.int .i64 k',.int .u64 u',.string f',.int .u64 q',.string s',.int .i64 m',.int .u64 n',.int .i64 t']) (off:=3) rfl
 have e3:=run_equalIn_int (P:=Tryz.prog) w 9998 51 .u64 .u64 q q' Tryz.underlying51
 have a4:=run_part_plain (P:=Tryz.prog) (w:=w) (e:=9) (by kernel_rfl) (xs:=#[.int .i64 k,.int .u64 u,.string f,.int .u64 q,.string s,.int .i64 m,.int .u64 n,.int .i64 t]) (off:=4) rfl
 have b4:=run_part_plain (P:=Tryz.prog) (w:=w) (e:=9) (by kernel_rfl) (xs:=#[.int .i64 k',.int .u64 u',.string f',.int .u64 q',.string s',.int .i64 m',.int .u64 n',.int .i64 t']) (off:=4) rfl
 have e4:=run_equalIn_string (P:=Tryz.prog) w 9998 9 s s' Tryz.underlying9
 rw [zdz] at e4
 have a5:=run_part_plain (P:=Tryz.prog) (w:=w) (e:=3) (by kernel_rfl) (xs:=#[.int .i64 k,.int .u64 u,.string f,.int .u64 q,.string s,.int .i64 m,.int .u64 n,.int .i64 t]) (off:=5) rfl
 have b5:=run_part_plain (P:=Tryz.prog) (w:=w) (e:=3) (by kernel_rfl) (xs:=#[.int .i64 k',.int .u64 u',.string f',.int .u64 q',.string s',.int .i64 m',.int .u64 n',.int .i64 t']) (off:=5) rfl
 have e5:=run_equalIn_int (P:=Tryz.prog) w 9998 3 .i64 .i64 m m' Tryz.underlying3
 have a6:=run_part_plain (P:=Tryz.prog) (w:=w) (e:=51) (by kernel_rfl) (xs:=#[.int .i64 k,.int .u64 u,.string f,.int .u64 q,.string s,.int .i64 m,.int .u64 n,.int .i64 t]) (off:=6) rfl
 have b6:=run_part_plain (P:=Tryz.prog) (w:=w) (e:=51) (by kernel_rfl) (xs:=#[.int .i64 k',.int .u64 u',.string f',.int .u64 q',.string s',.int .i64 m',.int .u64 n',.int .i64 t']) (off:=6) rfl
 have e6:=run_equalIn_int (P:=Tryz.prog) w 9998 51 .u64 .u64 n n' Tryz.underlying51
 have a7:=run_part_plain (P:=Tryz.prog) (w:=w) (e:=3) (by kernel_rfl) (xs:=#[.int .i64 k,.int .u64 u,.string f,.int .u64 q,.string s,.int .i64 m,.int .u64 n,.int .i64 t]) (off:=7) rfl
 have b7:=run_part_plain (P:=Tryz.prog) (w:=w) (e:=3) (by kernel_rfl) (xs:=#[.int .i64 k',.int .u64 u',.string f',.int .u64 q',.string s',.int .i64 m',.int .u64 n',.int .i64 t']) (off:=7) rfl
 have e7:=run_equalIn_int (P:=Tryz.prog) w 9998 3 .i64 .i64 t t' Tryz.underlying3
 simp only [Program.fieldsOf,Tryz.underlying80]
 exact zaI (by decide) a0 b0 e0 (zaI (by decide) a1 b1 e1 (zaI (by decide) a2 b2 e2 (zaI (by decide) a3 b3 e3 (zaI (by decide) a4 b4 e4 (zaI (by decide) a5 b5 e5 (zaI (by decide) a6 b6 e6 (zaI (by decide) a7 b7 e7 ziU)))))))
theorem zoG (c d:K) (b:Bool) (hb:decide (c=d)=b) (w:World):(Op.equalIn 10000 80 (val c) (val d)).run Tryz.prog w=.ok b w:=by
 subst hb
 obtain ⟨k,u,f,q,s,m,n,t⟩:=c
 obtain ⟨k',u',f',q',s',m',n',t'⟩:=d
 rw [zmG]
 exact znE k u f q s m n t k' u' f' q' s' m' n' t' w
theorem zh7:Tryz.prog.eqGuardType Tryz.prog.depth 80=false:=by kernel_rfl
end Go.Proofs.YtnjdckoljmgcjaaGreatDoor
