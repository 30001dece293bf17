/-
  The laws' fits (moothilllaw15), of one step that has states.
-/
import Derived.Test.YtnjdckoljmgcjaaGreatDoorW38
set_option maxRecDepth 100000
set_option maxHeartbeats 4000000
namespace Go.Proofs.YtnjdckoljmgcjaaGreatDoor
open Go.ChangeShapes Go.WideShapes Go.ChangeAt Go.RowKit Go.Maps Go.WideMaps
set_option linter.unusedVariables false
set_option linter.unusedSimpArgs false
theorem zvp (l:List J) (j:Nat) (hj:j<l.length) (x:J):zkc (zaQ l) (j * 22) (jC x)=zaQ (l.set j x):=by
 refine zqH (by rw [zgQ,zbd,List.length_set]) fun p i hp hi=>?_
 have hp2:p<l.length:=by simpa using hp
 rw [zhh,zbd,zgH]
 by_cases hpj:p=j
 ·subst hpj
  rw [List.getElem_set_self,if_pos (by omega),show p * 22+i - p * 22=i by omega]
 ·rw [if_neg (by omega),zd1 hp2 hi,List.getElem_set_ne (Ne.symm hpj)]
theorem zjX {w:World} {base b cap nn:Nat} {T:TypeId} {X:List J} (h:w.ownsRow base T 22 (.slice (some ⟨b,0,none⟩) nn cap) nn (zaQ X)) {k:Nat} (hk:k≤X.length):∀j u,(zaQ (X.take k))[j]?=some u→w.cell? ((⟨b,0,none⟩:Addr).add j)=some u:=fun j u hu=>by
 have hn:nn=X.length:=by have:=h.1;rw [zbd] at this;omega
 have hj:=(List.getElem?_eq_some_iff.1 hu).1
 rw [zbd,List.length_take] at hj
 rw [zh0 X k hk,List.getElem?_take,if_pos (by omega)] at hu
 rw [Addr.add_mid,Nat.zero_add,h.cellAt j (by omega)]
 exact hu
theorem zoF {w:World} {base b cap nn:Nat} {T:TypeId} {X:List J} (h:w.ownsRow base T 22 (.slice (some ⟨b,0,none⟩) nn cap) nn (zaQ X)) {k:Nat} (hk:k≤X.length):∀j u,(zaQ (X.drop k))[j]?=some u→w.cell? ((⟨b,k * 22,none⟩:Addr).add j)=some u:=fun j u hu=>by
 have hn:nn=X.length:=by have:=h.1;rw [zbd] at this;omega
 have hj:=(List.getElem?_eq_some_iff.1 hu).1
 rw [zbd,List.length_drop] at hj
 rw [znW X k hk,List.getElem?_drop] at hu
 rw [Addr.add_mid,h.cellAt (k * 22+j) (by omega)]
 exact hu
theorem znu {w:World} {base b cap nn:Nat} {T:TypeId} {l:List J} (h:w.ownsRow base T 22 (.slice (some ⟨b,0,none⟩) nn cap) nn (zaQ l)) {j:Nat} (hj:j<l.length):w.there b (j * 22) 22:=fun i hi=>by
 have hn:nn=l.length:=by have:=h.1;rw [zbd] at this;omega
 refine ⟨?_,h.frozenAt _⟩
 rw [h.cellAt (j * 22+i) (by omega),zd1 hj (by omega)]
 have:i<(jC l[j]).length:=by rw [zgH];exact hi
 rw [List.getElem?_eq_getElem this]
 rfl
def EnV (w:World) (k:Nat) (u:Value) (l:List J) (i:Nat) (ov:Value) (ks:List IdT) (wr:World):Prop :=
 Blk wr k 36 #[u]∧wr.ownsRow k 83 22 ov ks.length (zaQ (ks.map (mkV (l.take i))))∧Below k w wr∧EntV (l.take i) ks∧ks.length≤i
section
variable {w wr w':World} {k:Nat} {u:Value} {l:List J} {i:Nat} {ov:Value} {ks:List IdT}
theorem EnV.on (h:EnV w k u l i ov ks wr) (hb:Below wr.heap.size wr w'):EnV w k u l i ov ks w' :=
 ⟨h.1.below hb h.1.lt,zcc h.2.1 hb,h.2.2.1.trans (hb.mono (by have:=h.1.lt;omega)),h.2.2.2⟩
theorem EnV.box (h:EnV w k u l i ov ks wr):Blk wr k 36 #[u]:=h.1
theorem EnV.row (h:EnV w k u l i ov ks wr):wr.ownsRow k 83 22 ov ks.length (zaQ (ks.map (mkV (l.take i)))):=h.2.1
theorem EnV.bel (h:EnV w k u l i ov ks wr):Below k w wr:=h.2.2.1
theorem EnV.ent (h:EnV w k u l i ov ks wr):EntV (l.take i) ks:=h.2.2.2.1
theorem EnV.le (h:EnV w k u l i ov ks wr):ks.length≤i:=h.2.2.2.2
end
theorem zkw (base:Nat) (u:Value) (l:List J) (w:World) (h:DocX base w u l) (hl:l.length≤900) :
  Calls Tryz.prog 35 #[.agg #[u]] w fun e w'=>∃u' ks,e=.returned u'∧w'.ownsRow w.heap.size 83 22 u' (List.length ks) (zaQ (ks.map (mkV l)))∧EntV l ks∧ks.length≤l.length∧Below w.heap.size w w':=by
 have HD:=hid h
 obtain ⟨A,cap,rfl,hA0,hA1⟩:=zaM h
 have HA0:=hid hA0
 have HA1:=hid hA1
 obtain ⟨i0,hi0,hz0,hz1,hz2⟩:=info_parts zfX
 have HI:=hid (And.intro hi0 (And.intro hz0 (And.intro hz1 hz2)))
 clear h hA0 hA1 hi0 hz0 hz1 hz2
 obtain ⟨n,hn⟩:∃n,l.length=n:=⟨_,rfl⟩
 have HN:=hid hn
 unfold DocX at HD
 rw [hn] at HD HA0 HA1 hl ⊢
 clear hn
 go_enter Tryz.func35,Tryz.ntmps35
 go_wp2
 obtain ⟨W,hW⟩:∃W,w.alloc (.cells #[.slice A n cap] 36)=W:=⟨_,rfl⟩
 rw [hW]
 obtain ⟨K0,KB⟩:=za1 hW
 clear hW
 obtain ⟨k,hk⟩:∃k,w.heap.size=k:=⟨_,rfl⟩
 rw [hk] at K0 KB
 rw [hk]
 have HK:=hid hk
 clear hk
 have N0:Hid (EnV w k (.slice A n cap) l 0 (.slice none 0 0) [] W):=hid ⟨K0.out,World.ownsRow_nil _ _ _ _,KB.out,EntV.nil,Nat.le_refl _⟩
 clear K0 KB
 go_loopw [3,4] (fun ov iv wr=>∃(i:Nat) (ks:List IdT),i≤n∧iv=.int .i64 (i:Int)∧Hid (EnV w k (.slice A n cap) l i ov ks wr)) (fun _ iv _=>n - (intOf iv).toNat)
 case atStart=>exact ⟨0,[],Nat.zero_le _,rfl,N0⟩
 case round =>
  obtain ⟨i,ks,hi,rfl,HE⟩:=hrel
  clear N0
  have e0:wr.cell? ⟨k,0,none⟩=some (.slice A n cap):=(HE.out.box.cell 0).trans rfl
  by_cases hlt:i<n
  ·have hltl:i<l.length:=by rw [HN.out];exact hlt
   have hlti:(i:Int)<(n:Int):=by omega
   obtain ⟨bv,rfl,hbv⟩:∃bv,A=some ⟨bv,0,none⟩∧bv<k:=by
    cases A with
    | none=>have:=HA0.out rfl;omega
    | some a=>obtain ⟨b,rfl,_,_,h⟩:=HA1.out a rfl;exact ⟨b,rfl,by rw [←HK.out];exact h⟩
   have RL:=hid (fun (wx:World) (hb:Below k w wx)=>(zfS HD.out hltl).below_ hb hbv)
   have HTk:Hid (l.take (i+1)=l.take i ++ [l[i]]):=hid (List.take_succ_eq_append_getElem hltl)
   obtain ⟨B,cb,rfl,hB0,hB1⟩:=zaM HE.out.row
   have HB0:=hid hB0
   have HB1:=hid hB1
   have hki:=HE.out.le
   clear hB0 hB1
   obtain ⟨x,hx⟩:∃x,l[i]=x:=⟨_,rfl⟩
   rw [hx] at RL HTk
   clear hx
   go_wp2_with fail
   go_loopw [5] (fun kv wx=>∃kk:Nat,kk≤ks.length∧kv=.int .i64 (kk:Int)∧Hid (zfg ks (x.r,x.s) kk)∧Hid (EnV w k (.slice (some ⟨bv,0,none⟩) n cap) l i (.slice B ks.length cb) ks wx)) (fun kv _=>ks.length - (intOf kv).toNat)
   case atStart=>exact ⟨0,Nat.zero_le _,rfl,hid (zfg.zero _ _),HE⟩
   case round =>
    obtain ⟨kk,hkk,rfl,HP,HW⟩:=hrel
    clear HE e0
    have e0:wr.cell? ⟨k,0,none⟩=some (.slice (some ⟨bv,0,none⟩) n cap):=(HW.out.box.cell 0).trans rfl
    by_cases hkl:kk<ks.length
    ·obtain ⟨b,rfl,hb,hbc,hbs⟩:∃b,B=some ⟨b,0,none⟩∧k≤b∧ks.length≤cb∧True:=by
      cases B with
      | none=>have:=HB0.out rfl;omega
      | some a=>obtain ⟨b,rfl,h1,h2,_⟩:=HB1.out a rfl;exact ⟨b,rfl,h1,h2,trivial⟩
     have hkli:(kk:Int)<(ks.length:Int):=by omega
     have RK:=hid (zfS HW.out.row (j:=kk) (by simpa using hkl))
     rw [List.getElem_map] at RK
     have HP2:=hid (HP.out.succ hkl)
     obtain ⟨y,hy⟩:∃y,ks[kk]=y:=⟨_,rfl⟩
     have HY:=hid hy
     rw [hy] at RK HP2
     clear hy
     have HYi:=hid (zsY (l.take i) y)
     obtain ⟨yj,hyj⟩:∃z,mkV (l.take i) y=z:=⟨_,rfl⟩
     rw [hyj] at RK HYi
     have hbw:b<wr.heap.size:=(HW.out.row.lt b rfl).2
     have A0:=hid (HW.out.on (zag (Below.refl _ _)))
     have RL0:=hid (RL.out _ A0.out.bel)
     have RK0:Hid (wr.drew.rangeAt b (kk * 22) (jC yj)):=hid (RK.out.below_ (zag (Below.refl _ _)) hbw)
     have LI:=hid (zfm x.r x.s)
     have LJ:=hid (zfm yj.r yj.s)
     have HBf:=hid (fun w=>zja yj.r yj.s x.r x.s w)
     obtain ⟨bf,hbf⟩:∃q,decide (cmpI (yj.r,yj.s) (x.r,x.s)<0)=q:=⟨_,rfl⟩
     rw [hbf] at HBf
     have hyy:((yj.r,yj.s):IdT)=y:=Prod.ext HYi.out.1 HYi.out.2
     rw [hyy] at hbf
     have HBF:=hid hbf
     have HYY:=hid hyy
     clear hbf hyy hyj RK
     go_upto_region 6 with fail
     clear e0
     refine wp_region_held_drew (S:=fun w'=>Blk w' k 36 #[.slice (some ⟨bv,0,none⟩) n cap]∧w'.rangeAt b (kk * 22) (jC yj)∧w'.rangeAt bv (i * 22) (jC x)) (by kernel_rfl) (by exact ⟨A0.out.box,RK0.out,RL0.out⟩) (fun hHeld=>?_)
     refine ta 0 rfl hHeld ?_
     refine ta 1 rfl hHeld ?_
     refine ta 2 rfl hHeld ?_
     refine ta 3 rfl hHeld ?_
     refine ta 4 rfl hHeld ?_
     refine ta 5 rfl hHeld ?_
     refine ta 6 rfl hHeld ?_
     refine ta 7 rfl hHeld ?_
     refine ta 8 rfl hHeld ?_
     try simp only [Act.put,g1,g2,g3,g4,g5,g6]
     refine tk 9 ((nm yj.r yj.s)) rfl (fun _ _ _ h=>h) (za7 (by kernel_rfl) 78 (.tmp 22) rfl b (kk * 22) rfl ([.int .i64 yj.r,.int .i64 yj.s]) _ (fun _ h=>zfj (And.left (And.right h))) Tryz.underlying78 rfl LJ.out) hHeld ?_
     try simp only [Act.put,g1,g2,g3,g4,g5,g6]
     refine ta 10 rfl hHeld ?_
     try simp only [Act.put,g1,g2,g3,g4,g5,g6]
     refine tl 11 ?_ rfl ?_ hHeld ?_
     rotate_left 1
     focus (intro w' hSw;(try dsimp only at hSw);(have q0:w'.cell? ⟨k,0,none⟩=some (.slice (some ⟨bv,0,none⟩) n cap):=((And.left hSw).cell 0).trans rfl);go_simp;try with_reducible rfl)
     try simp only [Act.put,g1,g2,g3,g4,g5,g6]
     refine ta 12 rfl hHeld ?_
     refine ta 13 rfl hHeld ?_
     refine ta 14 rfl hHeld ?_
     try simp only [Act.put,g1,g2,g3,g4,g5,g6]
     refine tk 15 ((nm x.r x.s)) rfl (fun _ _ _ h=>h) (za7 (by kernel_rfl) 78 (.tmp 28) rfl bv (i * 22) rfl ([.int .i64 x.r,.int .i64 x.s]) _ (fun _ h=>zfj (And.right (And.right h))) Tryz.underlying78 rfl LI.out) hHeld ?_
     try simp only [Act.put,g1,g2,g3,g4,g5,g6]
     refine wpAnyH_ready (rs:=[16]) (by kernel_rfl) (by simp) ?_
     refine AllReadyH.cons (o:=_) rfl (fun K hK=>?_) AllReadyH.nil
     go_simp
     go_at_call 69
     with_reducible refine (HBf.out _).mono ?_
     rintro e w3 ⟨rfl,hb3⟩
     have A1:=hid (A0.out.on hb3)
     have RL1:=hid (RL.out _ A1.out.bel)
     have RK1:=hid (RK0.out.below_ hb3 (by show b<wr.heap.size;omega))
     clear hb3
     refine hK.out _ _ (by exact ⟨A1.out.box,RK1.out,RL1.out⟩) (fun hHeld=>?_)
     clear hK K
     try simp only [Act.put,g1,g2,g3,g4,g5,g6]
     refine ta 17 rfl hHeld ?_
     try simp only [Act.put,g1,g2,g3,g4,g5,g6]
     refine wpAnyH_done (by kernel_rfl) ?_ _
     clear hHeld
     clear A0 RK0 RL0 HBf
     cases bf
     ·have HQ:Hid (¬cmpI y (x.r,x.s)<0):=hid (of_decide_eq_false HBF.out)
      have e0:w3.cell? ⟨k,0,none⟩=some (.slice (some ⟨bv,0,none⟩) n cap):=(A1.out.box.cell 0).trans rfl
      have d0:w3.cell? ⟨bv,i * 22,none⟩=some (.int .i64 x.r):=RL1.out 0 _ rfl
      have d1:w3.cell? ⟨bv,i * 22+1,none⟩=some (.int .i64 x.s):=RL1.out 1 _ rfl
      have c0:w3.cell? ⟨b,kk * 22,none⟩=some (.int .i64 yj.r):=RK1.out 0 _ rfl
      have c1:w3.cell? ⟨b,kk * 22+1,none⟩=some (.int .i64 yj.s):=RK1.out 1 _ rfl
      obtain ⟨nn,hnn⟩:∃a,(yj.r == x.r && yj.s == x.s)=a:=⟨_,rfl⟩
      have EQ:=zgR yj.r yj.s x.r x.s nn hnn
      have EG:=ze4
      have HNN:Hid (nn=true ↔ y=(x.r,x.s)):=hid (by
       rw [←hnn,←HYY.out,Prod.ext_iff]
       simp)
      clear hnn
      go_upto_region 8 with fail
      go_quiet (fail)
      have A2:=hid (A1.out.on (zav (Below.refl _ _) nq))
      obtain ⟨wz,hwz⟩:∃z,w3.drewN nq=z:=⟨_,rfl⟩
      rw [hwz] at A2
      rw [hwz]
      clear hwz A1 RL1 RK1 e0 d0 d1 c0 c1 EQ EG
      cases nn
      ·have HNK:Hid (NotV ks kk (x.r,x.s)):=hid (fun _=>by rw [HY.out];exact ⟨HQ.out,fun e=>by have:=HNN.out.2 e;simp at this⟩)
       have HEnt:=hid (A2.out.ent.new (n:=x) HP.out HNK.out)
       have HRow:=hid (zji (l:=l.take i) (n:=x) (k:=kk) (zfO A2.out.ent.1 HP.out HNK.out))
       rw [←HTk.out] at HEnt HRow
       obtain ⟨X,hX⟩:∃X,ks.map (mkV (l.take i))=X:=⟨_,rfl⟩
       have hXl:X.length=ks.length:=by rw [←hX];simp
       rw [hX] at HRow
       have OW:Hid (wz.ownsRow k 83 22 (.slice (some ⟨b,0,none⟩) ks.length cb) ks.length (zaQ X)):=hid (by rw [←hX];exact A2.out.row)
       have hkl9:ks.length≤900:=by have:=A2.out.le;omega
       have hkwz:k<wz.heap.size:=A2.out.box.lt
       go_upto_region 12 with (first
        | (at_builtin;refine zan rfl (.tmp 60) (.tmp 63) 34 rfl wz.heap.size 83 i0 (.agg (rowJ zau)) 22 184 Tryz.underlying34 HI.out.1 HI.out.2.1 HI.out.2.2.1 HI.out.2.2.2 rfl (by decide) (.slice none 0 0) 0 [] rfl (World.ownsRow_nil _ _ _ _) (some ⟨b,0,none⟩) kk cb (zaQ (X.take kk)) rfl (fun h=>by cases h) (by rw [zbd,List.length_take];omega) (fun ad h=>by injection h with h;subst h;exact zjX OW.out (by omega)) (zdN _) (by unfold maxLen;omega) (by omega) (Nat.le_refl _) ?_;intro v1 w1 hown1 hg1))
       have O1:=hid hown1
       have Z1:Hid (Below wz.heap.size wz w1):=hid (Below.of_grown hg1)
       have E1:=hid (A2.out.on Z1.out)
       have RX1:=hid (RL.out _ E1.out.bel)
       clear hown1 hg1
       have e0:w1.cell? ⟨k,0,none⟩=some (.slice (some ⟨bv,0,none⟩) n cap):=(E1.out.box.cell 0).trans rfl
       have LXx:=hid (zhv x)
       have HBx:=hid (zd0 x)
       go_upto_region 13 with (first
        | (with_reducible refine wpList_load_mid (op:=⟨some 70,_,_,_,_,_⟩) rfl 83 (.tmp 69) rfl bv (i * 22) rfl (jC x) _ RX1.out Tryz.underlying83 rfl LXx.out ?_;rw [zeD])
        | (with_reducible refine zbj (o:=⟨some 71,_,_,_,_,_⟩) rfl 34 83 (.tmp 70) rfl (rowJ x) rfl HBx.out ?_)
        | (at_builtin;refine wpList_append_own _ rfl (.tmp 65) (.tmp 71) 34 rfl wz.heap.size 83 i0 (.agg (rowJ zau)) 22 184 Tryz.underlying34 HI.out.1 HI.out.2.1 HI.out.2.2.1 HI.out.2.2.2 rfl (by decide) v1 (0+kk) ([] ++ zaQ (X.take kk)) rfl (zcc O1.out ((Below.refl _ _).alloc (Nat.le_refl _) _)) ⟨w1.heap.size,0,none⟩ 1 1 (jC x) rfl rfl (zlB _ _ _) (zf5 _) (by unfold maxLen;omega) (by omega) (by have:=Z1.out.size;simp;omega) ?_;intro v2 w2 hown2 hg2 _))
       have O2:=hid hown2
       have Z2:Hid (Below wz.heap.size wz w2):=hid ((Z1.out.alloc Z1.out.size _).grown hg2 (by have:=Z1.out.size;simp;omega) (fun b' hb'=>(World.ownsRow.lt O1.out b' hb').1))
       have OW2:=hid (zcc OW.out Z2.out)
       clear hown2 hg2 O1 RX1 e0 E1
       go_wp2_with (first
        | (at_builtin;refine zan rfl (.tmp 73) (.tmp 76) 34 rfl wz.heap.size 83 i0 (.agg (rowJ zau)) 22 184 Tryz.underlying34 HI.out.1 HI.out.2.1 HI.out.2.2.1 HI.out.2.2.2 rfl (by decide) v2 (0+kk+1) ([] ++ zaQ (X.take kk) ++ jC x) rfl O2.out (some ⟨b,kk * 22,none⟩) (ks.length - kk) (cb - kk) (zaQ (X.drop kk)) rfl (fun h=>by cases h) (by rw [zbd,List.length_drop];omega) (fun ad h=>by injection h with h;subst h;exact zoF OW2.out (by omega)) (zdN _) (by unfold maxLen;omega) (by omega) Z2.out.size ?_;intro v3 w3' hown3 hg3))
       have Z3:Hid (Below wz.heap.size wz w3'):=hid (Z2.out.grown hg3 Z2.out.size (fun b' hb'=>(World.ownsRow.lt O2.out b' hb').1))
       have E3:=hid (A2.out.on Z3.out)
       have FIN:Hid (EnV w k (.slice (some ⟨bv,0,none⟩) n cap) l (i+1) v3 (ks.take kk ++ [((x.r,x.s):IdT)] ++ ks.drop kk) w3'):=hid ⟨E3.out.box,by
         rw [HRow.out,zdk,zdk]
         have e:0+kk+1+(ks.length - kk)=(ks.take kk ++ [((x.r,x.s):IdT)] ++ ks.drop kk).length:=by simp <;> omega
         rw [←e]
         exact za3 (by simpa [zaQ] using hown3) (Nat.le_of_lt hkwz),E3.out.bel,HEnt.out,by have h9:=A2.out.le;first | (simp;omega) | simp⟩
       clear hown3 hg3 Z3 O2 OW OW2 E3
       go_wp2
       go_roundw
       case rel=>exact ⟨i+1,_,by omega,by go_num,FIN⟩
       case measure=>simp only [intOf];omega
      ·have HEQ:Hid (y=(x.r,x.s)):=hid (HNN.out.1 rfl)
       have RX:=hid (RL.out _ A2.out.bel)
       have hkm:((x.r,x.s):IdT)∈ks:=by rw [←HEQ.out,←HY.out];exact List.getElem_mem hkl
       have HEnt:=hid (A2.out.ent.same (n:=x) hkm)
       have HRow:=hid (zoK (n:=x) (l:=l.take i) A2.out.ent.1 hkl (by rw [HY.out];exact HEQ.out))
       rw [←HTk.out] at HEnt HRow
       obtain ⟨X,hX⟩:∃X,ks.map (mkV (l.take i))=X:=⟨_,rfl⟩
       have hXl:kk<X.length:=by rw [←hX];simpa using hkl
       rw [hX] at HRow
       have OW:Hid (wz.ownsRow k 83 22 (.slice (some ⟨b,0,none⟩) ks.length cb) ks.length (zaQ X)):=hid (by rw [←hX];exact A2.out.row)
       have n1:=zdm A2.out.row A2.out.box (by decide)
       have hst:=zkA wz b (kk * 22) (rowJ x) (znu OW.out hXl) (zaS x)
       obtain ⟨o1,o2⟩:=zjm (jC x) (kk * 22) wz _ OW.out
       rw [zvp X kk hXl x] at o1
       have FIN:Hid (EnV w k (.slice (some ⟨bv,0,none⟩) n cap) l (i+1) (.slice (some ⟨b,0,none⟩) ks.length cb) ks (wz.setCells b (kk * 22) (rowJ x).toList)):=hid ⟨A2.out.box.grown o2 (by have:=n1;simpa [Value.ownBlock] using (fun e=>n1 (by rw [e];rfl))),by rw [HRow.out];exact o1,A2.out.bel.trans (zci o2 hb (by have:=A2.out.box.lt;omega)),HEnt.out,by omega⟩
       have e0:wz.cell? ⟨k,0,none⟩=some (.slice (some ⟨bv,0,none⟩) n cap):=(A2.out.box.cell 0).trans rfl
       have LXx:=hid (zhv x)
       clear o1 o2 n1 OW A2
       go_wp2_with (first
        | (with_reducible refine wpList_load_mid (op:=⟨some 58,_,_,_,_,_⟩) rfl 83 (.tmp 57) rfl bv (i * 22) rfl (jC x) _ RX.out Tryz.underlying83 rfl LXx.out ?_;rw [zeD]))
       clear hst
       go_roundw
       case rel=>exact ⟨i+1,_,by omega,by go_num,FIN⟩
       case measure=>simp only [intOf];omega
     ·have HQ:=hid (HP2.out (of_decide_eq_true HBF.out))
      go_wp2
      go_roundw
      case rel=>exact ⟨kk+1,by omega,by go_num,HQ,A1⟩
      case measure=>simp only [intOf];omega
    ·obtain rfl:kk=ks.length:=by omega
     have hnk:¬(ks.length:Int)<(ks.length:Int):=by omega
     have HNK:Hid (NotV ks ks.length (x.r,x.s)):=hid (fun h=>absurd h hkl)
     go_wp2_with fail
     go_quiet (fail)
     generalize nq=nq1
     go_wp2_with fail
     go_quiet (fail)
     obtain ⟨wz,hwz⟩:∃z,(wr.drewN nq1).drewN nq=z:=⟨_,rfl⟩
     have A2:=hid ((HW.out.on (zav (Below.refl _ _) nq1)).on (zav (Below.refl _ _) nq))
     rw [hwz] at A2
     rw [hwz]
     clear hwz HW e0
     cases B with
     | some ad =>
      obtain ⟨b,rfl,hb,hbc,_⟩:=HB1.out ad rfl
      have HEnt:=hid (A2.out.ent.new (n:=x) HP.out HNK.out)
      have HRow:=hid (zji (l:=l.take i) (n:=x) (k:=ks.length) (zfO A2.out.ent.1 HP.out HNK.out))
      rw [←HTk.out] at HEnt HRow
      obtain ⟨X,hX⟩:∃X,ks.map (mkV (l.take i))=X:=⟨_,rfl⟩
      have hXl:X.length=ks.length:=by rw [←hX];simp
      rw [hX] at HRow
      have OW:Hid (wz.ownsRow k 83 22 (.slice (some ⟨b,0,none⟩) ks.length cb) ks.length (zaQ X)):=hid (by rw [←hX];exact A2.out.row)
      have hkl9:ks.length≤900:=by have:=A2.out.le;omega
      have hkwz:k<wz.heap.size:=A2.out.box.lt
      go_upto_region 12 with (first
       | (at_builtin;refine zan rfl (.tmp 60) (.tmp 63) 34 rfl wz.heap.size 83 i0 (.agg (rowJ zau)) 22 184 Tryz.underlying34 HI.out.1 HI.out.2.1 HI.out.2.2.1 HI.out.2.2.2 rfl (by decide) (.slice none 0 0) 0 [] rfl (World.ownsRow_nil _ _ _ _) (some ⟨b,0,none⟩) ks.length cb (zaQ (X.take ks.length)) rfl (fun h=>by cases h) (by rw [zbd,List.length_take];omega) (fun ad h=>by injection h with h;subst h;exact zjX OW.out (by omega)) (zdN _) (by unfold maxLen;omega) (by omega) (Nat.le_refl _) ?_;intro v1 w1 hown1 hg1))
      have O1:=hid hown1
      have Z1:Hid (Below wz.heap.size wz w1):=hid (Below.of_grown hg1)
      have E1:=hid (A2.out.on Z1.out)
      have RX1:=hid (RL.out _ E1.out.bel)
      clear hown1 hg1
      have e0:w1.cell? ⟨k,0,none⟩=some (.slice (some ⟨bv,0,none⟩) n cap):=(E1.out.box.cell 0).trans rfl
      have LXx:=hid (zhv x)
      have HBx:=hid (zd0 x)
      go_upto_region 13 with (first
       | (with_reducible refine wpList_load_mid (op:=⟨some 70,_,_,_,_,_⟩) rfl 83 (.tmp 69) rfl bv (i * 22) rfl (jC x) _ RX1.out Tryz.underlying83 rfl LXx.out ?_;rw [zeD])
       | (with_reducible refine zbj (o:=⟨some 71,_,_,_,_,_⟩) rfl 34 83 (.tmp 70) rfl (rowJ x) rfl HBx.out ?_)
       | (at_builtin;refine wpList_append_own _ rfl (.tmp 65) (.tmp 71) 34 rfl wz.heap.size 83 i0 (.agg (rowJ zau)) 22 184 Tryz.underlying34 HI.out.1 HI.out.2.1 HI.out.2.2.1 HI.out.2.2.2 rfl (by decide) v1 (0+ks.length) ([] ++ zaQ (X.take ks.length)) rfl (zcc O1.out ((Below.refl _ _).alloc (Nat.le_refl _) _)) ⟨w1.heap.size,0,none⟩ 1 1 (jC x) rfl rfl (zlB _ _ _) (zf5 _) (by unfold maxLen;omega) (by omega) (by have:=Z1.out.size;simp;omega) ?_;intro v2 w2 hown2 hg2 _))
      have O2:=hid hown2
      have Z2:Hid (Below wz.heap.size wz w2):=hid ((Z1.out.alloc Z1.out.size _).grown hg2 (by have:=Z1.out.size;simp;omega) (fun b' hb'=>(World.ownsRow.lt O1.out b' hb').1))
      have OW2:=hid (zcc OW.out Z2.out)
      clear hown2 hg2 O1 RX1 e0 E1
      go_wp2_with (first
       | (at_builtin;refine zan rfl (.tmp 73) (.tmp 76) 34 rfl wz.heap.size 83 i0 (.agg (rowJ zau)) 22 184 Tryz.underlying34 HI.out.1 HI.out.2.1 HI.out.2.2.1 HI.out.2.2.2 rfl (by decide) v2 (0+ks.length+1) ([] ++ zaQ (X.take ks.length) ++ jC x) rfl O2.out (if cb=ks.length then some ⟨b,0,none⟩ else some ⟨b,ks.length * 22,none⟩) 0 (cb - ks.length) (zaQ (X.drop ks.length)) rfl (fun h=>by split at h <;> cases h) (by rw [zbd,List.length_drop];omega) (fun ad h j u hu=>absurd (List.getElem?_eq_some_iff.1 hu).1 (by rw [zbd,List.length_drop];omega)) (zdN _) (by unfold maxLen;omega) (by omega) Z2.out.size ?_;intro v3 w3' hown3 hg3))
      have Z3:Hid (Below wz.heap.size wz w3'):=hid (Z2.out.grown hg3 Z2.out.size (fun b' hb'=>(World.ownsRow.lt O2.out b' hb').1))
      have E3:=hid (A2.out.on Z3.out)
      have FIN:Hid (EnV w k (.slice (some ⟨bv,0,none⟩) n cap) l (i+1) v3 (ks.take ks.length ++ [((x.r,x.s):IdT)] ++ ks.drop ks.length) w3'):=hid ⟨E3.out.box,by
        rw [HRow.out,zdk,zdk]
        have e:0+ks.length+1+0=(ks.take ks.length ++ [((x.r,x.s):IdT)] ++ ks.drop ks.length).length:=by simp <;> omega
        rw [←e]
        exact za3 (by simpa [zaQ] using hown3) (Nat.le_of_lt hkwz),E3.out.bel,HEnt.out,by have h9:=A2.out.le;first | (simp;omega) | simp⟩
      clear hown3 hg3 Z3 O2 OW OW2 E3
      go_wp2
      go_roundw
      case rel=>exact ⟨i+1,_,by omega,by go_num,FIN⟩
      case measure=>simp only [intOf];omega
     | none =>
      obtain ⟨c0,k0⟩:=HB0.out rfl
      have hks:ks=[]:=List.eq_nil_of_length_eq_zero k0
      subst hks
      subst c0
      have HEnt:=hid (A2.out.ent.new (n:=x) HP.out HNK.out)
      have HRow:=hid (zji (l:=l.take i) (n:=x) (k:=0) (zfO A2.out.ent.1 HP.out HNK.out))
      rw [←HTk.out] at HEnt HRow
      obtain ⟨X,hX⟩:∃X,([]:List IdT).map (mkV (l.take i))=X:=⟨_,rfl⟩
      have hXl:X.length=0:=by rw [←hX];simp
      rw [hX] at HRow
      have OW:Hid (wz.ownsRow k 83 22 (.slice none ([]:List IdT).length 0) ([]:List IdT).length (zaQ X)):=hid (by rw [←hX];exact A2.out.row)
      have hkl9:([]:List IdT).length≤900:=by have:=A2.out.le;omega
      have hkwz:k<wz.heap.size:=A2.out.box.lt
      go_upto_region 12 with (first
       | (at_builtin;refine zan rfl (.tmp 60) (.tmp 63) 34 rfl wz.heap.size 83 i0 (.agg (rowJ zau)) 22 184 Tryz.underlying34 HI.out.1 HI.out.2.1 HI.out.2.2.1 HI.out.2.2.2 rfl (by decide) (.slice none 0 0) 0 [] rfl (World.ownsRow_nil _ _ _ _) none 0 0 (zaQ (X.take 0)) rfl (fun _=>⟨rfl,rfl⟩) (by rw [zbd,List.length_take];omega) (fun ad h=>by cases h) (zdN _) (by unfold maxLen;omega) (by omega) (Nat.le_refl _) ?_;intro v1 w1 hown1 hg1))
      have O1:=hid hown1
      have Z1:Hid (Below wz.heap.size wz w1):=hid (Below.of_grown hg1)
      have E1:=hid (A2.out.on Z1.out)
      have RX1:=hid (RL.out _ E1.out.bel)
      clear hown1 hg1
      have e0:w1.cell? ⟨k,0,none⟩=some (.slice (some ⟨bv,0,none⟩) n cap):=(E1.out.box.cell 0).trans rfl
      have LXx:=hid (zhv x)
      have HBx:=hid (zd0 x)
      go_upto_region 13 with (first
       | (with_reducible refine wpList_load_mid (op:=⟨some 70,_,_,_,_,_⟩) rfl 83 (.tmp 69) rfl bv (i * 22) rfl (jC x) _ RX1.out Tryz.underlying83 rfl LXx.out ?_;rw [zeD])
       | (with_reducible refine zbj (o:=⟨some 71,_,_,_,_,_⟩) rfl 34 83 (.tmp 70) rfl (rowJ x) rfl HBx.out ?_)
       | (at_builtin;refine wpList_append_own _ rfl (.tmp 65) (.tmp 71) 34 rfl wz.heap.size 83 i0 (.agg (rowJ zau)) 22 184 Tryz.underlying34 HI.out.1 HI.out.2.1 HI.out.2.2.1 HI.out.2.2.2 rfl (by decide) v1 (0+0) ([] ++ zaQ (X.take 0)) rfl (zcc O1.out ((Below.refl _ _).alloc (Nat.le_refl _) _)) ⟨w1.heap.size,0,none⟩ 1 1 (jC x) rfl rfl (zlB _ _ _) (zf5 _) (by unfold maxLen;omega) (by omega) (by have:=Z1.out.size;simp;omega) ?_;intro v2 w2 hown2 hg2 _))
      have O2:=hid hown2
      have Z2:Hid (Below wz.heap.size wz w2):=hid ((Z1.out.alloc Z1.out.size _).grown hg2 (by have:=Z1.out.size;simp;omega) (fun b' hb'=>(World.ownsRow.lt O1.out b' hb').1))
      have OW2:=hid (zcc OW.out Z2.out)
      clear hown2 hg2 O1 RX1 e0 E1
      go_wp2_with (first
       | (at_builtin;refine zan rfl (.tmp 73) (.tmp 76) 34 rfl wz.heap.size 83 i0 (.agg (rowJ zau)) 22 184 Tryz.underlying34 HI.out.1 HI.out.2.1 HI.out.2.2.1 HI.out.2.2.2 rfl (by decide) v2 (0+0+1) ([] ++ zaQ (X.take 0) ++ jC x) rfl O2.out none 0 0 (zaQ (X.drop 0)) rfl (fun _=>⟨rfl,rfl⟩) (by rw [zbd,List.length_drop];omega) (fun ad h=>by cases h) (zdN _) (by unfold maxLen;omega) (by omega) Z2.out.size ?_;intro v3 w3' hown3 hg3))
      have Z3:Hid (Below wz.heap.size wz w3'):=hid (Z2.out.grown hg3 Z2.out.size (fun b' hb'=>(World.ownsRow.lt O2.out b' hb').1))
      have E3:=hid (A2.out.on Z3.out)
      have FIN:Hid (EnV w k (.slice (some ⟨bv,0,none⟩) n cap) l (i+1) v3 (([]:List IdT).take 0 ++ [((x.r,x.s):IdT)] ++ ([]:List IdT).drop 0) w3'):=hid ⟨E3.out.box,by
        rw [HRow.out,zdk,zdk]
        have e:0+0+1+0=(([]:List IdT).take 0 ++ [((x.r,x.s):IdT)] ++ ([]:List IdT).drop 0).length:=by simp <;> omega
        rw [←e]
        exact za3 (by simpa [zaQ] using hown3) (Nat.le_of_lt hkwz),E3.out.bel,HEnt.out,by have h9:=A2.out.le;first | (simp;omega) | simp⟩
      clear hown3 hg3 Z3 O2 OW OW2 E3
      go_wp2
      go_roundw
      case rel=>exact ⟨i+1,_,by omega,by go_num,FIN⟩
      case measure=>simp only [intOf];omega
  ·have hke:i=n:=by omega
   have hnI:¬(i:Int)<(n:Int):=by omega
   have HEF:Hid (EnV w k (.slice A n cap) l l.length u3 ks wr):=hid (by rw [HN.out];rw [hke] at HE;exact HE.out)
   clear HE
   go_wp2
   go_ret
   have h:=HEF.out
   refine ⟨u3,rfl,ks,?_,?_,(by have:=h.le;rw [HN.out] at this;exact this),?_⟩
   ·have h2:=h.row
    rw [List.take_length] at h2
    rw [HK.out]
    exact h2
   ·have h2:=h.ent
    rw [List.take_length] at h2
    exact h2
   ·rw [HK.out]
    exact h.bel
theorem zpZ:zaf (logR [])=picN:=rfl
theorem zpP:∀x∈picN,x<256:=zeq (rs:=[[1,1],[4]]) (by decide)
theorem zl5:0<picN.length:=by
 unfold picN
 rw [zbu,List.length_append]
 have:=zdT [1,1]
 omega
theorem zch {l:List Nat} (h:l.length≤4):Torn l:=fun r m _ e=>by
 have h1:=congrArg List.length e
 rw [List.length_append] at h1
 have:=zdT r
 omega
def picD (n:Int):Dk:=zef (newD n) 0 picN
theorem zhG (n:Int):(picD n).l 0=picN:=rfl
theorem zlQ (n:Int):(picD n).l 1=[]:=rfl
theorem zjx {n:Int} (h0:0≤n) (h1:n≤4194304):(newD n).Ok:=⟨h0,h1,by show ((([]:List Nat).length:Int))+(([]:List Nat).length:Int)≤n;simpa using h0,fun k _=>Nat.le_refl _,by show (0:Int)≤0;decide,by show (0:Int)≤_;decide⟩
theorem zjP {d:Dk} (h:d.Ok) {k:Nat} (hk:k<2) {b:List Nat} (hb:(b.length:Int)≤zcV d):(zef d k b).Ok:=zsG (h.put hk hb) hk
theorem zf4 {n:Int} (h0:100≤n) (h1:n≤4194304):(picD n).Ok:=zjP (zjx (by omega) h1) (by decide) (by
 have:=zdE
 show (picN.length:Int)≤n - (([]:List Nat).length:Int) - (([]:List Nat).length:Int)
 simp
 omega)
theorem zla {d:Dk} {good:Nat} (h0:(d.l 0).length≤good) (h1:d.l 1=[]):zco d good=(d,0):=by
 have e1:zbX d 1 0=(d,0):=by unfold zbX;rw [h1];rfl
 unfold zco
 rw [e1,if_pos rfl]
 unfold zbX
 rw [if_pos h0]
theorem zsu (w:World) (hP:zad w):Calls Tryz.prog 4 #[] w fun e w'=>e=.returned (.bool true)∧Below w.heap.size w w':=by
 have HN:=hid (fun w=>zkj 1024 w (by decide) (by decide))
 have HP:=hid hP
 clear hP
 go_enter Tryz.func4,Tryz.ntmps4
 go_wp2_with fail
 with_reducible refine (HN.out _).mono ?_
 rintro e w1 ⟨rfl,D,B⟩
 have P1:=hid (HP.out.below B)
 have A1:Hid (zaj w1 w.heap.size w.heap.size (newD 1024) noV):=hid D
 have B1:=hid B
 have HO1:=hid (zg2 w.heap.size w.heap.size (newD 1024) noV w1 D (zjx (by decide) (by decide)) rfl rfl rfl rfl (by show (100:Int)≤1024;decide) P1.out HP.out.lt)
 clear D B HN
 go_wp2_with fail
 with_reducible refine HO1.out.mono ?_
 rintro e w2 ⟨v1,m1,x1,mi1,dv2,rfl,hv,hd⟩
 have A2:Hid (DAt w.heap.size w.heap.size noV w1 (picD 1024) dv2 w2):=hid hd
 have P2:=hid (zbO P1.out A2.out.turns (fun h=>by have:=(A1.out.own h).1;have:=HP.out.lt;omega))
 have HO2:=hid (zen w.heap.size w.heap.size (picD 1024) dv2 [] [] [] w2 A2.out.disk (zf4 (by decide) (by decide)) P2.out (fun x hx=>by simp at hx) (by decide) zjt zjt (by rw [zhG,zpZ,List.append_nil]) rfl (by rw [zhG];exact zpP) (by rw [zlQ];intro x hx;simp at hx) (by rw [zhG];have:=zdE;omega) (by rw [zlQ];decide))
 rw [zla (by rw [zhG,zpZ];exact Nat.le_refl _) (zlQ _)] at HO2
 have HO3:Hid (Calls Tryz.prog 7 #[.pointer (some ⟨w.heap.size,0,none⟩)] w2 (zmA w.heap.size w.heap.size dv2 (picD 1024) [] w2)):=hid (HO2.out.mono fun e w' h=>h.1 rfl)
 clear hv hd HO1 HO2
 go_wp2_with fail
 with_reducible refine HO3.out.mono ?_
 rintro e w3 ⟨v2,m2,x2,mi2,dv3,rfl,hv,hd⟩
 have V3:=hid hv
 have A3:=hid hd
 have HB3:Hid (Below w.heap.size w w3):=hid ((B1.out.trans (A2.out.turns.below B1.out.size (fun b hb h=>by have:=(A1.out.own h).1;omega))).trans (A3.out.turns.below (Nat.le_trans B1.out.size A2.out.turns.size) (fun b hb h=>by have:=(A2.out.disk.own h).1;omega)))
 clear hv hd HO3 P2 P1 A1 A2 B1
 obtain ⟨lo,hi,hbv⟩:=V3.out.blk
 have c2:=(zbw hbv).1.2.2.1
 have HLi:=hid (zgP _ v2 w.heap.size 0 1 m2 x2 mi2 [] _ w3 V3.out (fun z hz=>by simp at hz) (by decide))
 have HRd:=hid (fun w' D=>zgC w.heap.size w.heap.size (picD 1024) dv3 0 0 w' D (zf4 (by decide) (by decide)) rfl (by decide))
 have hpl:Hid (0<(picN.length:Int)):=hid (by have:=zl5;omega)
 clear hbv
 go_wp2_with (first
  | (go_at_call 16;(with_reducible refine (zhY v2 1 _ c2).mono ?_);rintro e w4 ⟨rfl,rfl⟩)
  | (go_at_call 17;(with_reducible refine HLi.out.mono ?_);rintro e w5 ⟨A,c,ks,rfl,l1,_,l3,l4⟩;have hks:=zmc l1;subst hks;have A5:=hid (A3.out.on l4);have B5:=hid (HB3.out.trans (l4.mono HB3.out.size));clear l1 l3 l4))
 with_reducible refine (HRd.out _ A5.out.disk).mono ?_
 rintro e w6 ⟨s,rfl,hown,hb⟩
 obtain ⟨A0,c0,rfl⟩:=zcJ hown
 have B6:=hid (B5.out.trans (hb.mono B5.out.size))
 have hpl2:(0:Int)<(((picD 1024).l 0).length:Int):=hpl.out
 clear hown hb HRd
 go_wp2
 go_ret
 exact ⟨zab (decide_eq_true (show 0<picN.length from zl5)),B6.out⟩
def zeA (x:J):Bool:=decide (x.c.path.size≤200) && decide (x.c.foot.size≤200)
def fitV (xs:List J):Bool:=decide (xs.length≤6) && xs.all zeA
theorem zo6 {xs:List J} (h:¬xs.length≤6):fitV xs=false:=by unfold fitV;rw [decide_eq_false h,Bool.false_and]
theorem zr1 {xs:List J} {j:Nat} (hj:j<xs.length) (h:zeA xs[j]=false):fitV xs=false:=by
 unfold fitV
 rw [show xs.all zeA=false from by
  rw [List.all_eq_false]
  exact ⟨xs[j],List.getElem_mem hj,by rw [h];simp⟩,Bool.and_false]
theorem zsv {xs:List J} (h6:xs.length≤6) (h:∀(j:Nat) (hj:j<xs.length),zeA xs[j]=true):fitV xs=true:=by
 unfold fitV
 rw [decide_eq_true h6,Bool.true_and,List.all_eq_true]
 intro x hx
 obtain ⟨j,hj,rfl⟩:=List.mem_iff_getElem.1 hx
 exact h j hj
theorem zpL {xs:List J} (h:fitV xs=true):xs.length≤6∧∀x∈xs,x.c.foot.size≤200∧x.c.path.size≤200:=by
 unfold fitV at h
 simp only [Bool.and_eq_true,decide_eq_true_eq,List.all_eq_true] at h
 refine ⟨h.1,fun x hx=>?_⟩
 have:=h.2 x hx
 unfold zeA at this
 simp only [Bool.and_eq_true,decide_eq_true_eq] at this
 omega
theorem zun (p:Nat) (A:Option Addr) (xs:List J) (n ca:Nat) (w:World) (h:Blk w p 28 #[.int .i64 0,.int .i64 0,.int .i64 0,.int .i64 0,.slice A n ca]) (hn:xs.length=n) (hA:zcw w A xs) :
  Calls Tryz.prog 5 #[.slice (some ⟨p,0,none⟩) 1 1,.int .i64 1] w fun e w'=>e=.returned (.bool (fitV xs))∧Below w.heap.size w w':=by
 have HA:=hid hA
 have HN:=hid hn
 have HK:=hid h
 clear hA hn h
 go_enter Tryz.func5,Tryz.ntmps5
 go_wp2
 go_loopw [11] (fun iv wr=>(iv=.int .i64 0∧wr=w)∨(iv=.int .i64 1∧Hid (Below w.heap.size w wr∧fitV xs=true))) (fun iv _=>1 - (intOf iv).toNat)
 case atStart=>exact .inl ⟨rfl,rfl⟩
 case round =>
  rcases hrel with ⟨rfl,rfl⟩ | ⟨rfl,HB⟩
  ·obtain ⟨w0,rfl⟩:∃x,x=wr:=⟨_,rfl⟩
   have p0:w0.cell? ⟨p,0,none⟩=some (.int .i64 0):=(HK.out.cell 0).trans rfl
   have p1:w0.cell? ⟨p,1,none⟩=some (.int .i64 0):=(HK.out.cell 1).trans rfl
   have p2:w0.cell? ⟨p,2,none⟩=some (.int .i64 0):=(HK.out.cell 2).trans rfl
   have p3:w0.cell? ⟨p,3,none⟩=some (.int .i64 0):=(HK.out.cell 3).trans rfl
   have p4:w0.cell? ⟨p,4,none⟩=some (.slice A n ca):=(HK.out.cell 4).trans rfl
   go_upto_region 4 with fail
   obtain ⟨W,hW⟩:∃X,w0.alloc (.cells #[.int .i64 0,.int .i64 0,.int .i64 0,.int .i64 0,.slice A n ca] 28)=X:=⟨_,rfl⟩
   rw [hW]
   obtain ⟨K6,KB⟩:=za1 hW
   obtain ⟨q,hq⟩:∃q,w0.heap.size=q:=⟨_,rfl⟩
   rw [hq] at K6
   have HQ:=hid hq
   clear hW p0 p1 p2 p3 p4
   have p4:W.cell? ⟨q,4,none⟩=some (.slice A n ca):=(K6.out.cell 4).trans rfl
   rw [hq]
   by_cases h6:n≤6
   ·have h6i:¬(6:Int)<(n:Int):=by omega
    go_wp2
    go_loopw [22] (fun jv wx=>∃j:Nat,j≤n∧jv=.int .i64 (j:Int)∧Hid (Below w0.heap.size w0 wx)∧Hid (∀(i:Nat) (hi:i<xs.length),i<j→zeA xs[i]=true)) (fun jv _=>n - (intOf jv).toNat)
    case atStart=>exact ⟨0,Nat.zero_le _,rfl,KB,hid (fun i hi h=>absurd h (by omega))⟩
    case round =>
     obtain ⟨j,hj,rfl,HB,HS⟩:=hrel
     clear KB
     by_cases hlt:j<n
     ·have hltx:j<xs.length:=by rw [HN.out];exact hlt
      have hlti:(j:Int)<(n:Int):=by omega
      obtain ⟨b,o,rfl,hbl,hra⟩:=(HA.out.below HB.out) j xs[j] (List.getElem?_eq_getElem hltx)
      have HRA:=hid hra
      have HSs:=hid (fun (hx:zeA xs[j]=true) (i:Nat) (hi:i<xs.length) (hij:i<j+1)=>(show zeA xs[i]=true from by
       by_cases e:i=j
       ·subst e;exact hx
       ·exact HS.out i hi (by omega)))
      have HNo:=hid (zr1 hltx)
      clear hra
      obtain ⟨x,hx⟩:∃x,xs[j]=x:=⟨_,rfl⟩
      rw [hx] at HRA HSs HNo
      clear hx
      have LJ:=hid (zim x)
      have hst:=zgb x 66 wr
      go_upto_region 9 with (first
       | (with_reducible refine wpList_load_mid (op:=⟨some 25,_,_,_,_,_⟩) rfl 66 (.tmp 24) rfl b (o+j * 22) rfl (jC x) _ HRA.out Tryz.underlying66 rfl LJ.out ?_;rw [zeD]))
      clear hst
      obtain ⟨W1,hW1⟩:∃X,(wr.alloc (.cells zrow 66)).setRow wr.heap.size (rowJ x)=X:=⟨_,rfl⟩
      rw [hW1]
      obtain ⟨K7,KB7⟩:=zcS hW1
      have HB1:=hid (HB.out.trans (KB7.out.mono HB.out.size))
      clear hW1 KB7 HB HRA p4
      have j8:=K7.out.j8
      have j10:=K7.out.j10
      by_cases hp:x.c.path.size≤200
      ·have hpi:¬(200:Int)<(x.c.path.size:Int):=by omega
       by_cases hf:x.c.foot.size≤200
       ·have hfi:¬(200:Int)<(x.c.foot.size:Int):=by omega
        have HS2:=hid (HSs.out (by unfold zeA;simp [hp,hf]))
        go_wp2
        go_roundw
        case rel=>exact ⟨j+1,by omega,by go_num,HB1,HS2⟩
        case measure=>simp only [intOf];omega
       ·have hfi:(200:Int)<(x.c.foot.size:Int):=by omega
        have HF:=hid (HNo.out (by unfold zeA;simp [hf]))
        go_wp2
        go_ret
        exact ⟨zab (by rw [HF.out]),(by first | exact HB1.out | (rw [←hq];exact HB1.out))⟩
      ·have hpi:(200:Int)<(x.c.path.size:Int):=by omega
       have HF:=hid (HNo.out (by unfold zeA;simp [hp]))
       go_wp2
       go_ret
       exact ⟨zab (by rw [HF.out]),(by first | exact HB1.out | (rw [←hq];exact HB1.out))⟩
     ·have hke:j=n:=by omega
      have hnI:¬(j:Int)<(n:Int):=by omega
      have HF:Hid (fitV xs=true):=hid (zsv (by rw [HN.out];exact h6) (fun i hi=>HS.out i hi (by rw [hke,←HN.out];exact hi)))
      go_wp2
      go_roundw
      case rel=>exact .inr ⟨rfl,hid ⟨HB.out,HF.out⟩⟩
      case measure=>simp [intOf]
   ·have h6i:(6:Int)<(n:Int):=by omega
    have HF:Hid (fitV xs=false):=hid (zo6 (by rw [HN.out];exact h6))
    go_wp2
    go_ret
    exact ⟨zab (by rw [HF.out]),KB.out⟩
  ·have HF:=hid HB.out
   clear HB
   go_wp2
   go_ret
   exact ⟨zab (by rw [HF.out.2]),HF.out.1⟩
end Go.Proofs.YtnjdckoljmgcjaaGreatDoor
