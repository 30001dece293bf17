/-
  The document's own vault (moothillref15): before, Get.
-/
import Derived.Test.YtnjdckoljmgcjaaGreatDoorW34
import Derived.Test.YtnjdckoljmgcjaaGreatDoorW33
set_option maxRecDepth 100000
set_option maxHeartbeats 4000000
namespace Go.Proofs.YtnjdckoljmgcjaaGreatDoor
open Go.ChangeShapes Go.WideShapes Go.ChangeAt Go.RowKit Go.Maps Go.WideMaps
set_option linter.unusedVariables false
set_option linter.unusedSimpArgs false
theorem zaM {w:World} {base n size:Nat} {T:TypeId} {v:Value} {xs:List Value} (h:w.ownsRow base T size v n xs):∃A cap,v=.slice A n cap∧(A=none→cap=0∧n=0)∧∀a,A=some a→∃b,a=⟨b,0,none⟩∧base≤b∧n≤cap∧b<w.heap.size:=by
 rcases h.2 with ⟨h1,h2⟩ | ⟨b,cap,cur,h1,h2,h3,h4,_⟩
 ·exact ⟨none,0,by rw [h1,h2],(fun _=>⟨rfl,h2⟩),(fun a ha=>by cases ha)⟩
 ·exact ⟨_,cap,h1,(fun ha=>by cases ha),fun a ha=>⟨b,(by injection ha with ha;exact ha.symm),h2,h4,(World.ownsRow.lt h b (by rw [h1];rfl)).2⟩⟩
theorem za3 {w:World} {base base' n size:Nat} {T:TypeId} {v:Value} {xs:List Value} (h:w.ownsRow base' T size v n xs) (hb:base≤base'):w.ownsRow base T size v n xs :=
 ⟨h.1,h.2.imp id fun ⟨g,cap,cur,a,b,c⟩=>⟨g,cap,cur,a,Nat.le_trans hb b,c⟩⟩
theorem zmv {w:World} {base b cap nn:Nat} {T:TypeId} {l:List Nt} (h:w.ownsRow base T 10 (.slice (some ⟨b,0,none⟩) nn cap) nn (zaC l)) {j:Nat} (hj:j<l.length):w.rangeAt b (j * 10) (ntC l[j]):=fun i v hv=>by
 have hn:nn=l.length:=by have:=h.1;rw [zaX] at this;omega
 have hi:i<10:=by have:=(List.getElem?_eq_some_iff.1 hv).1;exact this
 rw [h.cellAt (j * 10+i) (by omega),zcH hj hi]
 exact hv
theorem zg0 {w:World} {b o:Nat} {n:Nt} (h:w.rangeAt b o (ntC n)):w.rangeAt b (o+2) (rowA n.att).toList:=fun i v hv=>by
 have h1:=h (2+i) v (by
  rw [←hv]
  show (_ :: _ :: (rowA n.att).toList)[2+i]?=_
  rw [show 2+i=i+1+1 by omega,List.getElem?_cons_succ,List.getElem?_cons_succ])
 rw [←h1]
 congr 2
 omega
theorem zlw {w:World} {base b cap nn:Nat} {T:TypeId} {l:List Nt} (h:w.ownsRow base T 10 (.slice (some ⟨b,0,none⟩) nn cap) nn (zaC l)) {j:Nat} (hj:j<l.length):w.there b (j * 10+2) 8:=fun i hi=>by
 have hn:nn=l.length:=by have:=h.1;rw [zaX] at this;omega
 refine ⟨?_,h.frozenAt _⟩
 rw [show j * 10+2+i=j * 10+(2+i) by omega,h.cellAt (j * 10+(2+i)) (by omega),zcH hj (by omega)]
 have:2+i<(ntC l[j]).length:=by show 2+i<10;omega
 rw [List.getElem?_eq_getElem this]
 rfl
def Ent (g:Nat) (w wr:World) (v:Value) (l:List Nt) (i:Nat) (ov:Value) (ks:List KeyT):Prop :=
 DocB g wr v l∧wr.ownsRow g 116 10 ov ks.length (zaC (ks.map (mkE (l.take i))))∧Below g w wr∧EntK (l.take i) ks∧ks.length≤i
theorem Ent.on {g:Nat} {w wr w':World} {v:Value} {l:List Nt} {i:Nat} {ov:Value} {ks:List KeyT} (h:Ent g w wr v l i ov ks) (hb:Below wr.heap.size wr w') (hg:g≤w.heap.size):Ent g w w' v l i ov ks:=by
 have h1:=h.2.2.1.size
 refine ⟨h.1.below (hb.mono (by omega)),?_,h.2.2.1.trans (hb.mono (by omega)),h.2.2.2⟩
 refine h.2.1.kept (zam hb none) ?_
 cases hv:ov.ownBlock with
 | none=>exact Or.inl rfl
 | some b=>exact Or.inr (by simp)
theorem zhy {w w':World} {base n size:Nat} {T:TypeId} {v:Value} {xs:List Value} (h:w.ownsRow base T size v n xs) (hb:Below w.heap.size w w'):w'.ownsRow base T size v n xs:=by
 refine h.kept (zam hb none) ?_
 cases hv:v.ownBlock with
 | none=>exact Or.inl rfl
 | some b=>exact Or.inr (by simp)
theorem _root_.Go.World.rangeAt.below_ {w w':World} {b o B:Nat} {cs:List Value} (h:w.rangeAt b o cs) (hb:Below B w w') (hlt:b<B):w'.rangeAt b o cs:=fun j v hv=>(hb.cell (by exact hlt)).trans (h j v hv)
theorem zpl (n:Nt):(Tryz.prog.info? 116).map (·.size)=some (ntC n).length:=by
 show _=some 10
 kernel_rfl
def NotK (ks:List KeyT) (k:Nat) (y:KeyT):Prop:=∀h:k<ks.length,¬cmpP ks[k] y<0∧ks[k]≠y
theorem zgV (f:ByteArray) (u:Int) (a:Nat→Int):(ntC ⟨f,u,a⟩).toArray=#[.string f,.int .u64 u,.int .i64 (a 0),.int .i64 (a 1),.int .i64 (a 2),.int .i64 (a 3),.int .i64 (a 4),.int .i64 (a 5),.int .i64 (a 6),.int .i64 (a 7)]:=rfl
theorem zoV {W:World} {b o:Nat} {f:Nat→Int} (h:W.rangeAt b o (rowA f).toList):W.cell? ⟨b,o,none⟩=some (.int .i64 (f 0))∧W.cell? ⟨b,o+1,none⟩=some (.int .i64 (f 1))∧W.cell? ⟨b,o+2,none⟩=some (.int .i64 (f 2))∧W.cell? ⟨b,o+3,none⟩=some (.int .i64 (f 3))∧W.cell? ⟨b,o+4,none⟩=some (.int .i64 (f 4))∧W.cell? ⟨b,o+5,none⟩=some (.int .i64 (f 5))∧W.cell? ⟨b,o+6,none⟩=some (.int .i64 (f 6))∧W.cell? ⟨b,o+7,none⟩=some (.int .i64 (f 7)):=⟨h 0 _ rfl,h 1 _ rfl,h 2 _ rfl,h 3 _ rfl,h 4 _ rfl,h 5 _ rfl,h 6 _ rfl,h 7 _ rfl⟩
theorem zkA (w:World) (b o:Nat) (cells:Array Value) (ht:w.there b o cells.size) (h1:cells.all (·.oneCell')=true):(storeCells ⟨b,o,none⟩ cells.toList).run Tryz.prog w=.ok () (w.setCells b o cells.toList):=by
 have:=run_storeCells_cells (P:=Tryz.prog) b o cells.toList 0 w (fun j hj=>by simpa using (ht j (by simpa using hj)).1) (fun j hj=>by simpa using (ht j (by simpa using hj)).2)
  (fun v hv=>(Array.all_eq_true_iff_forall_mem.1 h1) v (by simpa using hv))
 simpa using this
theorem zgq {w:World} {base b cap nn:Nat} {T:TypeId} {X:List Nt} (h:w.ownsRow base T 10 (.slice (some ⟨b,0,none⟩) nn cap) nn (zaC X)) {k:Nat} (hk:k≤X.length):∀j u,(zaC (X.take k))[j]?=some u→w.cell? ((⟨b,0,none⟩:Addr).add j)=some u:=fun j u hu=>by
 have hn:nn=X.length:=by have:=h.1;rw [zaX] at this;omega
 have hj:=(List.getElem?_eq_some_iff.1 hu).1
 rw [zaX,List.length_take] at hj
 rw [zix X k hk,List.getElem?_take,if_pos (by omega)] at hu
 rw [Addr.add_mid,Nat.zero_add,h.cellAt j (by omega)]
 exact hu
theorem zmU {w:World} {base b cap nn:Nat} {T:TypeId} {X:List Nt} (h:w.ownsRow base T 10 (.slice (some ⟨b,0,none⟩) nn cap) nn (zaC X)) {k:Nat} (hk:k≤X.length):∀j u,(zaC (X.drop k))[j]?=some u→w.cell? ((⟨b,k * 10,none⟩:Addr).add j)=some u:=fun j u hu=>by
 have hn:nn=X.length:=by have:=h.1;rw [zaX] at this;omega
 have hj:=(List.getElem?_eq_some_iff.1 hu).1
 rw [zaX,List.length_drop] at hj
 rw [zoh X k hk,List.getElem?_drop] at hu
 rw [Addr.add_mid,h.cellAt (k * 10+j) (by omega)]
 exact hu
theorem zhQ (v:Value) (l:List Nt) (w:World) (h:DocV w v l) (hl:zcA l) (hlen:l.length<1000) :
  Calls Tryz.prog 39 #[v] w fun e w'=>∃v' ks,e=.returned v'∧w'.ownsRow w.heap.size 116 10 v' (List.length ks) (zaC (ks.map (mkE l)))∧EntK l ks∧Below w.heap.size w w':=by
 have HV:=hid h.held
 have HF:=hid hl
 obtain ⟨A,cap,rfl,hA0,hA1⟩:=zaM h
 have HA0:=hid hA0
 have HA1:=hid hA1
 obtain ⟨i0,z,hi,hz0,hz1,hz2,hz3⟩:∃i z,Tryz.prog.info? 116=some i∧i.zero=some z∧i.size=10∧i.bytes=88∧z.cells.size=10:=by
  obtain ⟨z,h1,h2⟩:=zs5
  obtain ⟨i,a,b,c,d⟩:=info_parts h1
  exact ⟨i,z,a,b,c,d,h2⟩
 have HI:=hid (And.intro hi (And.intro hz0 (And.intro hz1 (And.intro hz2 hz3))))
 clear h hl hA0 hA1 hi hz0 hz1 hz2 hz3
 obtain ⟨g,hk⟩:∃k,w.heap.size=k:=⟨_,rfl⟩
 have HK:=hid hk
 rw [hk] at HV HA1
 rw [hk]
 clear hk
 have E0:Hid (Ent g w w (.slice A l.length cap) l 0 (.slice none 0 0) []):=hid ⟨HV.out,World.ownsRow_nil _ _ _ _,Below.refl _ _,EntK.nil,Nat.le_refl _⟩
 have HV0:=HV
 clear HV
 go_enter Tryz.func39,Tryz.ntmps39
 go_wp2_with fail
 go_loopw [3,4] (fun ov iv wr=>∃(i:Nat) (ks:List KeyT),i≤l.length∧iv=.int .i64 i∧Hid (Ent g w wr (.slice A l.length cap) l i ov ks)) (fun _ iv _=>l.length - (intOf iv).toNat)
 case atStart=>exact ⟨0,[],Nat.zero_le _,rfl,E0⟩
 case round =>
  obtain ⟨i,ks,hi,rfl,HE⟩:=hrel
  clear E0
  obtain ⟨B,cb,rfl,hB0,hB1⟩:=zaM HE.out.2.1
  have HB0:=hid hB0
  have HB1:=hid hB1
  clear hB0 hB1
  have hkb:ks.length<1000:=by have:=HE.out.2.2.2.2;omega
  by_cases hlt:i<l.length
  ·obtain ⟨bv,rfl,hbv⟩:∃bv,A=some ⟨bv,0,none⟩∧bv<g:=by
    cases A with
    | none=>have:=HA0.out rfl;omega
    | some a=>obtain ⟨b,rfl,_,_,h⟩:=HA1.out a rfl;exact ⟨b,rfl,h⟩
   have RL:=hid (zmv HE.out.1.1 hlt)
   have HTk:Hid (l.take (i+1)=l.take i ++ [l[i]]):=hid (List.take_succ_eq_append_getElem hlt)
   have HFn:=hid (HF.out l[i] (List.getElem_mem hlt))
   obtain ⟨n,hn⟩:∃n,l[i]=n:=⟨_,rfl⟩
   rw [hn] at RL HTk HFn
   clear hn
   obtain ⟨f,u,a⟩:=n
   obtain ⟨M,hM⟩:∃M,l.take i=M:=⟨_,rfl⟩
   have HM:=hid hM
   have d0:wr.cell? ⟨bv,i * 10,none⟩=some (.string f):=RL.out 0 _ rfl
   have d1:wr.cell? ⟨bv,i * 10+1,none⟩=some (.int .u64 u):=RL.out 1 _ rfl
   clear hM
   go_wp2_with fail
   go_loopw [5] (fun kv wx=>∃k:Nat,k≤ks.length∧kv=.int .i64 k∧Hid (ziT ks (f,u) k)∧Hid (∃q,wx=wr.drewN q)) (fun kv _=>ks.length - (intOf kv).toNat)
   case atStart=>exact ⟨0,Nat.zero_le _,rfl,hid (ziT.zero _ _),hid ⟨0,rfl⟩⟩
   case round =>
    obtain ⟨k,hk,rfl,HP,HW⟩:=hrel
    obtain ⟨q,rfl⟩:=HW.out
    by_cases hkl:k<ks.length
    ·obtain ⟨b,rfl,hb,hbc,hbs⟩:∃b,B=some ⟨b,0,none⟩∧g≤b∧ks.length≤cb∧b<wr.heap.size:=by
      cases B with
      | none=>have:=HB0.out rfl;omega
      | some a=>obtain ⟨b,rfl,h⟩:=HB1.out a rfl;exact ⟨b,rfl,h⟩
     have RK:=hid (zmv HE.out.2.1 (j:=k) (by simpa using hkl))
     rw [List.getElem_map] at RK
     have HP2:=hid (HP.out.succ hkl)
     obtain ⟨y,hy⟩:∃y,ks[k]=y:=⟨_,rfl⟩
     have HY:=hid hy
     rw [hy] at RK HP2
     clear hy
     obtain ⟨f2,u2⟩:=y
     have c0:wr.cell? ⟨b,k * 10,none⟩=some (.string f2):=RK.out 0 _ rfl
     have c1:wr.cell? ⟨b,k * 10+1,none⟩=some (.int .u64 u2):=RK.out 1 _ rfl
     have h1:decide ((k:Int)<(ks.length:Int))=true:=by simp;omega
     cases h2:Op.bytesLess f2.toList f.toList
     ·cases h3:(f2.toList == f.toList)
      ·have HQ:Hid (¬cmpP (f2,u2) (f,u)<0):=hid (zon h2 h3)
       have HNE:Hid (((f2,u2):KeyT)≠(f,u)):=hid (fun e=>by have e1:=congrArg Prod.fst e;simp only at e1;rw [e1] at h3;simp at h3)
       go_wp2_with fail
       go_quiet (fail)
       generalize nq=nq1
       have HNK:Hid (NotK ks k (f,u)):=hid (fun _=>by rw [HY.out];exact ⟨by have:=HQ.out;omega,HNE.out⟩)
       go_wp2_with fail
       go_quiet (fail)
       go_upto_region 11 with fail
       obtain ⟨wz,hwz⟩:∃wz,(wr.drewN (q+nq1)).drewN nq=wz:=⟨_,rfl⟩
       have hwz2:((wr.drewN q).drewN nq1).drewN nq=wz:=by rw [←hwz];simp only [World.drewN_drewN,Nat.add_assoc]
       first | rw [hwz] | rw [hwz2]
       clear hwz2
       have E1:Hid (Ent g w wz (.slice (some ⟨bv,0,none⟩) l.length cap) l i (.slice (some ⟨b,0,none⟩) ks.length cb) ks):=hid (by rw [←hwz];exact HE.out.on (zav (zav (Below.refl _ _) _) _) (Nat.le_of_eq HK.out.symm))
       have RL1:Hid (wz.rangeAt bv (i * 10) (ntC ⟨f,u,a⟩)):=hid (by rw [←hwz];exact RL.out)
       have HEnt:=hid (HE.out.2.2.2.1.new (n:=⟨f,u,a⟩) HP.out HNK.out)
       have HRow:=hid (zhM (n:=⟨f,u,a⟩) (k:=k) HE.out.2.2.2.1 (zeu HE.out.2.2.2.1.1 HP.out HNK.out) (fun i=>(HFn.out.at i).1))
       rw [←HTk.out] at HEnt HRow
       have hki:ks.length≤i:=HE.out.2.2.2.2
       have hgz:Hid (g≤wz.heap.size):=hid (by have:=E1.out.2.2.1.size;have:=HK.out;omega)
       obtain ⟨X,hX⟩:∃X,ks.map (mkE (l.take i))=X:=⟨_,rfl⟩
       have hXl:X.length=ks.length:=by rw [←hX];simp
       have HX:=hid hX
       rw [hX] at HRow
       have OW:Hid (wz.ownsRow g 116 10 (.slice (some ⟨b,0,none⟩) ks.length cb) ks.length (zaC X)):=hid (by rw [←hX];exact E1.out.2.1)
       clear hX hwz HE HY HQ HNE HP2 RK c0 c1 d0 d1 RL HP HW HNK h1 h2 h3
       have hlv:=hlen
       obtain ⟨hi0,hz0,hz1,hz2,hz3⟩:=HI.out
       go_upto_region 12 with (first
        | (at_builtin;refine zan rfl (.tmp 103) (.tmp 106) 108 rfl wz.heap.size 116 i0 z 10 88 Tryz.underlying108 hi0 hz0 hz1 hz2 hz3 (by decide) (.slice none 0 0) 0 [] rfl (World.ownsRow_nil _ _ _ _) (some ⟨b,0,none⟩) k cb (zaC (X.take k)) rfl (fun h=>by cases h) (by rw [zaX,List.length_take];omega) (fun ad h=>by injection h with h;subst h;exact zgq OW.out (by omega)) (zb0 _) (by unfold maxLen;omega) (by omega) (Nat.le_refl _) ?_;intro v1 w1 hown1 hg1))
       have O1:=hid hown1
       have Z1:Hid (Below wz.heap.size wz w1):=hid (Below.of_grown hg1)
       have RL2:=hid (RL1.out.below_ Z1.out (by have:=hgz.out;omega))
       have LN:=hid (zpl ⟨f,u,a⟩)
       clear hown1 hg1 RL1
       go_upto_region 13 with (first
        | (with_reducible refine wpList_load_mid (op:=⟨some 112,_,_,_,_,_⟩) rfl 116 (.tmp 111) rfl bv (i * 10) rfl (ntC ⟨f,u,a⟩) _ RL2.out Tryz.underlying116 rfl LN.out ?_;rw [zgV])
        | (at_builtin;refine wpList_append_own _ rfl (.tmp 108) (.tmp 113) 108 rfl wz.heap.size 116 i0 z 10 88 Tryz.underlying108 hi0 hz0 hz1 hz2 hz3 (by decide) v1 (0+k) ([] ++ zaC (X.take k)) rfl (O1.out.alloc _) ⟨w1.heap.size,0,none⟩ 1 1 (ntC ⟨f,u,a⟩) rfl rfl (n_at rfl) (zdH _) (by unfold maxLen;omega) (by omega) (by have:=Z1.out.size;simp;omega) ?_;intro v2 w2 hown2 hg2 _))
       have O2:=hid hown2
       have Z2:Hid (Below wz.heap.size wz w2):=hid ((Z1.out.alloc Z1.out.size _).grown hg2 (by have:=Z1.out.size;simp;omega) (fun kk hk=>(World.ownsRow.lt O1.out kk hk).1))
       have OW2:=hid (zhy OW.out Z2.out)
       clear hown2 hg2 O1 RL2
       go_wp2_with (first
        | (at_builtin;refine zan rfl (.tmp 115) (.tmp 118) 108 rfl wz.heap.size 116 i0 z 10 88 Tryz.underlying108 hi0 hz0 hz1 hz2 hz3 (by decide) v2 (0+k+1) ([] ++ zaC (X.take k) ++ ntC ⟨f,u,a⟩) rfl O2.out (some ⟨b,k * 10,none⟩) (ks.length - k) (cb - k) (zaC (X.drop k)) rfl (fun h=>by cases h) (by rw [zaX,List.length_drop];omega) (fun ad h=>by injection h with h;subst h;exact zmU OW2.out (by omega)) (zb0 _) (by unfold maxLen;omega) (by omega) Z2.out.size ?_;intro v3 w3 hown3 hg3))
       have Z3:Hid (Below wz.heap.size wz w3):=hid (Z2.out.grown hg3 Z2.out.size (fun kk hk=>(World.ownsRow.lt O2.out kk hk).1))
       have FIN:Hid (Ent g w w3 (.slice (some ⟨bv,0,none⟩) l.length cap) l (i+1) v3 (ks.take k ++ [(f,u)] ++ ks.drop k)):=hid ⟨(E1.out.on Z3.out (Nat.le_of_eq HK.out.symm)).1,by
         rw [HRow.out,zbW,zbW]
         have e:0+k+1+(ks.length - k)=(ks.take k ++ [((f,u):KeyT)] ++ ks.drop k).length:=by simp <;> omega
         rw [←e]
         exact za3 (by simpa [zaC] using hown3) hgz.out,(E1.out.on Z3.out (Nat.le_of_eq HK.out.symm)).2.2.1,HEnt.out,by simp <;> omega⟩
       clear hown3 hg3 Z3 O2 OW OW2
       go_wp2
       go_roundw
       case rel=>exact ⟨i+1,_,by omega,by go_num,FIN⟩
       case measure=>simp only [intOf];omega
      ·by_cases h4:u2<u
       ·have h5:decide (u2<u)=true:=by simpa using h4
        have HQ:=hid (HP2.out (zpR h3 h4))
        go_wp2_with fail
        go_quiet (fail)
        go_wp2
        go_roundw
        case rel=>exact ⟨k+1,by omega,by go_num,HQ,hid ⟨_,rfl⟩⟩
        case measure=>simp only [intOf];omega
       ·have h5:decide (u2<u)=false:=by simpa using h4
        have HQ:Hid (¬cmpP (f2,u2) (f,u)<0):=hid (zjw h3 h4)
        by_cases h6:u2=u
        ·have HEQ:Hid (((f2,u2):KeyT)=(f,u)):=hid (by rw [h6,zoN (by simpa using h3:f2.toList=f.toList)])
         go_wp2_with fail
         go_quiet (fail)
         generalize nq=nq1
         have h7:(u2 == u)=true:=by simpa using h6
         go_wp2_with fail
         go_quiet (fail)
         go_wp2_with fail
         obtain ⟨wz,hwz⟩:∃wz,(wr.drewN (q+nq1)).drewN nq=wz:=⟨_,rfl⟩
         have hwz2:((wr.drewN q).drewN nq1).drewN nq=wz:=by rw [←hwz];simp only [World.drewN_drewN,Nat.add_assoc]
         first | rw [hwz] | rw [hwz2]
         clear hwz2
         have E1:Hid (Ent g w wz (.slice (some ⟨bv,0,none⟩) l.length cap) l i (.slice (some ⟨b,0,none⟩) ks.length cb) ks):=hid (by rw [←hwz];exact HE.out.on (zav (zav (Below.refl _ _) _) _) (Nat.le_of_eq HK.out.symm))
         have RL1:Hid (wz.rangeAt bv (i * 10+2) (rowA a).toList):=hid (by rw [←hwz];exact zg0 RL.out)
         have hkm:(f,u)∈ks:=by rw [←HEQ.out,←HY.out];exact List.getElem_mem hkl
         have HEnt:=hid (HE.out.2.2.2.1.same (n:=⟨f,u,a⟩) hkm)
         have HRow:=hid (zsK (n:=⟨f,u,a⟩) (l:=l.take i) HE.out.2.2.2.1.1 hkl (by rw [HY.out];exact HEQ.out))
         rw [←HTk.out] at HEnt HRow
         have hki:ks.length≤i:=HE.out.2.2.2.2
         have hgz:Hid (g≤wz.heap.size∧bv<g):=hid ⟨by have:=E1.out.2.2.1.size;have:=HK.out;omega,hbv⟩
         obtain ⟨G,hG⟩:∃G,zbq (l.take i) f u=G:=⟨_,rfl⟩
         obtain ⟨X,hX⟩:∃X,ks.map (mkE (l.take i))=X:=⟨_,rfl⟩
         have hXk:∀h:k<X.length,X[k]=⟨f,u,G⟩:=by
          subst hX
          intro h
          rw [List.getElem_map,HY.out,HEQ.out,←hG]
          rfl
         have hXl:k<X.length:=by rw [←hX];simpa using hkl
         have hXn:X.length=ks.length:=by rw [←hX];simp
         have RK1:Hid (wz.rangeAt b (k * 10+2) (rowA G).toList):=hid (by
          have h:=zg0 (zmv (T:=116) (by rw [←hX];exact E1.out.2.1:wz.ownsRow g 116 10 (.slice (some ⟨b,0,none⟩) ks.length cb) ks.length (zaC X)) hXl)
          rw [hXk hXl] at h
          exact h)
         have OW:Hid (wz.ownsRow g 116 10 (.slice (some ⟨b,0,none⟩) ks.length cb) ks.length (zaC X)):=hid (by rw [←hX];exact E1.out.2.1)
         rw [hX,hG] at HRow
         have HL2:Hid (∀R,zkc (zaC X) (k * 10+2) (rowA R).toList=zaC (X.set k ⟨f,u,R⟩)):=hid (fun R=>by rw [ztr X k hXl R,hXk hXl])
         have HX:=hid (And.intro hXl hXn)
         clear hX hG hXk hXl hXn hwz HE HY HQ HP2 RK c0 c1 d0 d1 RL HP HW h1 h2 h3 h5 h7 hkm
         have HM1:=hid (fun w=>zqs G a w)
         obtain ⟨R,hR⟩:∃R,mx G a=R:=⟨_,rfl⟩
         rw [hR] at HM1 HRow
         clear hR
         have HL2R:=hid (HL2.out R)
         obtain ⟨Rr,hRr⟩:∃Rr,rowA R=Rr:=⟨_,rfl⟩
         have HRs:Rr.size=8:=by rw [←hRr];exact zcp R
         have HRo:Hid (Rr.all (·.oneCell')=true):=hid (by rw [←hRr];exact zdF R)
         rw [hRr] at HL2R
         have HM1:Hid (∀w,Calls Tryz.prog 72 #[.agg #[.int .i64 (G 0),.int .i64 (G 1),.int .i64 (G 2),.int .i64 (G 3),.int .i64 (G 4),.int .i64 (G 5),.int .i64 (G 6),.int .i64 (G 7)],.agg #[.int .i64 (a 0),.int .i64 (a 1),.int .i64 (a 2),.int .i64 (a 3),.int .i64 (a 4),.int .i64 (a 5),.int .i64 (a 6),.int .i64 (a 7)]] w fun e w'=>e=.returned (.agg Rr)∧Below w.heap.size w w'):=hid (fun w=>by rw [←hRr];exact HM1.out w)
         clear hRr HL2
         have RKd:=hid ((World.rangeAt_drew _ _ _ _).2 RK1.out)
         have RLd:=hid ((World.rangeAt_drew _ _ _ _).2 RL1.out)
         have hbz:b<wz.drew.heap.size:=(OW.out.lt b rfl).2
         have OWd:=hid (zhy OW.out (zag (Below.refl _ _)))
         obtain ⟨c0,c1,c2,c3,c4,c5,c6,c7⟩:=zoV RK1.out
         obtain ⟨d0,d1,d2,d3,d4,d5,d6,d7⟩:=zoV RL1.out
         go_region_with
          (first
           | (go_at_call 72;(with_reducible refine (HM1.out _).mono ?_);rintro e5 w5 ⟨rfl,b5⟩;have OW2:=hid (zhy OWd.out b5);have hst:=zkA w5 b (k * 10+2) Rr (by rw [HRs];exact zlw OW2.out HX.out.1) HRo.out))
         all_goals (
          have OW3:=hid (zjm Rr.toList (k * 10+2) _ _ OW2.out)
          rw [HL2R.out] at OW3
          have hXl:=HX.out.2
          have B5:Hid (Below g w (w5.setCells b (k * 10+2) Rr.toList)):=hid ((E1.out.2.2.1.trans ((zag (Below.refl _ _)).mono hgz.out.1)).trans (Below.trans (b5.mono hgz.out.1) (zci OW3.out.2 hb (Nat.le_trans hgz.out.1 b5.size))))
          have DV:Hid (DocB g (w5.setCells b (k * 10+2) Rr.toList) (.slice (some ⟨bv,0,none⟩) l.length cap) l):=hid (HV0.out.below B5.out)
          have FIN:Hid (Ent g w (w5.setCells b (k * 10+2) Rr.toList) (.slice (some ⟨bv,0,none⟩) l.length cap) l (i+1) (.slice (some ⟨b,0,none⟩) ks.length cb) ks):=hid ⟨DV.out,by rw [HRow.out];exact OW3.out.1,B5.out,HEnt.out,by omega⟩
          clear OW OWd OW2 OW3 B5 DV hst
          go_wp2
          go_roundw
          case rel=>exact ⟨i+1,_,by omega,by go_num,FIN⟩
          case measure=>simp only [intOf];omega)
        ·have h7:(u2 == u)=false:=by simpa using h6
         have HNE:Hid (((f2,u2):KeyT)≠(f,u)):=hid (fun e=>h6 (congrArg Prod.snd e))
         go_wp2_with fail
         go_quiet (fail)
         generalize nq=nq1
         have HNK:Hid (NotK ks k (f,u)):=hid (fun _=>by rw [HY.out];exact ⟨by have:=HQ.out;omega,HNE.out⟩)
         go_wp2_with fail
         go_quiet (fail)
         go_upto_region 11 with fail
         obtain ⟨wz,hwz⟩:∃wz,(wr.drewN (q+nq1)).drewN nq=wz:=⟨_,rfl⟩
         have hwz2:((wr.drewN q).drewN nq1).drewN nq=wz:=by rw [←hwz];simp only [World.drewN_drewN,Nat.add_assoc]
         first | rw [hwz] | rw [hwz2]
         clear hwz2
         have E1:Hid (Ent g w wz (.slice (some ⟨bv,0,none⟩) l.length cap) l i (.slice (some ⟨b,0,none⟩) ks.length cb) ks):=hid (by rw [←hwz];exact HE.out.on (zav (zav (Below.refl _ _) _) _) (Nat.le_of_eq HK.out.symm))
         have RL1:Hid (wz.rangeAt bv (i * 10) (ntC ⟨f,u,a⟩)):=hid (by rw [←hwz];exact RL.out)
         have HEnt:=hid (HE.out.2.2.2.1.new (n:=⟨f,u,a⟩) HP.out HNK.out)
         have HRow:=hid (zhM (n:=⟨f,u,a⟩) (k:=k) HE.out.2.2.2.1 (zeu HE.out.2.2.2.1.1 HP.out HNK.out) (fun i=>(HFn.out.at i).1))
         rw [←HTk.out] at HEnt HRow
         have hki:ks.length≤i:=HE.out.2.2.2.2
         have hgz:Hid (g≤wz.heap.size):=hid (by have:=E1.out.2.2.1.size;have:=HK.out;omega)
         obtain ⟨X,hX⟩:∃X,ks.map (mkE (l.take i))=X:=⟨_,rfl⟩
         have hXl:X.length=ks.length:=by rw [←hX];simp
         have HX:=hid hX
         rw [hX] at HRow
         have OW:Hid (wz.ownsRow g 116 10 (.slice (some ⟨b,0,none⟩) ks.length cb) ks.length (zaC X)):=hid (by rw [←hX];exact E1.out.2.1)
         clear hX hwz HE HY HQ HNE HP2 RK c0 c1 d0 d1 RL HP HW HNK h1 h2 h3 h5 h7
         have hlv:=hlen
         obtain ⟨hi0,hz0,hz1,hz2,hz3⟩:=HI.out
         go_upto_region 12 with (first
          | (at_builtin;refine zan rfl (.tmp 103) (.tmp 106) 108 rfl wz.heap.size 116 i0 z 10 88 Tryz.underlying108 hi0 hz0 hz1 hz2 hz3 (by decide) (.slice none 0 0) 0 [] rfl (World.ownsRow_nil _ _ _ _) (some ⟨b,0,none⟩) k cb (zaC (X.take k)) rfl (fun h=>by cases h) (by rw [zaX,List.length_take];omega) (fun ad h=>by injection h with h;subst h;exact zgq OW.out (by omega)) (zb0 _) (by unfold maxLen;omega) (by omega) (Nat.le_refl _) ?_;intro v1 w1 hown1 hg1))
         have O1:=hid hown1
         have Z1:Hid (Below wz.heap.size wz w1):=hid (Below.of_grown hg1)
         have RL2:=hid (RL1.out.below_ Z1.out (by have:=hgz.out;omega))
         have LN:=hid (zpl ⟨f,u,a⟩)
         clear hown1 hg1 RL1
         go_upto_region 13 with (first
          | (with_reducible refine wpList_load_mid (op:=⟨some 112,_,_,_,_,_⟩) rfl 116 (.tmp 111) rfl bv (i * 10) rfl (ntC ⟨f,u,a⟩) _ RL2.out Tryz.underlying116 rfl LN.out ?_;rw [zgV])
          | (at_builtin;refine wpList_append_own _ rfl (.tmp 108) (.tmp 113) 108 rfl wz.heap.size 116 i0 z 10 88 Tryz.underlying108 hi0 hz0 hz1 hz2 hz3 (by decide) v1 (0+k) ([] ++ zaC (X.take k)) rfl (O1.out.alloc _) ⟨w1.heap.size,0,none⟩ 1 1 (ntC ⟨f,u,a⟩) rfl rfl (n_at rfl) (zdH _) (by unfold maxLen;omega) (by omega) (by have:=Z1.out.size;simp;omega) ?_;intro v2 w2 hown2 hg2 _))
         have O2:=hid hown2
         have Z2:Hid (Below wz.heap.size wz w2):=hid ((Z1.out.alloc Z1.out.size _).grown hg2 (by have:=Z1.out.size;simp;omega) (fun kk hk=>(World.ownsRow.lt O1.out kk hk).1))
         have OW2:=hid (zhy OW.out Z2.out)
         clear hown2 hg2 O1 RL2
         go_wp2_with (first
          | (at_builtin;refine zan rfl (.tmp 115) (.tmp 118) 108 rfl wz.heap.size 116 i0 z 10 88 Tryz.underlying108 hi0 hz0 hz1 hz2 hz3 (by decide) v2 (0+k+1) ([] ++ zaC (X.take k) ++ ntC ⟨f,u,a⟩) rfl O2.out (some ⟨b,k * 10,none⟩) (ks.length - k) (cb - k) (zaC (X.drop k)) rfl (fun h=>by cases h) (by rw [zaX,List.length_drop];omega) (fun ad h=>by injection h with h;subst h;exact zmU OW2.out (by omega)) (zb0 _) (by unfold maxLen;omega) (by omega) Z2.out.size ?_;intro v3 w3 hown3 hg3))
         have Z3:Hid (Below wz.heap.size wz w3):=hid (Z2.out.grown hg3 Z2.out.size (fun kk hk=>(World.ownsRow.lt O2.out kk hk).1))
         have FIN:Hid (Ent g w w3 (.slice (some ⟨bv,0,none⟩) l.length cap) l (i+1) v3 (ks.take k ++ [(f,u)] ++ ks.drop k)):=hid ⟨(E1.out.on Z3.out (Nat.le_of_eq HK.out.symm)).1,by
           rw [HRow.out,zbW,zbW]
           have e:0+k+1+(ks.length - k)=(ks.take k ++ [((f,u):KeyT)] ++ ks.drop k).length:=by simp <;> omega
           rw [←e]
           exact za3 (by simpa [zaC] using hown3) hgz.out,(E1.out.on Z3.out (Nat.le_of_eq HK.out.symm)).2.2.1,HEnt.out,by simp <;> omega⟩
         clear hown3 hg3 Z3 O2 OW OW2
         go_wp2
         go_roundw
         case rel=>exact ⟨i+1,_,by omega,by go_num,FIN⟩
         case measure=>simp only [intOf];omega
     ·have HQ:=hid (HP2.out (zn4 h2))
      go_wp2_with fail
      go_quiet (fail)
      go_wp2
      go_roundw
      case rel=>exact ⟨k+1,by omega,by go_num,HQ,hid ⟨_,rfl⟩⟩
      case measure=>simp only [intOf];omega
    ·have h1:decide ((k:Int)<(ks.length:Int))=false:=by simp;omega
     go_wp2_with fail
     go_quiet (fail)
     generalize nq=nq1
     rcases B with _ | B0
     ·obtain ⟨rfl,hk0⟩:=HB0.out rfl
      obtain rfl:ks=[]:=List.eq_nil_of_length_eq_zero hk0
      obtain rfl:k=0:=by simpa using hk
      have HNK:Hid (NotK ([]:List KeyT) 0 (f,u)):=hid (fun h=>absurd h hkl)
      go_wp2_with fail
      go_quiet (fail)
      go_upto_region 11 with fail
      obtain ⟨wz,hwz⟩:∃wz,(wr.drewN (q+nq1)).drewN nq=wz:=⟨_,rfl⟩
      have hwz2:((wr.drewN q).drewN nq1).drewN nq=wz:=by rw [←hwz];simp only [World.drewN_drewN,Nat.add_assoc]
      first | rw [hwz] | rw [hwz2]
      clear hwz2
      have E1:Hid (Ent g w wz (.slice (some ⟨bv,0,none⟩) l.length cap) l i (.slice none ([]:List KeyT).length 0) ([]:List KeyT)):=hid (by rw [←hwz];exact HE.out.on (zav (zav (Below.refl _ _) _) _) (Nat.le_of_eq HK.out.symm))
      have RL1:Hid (wz.rangeAt bv (i * 10) (ntC ⟨f,u,a⟩)):=hid (by rw [←hwz];exact RL.out)
      have HEnt:=hid (HE.out.2.2.2.1.new (n:=⟨f,u,a⟩) HP.out HNK.out)
      have HRow:=hid (zhM (n:=⟨f,u,a⟩) (k:=0) HE.out.2.2.2.1 (zeu HE.out.2.2.2.1.1 HP.out HNK.out) (fun i=>(HFn.out.at i).1))
      rw [←HTk.out] at HEnt HRow
      have hki:([]:List KeyT).length≤i:=HE.out.2.2.2.2
      have hgz:Hid (g≤wz.heap.size):=hid (by have:=E1.out.2.2.1.size;have:=HK.out;omega)
      obtain ⟨X,hX⟩:∃X,([]:List KeyT).map (mkE (l.take i))=X:=⟨_,rfl⟩
      have hXl:X.length=([]:List KeyT).length:=by rw [←hX];simp
      have HX:=hid hX
      rw [hX] at HRow
      have OW:Hid (wz.ownsRow g 116 10 (.slice none ([]:List KeyT).length 0) ([]:List KeyT).length (zaC X)):=hid (by rw [←hX];exact E1.out.2.1)
      clear hX hwz HE d0 d1 RL HP HW HNK h1
      have hlv:=hlen
      obtain ⟨hi0,hz0,hz1,hz2,hz3⟩:=HI.out
      go_upto_region 12 with (first
       | (at_builtin;refine zan rfl (.tmp 103) (.tmp 106) 108 rfl wz.heap.size 116 i0 z 10 88 Tryz.underlying108 hi0 hz0 hz1 hz2 hz3 (by decide) (.slice none 0 0) 0 [] rfl (World.ownsRow_nil _ _ _ _) none 0 0 (zaC (X.take 0)) rfl (fun _=>⟨rfl,rfl⟩) (by rw [zaX,List.length_take];omega) (fun ad h=>by cases h) (zb0 _) (by unfold maxLen;omega) (by omega) (Nat.le_refl _) ?_;intro v1 w1 hown1 hg1))
      have O1:=hid hown1
      have Z1:Hid (Below wz.heap.size wz w1):=hid (Below.of_grown hg1)
      have RL2:=hid (RL1.out.below_ Z1.out (by have:=hgz.out;omega))
      have LN:=hid (zpl ⟨f,u,a⟩)
      clear hown1 hg1 RL1
      go_upto_region 13 with (first
       | (with_reducible refine wpList_load_mid (op:=⟨some 112,_,_,_,_,_⟩) rfl 116 (.tmp 111) rfl bv (i * 10) rfl (ntC ⟨f,u,a⟩) _ RL2.out Tryz.underlying116 rfl LN.out ?_;rw [zgV])
       | (at_builtin;refine wpList_append_own _ rfl (.tmp 108) (.tmp 113) 108 rfl wz.heap.size 116 i0 z 10 88 Tryz.underlying108 hi0 hz0 hz1 hz2 hz3 (by decide) v1 (0+0) ([] ++ zaC (X.take 0)) rfl (O1.out.alloc _) ⟨w1.heap.size,0,none⟩ 1 1 (ntC ⟨f,u,a⟩) rfl rfl (n_at rfl) (zdH _) (by unfold maxLen;omega) (by omega) (by have:=Z1.out.size;simp;omega) ?_;intro v2 w2 hown2 hg2 _))
      have O2:=hid hown2
      have Z2:Hid (Below wz.heap.size wz w2):=hid ((Z1.out.alloc Z1.out.size _).grown hg2 (by have:=Z1.out.size;simp;omega) (fun kk hk=>(World.ownsRow.lt O1.out kk hk).1))
      have OW2:=hid (zhy OW.out Z2.out)
      clear hown2 hg2 O1 RL2
      go_wp2_with (first
       | (at_builtin;refine zan rfl (.tmp 115) (.tmp 118) 108 rfl wz.heap.size 116 i0 z 10 88 Tryz.underlying108 hi0 hz0 hz1 hz2 hz3 (by decide) v2 (0+0+1) ([] ++ zaC (X.take 0) ++ ntC ⟨f,u,a⟩) rfl O2.out none 0 0 (zaC (X.drop 0)) rfl (fun _=>⟨rfl,rfl⟩) (by rw [zaX,List.length_drop];omega) (fun ad h=>by cases h) (zb0 _) (by unfold maxLen;omega) (by omega) Z2.out.size ?_;intro v3 w3 hown3 hg3))
      have Z3:Hid (Below wz.heap.size wz w3):=hid (Z2.out.grown hg3 Z2.out.size (fun kk hk=>(World.ownsRow.lt O2.out kk hk).1))
      have FIN:Hid (Ent g w w3 (.slice (some ⟨bv,0,none⟩) l.length cap) l (i+1) v3 (([]:List KeyT).take 0 ++ [(f,u)] ++ ([]:List KeyT).drop 0)):=hid ⟨(E1.out.on Z3.out (Nat.le_of_eq HK.out.symm)).1,by
        rw [HRow.out,zbW,zbW]
        have e:0+0+1+0=(([]:List KeyT).take 0 ++ [((f,u):KeyT)] ++ ([]:List KeyT).drop 0).length:=by simp <;> omega
        rw [←e]
        exact za3 (by simpa [zaC] using hown3) hgz.out,(E1.out.on Z3.out (Nat.le_of_eq HK.out.symm)).2.2.1,HEnt.out,by simp <;> omega⟩
      clear hown3 hg3 Z3 O2 OW OW2
      go_wp2
      go_roundw
      case rel=>exact ⟨i+1,_,by omega,by go_num,FIN⟩
      case measure=>simp only [intOf];omega
     ·obtain ⟨b,rfl,hb,hbc,hbs⟩:=HB1.out _ rfl
      rcases (show k<cb∨k=cb by omega) with hkc | rfl
      ·have HNK:Hid (NotK ks k (f,u)):=hid (fun h=>absurd h hkl)
       go_wp2_with fail
       go_quiet (fail)
       go_upto_region 11 with fail
       obtain ⟨wz,hwz⟩:∃wz,(wr.drewN (q+nq1)).drewN nq=wz:=⟨_,rfl⟩
       have hwz2:((wr.drewN q).drewN nq1).drewN nq=wz:=by rw [←hwz];simp only [World.drewN_drewN,Nat.add_assoc]
       first | rw [hwz] | rw [hwz2]
       clear hwz2
       have E1:Hid (Ent g w wz (.slice (some ⟨bv,0,none⟩) l.length cap) l i (.slice (some ⟨b,0,none⟩) ks.length cb) ks):=hid (by rw [←hwz];exact HE.out.on (zav (zav (Below.refl _ _) _) _) (Nat.le_of_eq HK.out.symm))
       have RL1:Hid (wz.rangeAt bv (i * 10) (ntC ⟨f,u,a⟩)):=hid (by rw [←hwz];exact RL.out)
       have HEnt:=hid (HE.out.2.2.2.1.new (n:=⟨f,u,a⟩) HP.out HNK.out)
       have HRow:=hid (zhM (n:=⟨f,u,a⟩) (k:=k) HE.out.2.2.2.1 (zeu HE.out.2.2.2.1.1 HP.out HNK.out) (fun i=>(HFn.out.at i).1))
       rw [←HTk.out] at HEnt HRow
       have hki:ks.length≤i:=HE.out.2.2.2.2
       have hgz:Hid (g≤wz.heap.size):=hid (by have:=E1.out.2.2.1.size;have:=HK.out;omega)
       obtain ⟨X,hX⟩:∃X,ks.map (mkE (l.take i))=X:=⟨_,rfl⟩
       have hXl:X.length=ks.length:=by rw [←hX];simp
       have HX:=hid hX
       rw [hX] at HRow
       have OW:Hid (wz.ownsRow g 116 10 (.slice (some ⟨b,0,none⟩) ks.length cb) ks.length (zaC X)):=hid (by rw [←hX];exact E1.out.2.1)
       clear hX hwz HE d0 d1 RL HP HW HNK h1
       have hlv:=hlen
       obtain ⟨hi0,hz0,hz1,hz2,hz3⟩:=HI.out
       go_upto_region 12 with (first
        | (at_builtin;refine zan rfl (.tmp 103) (.tmp 106) 108 rfl wz.heap.size 116 i0 z 10 88 Tryz.underlying108 hi0 hz0 hz1 hz2 hz3 (by decide) (.slice none 0 0) 0 [] rfl (World.ownsRow_nil _ _ _ _) (some ⟨b,0,none⟩) k cb (zaC (X.take k)) rfl (fun h=>by cases h) (by rw [zaX,List.length_take];omega) (fun ad h=>by injection h with h;subst h;exact zgq OW.out (by omega)) (zb0 _) (by unfold maxLen;omega) (by omega) (Nat.le_refl _) ?_;intro v1 w1 hown1 hg1))
       have O1:=hid hown1
       have Z1:Hid (Below wz.heap.size wz w1):=hid (Below.of_grown hg1)
       have RL2:=hid (RL1.out.below_ Z1.out (by have:=hgz.out;omega))
       have LN:=hid (zpl ⟨f,u,a⟩)
       clear hown1 hg1 RL1
       go_upto_region 13 with (first
        | (with_reducible refine wpList_load_mid (op:=⟨some 112,_,_,_,_,_⟩) rfl 116 (.tmp 111) rfl bv (i * 10) rfl (ntC ⟨f,u,a⟩) _ RL2.out Tryz.underlying116 rfl LN.out ?_;rw [zgV])
        | (at_builtin;refine wpList_append_own _ rfl (.tmp 108) (.tmp 113) 108 rfl wz.heap.size 116 i0 z 10 88 Tryz.underlying108 hi0 hz0 hz1 hz2 hz3 (by decide) v1 (0+k) ([] ++ zaC (X.take k)) rfl (O1.out.alloc _) ⟨w1.heap.size,0,none⟩ 1 1 (ntC ⟨f,u,a⟩) rfl rfl (n_at rfl) (zdH _) (by unfold maxLen;omega) (by omega) (by have:=Z1.out.size;simp;omega) ?_;intro v2 w2 hown2 hg2 _))
       have O2:=hid hown2
       have Z2:Hid (Below wz.heap.size wz w2):=hid ((Z1.out.alloc Z1.out.size _).grown hg2 (by have:=Z1.out.size;simp;omega) (fun kk hk=>(World.ownsRow.lt O1.out kk hk).1))
       have OW2:=hid (zhy OW.out Z2.out)
       clear hown2 hg2 O1 RL2
       go_wp2_with (first
        | (at_builtin;refine zan rfl (.tmp 115) (.tmp 118) 108 rfl wz.heap.size 116 i0 z 10 88 Tryz.underlying108 hi0 hz0 hz1 hz2 hz3 (by decide) v2 (0+k+1) ([] ++ zaC (X.take k) ++ ntC ⟨f,u,a⟩) rfl O2.out _ (ks.length - k) _ (zaC (X.drop k)) rfl (fun h=>by cases h) (by rw [zaX,List.length_drop];omega) (fun ad h j x hx=>by rw [List.drop_eq_nil_of_le (by omega)] at hx;cases hx) (zb0 _) (by unfold maxLen;omega) (by omega) Z2.out.size ?_;intro v3 w3 hown3 hg3))
       have Z3:Hid (Below wz.heap.size wz w3):=hid (Z2.out.grown hg3 Z2.out.size (fun kk hk=>(World.ownsRow.lt O2.out kk hk).1))
       have FIN:Hid (Ent g w w3 (.slice (some ⟨bv,0,none⟩) l.length cap) l (i+1) v3 (ks.take k ++ [(f,u)] ++ ks.drop k)):=hid ⟨(E1.out.on Z3.out (Nat.le_of_eq HK.out.symm)).1,by
         rw [HRow.out,zbW,zbW]
         have e:0+k+1+(ks.length - k)=(ks.take k ++ [((f,u):KeyT)] ++ ks.drop k).length:=by simp <;> omega
         rw [←e]
         exact za3 (by simpa [zaC] using hown3) hgz.out,(E1.out.on Z3.out (Nat.le_of_eq HK.out.symm)).2.2.1,HEnt.out,by simp <;> omega⟩
       clear hown3 hg3 Z3 O2 OW OW2
       go_wp2
       go_roundw
       case rel=>exact ⟨i+1,_,by omega,by go_num,FIN⟩
       case measure=>simp only [intOf];omega
      ·have HNK:Hid (NotK ks k (f,u)):=hid (fun h=>absurd h hkl)
       go_wp2_with fail
       go_quiet (fail)
       go_upto_region 11 with fail
       obtain ⟨wz,hwz⟩:∃wz,(wr.drewN (q+nq1)).drewN nq=wz:=⟨_,rfl⟩
       have hwz2:((wr.drewN q).drewN nq1).drewN nq=wz:=by rw [←hwz];simp only [World.drewN_drewN,Nat.add_assoc]
       first | rw [hwz] | rw [hwz2]
       clear hwz2
       have E1:Hid (Ent g w wz (.slice (some ⟨bv,0,none⟩) l.length cap) l i (.slice (some ⟨b,0,none⟩) ks.length k) ks):=hid (by rw [←hwz];exact HE.out.on (zav (zav (Below.refl _ _) _) _) (Nat.le_of_eq HK.out.symm))
       have RL1:Hid (wz.rangeAt bv (i * 10) (ntC ⟨f,u,a⟩)):=hid (by rw [←hwz];exact RL.out)
       have HEnt:=hid (HE.out.2.2.2.1.new (n:=⟨f,u,a⟩) HP.out HNK.out)
       have HRow:=hid (zhM (n:=⟨f,u,a⟩) (k:=k) HE.out.2.2.2.1 (zeu HE.out.2.2.2.1.1 HP.out HNK.out) (fun i=>(HFn.out.at i).1))
       rw [←HTk.out] at HEnt HRow
       have hki:ks.length≤i:=HE.out.2.2.2.2
       have hgz:Hid (g≤wz.heap.size):=hid (by have:=E1.out.2.2.1.size;have:=HK.out;omega)
       obtain ⟨X,hX⟩:∃X,ks.map (mkE (l.take i))=X:=⟨_,rfl⟩
       have hXl:X.length=ks.length:=by rw [←hX];simp
       have HX:=hid hX
       rw [hX] at HRow
       have OW:Hid (wz.ownsRow g 116 10 (.slice (some ⟨b,0,none⟩) ks.length k) ks.length (zaC X)):=hid (by rw [←hX];exact E1.out.2.1)
       clear hX hwz HE d0 d1 RL HP HW HNK h1
       have hlv:=hlen
       obtain ⟨hi0,hz0,hz1,hz2,hz3⟩:=HI.out
       go_upto_region 12 with (first
        | (at_builtin;refine zan rfl (.tmp 103) (.tmp 106) 108 rfl wz.heap.size 116 i0 z 10 88 Tryz.underlying108 hi0 hz0 hz1 hz2 hz3 (by decide) (.slice none 0 0) 0 [] rfl (World.ownsRow_nil _ _ _ _) (some ⟨b,0,none⟩) k k (zaC (X.take k)) rfl (fun h=>by cases h) (by rw [zaX,List.length_take];omega) (fun ad h=>by injection h with h;subst h;exact zgq OW.out (by omega)) (zb0 _) (by unfold maxLen;omega) (by omega) (Nat.le_refl _) ?_;intro v1 w1 hown1 hg1))
       have O1:=hid hown1
       have Z1:Hid (Below wz.heap.size wz w1):=hid (Below.of_grown hg1)
       have RL2:=hid (RL1.out.below_ Z1.out (by have:=hgz.out;omega))
       have LN:=hid (zpl ⟨f,u,a⟩)
       clear hown1 hg1 RL1
       go_upto_region 13 with (first
        | (with_reducible refine wpList_load_mid (op:=⟨some 112,_,_,_,_,_⟩) rfl 116 (.tmp 111) rfl bv (i * 10) rfl (ntC ⟨f,u,a⟩) _ RL2.out Tryz.underlying116 rfl LN.out ?_;rw [zgV])
        | (at_builtin;refine wpList_append_own _ rfl (.tmp 108) (.tmp 113) 108 rfl wz.heap.size 116 i0 z 10 88 Tryz.underlying108 hi0 hz0 hz1 hz2 hz3 (by decide) v1 (0+k) ([] ++ zaC (X.take k)) rfl (O1.out.alloc _) ⟨w1.heap.size,0,none⟩ 1 1 (ntC ⟨f,u,a⟩) rfl rfl (n_at rfl) (zdH _) (by unfold maxLen;omega) (by omega) (by have:=Z1.out.size;simp;omega) ?_;intro v2 w2 hown2 hg2 _))
       have O2:=hid hown2
       have Z2:Hid (Below wz.heap.size wz w2):=hid ((Z1.out.alloc Z1.out.size _).grown hg2 (by have:=Z1.out.size;simp;omega) (fun kk hk=>(World.ownsRow.lt O1.out kk hk).1))
       have OW2:=hid (zhy OW.out Z2.out)
       clear hown2 hg2 O1 RL2
       go_wp2_with (first
        | (at_builtin;refine zan rfl (.tmp 115) (.tmp 118) 108 rfl wz.heap.size 116 i0 z 10 88 Tryz.underlying108 hi0 hz0 hz1 hz2 hz3 (by decide) v2 (0+k+1) ([] ++ zaC (X.take k) ++ ntC ⟨f,u,a⟩) rfl O2.out (some ⟨b,0,none⟩) (ks.length - k) 0 (zaC (X.drop k)) (by simp [Act.eval];omega) (fun h=>by cases h) (by rw [zaX,List.length_drop];omega) (fun ad h j x hx=>by rw [List.drop_eq_nil_of_le (by omega)] at hx;cases hx) (zb0 _) (by unfold maxLen;omega) (by omega) Z2.out.size ?_;intro v3 w3 hown3 hg3))
       have Z3:Hid (Below wz.heap.size wz w3):=hid (Z2.out.grown hg3 Z2.out.size (fun kk hk=>(World.ownsRow.lt O2.out kk hk).1))
       have FIN:Hid (Ent g w w3 (.slice (some ⟨bv,0,none⟩) l.length cap) l (i+1) v3 (ks.take k ++ [(f,u)] ++ ks.drop k)):=hid ⟨(E1.out.on Z3.out (Nat.le_of_eq HK.out.symm)).1,by
         rw [HRow.out,zbW,zbW]
         have e:0+k+1+(ks.length - k)=(ks.take k ++ [((f,u):KeyT)] ++ ks.drop k).length:=by simp <;> omega
         rw [←e]
         exact za3 (by simpa [zaC] using hown3) hgz.out,(E1.out.on Z3.out (Nat.le_of_eq HK.out.symm)).2.2.1,HEnt.out,by simp <;> omega⟩
       clear hown3 hg3 Z3 O2 OW OW2
       go_wp2
       go_roundw
       case rel=>exact ⟨i+1,_,by omega,by go_num,FIN⟩
       case measure=>simp only [intOf];omega
  ·have hi2:i=l.length:=by omega
   subst hi2
   have HR:=hid HE.out.2.1
   rw [List.take_length] at HR
   have HR2:=hid HE.out.2.2.2.1
   rw [List.take_length] at HR2
   go_wp2
   refine bodyPost_ret (v:=.slice B ks.length cb) (by simp [results,Tryz.results39,go_sem]) rfl ?_
   exact ⟨_,ks,rfl,HR.out,HR2.out,HE.out.2.2.1⟩
theorem zgR (r s r2 s2:Int) (b:Bool) (hb:(r == r2 && s == s2)=b) (w:World) :
  (Op.equalIn 10000 78 (.agg #[.int .i64 r,.int .i64 s]) (.agg #[.int .i64 r2,.int .i64 s2])).run Tryz.prog w=.ok b w:=by
 have ht:Tryz.prog.underlying 78=some (.struct (Tryz.prog.fieldsOf 78)):=by kernel_rfl
 have hp:Tryz.prog.stoodInHeld 78=false:=by kernel_rfl
 rw [run_equalIn_struct w 9999 _ _ _ ht hp]
 have p1:=run_part_plain (P:=Tryz.prog) (w:=w) (e:=3) (by kernel_rfl) (xs:=#[.int .i64 r,.int .i64 s]) (off:=0) rfl
 have p2:=run_part_plain (P:=Tryz.prog) (w:=w) (e:=3) (by kernel_rfl) (xs:=#[.int .i64 r,.int .i64 s]) (off:=1) rfl
 have p3:=run_part_plain (P:=Tryz.prog) (w:=w) (e:=3) (by kernel_rfl) (xs:=#[.int .i64 r2,.int .i64 s2]) (off:=0) rfl
 have p4:=run_part_plain (P:=Tryz.prog) (w:=w) (e:=3) (by kernel_rfl) (xs:=#[.int .i64 r2,.int .i64 s2]) (off:=1) rfl
 have q1:=run_equalIn_int (P:=Tryz.prog) w 9998 3 .i64 .i64 r r2 Tryz.underlying3
 have q2:=run_equalIn_int (P:=Tryz.prog) w 9998 3 .i64 .i64 s s2 Tryz.underlying3
 subst hb
 cases h:(r == r2) <;> simp [Program.fieldsOf,Tryz.underlying78,Op.eqFields,p1,p2,p3,p4,q1,q2,h,Sem.run_bind,Sem.run_ite,Result.andThen_ok]
 by_cases h2:s=s2 <;> simp [h2]
theorem ze4:Tryz.prog.eqGuardType Tryz.prog.depth 78=false:=by kernel_rfl
def DocX (base:Nat) (w:World) (u:Value) (l:List J):Prop:=w.ownsRow base 83 22 u l.length (zaQ l)
theorem DocX.on {base:Nat} {w w':World} {u:Value} {l:List J} (h:DocX base w u l) (hb:Below w.heap.size w w'):DocX base w' u l:=zcc h hb
theorem zfS {w:World} {base b cap nn:Nat} {T:TypeId} {l:List J} (h:w.ownsRow base T 22 (.slice (some ⟨b,0,none⟩) nn cap) nn (zaQ l)) {j:Nat} (hj:j<l.length):w.rangeAt b (j * 22) (jC l[j]):=fun i v hv=>by
 have hn:nn=l.length:=by have:=h.1;rw [zbd] at this;omega
 have hi:i<22:=by have:=(List.getElem?_eq_some_iff.1 hv).1;exact this
 rw [h.cellAt (j * 22+i) (by omega),zd1 hj hi]
 exact hv
theorem zhv (x:J):(Tryz.prog.info? 83).map (·.size)=some (jC x).length:=zj9
theorem ztF (r s:Int):Value.agg #[.int .i64 r,.int .i64 s,.int .i64 0,.int .u32 0,.int .u32 0,.bool false,.int .i64 0,.int .u64 0,.string ⟨#[]⟩,.int .u64 0,.string ⟨#[]⟩,.int .i64 0,.int .u64 0,.int .i64 0,.int .i64 0,.int .i64 0,.int .i64 0,.int .i64 0,.int .i64 0,.int .i64 0,.int .i64 0,.int .i64 0]=.agg (rowJ (newJ r s)):=rfl
theorem zja (r s r2 s2:Int) (w:World) :
  Calls Tryz.prog 69 #[nm r s,nm r2 s2] w fun e w'=>e=.returned (.bool (decide (cmpI (r,s) (r2,s2)<0)))∧Below w.heap.size w w':=by
 have HV:Hid (decide (cmpI (r,s) (r2,s2)<0)=(decide (r<r2) || (decide (r=r2) && decide (s<s2)))):=hid (by
  rw [Bool.eq_iff_iff]
  simp [zgI])
 rcases Int.lt_trichotomy r r2 with h | h | h
 ·go_enter Tryz.func69,Tryz.ntmps69
  go_wp2
  go_ret
  exact ⟨zab (by rw [HV.out];simp [h]),((Below.refl _ _).alloc (Nat.le_refl _) _).alloc (by simp) _⟩
 ·subst h
  have h0:¬r<r:=by omega
  have h1:(r == r)=true:=by simp
  go_enter Tryz.func69,Tryz.ntmps69
  go_wp2
  go_ret
  exact ⟨zab (by rw [HV.out];simp),((Below.refl _ _).alloc (Nat.le_refl _) _).alloc (by simp) _⟩
 ·have h0:¬r<r2:=by omega
  have h1:(r == r2)=false:=beq_eq_false_iff_ne.2 (by omega)
  go_enter Tryz.func69,Tryz.ntmps69
  go_wp2
  go_ret
  exact ⟨zab (by rw [HV.out];simp;omega),((Below.refl _ _).alloc (Nat.le_refl _) _).alloc (by simp) _⟩
def GtAt (w:World) (k:Nat) (u:Value) (r s:Int) (l:List J) (i:Nat) (wr:World):Prop :=
 Blk wr k 36 #[u]∧Blk wr (k+1) 78 #[.int .i64 r,.int .i64 s]∧Blk wr (k+1+1) 83 (rowJ zau)∧Blk wr (k+1+1+1) 83 (rowJ (getV (l.take i) r s))∧Below k w wr
theorem GtAt.on {w wr w':World} {k:Nat} {u:Value} {r s:Int} {l:List J} {i:Nat} (h:GtAt w k u r s l i wr) (hb:Below wr.heap.size wr w'):GtAt w k u r s l i w':=by
 obtain ⟨h1,h2,h3,h4,h5⟩:=h
 exact ⟨h1.below hb h1.lt,h2.below hb h2.lt,h3.below hb h3.lt,h4.below hb h4.lt,h5.trans (hb.mono (by have:=h1.lt;omega))⟩
theorem zoc (base:Nat) (u:Value) (l:List J) (r s:Int) (w:World) (h:DocX base w u l) (hl:l.length≤900) :
  Calls Tryz.prog 23 #[.agg #[u],nm r s] w fun e w'=>e=.returned (.agg (rowJ (getV l r s)))∧Below w.heap.size w w':=by
 have HD:=hid h
 obtain ⟨A,cap,rfl,hA0,hA1⟩:=zaM h
 have HA0:=hid hA0
 have HA1:=hid hA1
 clear h hA0 hA1
 obtain ⟨n,hn⟩:∃n,l.length=n:=⟨_,rfl⟩
 have HN:=hid hn
 unfold DocX at HD
 rw [hn] at HD HA0 HA1 hl ⊢
 clear hn
 go_enter Tryz.func23,Tryz.ntmps23
 go_upto_region 1 with fail
 obtain ⟨W,hW⟩:∃W,((w.alloc (.cells #[.slice A n cap] 36)).alloc (.cells #[.int .i64 r,.int .i64 s] 78)).alloc (.cells zrow 83)=W:=⟨_,rfl⟩
 have hWs:W.heap.size=w.heap.size+1+1+1:=by rw [←hW];simp
 rw [hW]
 obtain ⟨K0,K1,K2,KB⟩:=zeP hW
 clear hW
 obtain ⟨k,hk⟩:∃k,w.heap.size=k:=⟨_,rfl⟩
 rw [hk] at K0 K1 K2 KB hWs
 rw [hk]
 have HK:=hid hk
 have HWs:=hid hWs
 clear hWs
 obtain ⟨⟨c0,c1⟩,_,_⟩:=zeY K1.out
 have L1:=hid (zd7 (newJ r s))
 have L2:=hid (zaW zau (newJ r s))
 have L3:=hid (zaS (newJ r s))
 have KN:=hid (Blk.new W 83 zrow)
 go_upto_region 2 with (refine wpList_store_row (o:=⟨none,_,_,_,_,_⟩) rfl 83 (.tmp 5) (.tmp 8) rfl W.heap.size (rowJ (newJ r s)) rfl (ztF r s) 83 _ KN.out.heap L1.out L2.out L3.out ?_)
 obtain ⟨W2,hW2⟩:∃X,(W.alloc (.cells zrow 83)).setRow W.heap.size (rowJ (newJ r s))=X:=⟨_,rfl⟩
 rw [hW2]
 obtain ⟨K3,KB3⟩:=zcS hW2
 clear hW2 KN L1 L2 L3
 rw [HWs.out] at K3 ⊢
 have G0:Hid (GtAt w k (.slice A n cap) r s l 0 W2):=hid ⟨K0.out.below KB3.out K0.out.lt,K1.out.below KB3.out K1.out.lt,K2.out.below KB3.out K2.out.lt,K3.out,KB.out.trans (KB3.out.mono (by have:=K0.out.lt;omega))⟩
 clear K0 K1 K2 K3 KB KB3 c0 c1 HWs
 go_wp2
 go_loopw [6] (fun iv wr=>∃i:Nat,i≤n∧iv=.int .i64 (i:Int)∧Hid (GtAt w k (.slice A n cap) r s l i wr)) (fun iv _=>n - (intOf iv).toNat)
 case atStart=>exact ⟨0,Nat.zero_le _,rfl,G0⟩
 case round =>
  obtain ⟨i,hi,rfl,HG⟩:=hrel
  clear G0
  have e0:wr.cell? ⟨k,0,none⟩=some (.slice A n cap):=(HG.out.1.cell 0).trans rfl
  by_cases hlt:i<n
  ·have hltl:i<l.length:=by rw [HN.out];exact hlt
   have hlti:(i:Int)<(n:Int):=by omega
   obtain ⟨bv,rfl,hbv⟩:∃bv,A=some ⟨bv,0,none⟩∧bv<k:=by
    cases A with
    | none=>have:=HA0.out rfl;omega
    | some a=>obtain ⟨b,rfl,_,_,h⟩:=HA1.out a rfl;exact ⟨b,rfl,by rw [←HK.out];exact h⟩
   have RL:=hid ((zfS HD.out hltl).below_ HG.out.2.2.2.2 hbv)
   have HTk:Hid (getV (l.take (i+1)) r s=if zeV r s l[i]=true then l[i] else getV (l.take i) r s):=hid (by
    rw [List.take_succ_eq_append_getElem hltl]
    unfold getV
    rw [zc4]
    split <;> rfl)
   obtain ⟨x,hx⟩:∃x,l[i]=x:=⟨_,rfl⟩
   rw [hx] at RL HTk
   clear hx
   have d0:wr.cell? ⟨bv,i * 22,none⟩=some (.int .i64 x.r):=RL.out 0 _ rfl
   have d1:wr.cell? ⟨bv,i * 22+1,none⟩=some (.int .i64 x.s):=RL.out 1 _ rfl
   have f0:wr.cell? ⟨k+1,0,none⟩=some (.int .i64 r):=(HG.out.2.1.cell 0).trans rfl
   have f1:wr.cell? ⟨k+1,1,none⟩=some (.int .i64 s):=(HG.out.2.1.cell 1).trans rfl
   obtain ⟨nn,hnn⟩:∃a,(x.r == r && x.s == s)=a:=⟨_,rfl⟩
   have HNN:Hid (zeV r s x=nn):=hid (by rw [←hnn];unfold zeV;rw [Bool.eq_iff_iff];simp)
   have EQ:=zgR x.r x.s r s nn hnn
   have EG:=ze4
   clear hnn
   go_upto_region 5 with fail
   go_quiet (fail)
   have HG1:=hid (HG.out.on (zav (Below.refl _ _) nq))
   obtain ⟨wq,hwq⟩:∃x,wr.drewN nq=x:=⟨_,rfl⟩
   have RL1:Hid (wq.rangeAt bv (i * 22) (jC x)):=hid (by rw [←hwq];exact RL.out)
   rw [hwq] at HG1
   rw [hwq]
   clear hwq HG RL d0 d1 f0 f1 EQ EG e0
   cases nn
   ·have G1:Hid (GtAt w k (.slice (some ⟨bv,0,none⟩) n cap) r s l (i+1) wq):=hid ⟨HG1.out.1,HG1.out.2.1,HG1.out.2.2.1,by rw [HTk.out,HNN.out,if_neg (by simp)];exact HG1.out.2.2.2.1,HG1.out.2.2.2.2⟩
    clear HG1 RL1
    go_wp2
    go_roundw
    case rel=>exact ⟨i+1,by omega,by go_num,G1⟩
    case measure=>simp only [intOf];omega
   ·have e0:wq.cell? ⟨k,0,none⟩=some (.slice (some ⟨bv,0,none⟩) n cap):=(HG1.out.1.cell 0).trans rfl
    have LX:=hid (zhv x)
    have LR:=hid (zd7 x)
    have LO:=hid (zaS x)
    have TR:=hid (zaN wq (k+1+1+1) (rowJ x))
    have G1:Hid (GtAt w k (.slice (some ⟨bv,0,none⟩) n cap) r s l (i+1) (wq.setRow (k+1+1+1) (rowJ x))):=hid ⟨HG1.out.1.turns TR.out (by omega),HG1.out.2.1.turns TR.out (by omega),HG1.out.2.2.1.turns TR.out (by omega),by rw [HTk.out,HNN.out,if_pos rfl];exact Blk.rowAt HG1.out.2.2.2.1,zak HG1.out.2.2.2.2 (by omega)⟩
    have hst:=zbL HG1.out.2.2.2.1 (rowJ x) rfl (zaS x)
    go_wp2_with (first
     | (with_reducible refine wpList_load_mid (op:=⟨some 28,_,_,_,_,_⟩) rfl 83 (.tmp 27) rfl bv (i * 22) rfl (jC x) _ RL1.out Tryz.underlying83 rfl LX.out ?_;rw [zeD]))
    clear hst
    go_roundw
    case rel=>exact ⟨i+1,by omega,by go_num,G1⟩
    case measure=>simp only [intOf];omega
  ·have hke:i=n:=by omega
   have hnI:¬(i:Int)<(n:Int):=by omega
   have HV:Hid (Blk wr (k+1+1+1) 83 (rowJ (getV l r s))):=hid (by
    have h:=HG.out.2.2.2.1
    rw [hke,←HN.out,List.take_length] at h
    exact h)
   have LR:=hid (zd7 (getV l r s))
   have hst:=zbL HG.out.2.2.1 (rowJ (getV l r s)) rfl (zaS (getV l r s))
   go_wp2_with (first
    | (with_reducible refine wpList_load_row (o:=⟨some 29,_,_,_,_,_⟩) rfl 83 (.tmp 5) rfl (k+1+1+1) rfl 83 (rowJ (getV l r s)) (0,0) _ HV.out.heap Tryz.underlying83 rfl LR.out ?_))
   (try simp only [Exit.inBlock,Exit.then]);refine bodyPost_ret (v:=.agg (rowJ (getV l r s))) (results_cell_row (p:=4) (ty:=83) (by kernel_rfl) _ _ (k+1+1) 83 (rowJ (getV l r s)) (0,0) _ rfl (setRow_heap _ (k+1+1) _ _ _ _ HG.out.2.2.1.heap) Tryz.underlying83 rfl LR.out) rfl ⟨rfl,(zak HG.out.2.2.2.2 (by omega))⟩
end Go.Proofs.YtnjdckoljmgcjaaGreatDoor
