/-
  VaultOpens, its tied card: a vault on a disk holds what the document's own list of states holds, through writes, a crash, and a reading. The condition: the table of kinds holds what its text lays, which the card ties to the program.
-/
import Derived.Test.YtnjdckoljmgcjaaGreatDoorW42
import Derived.Test.YtnjdckoljmgcjaaGreatDoorW43
import Derived.Test.YtnjdckoljmgcjaaGreatDoorCards
import Derived.Test.YtnjdckoljmgcjaaGreatDoorTie
import Derived.SevenTiedAt
import Derived.Lib.SmallJoins
set_option maxRecDepth 100000
set_option maxHeartbeats 4000000
namespace Go.Proofs.YtnjdckoljmgcjaaGreatDoor.vaultOpens
open Go.ChangeShapes Go.WideShapes Go.ChangeAt Go.RowKit Go.Lib Go.Joins
set_option linter.unusedVariables false
theorem zsP {w:World} {B:Option Addr} {ks:List Int} (h:Vals w B (ks.map (Value.int .i64))):zqC w B ks:=fun j x hj=>by
 obtain ⟨b,o,h1,h2,h3⟩:=h j (.int .i64 x) (by simp [hj])
 exact ⟨b,o,h1,h2,h3⟩
theorem zvb (A:Option Addr) (xs:List J) (ca:Nat) (B:Option Addr) (ks:List Int) (cb:Nat) (a b:Int) (hX:∀x∈xs,okJ x∧okK x.c∧zbl x.r∧zbl x.s) (hK:∀x∈ks,x≤9223372036854775807) (w:World) (hA:zcw w A xs) (hB:Vals w B (ks.map (Value.int .i64))) (hP:zad w) :
  Calls Tryz.prog 3 #[.slice A xs.length ca,.slice B ks.length cb,.agg #[.int .i64 a,.int .i64 b]] w fun e w'=>e=.returned (.bool true)∧Below w.heap.size w w' :=
 walk A xs xs.length ca B ks ks.length cb a b w rfl rfl hA (zsP hB) hX hK hP
theorem zuB (os:Os) (started:os.Started) (H:Type) (enc:TypeId × Value→H) :
  ReturnsInHanded {} Tryz.checked os 3 .any (fun w args=>(Rows.vaultOpensSpec.pre enc Tryz.prog Tryz.f3 [] false w args∧laidMetH Tryz.prog zpr w)∧sizedMet enc Tryz.prog Tryz.f3 (OpenSpec.ofChange Rows.vaultOpensSpec) false w args) (Rows.vaultOpensSpec.post enc Tryz.prog Tryz.f3 false true false false):=by
 refine returnsInHanded_of_change_and (C:=Tryz.checked) (X:=fun w _=>laidMetH Tryz.prog zpr w) (fun _ _ _ hh h=>h.of_heap hh) own7 started (by kernel_rfl) Tryz.func3
  (ChangeSpec.witness_shaped (enc:=enc) (C:=Tryz.checked) (os:=os) (X:=fun w _=>laidMetH Tryz.prog zpr w) false (World.doorLaid Tryz.prog 400 os) #[.slice none 0 0,.slice none 0 0,.agg #[.int .i64 0,.int .i64 0]] 8 rfl (World.shaped_of_RefB (by kernel_rfl) (by kernel_rfl)) (by kernel_rfl) (by kernel_rfl) (by kernel_rfl) (zoE os _)) ?_
 intro W base args ds gs before hval0 hW _ _ hL _
 have hval:∀(j:Nat) t v,Tryz.f3.params[j]?=some t→args[j]?=some v→Value.okWide Tryz.prog W .any base t v:=hval0
 have hW':=hW
 obtain ⟨p,q,hA0,hV,rfl,_,_⟩:=hW
 have hA:DataW.TrodAll enc Tryz.prog W 0 (fun _=>true) true Tryz.f3.params.toList args.toList ds p:=hA0
 rw [Tryz.params3] at hA hval
 have hlt:∀x∈p,x.block<W.heap.size:=fun x hx=>by simpa using hW'.lt x (List.mem_append_left _ hx)
 obtain ⟨v0,vs0,d0,ds0,p0,q0,hargs,rfl,rfl,g0,r0⟩:=trodAll_cons hA
 obtain ⟨v1,vs1,d1,ds1,p1,q1,rfl,rfl,rfl,g1,r1⟩:=trodAll_cons r0
 obtain ⟨v2,vs2,d2,ds2,p2,q2,rfl,rfl,rfl,g2,r2⟩:=trodAll_cons r1
 obtain ⟨rfl,rfl,rfl⟩:=trodAll_nil r2
 obtain rfl:args=#[v0,v1,v2]:=by cases args;simp_all
 obtain ⟨rfl,rfl⟩:=trodVars_none hV
 obtain ⟨A0,c0,l0,rfl,hs0,w0⟩:=zlf (hval 0 22 v0 rfl rfl) g0 (fun x hx=>hlt x <| List.mem_append_left _ hx)
 obtain ⟨A1,c1,l1,rfl,_,hl1,hm1,hs1,hk1,_⟩:=zhS Tryz.underlying23 Tryz.underlying3 (by kernel_rfl) (hval 1 23 v1 rfl rfl) g1 (fun x hx=>hlt x <| List.mem_append_right _ <| List.mem_append_left _ hx)
 obtain ⟨a2,b2,rfl⟩:=zou (hval 2 24 v2 rfl rfl) g2
 refine (zvb A0 l0 c0 A1 l1 c1 a2 b2 w0 (fun x hx=>(ziy (hk1 x hx)).2) W hs0 hs1 (zre hL)).mono fun e W' ⟨he,hg⟩=>?_
 subst he
 exact ⟨_,rfl,zsj zsg hW' (by kernel_rfl) rfl rfl Tryz.underlying4 rfl hg⟩
theorem said:Rows.VaultOpensSaid :=
 OpenClaim.holds_of_wide 3 Tryz.f3 rfl rfl rfl rfl rfl rfl rfl ⟨rfl,rfl,rfl,rfl,rfl⟩ rfl rfl rfl rfl rfl (by kernel_rfl) Tryz.func3 (by kernel_rfl)
  (of_decide_eq_true (by kernel_rfl)) (by unfold Func.isWrapper;first | (rw [if_pos (by decide +kernel)];kernel_rfl) | (rw [if_neg (by decide +kernel)];exact ⟨rfl,rfl⟩))
  (fun os started H enc _=>zuB os started H enc)
theorem proved:Rows.VaultOpensCardSaid :=
 Claim7.holds_tied_plain_at .later [] [.data] true _ false
  said (fun _ h=>by cases h) (by kernel_rfl) (fun _ h=>by cases h) vaultOpens_row_tie rfl ⟨rfl,rfl⟩ (by kernel_rfl) rfl
  (fun f fn hf hfn=>by
   obtain rfl : f = 3 := Option.some.inj ((show Tryz.prog.funcNamed "moothill/moothilllaw15.VaultOpens" = some 3 by kernel_rfl).symm.trans hf) |>.symm
   obtain rfl:fn=Tryz.f3:=(Option.some.inj (Tryz.func3.symm.trans hfn)).symm
   exact ⟨by kernel_rfl,fun j t ht=>by
    rw [Tryz.params3] at ht
    have hm:t∈[22,23,24]:=by simpa using Array.mem_of_getElem? ht
    have hall:([22,23,24].all fun u=>!Tryz.prog.wantsStandIn u)=true:=by kernel_rfl
    exact (show Tryz.prog.wantsStandIn t=false by simpa using List.all_eq_true.1 hall t hm)⟩)
  (by kernel_rfl)
#print axioms proved
end Go.Proofs.YtnjdckoljmgcjaaGreatDoor.vaultOpens
