/-
  WireTakes: whatever is taken from any bytes, in whatever order, is the document's; so is the first error, and what is left. No condition.
-/
import Derived.Test.YtjefhnhlkhnogaaTakeB
import Derived.Test.YtjefhnhlkhnogaaTakeC
import Derived.Test.YtjefhnhlkhnogaaOut
import Derived.Test.YtjefhnhlkhnogaaOps
import Derived.Deep.QuietTactic
import Derived.BigQuiet
import Derived.RegionTactic
import Derived.Deep.RegionHeld3
import Derived.Deep.DrawnRows
namespace Go.Proofs.Ytjefhnhlkhnogaa.wireTakes
open Go.ChangeShapes Go.WideShapes Go.ChangeAt Go.RowKit
attribute [local go_sem ↓] Go.wp_at_zero Go.wp_at_succ
set_option linter.unusedVariables false

theorem take_any (A : Option Addr) (L : List Nat) (n c p e g : Nat) (k : Int) (N : Nat) (s : ByteArray) (w : World) (hn : L.length = n) (hp : p ≤ n) (hl : n ≤ 9223372036854775807) (hN : (N : Int) ≤ 18446744073709551615) (hx : ∀ x ∈ L, x < 256) (hc : n ≤ c) (hA0 : A = none → c = 0) (hA : Sees .u8 w A L) (hI : InAt w g (rem L p e) e) :
    Calls Try.prog 7 #[.pointer (some ⟨g, 0, none⟩), reader A n c (p : Int) (e : Int), .agg #[.int .i64 k, .int .u64 (N : Int), .string s]] w (TakeDoes A n L c g w) := by
  by_cases h1 : k = 1
  · subst h1; exact take_byte A L n c p e g N s w hn hp hl hN hA hI
  by_cases h2 : k = 2
  · subst h2; exact take_truth A L n c p e g N s w hn hp hl hN hx hc hA0 hA hI
  by_cases h3 : k = 3
  · subst h3; exact take_short A L n c p e g N s w hn hp hl hN hx hc hA0 hA hI
  by_cases h4 : k = 4
  · subst h4; exact take_fixed A L n c p e g N s w hn hp hl hN hx hc hA0 hA hI
  by_cases h5 : k = 5
  · subst h5; exact take_text A L n c p e g N s w hn hp hl hN hx hc hA0 hA hI
  by_cases h6 : k = 6
  · subst h6; exact take_fail A L n c p e g N s w hp hN hI
  exact take_other A L n c p e g k N s w hp hN hI h1 h2 h3 h4 h5 h6

set_option maxRecDepth 100000 in
set_option maxHeartbeats 400000 in
theorem walk_long (b a : Option Addr) (lb cb n ca : Nat) (w : World) (h : 60 < n) :
    Calls Try.prog 3 #[.slice b lb cb, .slice a n ca] w fun e w' => e = .returned (.bool true) ∧ Below w.heap.size w w' := by
  go_enter Try.func3, Try.ntmps3
  go_wp2_with (go_at_call 5; refine (anchor_any _).mono ?_; rintro e w1 ⟨rfl, hw1⟩)
  go_ret
  exact ⟨rfl, hw1⟩

/-- What the loop holds. -/
def TakesRel (A : Option Addr) (L : List Nat) (n c gi gx m : Nat) (w1 : World) (i : Value) (wr : World) : Prop :=
  ∃ k p e : Nat, k ≤ m ∧ i = .int .i64 (k : Int) ∧ p ≤ n ∧ InAt wr gi (rem L p e) e ∧ Blk wr gx 28 #[.slice A n c, .int .i64 (p : Int), .int .i64 (e : Int)] ∧ Below w1.heap.size w1 wr

theorem left_as (q : Int) (g : Nat) (l : List Nat) (e : Nat) (w : World) (h : InAt w g l e) (hq : (l.length : Int) = q) :
    Calls Try.prog 8 #[.pointer (some ⟨g, 0, none⟩)] w fun en w' => en = .returned (.int .i64 q) ∧ w = w' := by
  subst hq; exact left_any g l e w h

set_option maxRecDepth 100000 in
set_option maxHeartbeats 1000000 in
theorem walk_short (A B : Option Addr) (L : List Nat) (ops : List OpV) (n c cb : Nat) (w : World) (hn : L.length = n) (hl : n ≤ 140737488355328) (hc : n ≤ c) (hA0 : A = none → c = 0) (hx : ∀ x ∈ L, x < 256) (hA : Sees .u8 w A L) (hm : ops.length ≤ 60) (hO : SeesOps w B ops) :
    Calls Try.prog 3 #[.slice A n c, .slice B ops.length cb] w fun e w' => e = .returned (.bool true) ∧ Below w.heap.size w w' := by
  have HN := hid hn
  have HA0 := hid hA0
  have HX := hid hx
  have HA := hid hA
  have HO := hid hO
  clear hn hA0 hx hA hO
  go_enter Try.func3, Try.ntmps3
  go_wp2_with fail
  with_reducible refine (anchor_any _).mono ?_
  rintro e w1 ⟨rfl, hw1⟩
  have HW1 := hid hw1
  have HA1 := hid (HA.out.below hw1)
  have HO1 := hid (HO.out.below hw1)
  clear hw1 HA HO
  go_wp2_with fail
  with_reducible refine (newin_any A L n c _ HN.out hl HA0.out HA1.out).mono ?_
  rintro e w2 ⟨gi, rfl, hin, hb2, hge⟩
  have HI2 := hid hin
  have HB2 := hid hb2
  have hlt := hin.lt
  have hs2 := hb2.size
  clear hin hb2
  go_wp2
  have HR : Hid (TakesRel A L n c gi w2.heap.size ops.length w1 (.int .i64 0) (w2.alloc (.cells #[.slice A n c, .int .i64 0, .int .i64 0] 28))) := hid
    ⟨0, 0, 0, Nat.zero_le _, rfl, Nat.zero_le _, HI2.out.keep ((Below.refl _ _).alloc (by omega) _), Blk.new _ _ _, HB2.out.alloc hs2 _⟩
  generalize hgx : w2.heap.size = gx at *
  have hgx2 : w1.heap.size ≤ gx := by omega
  clear hgx
  go_loopw [22] (fun i wr => TakesRel A L n c gi gx ops.length w1 i wr) (fun i _ => ops.length - (intOf i).toNat)
  case atStart => exact HR.out
  case round =>
    obtain ⟨k, p, e, hk, rfl, hp, hin, hbx, hb⟩ := hrel
    by_cases hlt2 : k < ops.length
    · have HI3 := hid hin
      have HX3 := hid hbx
      have HB3 := hid hb
      have hxl := hbx.lt
      obtain ⟨x0, x1, x2⟩ := (blk3 hbx).1
      obtain ⟨bo, oo, rfl, hbl, o0, o1, o2, hN, _⟩ := (HO1.out.below hb) k ops[k] (List.getElem?_eq_getElem hlt2)
      clear hin hbx hb
      go_wp2_with fail
      have HA2 := hid ((HA1.out.below HB3.out).alloc_ (.cells #[.int .i64 ops[k].kind, .int .u64 (ops[k].num : Int), .string ops[k].text] 31))
      have HIo := hid (HI3.out.keep ((Below.refl _ _).alloc (by have := HI3.out.lt; omega) (.cells #[.int .i64 ops[k].kind, .int .u64 (ops[k].num : Int), .string ops[k].text] 31)))
      have HXo := hid (HX3.out.alloc (.cells #[.int .i64 ops[k].kind, .int .u64 (ops[k].num : Int), .string ops[k].text] 31))
      have HBo := hid (HB3.out.alloc HB3.out.size (.cells #[.int .i64 ops[k].kind, .int .u64 (ops[k].num : Int), .string ops[k].text] 31))
      with_reducible refine (take_any A L n c p e gi ops[k].kind ops[k].num ops[k].text _ HN.out hp (by omega) hN HX.out hc HA0.out HA2.out HIo.out).mono ?_
      rintro en w3 ⟨p', e', hp', rfl, hin3, hg3⟩
      have hgix : gi < gx := by omega
      have HX4 := hid (HXo.out.grown hg3 (show some gx ≠ some gi by simp; omega))
      have HB4 := hid (HBo.out.trans (below_only hg3 hge HBo.out.size))
      have HI4 := hid hin3
      obtain ⟨⟨y0, y1, y2⟩, f0, f1, f2⟩ := blk3 HX4.out
      have HX5 : Hid (Blk (((w3.setCell ⟨gx, 0, none⟩ (.slice A n c)).setCell ⟨gx, 1, none⟩ (.int .i64 (p' : Int))).setCell ⟨gx, 2, none⟩ (.int .i64 (e' : Int))) gx 28 #[.slice A n c, .int .i64 (p' : Int), .int .i64 (e' : Int)]) := hid (Blk.put3 HX4.out (.slice A n c) (.int .i64 (p' : Int)) (.int .i64 (e' : Int)))
      have HI5 : Hid (InAt (((w3.setCell ⟨gx, 0, none⟩ (.slice A n c)).setCell ⟨gx, 1, none⟩ (.int .i64 (p' : Int))).setCell ⟨gx, 2, none⟩ (.int .i64 (e' : Int))) gi (rem L p' e') e') := hid (HI4.out.put3 hgix (.slice A n c) (.int .i64 (p' : Int)) (.int .i64 (e' : Int)))
      have HB5 : Hid (Below w1.heap.size w1 (((w3.setCell ⟨gx, 0, none⟩ (.slice A n c)).setCell ⟨gx, 1, none⟩ (.int .i64 (p' : Int))).setCell ⟨gx, 2, none⟩ (.int .i64 (e' : Int)))) := hid (below_put3 HB4.out hgx2 (.slice A n c) (.int .i64 (p' : Int)) (.int .i64 (e' : Int)))
      have hxl5 : gx < w3.heap.size := HX4.out.lt
      clear hin3 hg3 HA2 HIo HXo HBo x0 x1 x2 o0 o1 o2 hxl HI3 HX3 HB3 hbl
      by_cases he : e' = 0
      · have hE : ((e' : Int) != 0) = false := by rw [bne_eq_false_iff_eq]; omega
        have HQ : Hid (((rem L p' e').length : Int) = (n : Int) - (p' : Int)) := hid (by rw [he, rem_ok, List.length_drop, HN.out]; omega)
        clear he
        go_wp2
        generalize (((w3.setCell ⟨gx, 0, none⟩ (.slice A n c)).setCell ⟨gx, 1, none⟩ (.int .i64 (p' : Int))).setCell ⟨gx, 2, none⟩ (.int .i64 (e' : Int))) = W at *
        obtain ⟨z0, z1, z2⟩ := (blk3 HX5.out).1
        have hgl5 := HI5.out.lt
        have hxl6 := HX5.out.lt
        have hs5 := HB5.out.size
        go_region_held3 (fun w' => w'.cell? ⟨gx, 0, none⟩ = some (.slice A n c) ∧ w'.cell? ⟨gx, 1, none⟩ = some (.int .i64 (p' : Int)) ∧ w'.cell? ⟨gx, 2, none⟩ = some (.int .i64 (e' : Int)))
          (first | exact ⟨z0, z1, z2⟩ | exact (blk3 HX6.out).1 | go_keep)
          (first
            | (go_at_call 8; refine (left_as ((n : Int) - (p' : Int)) gi _ _ _ (by exact HI5.out) HQ.out).mono ?_; rintro en w5 ⟨rfl, rfl⟩)
            | (go_at_call 9; refine (end_any gi (rem L p' e') e' _ (by first | exact HI5.out | exact HI6.out)).mono ?_; rintro en w5 ⟨rfl, rfl⟩)
            | (go_at_call 10; refine (refend_any A L n c p' e' _ HN.out hp').mono ?_; rintro en w6 ⟨rfl, hb6⟩; have HI6 := hid (InAt.keep (w := W.drew) HI5.out (hb6.mono hgl5)); have HX6 := hid (Blk.below (w := W.drew) HX5.out hb6 hxl6); have HB6 := hid ((below_drew HB5.out).trans (hb6.mono hs5)))
            | (go_at_call 11; refine (failed_as false gi _ _ _ (by first | exact HI6.out) hE.symm).mono ?_; rintro en w5 ⟨rfl, rfl⟩))
        all_goals
          go_wp2
          go_roundw
          case rel => exact ⟨k + 1, p', e', by omega, by go_num, hp', HI6.out, HX6.out, HB6.out⟩
          case measure => simp only [intOf]; omega
      · have hE : ((e' : Int) != 0) = true := by rw [bne_iff_ne]; omega
        have HQ : Hid (((rem L p' e').length : Int) = 0) := hid (by rw [rem_err he]; rfl)
        clear he
        go_wp2
        generalize (((w3.setCell ⟨gx, 0, none⟩ (.slice A n c)).setCell ⟨gx, 1, none⟩ (.int .i64 (p' : Int))).setCell ⟨gx, 2, none⟩ (.int .i64 (e' : Int))) = W at *
        obtain ⟨z0, z1, z2⟩ := (blk3 HX5.out).1
        have hgl5 := HI5.out.lt
        have hxl6 := HX5.out.lt
        have hs5 := HB5.out.size
        go_region_held3 (fun w' => w'.cell? ⟨gx, 0, none⟩ = some (.slice A n c) ∧ w'.cell? ⟨gx, 1, none⟩ = some (.int .i64 (p' : Int)) ∧ w'.cell? ⟨gx, 2, none⟩ = some (.int .i64 (e' : Int)))
          (first | exact ⟨z0, z1, z2⟩ | exact (blk3 HX6.out).1 | go_keep)
          (first
            | (go_at_call 8; refine (left_as 0 gi _ _ _ (by exact HI5.out) HQ.out).mono ?_; rintro en w5 ⟨rfl, rfl⟩)
            | (go_at_call 9; refine (end_any gi (rem L p' e') e' _ (by first | exact HI5.out | exact HI6.out)).mono ?_; rintro en w5 ⟨rfl, rfl⟩)
            | (go_at_call 10; refine (refend_any A L n c p' e' _ HN.out hp').mono ?_; rintro en w6 ⟨rfl, hb6⟩; have HI6 := hid (InAt.keep (w := W.drew) HI5.out (hb6.mono hgl5)); have HX6 := hid (Blk.below (w := W.drew) HX5.out hb6 hxl6); have HB6 := hid ((below_drew HB5.out).trans (hb6.mono hs5)))
            | (go_at_call 11; refine (failed_as true gi _ _ _ (by first | exact HI6.out) hE.symm).mono ?_; rintro en w5 ⟨rfl, rfl⟩))
        all_goals
          go_wp2
          go_roundw
          case rel => exact ⟨k + 1, p', e', by omega, by go_num, hp', HI6.out, HX6.out, HB6.out⟩
          case measure => simp only [intOf]; omega
    · go_wp2
      go_ret
      exact ⟨rfl, HW1.out.trans (hb.mono HW1.out.size)⟩

/-- The Go text returns true. -/
theorem walk (A B : Option Addr) (L : List Nat) (ops : List OpV) (c cb : Nat) (hn : A = none → c = 0) (hl : L.length ≤ c) (hr : L.length * 1 ≤ 140737488351232) (h8 : ∀ x ∈ L, (Lit.int .u8 (x : Int)).wf = true) (w : World) (hA : Sees .u8 w A L) (hO : SeesOps w B ops) :
    Calls Try.prog 3 #[.slice A L.length c, .slice B ops.length cb] w fun e w' => e = .returned (.bool true) ∧ Below w.heap.size w w' := by
  by_cases h : 60 < ops.length
  · exact walk_long A B L.length c ops.length cb w h
  · exact walk_short A B L ops L.length c cb w rfl (by omega) hl hn (fun x hx => by have := u8_lt _ (h8 x hx); omega) hA (by omega) hO

theorem own : ownKnob Try.prog.godebug = none := by kernel_rfl
theorem laidOut : laidOutB Try.prog = true := by kernel_rfl
theorem cells_u8 : Try.prog.cellsOf 5 = 1 := by kernel_rfl
theorem bytes_u8 : Try.prog.bytesOf 5 = 1 := by kernel_rfl
theorem cells_op : Try.prog.cellsOf 31 = 3 := by kernel_rfl

set_option maxRecDepth 100000 in
theorem lifted (os : Os) (started : os.Started) (H : Type) (enc : TypeId × Value → H) :
    ReturnsInHanded {} Try.checked os 3 .any (Rows.wireTakesSpec.pre6 enc Try.prog Try.f3 Rows.wireTakesRow.domain false) (Rows.wireTakesSpec.post enc Try.prog Try.f3 false true false false) := by
  refine returnsInHanded_of_change_sized (C := Try.checked) own started (by kernel_rfl) Try.func3
    (ChangeSpec.witness6 (enc := enc) (C := Try.checked) false ⟨#[], #[.slice none 0 0, .slice none 0 0], []⟩ 8 (by kernel_rfl) (by kernel_rfl) (by kernel_rfl) (by kernel_rfl)) ?_
  intro W base args ds gs before hval0 hW _ hsz0 _
  have hsz : (DataW.weightsEach Try.prog (Try.f3.params.toList ++ Rows.wireTakesSpec.plain.varTypes Try.prog) (ds ++ gs)).all (· ≤ reachBytes) = true := hsz0
  have hval : ∀ (j : Nat) t v, Try.f3.params[j]? = some t → args[j]? = some v → Value.okWide Try.prog W .any base t v := hval0
  have hW' := hW
  obtain ⟨p, q, hA0, hV, rfl, _, _⟩ := hW
  have hA : DataW.TrodAll enc Try.prog W 0 (fun _ => true) true Try.f3.params.toList args.toList ds p := hA0
  rw [Try.params3] at hA hval hsz
  have hlt : ∀ x ∈ p, x.block < W.heap.size := fun x hx => by simpa using hW'.lt x (List.mem_append_left _ hx)
  obtain ⟨v0, vs0, d0, ds0, p0, q0, hargs, rfl, rfl, g0, r0⟩ := trodAll_cons hA
  obtain ⟨v1, vs1, d1, ds1, p1, q1, rfl, rfl, rfl, g1, r1⟩ := trodAll_cons r0
  obtain ⟨rfl, rfl, rfl⟩ := trodAll_nil r1
  obtain rfl : args = #[v0, v1] := by cases args; simp_all
  obtain ⟨rfl, rfl⟩ := trodVars_none hV
  obtain ⟨A0, c0, l0, rfl, hn0, hl0, hm0, hs0, hw0, hd0⟩ := open_nums Try.underlying22 Try.underlying5 cells_u8 u8_pos (hval 0 22 v0 rfl rfl) g0 (fun x hx => hlt x <| List.mem_append_left _ hx)
  have hr0 : l0.length * 1 ≤ 140737488351232 := by
    rcases hd0 with rfl | ⟨es, sp, hd, hlen⟩
    · simp
    · have := sized_slice hsz (j := 0) (t := 22) (e := 5) rfl (by rw [hd]; rfl) Try.underlying22
      rw [bytes_u8] at this
      simp only [reachBytes] at this
      omega
  obtain ⟨A1, c1, ops, rfl, hs1, _⟩ := open_ops Try.underlying23 Try.underlying31 (by kernel_rfl) cells_op Try.underlying3 Try.underlying29 Try.underlying9 (hval 1 23 v1 rfl rfl) g1 (fun x hx => hlt x <| List.mem_append_right _ <| List.mem_append_left _ hx)
  refine (walk A0 A1 l0 ops c0 c1 hn0 hl0 hr0 hw0 W hs0 hs1).mono fun e W' ⟨he, hg⟩ => ?_
  subst he
  exact ⟨_, rfl, law_post laidOut hW' (by kernel_rfl) rfl rfl Try.underlying4 rfl hg⟩

theorem proved : Rows.WireTakesSaid :=
  OpenClaim.holds_of_wide 3 Try.f3 rfl rfl rfl rfl rfl rfl rfl ⟨rfl, rfl, rfl, rfl, rfl⟩ rfl rfl rfl rfl rfl (by kernel_rfl) Try.func3 (by kernel_rfl)
    (of_decide_eq_true (by kernel_rfl)) (by unfold Func.isWrapper; first | (rw [if_pos (by decide +kernel)]; kernel_rfl) | (rw [if_neg (by decide +kernel)]; exact ⟨rfl, rfl⟩))
    (fun os started H enc _ => lifted os started H enc)
#print axioms proved

end Go.Proofs.Ytjefhnhlkhnogaa.wireTakes
