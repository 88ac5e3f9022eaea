import PyProof.Rows.All
import Wide.All
import OpenK.AllK
import Wide.FinOn
import HandS.ForMost
import HandS.FStr
import KE.KxField
import HandS.Strs
import HandS.SetFor
import HandS.Zip
import HandS.IntHex
import HandS.ForExc
import HandS.IsInst
import HandS.Evl
import HandS.Conv
import HandS.Flow
import HandS.Sort
import HandS.AnyAll
import HandS.Walk
import HandS.WideBits
import KE.KEqSeq
import PySem.Challenge.RW_potround_k05_tallies_together_and_turned
set_option Elab.async false
set_option linter.all false
set_option maxRecDepth 100000
namespace Pot
open PySem PySem.Spec PyProof.Rows L2
/-! ### six signs in base 16 -/
def hexc (d : Nat) : Nat := (Nat.digitChar d).toNat
def padx (w n : Nat) : List Nat := List.replicate (w - ((Nat.toDigits 16 n).map fun c => (if ((120 : Nat) == 88) = true then c.toUpper else c).toNat).length) 48 ++ (Nat.toDigits 16 n).map fun c => (if ((120 : Nat) == 88) = true then c.toUpper else c).toNat
theorem low_id : (fun c : Char => (if ((120 : Nat) == 88) = true then c.toUpper else c).toNat) = Char.toNat := by
  funext c
  rfl
theorem padx_one {n : Nat} (h : n < 16) : padx 1 n = [hexc n] := by
  unfold padx
  rw [Nat.toDigits_of_lt_base h]
  rfl
theorem padx_more {w n : Nat} (hw : 1 ≤ w) (h : n < 16 ^ (w + 1)) : padx (w + 1) n = padx w (n / 16) ++ [hexc (n % 16)] := by
  unfold padx
  by_cases c : n < 16
  · rw [Nat.toDigits_of_lt_base c, Nat.div_eq_of_lt c, Nat.mod_eq_of_lt c, Nat.toDigits_zero]
    have e : List.replicate (w + 1 - 1) 48 = List.replicate (w - 1) 48 ++ [48] := by
      obtain ⟨v, rfl⟩ : ∃ v, w = v + 1 := ⟨w - 1, by omega⟩
      rw [Nat.add_sub_cancel, Nat.add_sub_cancel, List.replicate_succ']
    simp only [List.map_cons, List.map_nil, List.length_singleton]
    rw [e]
    rfl
  · rw [Nat.toDigits_of_base_le (by decide) (Nat.le_of_not_lt c), List.map_append, List.length_append]
    simp only [List.map_cons, List.map_nil, List.length_singleton]
    rw [Nat.add_sub_add_right, List.append_assoc]
    rfl
theorem pad6 {n : Nat} (h : n < 16777216) : padx 6 n = [hexc (n / 16 / 16 / 16 / 16 / 16), hexc (n / 16 / 16 / 16 / 16 % 16), hexc (n / 16 / 16 / 16 % 16), hexc (n / 16 / 16 % 16), hexc (n / 16 % 16), hexc (n % 16)] := by
  rw [padx_more (by decide) (by omega), padx_more (by decide) (by omega), padx_more (by decide) (by omega), padx_more (by decide) (by omega), padx_more (by decide) (by omega), padx_one (by omega)]
  rfl
def hex6 (n : Nat) : Str := ⟨(padx 6 n).toArray⟩
theorem field_eq (a : Nat) (l : List Nat) (h : l.length + 1 ≤ 6) : Str.mk (List.replicate 0 48 ++ [] ++ [] ++ List.replicate (Int.toNat (6 - (([] : List Nat).length + ([] : List Nat).length + ([] : List Nat).length : Int) - ((List.replicate (Int.toNat (6 - (([] : List Nat).length + ([] : List Nat).length + ([] : List Nat).length : Int)) - (a :: l).length) 48 ++ a :: l).length : Int))) 48 ++ (List.replicate (Int.toNat (6 - (([] : List Nat).length + ([] : List Nat).length + ([] : List Nat).length : Int)) - (a :: l).length) 48 ++ a :: l) ++ [] ++ List.replicate 0 48).toArray
    = ⟨(List.replicate (6 - (a :: l).length) 48 ++ a :: l).toArray⟩ := by
  have e1 : Int.toNat (6 - (([] : List Nat).length + ([] : List Nat).length + ([] : List Nat).length : Int)) = 6 := by decide
  rw [e1]
  have e2 : Int.toNat (((6 : Nat) : Int) - (([] : List Nat).length + ([] : List Nat).length + ([] : List Nat).length : Int) - ((List.replicate (6 - (a :: l).length) 48 ++ a :: l).length : Int)) = 0 := by
    rw [List.length_append, List.length_replicate, List.length_cons]
    simp only [List.length_nil]
    omega
  rw [e2]
  simp
theorem ret_text2 {M : Model} {A : Around} {E : Value → Shared → Prop} {s : Shared} {X T : PySem.Str} {Q : PySem.Fin → Shared → Prop} (e : X = T) (hL : T.length ≤ sizeLine) (h : ∀ t k, Q (.done (.ret (.str T t))) { s with toks := k }) : wpAny M A (retStr X) Q E s := by
  subst e
  exact PySem.W.KXf.ret_text rfl hL h
theorem meets_hex6 {a : Int} {t u : Tok} (h0 : 0 ≤ a) (h1 : a < 16777216) :
    Meets (Builtin.«int.__format__» ⟨[.int a t, .str (PySem.Str.ofString "06x") u], []⟩) (fun _ R s => ∀ t' k, R (.ok (.ret (.str (hex6 a.toNat) t'))) { s with toks := k }) := by
  apply PySem.W.KPc.meets_of
  intro prog w A s Q E hQ
  unfold Builtin.«int.__format__»
  refine wpAny_bind (wpAny_of_eq (a := (_, _)) rfl ?_)
  refine wpAny_bind (wpAny_of_eq (a := _) rfl ?_)
  refine wpAny_ite (PySem.W.KPc.ite_no Bool.false_ne_true ?_)
  refine wpAny_bind (wpAny_typeNameOf (T := "str") (typeIs_str _ _ _) (by decide) fun _ => ?_)
  refine wpAny_bind (wpAny_of_eq (a := some _) rfl ?_)
  refine wpAny_ite (PySem.W.KPc.ite_no (by decide +kernel) ?_)
  refine wpAny_ite (PySem.W.KPc.ite_no (by decide +kernel) ?_)
  refine wpAny_bind (wpAny_typeNameOfCut_int ?_)
  have hp : Builtin.Float.parseFormatSpec (PySem.Str.ofString "06x").cps.toList "int" 62 = .ok { fill := 48, align := 61, sign := none, noNeg0 := false, alt := false, width := some 6, grouping := none, precision := none, type := some 120 } := by rfl
  rw [hp]
  refine wpAny_ite (PySem.W.KPc.ite_yes (by decide +kernel) ?_)
  have hl : (Nat.toDigits 16 a.natAbs).length ≤ 6 := (Nat.length_toDigits_le_iff (by decide) (by decide)).mpr (by omega)
  have hsz : (hex6 a.toNat).length ≤ sizeLine := by
    show (List.toArray _).size ≤ _
    rw [List.size_toArray, pad6 (by omega)]
    show 6 ≤ sizeLine
    decide
  refine ret_text2 (T := hex6 a.toNat) ?e hsz hQ
  case e =>
    have hd : decide (a < 0) = false := decide_eq_false (by omega)
    rw [hd]
    cases e : (Nat.toDigits 16 a.natAbs).map (fun c => (if ((120 : Nat) == 88) = true then c.toUpper else c).toNat) with
    | nil =>
      have z := congrArg List.length e
      rw [List.length_map] at z
      exact absurd (List.length_eq_zero_iff.mp z) Nat.toDigits_ne_nil
    | cons b l =>
      have hz : l.length + 1 ≤ 6 := by
        have z := congrArg List.length e
        rw [List.length_map, List.length_cons] at z
        omega
      have hR : hex6 a.toNat = ⟨(List.replicate (6 - (b :: l).length) 48 ++ b :: l).toArray⟩ := by
        unfold hex6 padx
        rw [show a.toNat = a.natAbs by omega, e]
      rw [hR]
      generalize hD : List.map _ (Nat.toDigits 16 a.natAbs) = D
      have hD2 : D = b :: l := hD.symm.trans e
      subst hD2
      exact field_eq b l hz
theorem pe_hex6 {X : Cx} {e : Expr} {te : TE} {p1 p2 p3 p4 : Pos} (he : PE X e te) :
    PE X (.JoinedStr [.FormattedValue e (-1) (some (.JoinedStr [.Constant (.str "06x") 0 p1] p2)) p3] p4) (fun σ H Q => te σ H fun x H1 => ∃ i : Int, x = .int i ∧ 0 ≤ i ∧ i < 16777216 ∧ Q (.str (hex6 i.toNat)) H1) := by
  refine ⟨fun pins s σ H Q I h => ?_⟩
  refine wpAny_JoinedStr_one (wpAny_FormattedValue_spec (thn (he.run pins s σ H _ I h) fun v s1 hv => ?_))
  obtain ⟨x, H1, I1, r1, i, rfl, h0, h1, q⟩ := hv
  obtain ⟨t, rfl⟩ := r1
  have hs : PE X (.JoinedStr [.Constant (.str "06x") 0 p1] p2) _ := pe_joined1 pe_str
  refine thn (hs.run pins s1 σ H1 (fun y H2 => y = .str "06x" ∧ H2 = H1) I1 ⟨rfl, rfl⟩) fun r s2 hr => ?_
  obtain ⟨y, H2, I2, r2, rfl, rfl⟩ := hr
  obtain ⟨t2, rfl⟩ := r2
  refine ⟨_, _, rfl, ?_⟩
  refine PySem.W.KXf.field_int rfl (by decide +kernel) (by decide +kernel) (fun u => meets_hex6 h0 h1) fun t' k => ?_
  exact ⟨.str (hex6 i.toNat), H2, I2.tok _, ⟨_, rfl⟩, q⟩
end Pot

namespace Pot
open PySem PySem.Spec PyProof.Rows L2 PySem.W PySem.Calls
/-! ### set(xs) of a list of ints -/
/-- the object that set() makes first -/
abbrev emptySet (w : World) : Obj := { cls := .type "set", dict := none, data := .set #[] 0 (.fresh 0 0 (!w.params.followText "set-order")) }
section
variable {P : Program} {w : World} {A : Around} {E : Value → Shared → Prop} {s : Shared}
/-- what is wanted behind the filling -/
def Filled (w : World) (s : Shared) (ns : List Int) (s' : Shared) : Prop := ∃ h' tk c, s' = { s with heap := h', toks := tk } ∧ SetR w h' s.heap.objs.size (fun j => decide (j ∈ ns)) c ∧ c ≤ ns.length ∧ ∀ b o, s.heap.get? b = some o → h'.get? b = some o
set_option maxHeartbeats 4000000 in
theorem call_set_li {l : Addr} {items : Array Value} (ns : List Int) {Q : Value → Shared → Prop} (hh : A.handled = none) (hl : s.heap.IsList l items) (hit : IntsAre items.toList ns) (hb : ns.length + 1 < scanBound)
    (hq : ∀ s', Filled w s ns s' → Q (.ref s.heap.objs.size) s') : wpAny (model P w) A (call (.type "set") [.ref l]) Q E s := by
  have size : items.size = ns.length := by
    rw [← Array.length_toList]; exact IntsAre.length hit
  have made := F.called_set.made
  have below := F.called_set.sub
  obtain ⟨_, _, chain⟩ := F.called_set.mro
  have nt := F.called_set.notType
  have cc := F.called_set.canCreate
  have ck := F.typeCall_set_1 (.ref l)
  refine wpAny_call (codeAny_of_tree (show wpAny _ _ (callAny (.type "set") _) _ _ _ from wpAny_pure ⟨Code.quiet_builtin _ (by decide +kernel), codeAny_builtin F.entry_type_call ?_⟩))
  rw [Around.under_plain (weight_type_call_type "set" [.ref l] []) rfl]
  repeat (any_goals (first | assumption | wp_step))
  refine codeAny_mono (code_set_led1 (.ref l) (E := E) (Q₁ := fun obj z => obj = .ref s.heap.objs.size ∧ z = { s with heap := s.heap.push (emptySet w) }) ⟨rfl, rfl⟩) fun r z hr => ?_
  rcases r with _ | fl
  case error => exact hr
  cases fl <;> first | exact hr.elim | skip
  obtain ⟨rfl, rfl⟩ := hr
  have at0 : (s.heap.push (emptySet w)).get? s.heap.objs.size = some (emptySet w) := Heap.get?_push_size _ rfl
  have ty0 : Shared.TypeIs { s with heap := s.heap.push (emptySet w) } (.ref s.heap.objs.size) "set" := ⟨_, at0, rfl⟩
  have li := F.called_set.init.lookup
  have bi := F.called_set.init.bind (.ref s.heap.objs.size)
  repeat (any_goals (first | assumption | wp_step))
  refine codeAny_mono (codeAny_call_builtin (R := wants (fun r z => r = .none ∧ Filled w s ns z) E) F.called_set.init.plain F.entry_set_init (check_set_init_1 ty0 ?_)) fun r z hz => ?_
  · obtain ⟨⟨_, od, _, os⟩, hol, hcl, nl, hdl⟩ := hl
    simp only at hcl hdl
    subst hcl
    subst hdl
    have keep : (s.heap.push (emptySet w)).get? l = some { cls := .type "list", dict := od, data := .seq items nl, slots := os } := Heap.get?_push_of_some _ hol
    have s1 := F.sub_list_set
    have s2 := F.sub_list_frozenset
    have s3 : (Value.type "list" == Value.type "dict") = false := by decide
    have isl : (s.heap.push (emptySet w)).IsList l items := ⟨_, keep, rfl, nl, rfl⟩
    unfold Builtin.«set.__init__» noKeywords Builtin.Frozenset.updateFrom
    generalize hPI : pyIter = PI
    wp_walk
    subst hPI
    refine wpAny_pyIter_list isl (wpAny_bind (wpAny_runValue ?_))
    have lt : l < s.heap.objs.size := Heap.lt_size hol
    have sz : (s.heap.push (emptySet w)).objs.size = s.heap.objs.size + 1 := Heap.size_push ..
    have ne1 : l ≠ (s.heap.push (emptySet w)).objs.size := by rw [sz]; exact Nat.ne_of_lt (Nat.lt_succ_of_lt lt)
    have ne2 : s.heap.objs.size ∉ [(s.heap.push (emptySet w)).objs.size, l] := by
      rw [sz]
      intro z
      rcases List.mem_cons.mp z with z | z
      · exact absurd z (Nat.ne_of_lt (Nat.lt_succ_self _))
      · exact absurd (List.mem_singleton.mp z) (Nat.ne_of_gt lt)
    have each : ∀ (i : Nat) (v : Value), items[i]? = some v → ∃ k t, ns[i]? = some k ∧ v = .int k t := fun i v hv => by
      have hi : i < ns.length := size ▸ (Array.getElem?_eq_some_iff.mp hv).1
      obtain ⟨t, e⟩ := IntsAre.int_at hit i v (by rw [Array.getElem?_toList]; exact hv)
      exact ⟨ns[i], t, List.getElem?_eq_getElem hi, by rw [e, List.getD_eq_getElem?_getD, List.getElem?_eq_getElem hi]; rfl⟩
    refine set_update_ints ((Walks.list (show A.in1.in1.in1.handled = none by simp [hh]) _ l ne1 items).toS) s.heap.objs.size ne2 ns size hb each (items.size - 0) 0 _ (by omega) (Nat.zero_le _) ⟨⟨_, Heap.get?_push_size _ rfl, rfl, rfl⟩, isl.push _⟩ ⟨0, Nat.le_refl 0, setR_new_at (Heap.get?_push_of_some _ at0)⟩ fun s' c hm hc hS => ?_
    obtain ⟨h', g, d, tk, o⟩ := s'
    cases (show g = s.gens from hm.gens)
    cases (show d = s.drawn from hm.drawn)
    cases (show o = s.os from hm.os)
    refine (show wpAny _ _ _ _ _ _ from wpAny_pure (show wpAny _ _ (ret Value.none) _ _ _ from wpAny_pure ⟨rfl, h', tk, c, rfl, hS, size ▸ hc, fun b o e => ?_⟩))
    have hb0 : b < s.heap.objs.size := Heap.lt_size e
    refine hm.heap b o (fun z => ?_) (Heap.get?_push_of_some _ (Heap.get?_push_of_some _ e))
    rcases List.mem_cons.mp z with z | z
    · exact absurd z (Nat.ne_of_lt hb0)
    · exact absurd ((List.mem_singleton.mp z).trans sz) (Nat.ne_of_lt (Nat.lt_succ_of_lt hb0))
  · rcases r with _ | fl
    case error => exact hz
    cases fl <;> first | exact hz.elim | skip
    obtain ⟨rfl, f⟩ := hz
    obtain ⟨h', tk, c, rfl, hS, hc, k⟩ := id f
    repeat (any_goals (first | assumption | wp_step))
    exact hq _ ⟨_, _, _, rfl, hS, hc, k⟩
end
section
variable {X : Cx}
/-- set(xs), at most 60 ints: a set of just these -/
def rSetLi (K : PySem.W.Frag) (w : World) : List V → Hp → VK → Prop := fun xs H Q => ∃ (a : Addr) (ns : List Int), xs = [V.ref a] ∧ SqL K H a (ns.map V.int) ∧ ns.length ≤ 1000 ∧
  ∀ (p : Addr) (c : Nat), H p = none → c ≤ ns.length → Q (.ref p) (upd H p (SetO w p (fun k => decide (k ∈ ns)) c))
theorem cr_setLi (hc : X.calm = true) : CallR X (.type "set") (rSetLi X.K X.w) := by
  intro pins s σ H vs us Q I r h
  obtain ⟨a, ns, rfl, hS, hl, q⟩ := h
  rw [Vals.ref1 r]
  obtain ⟨its, rv, pl, hz⟩ := I.list hS
  refine call_set_li ns (I.ok.hd hc) pl.isList (by simpa using Vals.ints rv) (by unfold scanBound; omega) fun s' f => ?_
  obtain ⟨h', tk, c, rfl, R, hcn, k⟩ := f
  have hn : H s.heap.objs.size = none := I.hok.fresh (Nat.le_refl _)
  have J : Inv X pins σ (upd H s.heap.objs.size (SetO X.w s.heap.objs.size (fun k => decide (k ∈ ns)) c)) { s with heap := h', toks := tk } := I.laid (t' := tk) k (Nat.le_refl _) (setO_new R)
  exact ⟨.ref s.heap.objs.size, _, J, rfl, q _ _ hn hcn⟩
end
end Pot

namespace Pot
open PySem L2
/-! ### tallies: bits, signs -/
def b2 (b : Bool) : Nat := if b = true then 1 else 0
def bitsW (p : Nat → Bool) : Nat → Nat
  | 0 => 0
  | w + 1 => bitsW p w + b2 (p w) * 2 ^ w
theorem bitsW_lt (p : Nat → Bool) : ∀ w, bitsW p w < 2 ^ w
  | 0 => by show 0 < 1; decide
  | w + 1 => by
    have ih := bitsW_lt p w
    unfold bitsW b2
    rw [Nat.pow_succ]
    split <;> omega
theorem bitsW_test (p : Nat → Bool) : ∀ w i, (bitsW p w).testBit i = (decide (i < w) && p i)
  | 0, i => by simp [bitsW]
  | w + 1, i => by
    have ih := bitsW_test p w i
    have lt := bitsW_lt p w
    unfold bitsW b2
    cases hp : p w with
    | false =>
      simp only [Bool.false_eq_true, if_false, Nat.zero_mul, Nat.add_zero]
      rw [ih]
      by_cases hi : i < w
      · simp [hi, Nat.lt_succ_of_lt hi]
      · by_cases he : i = w
        · subst he; simp [hp]
        · simp [hi, show ¬ i < w + 1 by omega]
    | true =>
      simp only [if_true, Nat.one_mul]
      rw [Nat.add_comm]
      by_cases hi : i < w
      · rw [Nat.testBit_two_pow_add_gt hi, ih]; simp [hi, Nat.lt_succ_of_lt hi]
      · by_cases he : i = w
        · subst he
          rw [Nat.testBit_two_pow_add_eq, Nat.testBit_lt_two_pow lt]; simp [hp]
        · have h2 : 2 ^ w + bitsW p w < 2 ^ i := by
            have : 2 ^ (w + 1) ≤ 2 ^ i := Nat.pow_le_pow_right (by decide) (by omega)
            rw [Nat.pow_succ] at this
            omega
          rw [Nat.testBit_lt_two_pow h2]; simp [show ¬ i < w + 1 by omega]
/-- the number of a day's hours -/
def bitsP (p : Nat → Bool) : Nat := bitsW p 24
theorem bitsP_lt (p : Nat → Bool) : bitsP p < 16777216 := bitsW_lt p 24
theorem bitsP_bit (p : Nat → Bool) {h : Nat} (hh : h < 24) : bitsP p / 2 ^ h % 2 = b2 (p h) := by
  have e := bitsW_test p 24 h
  rw [Nat.testBit_eq_decide_div_mod_eq] at e
  have lt : bitsP p / 2 ^ h % 2 < 2 := Nat.mod_lt _ (by decide)
  unfold b2
  show bitsW p 24 / 2 ^ h % 2 = _
  cases hp : p h with
  | true => rw [hp] at e; simp [hh] at e; simp [e]
  | false => rw [hp] at e; simp at e; simp; exact e
theorem bitsP_and (p q : Nat → Bool) : bitsP p &&& bitsP q = bitsP fun h => p h && q h := by
  apply Nat.eq_of_testBit_eq
  intro i
  rw [Nat.testBit_and]
  unfold bitsP
  rw [bitsW_test, bitsW_test, bitsW_test]
  cases decide (i < 24) <;> simp
theorem bitsP_or (p q : Nat → Bool) : bitsP p ||| bitsP q = bitsP fun h => p h || q h := by
  apply Nat.eq_of_testBit_eq
  intro i
  rw [Nat.testBit_or]
  unfold bitsP
  rw [bitsW_test, bitsW_test, bitsW_test]
  cases decide (i < 24) <;> simp
theorem bitsP_congr {p q : Nat → Bool} (h : ∀ i, i < 24 → p i = q i) : bitsP p = bitsP q := by
  apply Nat.eq_of_testBit_eq
  intro i
  unfold bitsP
  rw [bitsW_test, bitsW_test]
  by_cases hi : i < 24
  · rw [h i hi]
  · simp [hi]
/-- the sign of four hours -/
def sgn (p : Nat → Bool) (i : Nat) : Nat := b2 (p (4 * i)) + 2 * b2 (p (4 * i + 1)) + 4 * b2 (p (4 * i + 2)) + 8 * b2 (p (4 * i + 3))
theorem b2_le (b : Bool) : b2 b ≤ 1 := by unfold b2; split <;> omega
theorem sgn_lt (p : Nat → Bool) (i : Nat) : sgn p i < 16 := by
  have h0 := b2_le (p (4 * i)); have h1 := b2_le (p (4 * i + 1)); have h2 := b2_le (p (4 * i + 2)); have h3 := b2_le (p (4 * i + 3))
  unfold sgn; omega
/-- a tally's signs -/
def txt (p : Nat → Bool) : List Nat := [hexc (sgn p 5), hexc (sgn p 4), hexc (sgn p 3), hexc (sgn p 2), hexc (sgn p 1), hexc (sgn p 0)]
theorem digs (p : Nat → Bool) : bitsP p % 16 = sgn p 0 ∧ bitsP p / 16 % 16 = sgn p 1 ∧ bitsP p / 16 / 16 % 16 = sgn p 2 ∧ bitsP p / 16 / 16 / 16 % 16 = sgn p 3 ∧ bitsP p / 16 / 16 / 16 / 16 % 16 = sgn p 4 ∧ bitsP p / 16 / 16 / 16 / 16 / 16 = sgn p 5 := by
  have lt := bitsP_lt p
  have g := @bitsP_bit p
  have d0 : bitsP p % 16 = sgn p 0 := by
    unfold sgn; rw [← g (by decide), ← g (by decide), ← g (by decide), ← g (by decide)]; omega
  have d1 : bitsP p / 16 % 16 = sgn p 1 := by
    unfold sgn; rw [← g (by decide), ← g (by decide), ← g (by decide), ← g (by decide)]; omega
  have d2 : bitsP p / 16 / 16 % 16 = sgn p 2 := by
    unfold sgn; rw [← g (by decide), ← g (by decide), ← g (by decide), ← g (by decide)]; omega
  have d3 : bitsP p / 16 / 16 / 16 % 16 = sgn p 3 := by
    unfold sgn; rw [← g (by decide), ← g (by decide), ← g (by decide), ← g (by decide)]; omega
  have d4 : bitsP p / 16 / 16 / 16 / 16 % 16 = sgn p 4 := by
    unfold sgn; rw [← g (by decide), ← g (by decide), ← g (by decide), ← g (by decide)]; omega
  have d5 : bitsP p / 16 / 16 / 16 / 16 / 16 = sgn p 5 := by
    unfold sgn; rw [← g (by decide), ← g (by decide), ← g (by decide), ← g (by decide)]; omega
  exact ⟨d0, d1, d2, d3, d4, d5⟩
theorem pad_bits (p : Nat → Bool) : padx 6 (bitsP p) = txt p := by
  obtain ⟨d0, d1, d2, d3, d4, d5⟩ := digs p
  rw [pad6 (bitsP_lt p), d0, d1, d2, d3, d4, d5]
  rfl
theorem hex6_bits (p : Nat → Bool) : hex6 (bitsP p) = SX.S (txt p) := by
  unfold hex6; rw [pad_bits]
theorem hexc_ok : ∀ d, d < 16 → Hx.IsHex (hexc d) ∧ Hx.hv (hexc d) = d ∧ (hexc d ≤ 57 ∨ 97 ≤ hexc d) := by
  unfold Hx.IsHex; decide
theorem txt_hex (p : Nat → Bool) : ∀ c ∈ txt p, Hx.IsHex c := by
  intro c hc
  simp only [txt, List.mem_cons, List.not_mem_nil, or_false] at hc
  rcases hc with rfl | rfl | rfl | rfl | rfl | rfl <;> exact (hexc_ok _ (sgn_lt p _)).1
theorem txt_num (p : Nat → Bool) : Hx.hexNum (txt p) = bitsP p := by
  obtain ⟨d0, d1, d2, d3, d4, d5⟩ := digs p
  have v := fun i => (hexc_ok _ (sgn_lt p i)).2.1
  unfold Hx.hexNum txt
  simp only [List.foldl_cons, List.foldl_nil, v]
  rw [← d0, ← d1, ← d2, ← d3, ← d4, ← d5]
  omega
/-- the number in the sum's own words -/
theorem sum_bits (p : Nat → Bool) : ∀ w, (((List.range w).filter p).map fun h => (2 : Int) ^ h).sum = (bitsW p w : Int)
  | 0 => rfl
  | w + 1 => by
    have ih := sum_bits p w
    rw [List.range_succ, List.filter_append, List.map_append, List.sum_append, ih]
    show _ = ((bitsW p w + b2 (p w) * 2 ^ w : Nat) : Int)
    unfold b2
    cases hp : p w with
    | true => simp [hp]
    | false => simp [hp]
/-- an hour is among these -/
def memP (ns : List Int) (h : Nat) : Bool := decide ((h : Int) ∈ ns)
theorem inV_ints (k : Int) (ns : List Int) : inV (.int k) (ns.map V.int) = decide (k ∈ ns) := by
  unfold inV
  rw [List.any_map, Bool.eq_iff_iff, List.any_eq_true, decide_eq_true_eq]
  constructor
  · rintro ⟨x, hx, e⟩
    have e2 : (x == k) = true := e
    rw [← eq_of_beq e2]; exact hx
  · intro h
    exact ⟨k, h, show (k == k) = true from beq_self_eq_true k⟩
theorem flat_ints (ns : List Int) : (ns.map V.int).all flatV = true := by
  rw [List.all_eq_true]
  intro x hx
  obtain ⟨k, _, rfl⟩ := List.mem_map.mp hx
  rfl
end Pot

namespace Pot
open PySem PySem.Spec PyProof.Rows L2

def topS (i : Nat) : Stmt := PySem.Challenge.pw_potround_k05_tallies_together_and_turned.main.body.getD i (.Pass ⟨0, 0, 0, 0⟩)
abbrev sBegin : Stmt := topS 14
abbrev sTake : Stmt := topS 15

/-! ### the drawing state -/
def dS (c : Addr) (t : Int) : List (Key × V) := [(Sum.inr "cells", .ref c), (Sum.inr "turn", .int t)]
/-- at d stands a state of the law: its cells at c, its turn at most n -/
def StAt (H : Hp) (d c : Addr) (n : Nat) : Prop := d ≠ c ∧ ∃ (xs : List Int) (t : Int),
  H d = some (.dK (dS c t)) ∧ H c = some (.lst (xs.map V.int)) ∧ xs ≠ [] ∧ xs.length ≤ 63 ∧ 0 ≤ t ∧ t ≤ n
/-- all that was tracked stands, but d and c -/
def Kp (d c : Addr) (H H' : Hp) : Prop := ∀ b o, b ≠ d → b ≠ c → H b = some o → H' b = some o
theorem Kp.refl (d c : Addr) (H : Hp) : Kp d c H H := fun _ _ _ _ e => e
theorem Kp.trans {d c : Addr} {H H1 H2 : Hp} (a : Kp d c H H1) (b : Kp d c H1 H2) : Kp d c H H2 := fun x o h1 h2 e => b x o h1 h2 (a x o h1 h2 e)
theorem Kp.of {d c : Addr} {H H' : Hp} (s : Same H H') : Kp d c H H' := fun x o _ _ e => s x o e
theorem same_upd {H : Hp} {p : Addr} {o : HO} (h : H p = none) : Same H (upd H p o) := fun b x e => by
  rw [upd_ne (ne_of_none e h)]
  exact e
theorem same_put {H H' : Hp} {p : Addr} {o : HO} (s : Same H H') (h : H p = none) : Same H (upd H' p o) := fun b x e => by
  rw [upd_ne (ne_of_none e h)]
  exact s b x e
theorem kp_put {d c : Addr} {H H' : Hp} {p : Addr} {o : HO} (s : Kp d c H H') (h : H p = none) : Kp d c H (upd H' p o) := fun b x h1 h2 e => by
  rw [upd_ne (ne_of_none e h)]
  exact s b x h1 h2 e
theorem StAt.mono {H : Hp} {d c : Addr} {n m : Nat} (h : StAt H d c n) (k : n ≤ m) : StAt H d c m := by
  obtain ⟨h0, xs, t, h1, h2, h3, h4, h5, h6⟩ := h
  exact ⟨h0, xs, t, h1, h2, h3, h4, h5, by omega⟩
theorem StAt.same {H H' : Hp} {d c : Addr} {n : Nat} (h : StAt H d c n) (s : Same H H') : StAt H' d c n := by
  obtain ⟨h0, xs, t, h1, h2, h3, h4, h5, h6⟩ := h
  exact ⟨h0, xs, t, s _ _ h1, s _ _ h2, h3, h4, h5, h6⟩
theorem Kp.free {d c : Addr} {H H' : Hp} {n : Nat} {l : Addr} (k : Kp d c H H') (s : StAt H' d c n) (h : H' l = none) : H l = none := by
  obtain ⟨_, xs, t, h1, h2, _⟩ := s
  have n1 : l ≠ d := (ne_of_none h1 h).symm
  have n2 : l ≠ c := (ne_of_none h2 h).symm
  cases e : H l with
  | none => rfl
  | some o =>
    rw [k l o n1 n2 e] at h
    cases h
theorem StAt.ne1 {H : Hp} {d c : Addr} {n : Nat} {l : Addr} (s : StAt H d c n) (h : H l = none) : d ≠ l := by
  obtain ⟨_, xs, t, h1, h2, _⟩ := s
  exact ne_of_none h1 h
theorem StAt.ne2 {H : Hp} {d c : Addr} {n : Nat} {l : Addr} (s : StAt H d c n) (h : H l = none) : c ≠ l := by
  obtain ⟨_, xs, t, h1, h2, _⟩ := s
  exact ne_of_none h2 h
theorem StAt.put {H : Hp} {d c : Addr} {n : Nat} {l : Addr} {o : HO} (s : StAt H d c n) (n1 : d ≠ l) (n2 : c ≠ l) : StAt (upd H l o) d c n := by
  obtain ⟨h0, xs, t, h1, h2, h3, h4, h5, h6⟩ := s
  exact ⟨h0, xs, t, by rw [upd_ne n1]; exact h1, by rw [upd_ne n2]; exact h2, h3, h4, h5, h6⟩
theorem val_turn (c : Addr) (t : Int) : valV (dS c t) (Sum.inr "turn") = some (.int t) := by
  have e : ¬ ((Sum.inr (Str.ofString "cells") : Key) = Sum.inr (Str.ofString "turn")) := by decide +kernel
  unfold dS; rw [valV_neg e, valV_pos rfl]
theorem val_cells (c : Addr) (t : Int) : valV (dS c t) (Sum.inr "cells") = some (.ref c) := by
  unfold dS; rw [valV_pos rfl]
theorem put_turn (c : Addr) (t u : Int) : putK (dS c t) (Sum.inr "turn") (.int u) = dS c u := by
  have e : ¬ ((Sum.inr (Str.ofString "cells") : Key) = Sum.inr (Str.ofString "turn")) := by decide +kernel
  unfold putK dS
  simp [e]

theorem dget_turn {H : Hp} {d c : Addr} {t : Int} (h : H d = some (.dK (dS c t))) : DGet H d (.str "turn") (some (.int t)) := by
  rw [← val_turn c t]; exact DGet.k (k := Sum.inr "turn") h
theorem dget_cells {H : Hp} {d c : Addr} {t : Int} (h : H d = some (.dK (dS c t))) : DGet H d (.str "cells") (some (.ref c)) := by
  rw [← val_cells c t]; exact DGet.k (k := Sum.inr "cells") h
theorem dput_turn {H : Hp} {d c : Addr} {t : Int} (u : Int) (h : H d = some (.dK (dS c t))) : DPut H d (.str "turn") (.int u) (upd H d (.dK (dS c u))) := by
  rw [← put_turn c t u]; exact DPut.k (k := Sum.inr "turn") h (by show 2 < sizeLine; decide)
theorem ge18 (x : Int) : (decide ((10 : Int) ^ (18 : Int).toNat ≤ x) = true) ↔ 1000000000000000000 ≤ x := by
  have e : (10 : Int) ^ (18 : Int).toNat = 1000000000000000000 := by decide
  rw [e, decide_eq_true_eq]
theorem cmul_mod (a b : Int) {m : Int} (h0 : 0 < m) (h1 : m < 2 ^ 64) : CMul (a % m) b := by
  have p := Int.emod_nonneg a (show m ≠ 0 by omega)
  have q := Int.emod_lt_of_pos a h0
  exact .inl ⟨by omega, by omega⟩
theorem mod_at {xs : List Int} {u : Int} (hx : xs ≠ []) : ∃ (j : Nat) (y : Int), u % ((xs.map V.int).length : Int) = (j : Int) ∧ j < xs.length ∧ xs[j]? = some y := by
  have h0 : 0 < xs.length := List.length_pos_iff.mpr hx
  rw [List.length_map]
  have a := Int.emod_nonneg u (show (xs.length : Int) ≠ 0 by omega)
  have b := Int.emod_lt_of_pos u (show (0 : Int) < (xs.length : Int) by omega)
  refine ⟨(u % (xs.length : Int)).toNat, xs[(u % (xs.length : Int)).toNat]'(by omega), by omega, by omega, ?_⟩
  exact List.getElem?_eq_getElem _

/-! ### _law_take -/
def spTake : Sp := fun vs H Q _ => ∃ (d c : Addr) (m : Int) (n : Nat), vs = [.ref d, .int m] ∧ 0 < m ∧ m < 1073741824 ∧ StAt H d c n ∧ n < 2 ^ 40 ∧
  ∀ H' r, 0 ≤ r → r < m → StAt H' d c (n + 1) → Kp d c H H' → Q (.int r) H'
section
variable {P : Program} {w : World} {K : PySem.W.Frag} {mg : Str → Option Value} {base : Heap}
theorem scTake : FnScope ["_law_state", "_law_many", "_law_turn", "_law_place", "_law_cell", "_law_digit", "_law_mixed"] ["_law_state", "_law_many"] (defScope sTake) :=
  ⟨rfl, rfl, rfl, by decide +kernel, rfl, by decide +kernel, by decide +kernel⟩
theorem ok_take {f : Addr} {fd : FuncData} {k : Nat} (F : Fun K "_law_take" "_law_take" sTake f fd) (ml : mg "len" = none) (md : mg "divmod" = none) :
    FnOk P w K mg base CX0 (k + 1) f fd ["_law_state", "_law_many"] spTake := by
  refine F.ok scTake (fun vs H Q E h => ?_) (fun cdv A outer s H vs Q E hr h => ?_)
  · obtain ⟨d, c, m, n, rfl, _⟩ := h
    rfl
  · obtain ⟨d, c, m, n, rfl, hm0, hm1, ⟨ndc, xs, t, hd, hc, hx, hx63, ht0, htn⟩, hn, q⟩ := h
    have hu := hu_of hr
    refine ⟨_, pss_cons (ps_set (i := 2) scTake.nd rfl (.inl rfl) (pe_op op_add (pe_dget hu (pv 0) pe_str (fun _ _ => rfl)) pe_int))
      (pss_cons (ps_dput hu (pv 0) pe_str (pv 2) rfl)
      (pss_cons (ps_set (i := 3) scTake.nd rfl (.inl rfl) (pe_op op_mod (pv 2) (pe_callB call_len_seq (by rfl) ml PySem.boot_len (pa_cons (pe_dget hu (pv 0) pe_str (fun _ _ => rfl)) pa_nil))))
      (pss_cons (ps_set (i := 4) scTake.nd rfl (.inl rfl) (pe_ix ix_list (pe_dget hu (pv 0) pe_str (fun _ _ => rfl)) (pv 3) (fun _ _ => rfl)))
      (pss_cons (ps_if (pt_cmpR op_ge (pv 4) (pe_op op_pow pe_int pe_int) (nomark _))
        (pss_cons (ps_asg (pe_callB call_divmod (by rfl) md (by decide +kernel) (pa_cons (pv 4) (pa_cons (pv 1) pa_nil)))
            (pg_tup rfl (pgs_cons (pg_sub (pe_dget hu (pv 0) pe_str (fun _ _ => rfl)) (pv 3) set_list) (pgs_cons (pg_name (i := 5) scTake.nd rfl (.inl rfl)) pgs_nil))))
          (pss_one (ps_ret (pv 5)))) pss_nil)
      (pss_cons (ps_set (i := 6) scTake.nd rfl (.inl rfl) (pe_op op_mod (pe_op op_mul (pe_op op_add (pe_op op_add (pe_op op_mod (pv 4) pe_int) (pe_op op_mul (pe_op op_mul (pv 2) (pv 2)) pe_int)) pe_int) pe_int) pe_int))
      (pss_cons (ps_set (i := 6) scTake.nd rfl (.inl rfl) (pe_op op_mod (pe_op op_mul (pv 6) (pv 6)) pe_int))
      (pss_one (ps_ret (pe_op op_mod (pe_op op_fdiv (pe_op op_mod (pe_op op_mul (pe_op op_add (pv 6) (pe_op op_mul (pv 2) pe_int)) pe_int) pe_int) pe_int) (pv 1)))))))))), ?_⟩
    -- turn = state['turn'] + 1
    refine ⟨_, rfl, d, _, rfl, dget_turn hd, _, _, rfl, rfl, ?_⟩
    -- state['turn'] = turn
    refine ⟨_, rfl, _, rfl, d, _, rfl, dput_turn (t + 1) hd, ?_⟩
    have hd1 : (upd H d (.dK (dS c (t + 1)))) d = some (.dK (dS c (t + 1))) := upd_same
    have hc1 : (upd H d (.dK (dS c (t + 1)))) c = some (.lst (xs.map V.int)) := by rw [upd_ne ndc.symm]; exact hc
    generalize hH1 : upd H d (.dK (dS c (t + 1))) = H1 at hd1 hc1 ⊢
    have kp1 : Kp d c H H1 := fun b o h1 h2 e => by rw [← hH1, upd_ne h1]; exact e
    obtain ⟨j, y, ej, hj, gj⟩ := mod_at (u := t + 1) hx
    have gj' : (xs.map V.int)[j]? = some (.int y) := by rw [List.getElem?_map, gj]; rfl
    -- place = turn % len(state['cells'])
    refine ⟨_, rfl, _, rfl, d, _, rfl, dget_cells hd1, c, _, rfl, .inl (SqL.of hc1), _, _, rfl, rfl, ?_, ?_⟩
    · show (0 : Int) < ((xs.map V.int).length : Int)
      rw [List.length_map]
      have h0 : 0 < xs.length := List.length_pos_iff.mpr hx
      omega
    -- cell = state['cells'][place]
    refine ⟨_, rfl, d, _, rfl, dget_cells hd1, _, rfl, c, _, _, _, rfl, rfl, SqL.of hc1, (by show atI (xs.map V.int) ((t + 1) % ((xs.map V.int).length : Int)) = some (.int y); rw [ej]; exact atI_nat gj'), ?_⟩
    -- if cell >= 10 ** 18
    refine ⟨_, rfl, _, _, rfl, rfl, ⟨by decide, by decide, by decide⟩, _, _, rfl, rfl, _, rfl, ?_⟩
    refine ite2 (fun hb => ?_) (fun hb => ?_)
    · -- cells[place], digit = divmod(cell, many)
      refine ⟨_, rfl, _, rfl, _, _, rfl, ⟨hm0, hm1⟩, fun p hp => ?_⟩
      have npd : d ≠ p := ne_of_none hd1 hp
      have npc : c ≠ p := ne_of_none hc1 hp
      refine ⟨p, _, rfl, .inl (.inl upd_same), rfl, _, _, rfl, _, rfl, d, _, rfl, dget_cells (t := t + 1) (by rw [upd_ne npd]; exact hd1), _, rfl, ?_⟩
      refine ⟨c, _, _, j, rfl, rfl, (by rw [upd_ne npc]; exact hc1), (by show ixN (xs.map V.int).length ((t + 1) % ((xs.map V.int).length : Int)) = some j; rw [ej]; exact Evl.ixN_nat (by rw [List.length_map]; exact hj)), ?_⟩
      refine ⟨_, _, rfl, rfl, _, rfl, ?_⟩
      refine q _ _ (Int.emod_nonneg _ (by omega)) (Int.emod_lt_of_pos _ hm0) ⟨ndc, xs.set j (y / m), t + 1, ?_, ?_, ?_, ?_, by omega, by omega⟩ (kp1.trans fun b o h1 h2 e => ?_)
      · rw [upd_ne ndc, upd_ne npd]; exact hd1
      · rw [upd_same, List.map_set]
      · intro z
        have z2 := congrArg List.length z
        rw [List.length_set] at z2
        exact hx (List.length_eq_zero_iff.mp z2)
      · rw [List.length_set]; exact hx63
      · rw [upd_ne h2, upd_ne (ne_of_none e hp)]; exact e
    · -- the mixed way
      have t2 : t + 1 < 2 ^ 41 := by omega
      have tt : (t + 1) * (t + 1) < 2 ^ 82 := Int.lt_of_lt_of_le (Int.mul_lt_mul t2 (Int.le_of_lt t2) (by omega) (by decide)) (by decide)
      refine ⟨_, rfl, _, _, rfl, rfl, (by show (0 : Int) < 2147483629; decide), _, rfl, _, rfl, _, _, rfl, rfl, .inl ⟨by omega, by omega⟩, _, _, rfl, rfl, .inr ⟨by decide, by decide⟩, _, _, rfl, rfl, _, _, rfl, rfl, _, _, rfl, rfl, .inr ⟨by decide, by decide⟩, _, _, rfl, rfl, (by show (0 : Int) < 2147483647; decide), ?_⟩
      refine ⟨_, rfl, _, rfl, _, _, rfl, rfl, cmul_mod _ _ (by decide) (by decide), _, _, rfl, rfl, (by show (0 : Int) < 2147483579; decide), ?_⟩
      refine ⟨_, rfl, _, rfl, _, _, rfl, rfl, .inr ⟨by decide, by decide⟩, _, _, rfl, rfl, _, _, rfl, rfl, .inr ⟨by decide, by decide⟩, _, _, rfl, rfl, (by show (0 : Int) < 2147483629; decide), _, _, rfl, rfl, ⟨by decide, by decide⟩, _, rfl, _, _, rfl, rfl, hm0, ?_⟩
      exact q _ _ (Int.emod_nonneg _ (by omega)) (Int.emod_lt_of_pos _ hm0) ⟨ndc, xs, t + 1, hd1, hc1, hx, hx63, by omega, by omega⟩ kp1
end
end Pot

namespace Pot
open PySem PySem.Spec PyProof.Rows L2
abbrev sTallyOf : Stmt := topS 6
abbrev sTallyHours : Stmt := topS 7
abbrev sBoth : Stmt := topS 8
abbrev sEither : Stmt := topS 9
abbrev sTurned : Stmt := topS 10
abbrev sWritten : Stmt := topS 11
abbrev sBits : Stmt := topS 12
/-- what the module's names hold -/
structure Txt5 (mg : Str → Option Value) : Prop where
  len : mg "len" = none
  divmod : mg "divmod" = none
  range : mg "range" = none
  sum : mg "sum" = none
  all : mg "all" = none
  isinstance : mg "isinstance" = none
  str : mg "str" = none
  int : mg "int" = none
  list : mg "list" = none
  tuple : mg "tuple" = none
  bool : mg "bool" = none
  zip : mg "zip" = none
  set : mg "set" = none
  sorted : mg "sorted" = none
  day : ∃ t, mg "DAY" = some (.int 24 t)
  signs : ∃ t, mg "SIGNS" = some (.str "0123456789abcdef" t)
section
variable {P : Program} {w : World} {K : PySem.W.Frag} {mg : Str → Option Value} {base : Heap}
/-! ### written -/
def spWritten : Sp := fun vs H Q _ => ∃ (p : Nat → Bool) (N : Nat), vs = [.int N] ∧ N = bitsP p ∧ Q (.str (SX.S (txt p))) H
theorem scWritten : FnScope ["bits"] ["bits"] (defScope sWritten) := ⟨rfl, rfl, rfl, by decide +kernel, rfl, by decide +kernel, by decide +kernel⟩
theorem ok_written {f : Addr} {fd : FuncData} {k : Nat} (F : Fun K "written" "written" sWritten f fd) : FnOk P w K mg base CX0 (k + 1) f fd ["bits"] spWritten := by
  refine F.ok scWritten (fun vs H Q E h => ?_) (fun cdv A outer s H vs Q E hr h => ?_)
  · obtain ⟨p, N, rfl, _⟩ := h
    rfl
  · obtain ⟨p, N, rfl, eN, q⟩ := h
    refine ⟨_, pss_one (ps_ret (pe_hex6 (pv 0))), ?_⟩
    refine ⟨_, rfl, _, rfl, Int.natCast_nonneg _, (by have := bitsP_lt p; omega), ?_⟩
    rw [Int.toNat_natCast, eN, hex6_bits]
    exact q
/-! ### tally_of -/
def spTallyOf (K : PySem.W.Frag) : Sp := fun vs H Q _ => ∃ (a : Addr) (ns : List Int), vs = [.ref a] ∧ SqL K H a (ns.map V.int) ∧ ∀ H', Same H H' → Q (.str (SX.S (txt (memP ns)))) H'
theorem scTallyOf : FnScope ["hours", "hour"] ["hours"] (defScope sTallyOf) := ⟨rfl, rfl, rfl, by decide +kernel, rfl, by decide +kernel, by decide +kernel⟩
theorem ok_tallyOf {f fW : Addr} {fd fdW : FuncData} {k : Nat} (F : Fun K "tally_of" "tally_of" sTallyOf f fd) (T : Txt5 mg) (FW : Fun K "written" "written" sWritten fW fdW) (bW : Binds K fdW ["bits"] []) (gW : mg "written" = some (.ref fW)) :
    FnOk P w K mg base CX0 (k + 2) f fd ["hours"] (spTallyOf K) := by
  have GW : FnOk P w K mg base CX0 (k + 1) fW fdW ["bits"] spWritten := ok_written FW
  obtain ⟨tD, hD⟩ := T.day
  refine F.ok scTallyOf (fun vs H Q E h => ?_) (fun cdv A outer s H vs Q E hr h => ?_)
  · obtain ⟨a, ns, rfl, _⟩ := h
    rfl
  · obtain ⟨a, ns, rfl, hS, q⟩ := h
    refine ⟨_, pss_one (ps_ret (pe_call GW hr (by rfl) gW FW.kp bW .nil pass0 (pa_cons (pe_callB (cr_sum rfl) (by rfl) T.sum (by decide +kernel) (pa_cons
      (pe_lc (own := [("hour", 1)]) (g := gName 1) (tt := tTest (tOp (rIn K false) (tVar 1) (tVar 0))) rfl scTallyOf.nd (pi_range1 (by rfl) T.range (pa_cons (pe_glob (v := .int 24) (by rfl) hD ⟨tD, rfl⟩) pa_nil)) (blkOk_by (N := ["hours", "hour"]) (sc := defScope sTallyOf) (by decide +kernel))
        (fun _ _ _ _ _ => pg_name (i := 1) scTallyOf.nd rfl (.inl rfl)) (fun _ _ _ _ _ => pts_one (pt_cmpR op_in_seq (pv 1) (pv 0) rfl)) (fun _ _ _ _ _ => pe_op op_shl pe_int (pv 1)))
      pa_nil)) pa_nil))), ?_⟩
    refine ⟨_, rfl, (by decide), (by decide), fun D hD => ?_⟩
    refine lc_it walk_range (fun i H2 => Same H H2 ∧ H2 D = some (.lst ((((List.range i).filter (memP ns)).map fun h => V.int (2 ^ h))))) ⟨same_upd hD, upd_same⟩ (fun _ _ _ _ => trivial) ?_ ?_
    · rintro i x H2 H3 hi ⟨sm, hL⟩ ⟨rfl, rfl⟩
      refine ⟨rfl, _, rfl, _, rfl, a, _, rfl, .inl (sm.seq hS), rfl, flat_ints ns, _, rfl, ?_⟩
      have eb : inV (V.int (0 + (i : Int))) (ns.map V.int) = memP ns i := by rw [Int.zero_add, inV_ints]; rfl
      show if inV (V.int (0 + (i : Int))) (ns.map V.int) = true then _ else _
      rw [eb]
      have er : (List.range (i + 1)).filter (memP ns) = (List.range i).filter (memP ns) ++ if memP ns i = true then [i] else [] := by
        rw [List.range_succ, List.filter_append]
        cases hp : memP ns i <;> simp [hp]
      rw [er]
      cases hp : memP ns i with
      | true =>
        rw [if_pos rfl]
        refine ⟨_, rfl, 1, 0 + (i : Int), rfl, rfl, ⟨by omega, by omega, by decide⟩, _, hL, ?_, same_put sm hD, ?_⟩
        · rw [List.length_map]
          refine Nat.lt_of_le_of_lt (List.length_filter_le ..) ?_
          rw [List.length_range]
          exact Nat.lt_trans hi (by decide)
        · rw [upd_same]
          simp
      | false =>
        rw [if_neg Bool.false_ne_true]
        simp only [Bool.false_eq_true, if_false, List.append_nil]
        exact ⟨sm, hL⟩
    · rintro H2 ⟨sm, hL⟩
      refine ⟨D, ((List.range 24).filter (memP ns)).map fun h => (2 : Int) ^ h, rfl, .inl (.inl ?_), memP ns, bitsW (memP ns) 24, ?_, rfl, q _ sm⟩
      · rw [hL, List.map_map]
        rfl
      · rw [sum_bits]
        rfl
/-! ### bits_of, of a tally -/
theorem tYes_at {σ : L2.St} {H : Hp} {Q : Bool → Hp → Prop} (h : Q true H) : tYes σ H Q := h
theorem pss_never {X : Cx} {st : List Stmt} : PSs X st (fun _ _ _ => False) := ⟨fun _ _ _ _ _ _ h => h.elim⟩
def signs16 : List Nat := [48, 49, 50, 51, 52, 53, 54, 55, 56, 57, 97, 98, 99, 100, 101, 102]
theorem signs_cps : (Str.ofString "0123456789abcdef").cps.toList = signs16 := by decide +kernel
theorem txt_signs (p : Nat → Bool) : ∀ c ∈ txt p, c ∈ signs16 := by
  have h : ∀ d, d < 16 → hexc d ∈ signs16 := by unfold signs16; decide
  intro c hc
  simp only [txt, List.mem_cons, List.not_mem_nil, or_false] at hc
  rcases hc with rfl | rfl | rfl | rfl | rfl | rfl <;> exact h _ (sgn_lt p _)
def spBits : Sp := fun vs H Q _ => ∃ (p : Nat → Bool), vs = [.str (SX.S (txt p))] ∧ ∀ H' (N : Nat), N = bitsP p → Same H H' → Q (.int N) H'
theorem scBits : FnScope ["text", "sign"] ["text"] (defScope sBits) := ⟨rfl, rfl, rfl, by decide +kernel, rfl, by decide +kernel, by decide +kernel⟩
theorem ok_bits {f : Addr} {fd : FuncData} {k : Nat} (F : Fun K "bits_of" "bits_of" sBits f fd) (T : Txt5 mg) : FnOk P w K mg base CX0 (k + 1) f fd ["text"] spBits := by
  obtain ⟨tS, hG⟩ := T.signs
  refine F.ok scBits (fun vs H Q E h => ?_) (fun cdv A outer s H vs Q E hr h => ?_)
  · obtain ⟨p, rfl, _⟩ := h
    rfl
  · obtain ⟨p, rfl, q⟩ := h
    refine ⟨_, pss_cons (ps_if (pt_not (pw_and (pt_val (pe_callB call_isi (by rfl) T.isinstance (by decide +kernel) (pa_cons (pv 0) (pa_cons (pe_bltn (v := .ty "str") (by rfl) T.str (by decide +kernel) rfl) pa_nil))))
        (pw_and (pt_cmpR op_eq (pe_callB call_len (by rfl) T.len PySem.boot_len (pa_cons (pv 0) pa_nil)) pe_int (nomark _))
        (pw_and1 (pt_val (pe_callB (cr_all rfl) (by rfl) T.all (by decide +kernel) (pa_cons
          (pe_lc (own := [("sign", 1)]) (g := gName 1) (tt := tYes) rfl scBits.nd (pi_str (pv 0)) (blkOk_by (N := ["text", "sign"]) (sc := defScope sBits) (by decide +kernel))
            (fun _ _ _ _ _ => pg_name (i := 1) scBits.nd rfl (.inl rfl)) (fun _ _ _ _ _ => pts_nil) (fun _ _ _ _ _ => pe_cmpR op_in_sign (pv 1) (pe_glob (v := .str "0123456789abcdef") (by rfl) hG ⟨tS, rfl⟩) rfl)) pa_nil)))))).pt) pss_never pss_nil)
      (pss_one (ps_ret (pe_callTy call_int_hex (by rfl) T.int (by decide +kernel) (pa_cons (pv 0) (pa_cons pe_int pa_nil))))), ?_⟩
    refine ⟨_, rfl, _, .ty "str", _, _, true, rfl, .ty "str", .base (.str _), kit_ty (by decide +kernel), _, rfl, ?_⟩
    refine iteT ?_
    refine ⟨_, rfl, _, 6, rfl, ⟨by rw [SX.S_len]; show 6 ≤ sizeLine; decide, by rw [SX.S_len]; rfl⟩, rfl, _, rfl, ?_⟩
    refine iteT ?_
    refine ⟨_, rfl, _, rfl, fun D hD => ?_⟩
    have sz : (SX.S (txt p)).cps.size = 6 := rfl
    refine lc_it (n := 6) (sz ▸ walk_str) (fun i H2 => Same H H2 ∧ H2 D = some (.lst ((List.replicate i true).map V.bl))) ⟨same_upd hD, upd_same⟩ (fun _ _ _ _ => trivial) ?_ ?_
    · rintro i x H2 H3 hi ⟨sm, hL⟩ ⟨rfl, c, hc, rfl⟩
      refine ⟨rfl, tYes_at ?_⟩
      rw [if_pos rfl]
      refine ⟨_, rfl, c, _, rfl, rfl, ?_⟩
      have hm : c ∈ (Str.ofString "0123456789abcdef").cps.toList := by
        rw [signs_cps]
        refine txt_signs p c ?_
        have h2 : (txt p).toArray[i]? = some c := hc
        rw [List.getElem?_toArray] at h2
        exact List.mem_of_getElem? h2
      rw [decide_eq_true hm]
      refine ⟨_, hL, ?_, same_put sm hD, ?_⟩
      · rw [List.length_map, List.length_replicate]; exact Nat.lt_trans hi (by decide)
      · rw [upd_same, List.replicate_succ', List.map_append]
        rfl
    · rintro H2 ⟨sm, hL⟩
      refine ⟨D, _, rfl, .inl (.inl hL), _, rfl, ?_⟩
      refine iteF ?_
      refine ⟨_, rfl, txt p, rfl, (by intro z; cases z), (by show 6 ≤ 640; decide), txt_hex p, ?_⟩
      exact q _ _ (txt_num p) sm
/-! ### tally_hours, of a tally -/
def hoursP (p : Nat → Bool) (w : Nat) : List Int := ((List.range w).filter p).map fun (h : Nat) => (h : Int)
theorem hoursP_succ (p : Nat → Bool) (i : Nat) : hoursP p (i + 1) = hoursP p i ++ if p i = true then [(i : Int)] else [] := by
  unfold hoursP
  rw [List.range_succ, List.filter_append, List.map_append]
  cases hp : p i <;> simp [hp]
theorem hoursP_len (p : Nat → Bool) (w : Nat) : (hoursP p w).length ≤ w := by
  unfold hoursP
  rw [List.length_map]
  have h := List.length_filter_le p (List.range w)
  rw [List.length_range] at h
  exact h
/-- the truth of bits >> hour & 1 -/
def tOdd (K : PySem.W.Frag) (i j : Nat) : TT := fun σ H Q => tOp (fun x y H Q => ∃ n : Nat, x = .int (n : Int) ∧ y = .int 1 ∧ Q (.int ((n % 2 : Nat) : Int)) H) (tOp (fun x y H Q => ∃ (i : Int) (k : Nat), x = .int i ∧ y = .int (k : Int) ∧ Q (.int (i / 2 ^ k)) H) (tVar i) (tVar j)) (tC (.int 1)) σ H fun x H' => ∃ k, TruV K x H' k ∧ Q k H'
def spTallyHours : Sp := fun vs H Q _ => ∃ (p : Nat → Bool), vs = [.str (SX.S (txt p))] ∧ ∀ H' D, Same H H' → H D = none → H' D = some (.lst ((hoursP p 24).map V.int)) → Q (.ref D) H'
theorem scTallyHours : FnScope ["text", "bits", "hour"] ["text"] (defScope sTallyHours) := ⟨rfl, rfl, rfl, by decide +kernel, rfl, by decide +kernel, by decide +kernel⟩
theorem ok_tallyHours {f fB : Addr} {fd fdB : FuncData} {k : Nat} (F : Fun K "tally_hours" "tally_hours" sTallyHours f fd) (T : Txt5 mg) (FB : Fun K "bits_of" "bits_of" sBits fB fdB) (bB : Binds K fdB ["text"] []) (gB : mg "bits_of" = some (.ref fB)) :
    FnOk P w K mg base CX0 (k + 2) f fd ["text"] spTallyHours := by
  have GB : FnOk P w K mg base CX0 (k + 1) fB fdB ["text"] spBits := ok_bits FB T
  obtain ⟨tD, hDay⟩ := T.day
  refine F.ok scTallyHours (fun vs H Q E h => ?_) (fun cdv A outer s H vs Q E hr h => ?_)
  · obtain ⟨p, rfl, _⟩ := h
    rfl
  · obtain ⟨p, rfl, q⟩ := h
    refine ⟨_, pss_cons (ps_set (i := 1) scTallyHours.nd rfl (.inr rfl) (pe_call GB hr (by rfl) gB FB.kp bB .nil pass0 (pa_cons (pv 0) pa_nil)))
      (pss_one (ps_ret (pe_lc (own := [("hour", 2)]) (g := gName 2) rfl scTallyHours.nd (pi_range1 (by rfl) T.range (pa_cons (pe_glob (v := .int 24) (by rfl) hDay ⟨tD, rfl⟩) pa_nil)) (blkOk_by (N := ["text", "bits", "hour"]) (sc := defScope sTallyHours) (by decide +kernel))
        (fun _ _ _ _ _ => pg_name (i := 2) scTallyHours.nd rfl (.inl rfl)) (tt := tOdd K 1 2)
        (fun _ _ _ _ _ => pts_one (pt_truth (pe_op op_odd (pe_op op_shrN (pv 1) (pv 2)) pe_int) (by intro _; rfl))) (fun _ _ _ _ _ => pv 2)))), ?_⟩
    refine ⟨_, rfl, p, rfl, fun H1 N eN sm1 => ?_⟩
    refine ⟨_, rfl, (by decide), (by decide), fun D hD => ?_⟩
    refine lc_it walk_range (fun i H2 => Same H H2 ∧ H2 D = some (.lst ((hoursP p i).map V.int))) ⟨sm1.trans (same_upd hD), upd_same⟩ (fun _ _ _ _ => trivial) ?_ ?_
    · rintro i x H2 H3 hi ⟨sm, hL⟩ ⟨rfl, rfl⟩
      refine ⟨rfl, _, rfl, _, rfl, _, i, rfl, (by show V.int (0 + (i : Int)) = _; rw [Int.zero_add]), N / 2 ^ i, (by rw [Int.natCast_ediv, Int.natCast_pow]; rfl), rfl, ?_⟩
      have hi' : i < 24 := hi
      rw [eN, bitsP_bit p hi']
      refine ⟨p i, ?_, ?_⟩
      · unfold b2; cases p i <;> rfl
      · rw [hoursP_succ]
        cases hp : p i with
        | true =>
          rw [if_pos rfl]
          refine ⟨_, rfl, _, hL, ?_, same_put sm (sm1.free hD), ?_⟩
          · rw [List.length_map]; exact Nat.lt_of_le_of_lt (hoursP_len p i) (Nat.lt_trans hi' (by decide))
          · rw [upd_same, if_pos rfl, List.map_append]
            show some (HO.lst (_ ++ [V.int (0 + (i : Int))])) = _
            rw [Int.zero_add]
            rfl
        | false =>
          rw [if_neg Bool.false_ne_true, if_neg Bool.false_ne_true, List.append_nil]
          exact ⟨sm, hL⟩
    · rintro H2 ⟨sm, hL⟩
      exact q _ _ sm (sm1.free hD) hL
/-! ### both_tally, either_tally, turned_tally -/
def spTwo (g : (Nat → Bool) → (Nat → Bool) → Nat → Bool) : Sp := fun vs H Q _ => ∃ (p q : Nat → Bool), vs = [.str (SX.S (txt p)), .str (SX.S (txt q))] ∧ ∀ H', Same H H' → Q (.str (SX.S (txt (g p q)))) H'
theorem scBoth : FnScope ["one", "other"] ["one", "other"] (defScope sBoth) := ⟨rfl, rfl, rfl, by decide +kernel, rfl, by decide +kernel, by decide +kernel⟩
theorem ok_both {f fW fB : Addr} {fd fdW fdB : FuncData} {k : Nat} (F : Fun K "both_tally" "both_tally" sBoth f fd) (T : Txt5 mg) (FW : Fun K "written" "written" sWritten fW fdW) (bW : Binds K fdW ["bits"] []) (gW : mg "written" = some (.ref fW))
    (FB : Fun K "bits_of" "bits_of" sBits fB fdB) (bB : Binds K fdB ["text"] []) (gB : mg "bits_of" = some (.ref fB)) : FnOk P w K mg base CX0 (k + 2) f fd ["one", "other"] (spTwo fun p q h => p h && q h) := by
  have GW : FnOk P w K mg base CX0 (k + 1) fW fdW ["bits"] spWritten := ok_written FW
  have GB : FnOk P w K mg base CX0 (k + 1) fB fdB ["text"] spBits := ok_bits FB T
  refine F.ok scBoth (fun vs H Q E h => ?_) (fun cdv A outer s H vs Q E hr h => ?_)
  · obtain ⟨p, q, rfl, _⟩ := h
    rfl
  · obtain ⟨p, q, rfl, k⟩ := h
    refine ⟨_, pss_one (ps_ret (pe_call GW hr (by rfl) gW FW.kp bW .nil pass0 (pa_cons (pe_op op_and (pe_call GB hr (by rfl) gB FB.kp bB .nil pass0 (pa_cons (pv 0) pa_nil)) (pe_call GB hr (by rfl) gB FB.kp bB .nil pass0 (pa_cons (pv 1) pa_nil))) pa_nil))), ?_⟩
    refine ⟨_, rfl, p, rfl, fun H1 N eN s1 => ⟨_, rfl, q, rfl, fun H2 M eM s2 => ⟨_, _, rfl, rfl, _, N &&& M, ?_, ?_, k _ (s1.trans s2)⟩⟩⟩
    · show [V.int (Builtin.bitAnd (N : Int) (M : Int))] = _
      rw [bitAnd_pp (Int.natCast_nonneg _) (Int.natCast_nonneg _), Int.toNat_natCast, Int.toNat_natCast]
    · rw [eN, eM, bitsP_and]
theorem scEither : FnScope ["one", "other"] ["one", "other"] (defScope sEither) := ⟨rfl, rfl, rfl, by decide +kernel, rfl, by decide +kernel, by decide +kernel⟩
theorem or_nn (N M : Nat) : Builtin.bitOr (N : Int) (M : Int) = ((N ||| M : Nat) : Int) := by
  rw [bitOr_nn (Int.natCast_nonneg _) (Int.natCast_nonneg _), Int.toNat_natCast, Int.toNat_natCast]
theorem ok_either {f fW fB : Addr} {fd fdW fdB : FuncData} {k : Nat} (F : Fun K "either_tally" "either_tally" sEither f fd) (T : Txt5 mg) (FW : Fun K "written" "written" sWritten fW fdW) (bW : Binds K fdW ["bits"] []) (gW : mg "written" = some (.ref fW))
    (FB : Fun K "bits_of" "bits_of" sBits fB fdB) (bB : Binds K fdB ["text"] []) (gB : mg "bits_of" = some (.ref fB)) : FnOk P w K mg base CX0 (k + 2) f fd ["one", "other"] (spTwo fun p q h => p h || q h) := by
  have GW : FnOk P w K mg base CX0 (k + 1) fW fdW ["bits"] spWritten := ok_written FW
  have GB : FnOk P w K mg base CX0 (k + 1) fB fdB ["text"] spBits := ok_bits FB T
  refine F.ok scEither (fun vs H Q E h => ?_) (fun cdv A outer s H vs Q E hr h => ?_)
  · obtain ⟨p, q, rfl, _⟩ := h
    rfl
  · obtain ⟨p, q, rfl, k⟩ := h
    refine ⟨_, pss_one (ps_ret (pe_call GW hr (by rfl) gW FW.kp bW .nil pass0 (pa_cons (pe_op op_or (pe_call GB hr (by rfl) gB FB.kp bB .nil pass0 (pa_cons (pv 0) pa_nil)) (pe_call GB hr (by rfl) gB FB.kp bB .nil pass0 (pa_cons (pv 1) pa_nil))) pa_nil))), ?_⟩
    refine ⟨_, rfl, p, rfl, fun H1 N eN s1 => ⟨_, rfl, q, rfl, fun H2 M eM s2 => ⟨_, _, rfl, rfl, _, N ||| M, ?_, ?_, k _ (s1.trans s2)⟩⟩⟩
    · show [V.int (Builtin.bitOr (N : Int) (M : Int))] = _
      rw [or_nn]
    · rw [eN, eM, bitsP_or]
/-- by later, round the day -/
def turn24 (by_ : Int) (ns : List Int) : List Int := ns.map fun h => (h + by_) % 24
def spTurned : Sp := fun vs H Q _ => ∃ (p : Nat → Bool) (b : Int), vs = [.str (SX.S (txt p)), .int b] ∧ ∀ H', Same H H' → Q (.str (SX.S (txt (memP (turn24 b (hoursP p 24)))))) H'
theorem scTurned : FnScope ["tally", "by", "hour"] ["tally", "by"] (defScope sTurned) := ⟨rfl, rfl, rfl, by decide +kernel, rfl, by decide +kernel, by decide +kernel⟩
theorem ok_turned {f fO fH fW fB : Addr} {fd fdO fdH fdW fdB : FuncData} {k : Nat} (F : Fun K "turned_tally" "turned_tally" sTurned f fd) (T : Txt5 mg) (FW : Fun K "written" "written" sWritten fW fdW) (bW : Binds K fdW ["bits"] []) (gW : mg "written" = some (.ref fW))
    (FB : Fun K "bits_of" "bits_of" sBits fB fdB) (bB : Binds K fdB ["text"] []) (gB : mg "bits_of" = some (.ref fB)) (FO : Fun K "tally_of" "tally_of" sTallyOf fO fdO) (bO : Binds K fdO ["hours"] []) (gO : mg "tally_of" = some (.ref fO))
    (FH : Fun K "tally_hours" "tally_hours" sTallyHours fH fdH) (bH : Binds K fdH ["text"] []) (gH : mg "tally_hours" = some (.ref fH)) : FnOk P w K mg base CX0 (k + 3) f fd ["tally", "by"] spTurned := by
  have GO : FnOk P w K mg base CX0 (k + 2) fO fdO ["hours"] (spTallyOf K) := ok_tallyOf FO T FW bW gW
  have GH : FnOk P w K mg base CX0 (k + 2) fH fdH ["text"] spTallyHours := ok_tallyHours FH T FB bB gB
  obtain ⟨tD, hDay⟩ := T.day
  refine F.ok scTurned (fun vs H Q E h => ?_) (fun cdv A outer s H vs Q E hr h => ?_)
  · obtain ⟨p, b, rfl, _⟩ := h
    rfl
  · obtain ⟨p, b, rfl, k⟩ := h
    refine ⟨_, pss_one (ps_ret (pe_call GO hr (by rfl) gO FO.kp bO .nil pass0 (pa_cons
      (pe_lc (own := [("hour", 2)]) (g := gName 2) (tt := tYes) rfl scTurned.nd (pi_list (pe_call GH hr (by rfl) gH FH.kp bH .nil pass0 (pa_cons (pv 0) pa_nil))) (blkOk_by (N := ["tally", "by", "hour"]) (sc := defScope sTurned) (by decide +kernel))
        (fun _ _ _ _ _ => pg_name (i := 2) scTurned.nd rfl (.inl rfl)) (fun _ _ _ _ _ => pts_nil) (fun _ _ _ _ _ => pe_op op_mod (pe_op op_add (pv 2) (pv 1)) (pe_glob (v := .int 24) (by rfl) hDay ⟨tD, rfl⟩)))
      pa_nil))), ?_⟩
    refine ⟨_, rfl, p, rfl, fun H1 L s1 nL hL => ⟨L, rfl, ⟨_, SqL.of hL⟩, fun D hD => ?_⟩⟩
    have nLD : L ≠ D := ne_of_none hL hD
    refine lc_it (walk_list (xs := (hoursP p 24).map V.int)) (fun i H2 => Same H1 H2 ∧ H2 D = some (.lst ((turn24 b ((hoursP p 24).take i)).map V.int))) ⟨same_upd hD, upd_same⟩ (fun i H2 _ h => SqL.of (h.1 _ _ hL)) ?_ ?_
    · rintro i x H2 H3 hi ⟨sm, hL2⟩ ⟨rfl, hx⟩
      rw [List.getElem?_map] at hx
      obtain ⟨z, hz, rfl⟩ := Option.map_eq_some_iff.mp hx
      refine ⟨rfl, tYes_at ?_⟩
      rw [if_pos rfl]
      refine ⟨_, rfl, _, rfl, _, _, rfl, rfl, _, _, rfl, rfl, (by show (0 : Int) < 24; decide), _, hL2, ?_, same_put sm hD, ?_⟩
      · rw [List.length_map]
        unfold turn24
        rw [List.length_map]
        have h1 := List.length_take_le i (hoursP p 24)
        have h2 := hoursP_len p 24
        rw [List.length_map] at hi
        exact Nat.lt_of_le_of_lt (Nat.le_trans h1 (Nat.le_of_lt (Nat.lt_of_lt_of_le hi h2))) (by decide)
      · rw [upd_same, List.take_add_one, hz]
        unfold turn24
        simp
    · rintro H2 ⟨sm, hL2⟩
      rw [List.length_map, List.take_length] at hL2
      exact ⟨D, _, rfl, SqL.of hL2, fun H' s' => k _ ((s1.trans sm).trans s')⟩
end
end Pot

namespace Pot
open PySem PySem.Spec PyProof.Rows L2
abbrev sHours : Stmt := topS 17
abbrev sLWr : Stmt := topS 18
section
variable {P : Program} {w : World} {K : PySem.W.Frag} {mg : Str → Option Value} {base : Heap}
/-! ### _law_begin -/
theorem cut63 {xs : List V} (h : xs.length ≤ 63) : cutV xs none (some 63) = xs := by
  unfold cutV
  rw [HT.sIx_none, show HT.sIx xs.length xs.length (some 63) = min 63 xs.length from HT.sIx_nat xs.length xs.length 63, Nat.min_eq_right h]
  simp
theorem dp_ints {H : Hp} (ns : List Int) : DpAll K H (ns.map V.int) (ns.map PyData.int) := by
  induction ns with
  | nil => exact .nil
  | cons n r ih => exact .cons (.int n) ih
def spBegin (K : PySem.W.Frag) : Sp := fun vs H Q _ => ∃ (a : Addr) (ns : List Int), vs = [.ref a] ∧ SqL K H a (ns.map V.int) ∧ ns.length ≤ 63 ∧ ∀ H' d c, Same H H' → StAt H' d c 0 → H d = none → H c = none → Q (.ref d) H'
theorem scBegin : FnScope ["_law_script", "_law_cells"] ["_law_script"] (defScope sBegin) := ⟨rfl, rfl, rfl, by decide +kernel, rfl, by decide +kernel, by decide +kernel⟩
theorem ok_begin {f : Addr} {fd : FuncData} {k : Nat} (F : Fun K "_law_begin" "_law_begin" sBegin f fd) (T : Txt5 mg) : FnOk P w K mg base CX0 (k + 1) f fd ["_law_script"] (spBegin K) := by
  refine F.ok scBegin (fun vs H Q E h => ?_) (fun cdv A outer s H vs Q E hr h => ?_)
  · obtain ⟨a, ns, rfl, _⟩ := h
    rfl
  · obtain ⟨a, ns, rfl, hS, h63, q⟩ := h
    refine ⟨_, pss_cons (ps_set (i := 1) scBegin.nd rfl (.inl rfl) (pe_callTy call_list_of (by rfl) T.list (by decide +kernel) (pa_cons (pe_slice sl_list (pv 0) po_none (po_some pe_int)) pa_nil)))
      (pss_cons (ps_if (pt_cmpR (op_eqD hr.units) (pv 1) (pe_lst pa_nil) (nomark _)) (pss_one (ps_set (i := 1) scBegin.nd rfl (.inl rfl) (pe_lst (pa_cons pe_int pa_nil)))) pss_nil)
      (pss_one (ps_ret (pe_disp (pps_cons pe_str (pv 1) (pps_cons pe_str pe_int pps_nil)) (by rfl) (by rfl) (fun z => by cases z) (by decide))))), ?_⟩
    refine ⟨_, rfl, 63, rfl, a, _, rfl, hS, fun p hp => ?_⟩
    rw [cut63 (by rw [List.length_map]; exact h63)]
    refine ⟨p, _, rfl, .inl (SqL.of upd_same), fun c hc => ?_⟩
    have npc : p ≠ c := ne_of_none (upd_same (H := H) (o := .lst (ns.map V.int))) hc
    have sm1 : Same H (upd (upd H p (.lst (ns.map V.int))) c (.lst (ns.map V.int))) := (same_upd hp).trans (same_upd hc)
    have hc0 : H c = none := (same_upd hp).free hc
    have hcl : (upd (upd H p (.lst (ns.map V.int))) c (.lst (ns.map V.int))) c = some (.lst (ns.map V.int)) := upd_same
    generalize upd (upd H p (.lst (ns.map V.int))) c (.lst (ns.map V.int)) = H1 at sm1 hcl ⊢
    refine ⟨_, rfl, Nat.zero_le _, fun e he => ?_⟩
    have nce : c ≠ e := ne_of_none hcl he
    refine ⟨_, _, .lst (SqL.of (by rw [upd_ne nce]; exact hcl)) (dp_ints ns), .lst (SqL.of upd_same) .nil, PySem.W.ke_shaped_ints ns, PySem.W.ke_shaped_ints [], _, rfl, ?_⟩
    have fin : ∀ (H2 : Hp) (c2 : Addr) (xs : List Int), Same H H2 → H c2 = none → H2 c2 = some (.lst (xs.map V.int)) → xs ≠ [] → xs.length ≤ 63 →
        tRet (tDisp [(tC (V.str "cells"), tVar 1), (tC (V.str "turn"), tC (V.int 0))]) { nx := fun x H' => Q V.non H', rt := Q } [some (.ref a), some (.ref c2)] H2 := by
      intro H2 c2 xs s2 n2 h2 x0 x63 d hd
      refine ⟨_, rfl, upd_same, [(Sum.inr "cells", .ref c2), (Sum.inr "turn", .int 0)], rfl, (by show 2 ≤ 15; decide), ?_⟩
      have em : mergeK [] [((Sum.inr "cells" : Key), V.ref c2), (Sum.inr "turn", .int 0)] = dS c2 0 := by
        have e : ¬ ((Sum.inr (Str.ofString "cells") : Key) = Sum.inr (Str.ofString "turn")) := by decide +kernel
        unfold mergeK dS
        simp [putK, e]
      rw [em]
      have ncd : c2 ≠ d := ne_of_none h2 hd
      refine q _ d c2 (same_put (same_put s2 (s2.free hd)) (s2.free hd)) ⟨ncd.symm, xs, 0, upd_same, ?_, x0, x63, by decide, by decide⟩ (s2.free hd) n2
      rw [upd_ne ncd, upd_ne ncd]
      exact h2
    cases ns with
    | nil =>
      show if PyData.eqv (PyData.list []) (PyData.list []) = true then _ else _
      rw [if_pos (by rfl)]
      refine ⟨(by show 1 ≤ sizeLine; decide), fun g hg => ?_⟩
      have hg1 : H1 g = none := (same_upd he).free hg
      exact fin _ g [17] (same_put (same_put sm1 (sm1.free he)) (sm1.free hg1)) (sm1.free hg1) upd_same (by intro z; cases z) (by decide)
    | cons n r =>
      show if PyData.eqv (PyData.list (PyData.int n :: r.map PyData.int)) (PyData.list []) = true then _ else _
      rw [if_neg (by intro z; cases z)]
      refine fin _ c (n :: r) (same_put sm1 (sm1.free he)) hc0 (by rw [upd_ne nce]; exact hcl) (by intro z; cases z) h63
/-! ### _law_hours -/
/-- hours that rise, of one day -/
structure DayB (b : Nat) (ns : List Int) : Prop where
  up : ns.Pairwise (· < ·)
  lo : ∀ h ∈ ns, 0 ≤ h
  hi : ∀ h ∈ ns, h < b
  len : ns.length ≤ b
abbrev Day (ns : List Int) : Prop := DayB 24 ns
theorem DayB.nil (b : Nat) : DayB b [] := ⟨.nil, fun _ h => (List.not_mem_nil h).elim, fun _ h => (List.not_mem_nil h).elim, Nat.zero_le _⟩
theorem DayB.more {b : Nat} {ns : List Int} (h : DayB b ns) : DayB (b + 1) (ns ++ [(b : Int)]) := by
  refine ⟨List.pairwise_append.mpr ⟨h.up, List.pairwise_singleton .., fun x hx y hy => ?_⟩, fun x hx => ?_, fun x hx => ?_, by rw [List.length_append]; exact Nat.succ_le_succ h.len⟩
  · rw [List.mem_singleton.mp hy]; exact h.hi x hx
  · rcases List.mem_append.mp hx with hx | hx
    · exact h.lo x hx
    · rw [List.mem_singleton.mp hx]; omega
  · rcases List.mem_append.mp hx with hx | hx
    · have := h.hi x hx; omega
    · rw [List.mem_singleton.mp hx]; omega
theorem DayB.skip {b : Nat} {ns : List Int} (h : DayB b ns) : DayB (b + 1) ns := ⟨h.up, h.lo, fun x hx => by have := h.hi x hx; omega, Nat.le_succ_of_le h.len⟩
theorem day_all : Day ((List.range 24).map fun (i : Nat) => (i : Int)) := by
  have h : ∀ b : Nat, DayB b ((List.range b).map fun (i : Nat) => (i : Int)) := by
    intro b
    induction b with
    | zero => exact DayB.nil 0
    | succ b ih => rw [List.range_succ, List.map_append]; exact ih.more
  exact h 24
theorem rg24 : rgV 0 24 = ((List.range 24).map fun (i : Nat) => (i : Int)).map V.int := by decide
def spHours : Sp := fun vs H Q _ => ∃ (d c : Addr) (n : Nat), vs = [.ref d] ∧ StAt H d c n ∧ n + 100 < 2 ^ 40 ∧
  ∀ H' L ns, StAt H' d c (n + 26) → Kp d c H H' → H L = none → H' L = some (.lst (ns.map V.int)) → Day ns → Q (.ref L) H'
theorem scHours : FnScope ["_law_state", "_law_way", "_law_dense", "_law_hour"] ["_law_state"] (defScope sHours) := ⟨rfl, rfl, rfl, by decide +kernel, rfl, by decide +kernel, by decide +kernel⟩
theorem ok_hours {f fT : Addr} {fd fdT : FuncData} {k : Nat} (F : Fun K "_law_hours" "_law_hours" sHours f fd) (T : Txt5 mg) (FT : Fun K "_law_take" "_law_take" sTake fT fdT) (bT : Binds K fdT ["_law_state", "_law_many"] []) (gT : mg "_law_take" = some (.ref fT)) :
    FnOk P w K mg base CX0 (k + 2) f fd ["_law_state"] spHours := by
  have GT : FnOk P w K mg base CX0 (k + 1) fT fdT ["_law_state", "_law_many"] spTake := ok_take FT T.len T.divmod
  refine F.ok scHours (fun vs H Q E h => ?_) (fun cdv A outer s H vs Q E hr h => ?_)
  · obtain ⟨d, c, n, rfl, _⟩ := h
    rfl
  · obtain ⟨d, c, n, rfl, hS, hn, q⟩ := h
    refine ⟨_, pss_cons (ps_set (i := 1) scHours.nd rfl (.inl rfl) (pe_call GT hr (by rfl) gT FT.kp bT .nil pass0 (pa_cons (pv 0) (pa_cons pe_int pa_nil))))
      (pss_cons (ps_if (pt_cmpR op_lt (pv 1) pe_int (nomark _)) (pss_one (ps_ret (pe_ix ix_list (pe_lst (pa_cons (pe_listRg rfl (by rfl) T.list (prg_1 (by rfl) T.range pe_int)) (pa_cons (pe_lst pa_nil) pa_nil))) (pv 1) (fun _ _ => rfl)))) pss_nil)
      (pss_cons (ps_set (i := 2) scHours.nd rfl (.inr rfl) (pe_op op_add pe_int (pe_call GT hr (by rfl) gT FT.kp bT .nil pass0 (pa_cons (pv 0) (pa_cons pe_int pa_nil)))))
      (pss_one (ps_ret (pe_lc (own := [("_law_hour", 3)]) (g := gName 3) rfl scHours.nd (pi_range1 (by rfl) T.range (pa_cons pe_int pa_nil)) (blkOk_by (N := ["_law_state", "_law_way", "_law_dense", "_law_hour"]) (sc := defScope sHours) (by decide +kernel))
        (fun _ _ _ _ _ => pg_name (i := 3) scHours.nd rfl (.inl rfl)) (fun _ _ _ _ _ => pts_one (pt_cmpR op_lt (pe_call GT hr (by rfl) gT FT.kp bT .nil pass0 (pa_cons (pv 0) (pa_cons pe_int pa_nil))) (pv 2) (nomark _))) (fun _ _ _ _ _ => pv 3)))))), ?_⟩
    refine ⟨_, rfl, d, c, 8, n, rfl, (by decide), (by decide), hS, by omega, fun H1 r r0 r8 hS1 k1 => ?_⟩
    refine ⟨_, rfl, _, _, rfl, rfl, _, rfl, ?_⟩
    refine ite2 (fun hb => ?_) (fun hb => ?_)
    · have hr2 : r < 2 := of_decide_eq_true hb
      refine ⟨24, rfl, ⟨by decide, by decide, by decide, by decide, by decide⟩, fun u hu => ?_⟩
      refine ⟨Nat.zero_le _, fun v hv => ⟨(by show 2 ≤ sizeLine; decide), fun z hz => ?_⟩⟩
      have nuv : u ≠ v := ne_of_none (upd_same (H := H1) (o := .lst (rgV 0 24))) hv
      have hv1 : H1 v = none := (same_upd hu).free hv
      have hz1 : H1 z = none := (same_upd hu).free ((same_upd hv).free hz)
      have nuz : u ≠ z := ne_of_none (by rw [upd_ne nuv]; exact upd_same) hz
      have nvz : v ≠ z := ne_of_none upd_same hz
      have sm : Same H1 (upd (upd (upd H1 u (.lst (rgV 0 24))) v (.lst [])) z (.lst [.ref u, .ref v])) := same_put (same_put (same_upd hu) hv1) hz1
      have fin : ∀ L ns, H1 L = none → (upd (upd (upd H1 u (.lst (rgV 0 24))) v (.lst [])) z (.lst [.ref u, .ref v])) L = some (.lst (ns.map V.int)) → Day ns → Q (.ref L) (upd (upd (upd H1 u (.lst (rgV 0 24))) v (.lst [])) z (.lst [.ref u, .ref v])) := fun L ns h1 h2 h3 =>
        q _ L ns ((hS1.same sm).mono (by omega)) (k1.trans (.of sm)) (k1.free hS1 h1) h2 h3
      by_cases h0 : r = 0
      · subst h0
        refine ⟨_, rfl, z, _, 0, .ref u, rfl, rfl, SqL.of upd_same, rfl, ?_⟩
        refine fin u _ hu ?_ day_all
        rw [upd_ne nuz, upd_ne nuv, upd_same, rg24]
      · have h1 : r = 1 := by omega
        subst h1
        refine ⟨_, rfl, z, _, 1, .ref v, rfl, rfl, SqL.of upd_same, rfl, ?_⟩
        refine fin v [] hv1 ?_ (DayB.nil _)
        rw [upd_ne nvz, upd_same]
        rfl
    · refine ⟨_, rfl, d, c, 5, n + 1, rfl, (by decide), (by decide), hS1, by omega, fun H2 r2 _ _ hS2 k2 => ⟨_, _, rfl, rfl, ?_⟩⟩
      refine ⟨_, rfl, (by decide), (by decide), fun D hD => ?_⟩
      have hD1 : H D = none := (k1.trans k2).free hS2 hD
      refine lc_it walk_range (fun i H3 => StAt H3 d c (n + 2 + i) ∧ Kp d c H H3 ∧ ∃ ns, H3 D = some (.lst (ns.map V.int)) ∧ DayB i ns) ⟨hS2.put (hS2.ne1 hD) (hS2.ne2 hD), kp_put (k1.trans k2) hD1, [], upd_same, DayB.nil 0⟩ (fun _ _ _ _ => trivial) ?_ ?_
      · rintro i x H3 H4 hi ⟨hS3, k3, ns, hL, hd⟩ ⟨rfl, rfl⟩
        have hi' : i < 24 := hi
        refine ⟨rfl, _, rfl, d, c, 6, n + 2 + i, rfl, (by decide), (by decide), hS3, by omega, fun H5 r3 _ _ hS5 k5 => ?_⟩
        have nDd : D ≠ d := fun e => by rw [e] at hD; exact (hS2.ne1 hD) rfl
        have nDc : D ≠ c := fun e => by rw [e] at hD; exact (hS2.ne2 hD) rfl
        have hL5 := k5 D _ nDd nDc hL
        refine ⟨_, rfl, _, _, rfl, rfl, _, rfl, ?_⟩
        refine ite2 (fun _ => ?_) (fun _ => ?_)
        · refine ⟨_, rfl, _, hL5, ?_, ?_, kp_put (k3.trans k5) hD1, ns ++ [(i : Int)], ?_, hd.more⟩
          · rw [List.length_map]; exact Nat.lt_of_le_of_lt hd.len (Nat.lt_trans hi' (by decide))
          · exact (hS5.mono (by omega)).put nDd.symm nDc.symm
          · rw [upd_same, List.map_append]
            show some (HO.lst (_ ++ [V.int (0 + (i : Int))])) = _
            rw [Int.zero_add]
            rfl
        · exact ⟨hS5.mono (by omega), k3.trans k5, ns, hL5, hd.skip⟩
      · rintro H3 ⟨hS3, k3, ns, hL, hd⟩
        exact q _ D ns (hS3.mono (by show n + 2 + 24 ≤ n + 26; omega)) k3 hD1 hL hd
/-! ### _law_written -/
def sgW (p : Nat → Bool) (f : Nat) : Nat → Nat
  | 0 => 0
  | j + 1 => sgW p f j + 2 ^ j * b2 (p (4 * f + j))
theorem sgW_4 (p : Nat → Bool) (f : Nat) : sgW p f 4 = sgn p f := by
  show 0 + 2 ^ 0 * b2 (p (4 * f + 0)) + 2 ^ 1 * b2 (p (4 * f + 1)) + 2 ^ 2 * b2 (p (4 * f + 2)) + 2 ^ 3 * b2 (p (4 * f + 3)) = _
  unfold sgn
  rw [Nat.add_zero]
  omega
theorem at_two {j : Nat} (h : j < 4) : atI [V.int 1, .int 2, .int 4, .int 8] (0 + (j : Int)) = some (.int ((2 ^ j : Nat) : Int)) := by
  have h : j = 0 ∨ j = 1 ∨ j = 2 ∨ j = 3 := by omega
  rcases h with rfl | rfl | rfl | rfl <;> rfl
theorem at_sign : ∀ d : Nat, d < 16 → atI signs16 ((d : Nat) : Int) = some (hexc d) := by
  unfold signs16; decide
theorem txt_take (p : Nat → Bool) {i : Nat} (h : i < 6) : (txt p).take (i + 1) = (txt p).take i ++ [hexc (sgn p (5 - i))] := by
  have h : i = 0 ∨ i = 1 ∨ i = 2 ∨ i = 3 ∨ i = 4 ∨ i = 5 := by omega
  rcases h with rfl | rfl | rfl | rfl | rfl | rfl <;> rfl
theorem cmul_b (i : Int) (b : Bool) : CMul i (if b = true then 1 else 0) := .inr (by cases b <;> decide)
def spLWr (K : PySem.W.Frag) : Sp := fun vs H Q _ => ∃ (a : Addr) (ns : List Int), vs = [.ref a] ∧ SqL K H a (ns.map V.int) ∧ ∀ H', Same H H' → Q (.str (SX.S (txt (memP ns)))) H'
theorem scLWr : FnScope ["_law_hours_here", "_law_found", "_law_four", "_law_sign", "_law_bit"] ["_law_hours_here"] (defScope sLWr) := ⟨rfl, rfl, rfl, by decide +kernel, rfl, by decide +kernel, by decide +kernel⟩
theorem ok_lwr {f : Addr} {fd : FuncData} {k : Nat} (F : Fun K "_law_written" "_law_written" sLWr f fd) (T : Txt5 mg) : FnOk P w K mg base CX0 (k + 1) f fd ["_law_hours_here"] (spLWr K) := by
  refine F.ok scLWr (fun vs H Q E h => ?_) (fun cdv A outer s H vs Q E hr h => ?_)
  · obtain ⟨a, ns, rfl, _⟩ := h
    rfl
  · obtain ⟨a, ns, rfl, hS, q⟩ := h
    refine ⟨_, pss_cons (ps_set (i := 1) scLWr.nd rfl (.inl rfl) pe_str)
      (pss_cons (ps_for PassesOwn.never rfl (pi_range3 (by rfl) T.range (pa_cons pe_int (pa_cons (pe_un un_neg pe_int) (pa_cons (pe_un un_neg pe_int) pa_nil)))) (pg_name (i := 2) scLWr.nd rfl (.inl rfl))
        (pss_cons (ps_set (i := 3) scLWr.nd rfl (.inl rfl) pe_int)
        (pss_cons (ps_for PassesOwn.never rfl (pi_range1 (by rfl) T.range (pa_cons pe_int pa_nil)) (pg_name (i := 4) scLWr.nd rfl (.inl rfl))
          (pss_one (ps_set (i := 3) scLWr.nd rfl (.inl rfl) (pe_op op_add (pv 3) (pe_op op_mul (pe_ix ix_list (pe_lst (pa_cons pe_int (pa_cons pe_int (pa_cons pe_int (pa_cons pe_int pa_nil))))) (pv 4) (fun _ _ => rfl))
            (pe_callTy call_int1 (by rfl) T.int (by decide +kernel) (pa_cons (pe_cmpR op_in_seq (pe_op op_add (pe_op op_mul pe_int (pv 2)) (pv 4)) (pv 0) rfl) pa_nil)))))))
        (pss_one (ps_set (i := 1) scLWr.nd rfl (.inl rfl) (pe_op op_add_str (pv 1) (pe_ix ix_str pe_str (pv 3) (fun _ _ => rfl))))))))
      (pss_one (ps_ret (pv 1)))), ?_⟩
    refine ⟨_, rfl, _, rfl, 5, -1, -1, 6, rfl, RgC.neg (by decide) (by decide) (by decide) (by decide), ?_⟩
    refine for_it walk_rangeC (fun i σ H2 => ∃ v2 v3 v4, σ = [some (.ref a), some (.str (SX.S ((txt (memP ns)).take i))), v2, v3, v4] ∧ Same H H2) ⟨none, none, none, rfl, Same.refl H⟩ (fun _ _ _ _ _ => trivial) ?_ ?_
    · rintro i x σ H2 H3 hi ⟨v2, v3, v4, rfl, sm⟩ ⟨rfl, rfl⟩
      have ef : (5 : Int) + ((i : Nat) : Int) * -1 = ((5 - i : Nat) : Int) := by omega
      refine ⟨_, rfl, (by decide), (by decide), ?_⟩
      refine for_it walk_range (fun j σ H4 => ∃ v4, σ = [some (.ref a), some (.str (SX.S ((txt (memP ns)).take i))), some (.int ((5 - i : Nat) : Int)), some (.int (sgW (memP ns) (5 - i) j : Nat)), v4] ∧ Same H H4) ⟨v4, ?_, sm⟩ (fun _ _ _ _ _ => trivial) ?_ ?_
      · show [_, _, some (V.int ((5 : Int) + ((i : Nat) : Int) * -1)), some (V.int 0), v4] = _
        rw [ef]
        rfl
      · rintro j x σ H4 H5 hj ⟨v4, rfl, sm4⟩ ⟨rfl, rfl⟩
        have hj' : j < 4 := hj
        refine ⟨_, rfl, (by show 4 ≤ sizeLine; decide), fun l hl => ?_⟩
        have sm5 : Same H (upd H5 l (.lst [V.int 1, .int 2, .int 4, .int 8])) := same_put sm4 (sm4.free hl)
        refine ⟨_, rfl, l, _, _, _, rfl, rfl, SqL.of upd_same, at_two hj', ?_⟩
        refine ⟨_, rfl, _, _, rfl, rfl, .inl ⟨by decide, by decide⟩, _, rfl, _, _, rfl, rfl, _, rfl, a, _, rfl, .inl (sm5.seq hS), rfl, flat_ints ns, ?_⟩
        have eb : inV (V.int (4 * ((5 - i : Nat) : Int) + (0 + (j : Int)))) (ns.map V.int) = memP ns (4 * (5 - i) + j) := by
          rw [inV_ints]
          unfold memP
          have e : 4 * ((5 - i : Nat) : Int) + (0 + (j : Int)) = ((4 * (5 - i) + j : Nat) : Int) := by omega
          rw [e]
        refine .inr ⟨_, rfl, _, _, rfl, rfl, cmul_b _ _, _, _, rfl, rfl, some (.int (0 + (j : Int))), ?_, sm5⟩
        · show [_, _, _, some (V.int ((sgW (memP ns) (5 - i) j : Nat) + ((2 ^ j : Nat) : Int) * (if inV (V.int (4 * ((5 - i : Nat) : Int) + (0 + (j : Int)))) (ns.map V.int) = true then 1 else 0))), _] = _
          rw [eb]
          have e2 : ((sgW (memP ns) (5 - i) j : Nat) : Int) + ((2 ^ j : Nat) : Int) * (if memP ns (4 * (5 - i) + j) = true then 1 else 0) = ((sgW (memP ns) (5 - i) (j + 1) : Nat) : Int) := by
            show _ = ((sgW (memP ns) (5 - i) j + 2 ^ j * b2 (memP ns (4 * (5 - i) + j)) : Nat) : Int)
            unfold b2
            cases memP ns (4 * (5 - i) + j) <;> simp
          rw [e2]
      · rintro σ H4 ⟨v4, rfl, sm4⟩
        have lt := sgn_lt (memP ns) (5 - i)
        refine ⟨_, rfl, _, rfl, _, _, hexc (sgn (memP ns) (5 - i)), rfl, rfl, (by decide +kernel), ?_, _, _, rfl, rfl, ?_, some (.int ((5 - i : Nat) : Int)), some (.int (sgW (memP ns) (5 - i) 4 : Nat)), v4, ?_, sm4⟩
        · rw [signs_cps]
          show atI signs16 ((sgW (memP ns) (5 - i) 4 : Nat) : Int) = _
          rw [sgW_4]
          exact at_sign _ lt
        · rw [SX.S_len]
          have := List.length_take_le i (txt (memP ns))
          show _ + 1 ≤ sizeLine
          rw [sizeLine_eq]
          omega
        · rw [txt_take _ hi, ← SX.S_cat]
          rfl
    · rintro σ H2 ⟨v2, v3, v4, rfl, sm⟩
      refine ⟨_, rfl, ?_⟩
      exact q _ sm
end
end Pot

namespace Pot
open PySem PySem.Spec PyProof.Rows L2
abbrev sSame : Stmt := topS 16
section
variable {P : Program} {w : World} {K : PySem.W.Frag} {mg : Str → Option Value} {base : Heap}
theorem same_tup {H H' : Hp} {a : Addr} {xs : List V} (e : Same H H') (h : SqT K H a xs) : SqT K H' a xs := by
  rcases h with (h | ⟨o, h⟩) | h
  · exact .inl (.inl (e _ _ h))
  · exact .inl (.inr ⟨o, e _ _ h⟩)
  · exact .inr h
mutual
theorem dp_same {H H' : Hp} (s : Same H H') : ∀ {v : V} {d : PyData}, Dp K H v d → Dp K H' v d
  | _, _, .non => .non
  | _, _, .bl b => .bl b
  | _, _, .int i => .int i
  | _, _, .str x => .str x
  | _, _, .lst h a => .lst (s.seq h) (dpAll_same s a)
  | _, _, .tup h a => .tup (same_tup s h) (dpAll_same s a)
theorem dpAll_same {H H' : Hp} (s : Same H H') : ∀ {vs : List V} {ds : List PyData}, DpAll K H vs ds → DpAll K H' vs ds
  | _, _, .nil => .nil
  | _, _, .cons h t => .cons (dp_same s h) (dpAll_same s t)
end
theorem dpAll_len {H : Hp} : ∀ {vs : List V} {ds : List PyData}, DpAll K H vs ds → vs.length = ds.length
  | _, _, .nil => rfl
  | _, _, .cons _ t => by rw [List.length_cons, List.length_cons, dpAll_len t]
theorem dpAll_at {H : Hp} : ∀ {vs : List V} {ds : List PyData} {i : Nat} {v : V}, DpAll K H vs ds → vs[i]? = some v → ∃ d, ds[i]? = some d ∧ Dp K H v d
  | _, _, _, _, .nil, h => by simp at h
  | _, _, 0, _, .cons h _, e => ⟨_, rfl, by cases e; exact h⟩
  | _, _, i + 1, _, .cons _ t, e => dpAll_at (i := i) t e
theorem depth_at : ∀ {ds : List PyData} {i : Nat} {d : PyData}, ds[i]? = some d → d.depth ≤ PyData.depthAll ds
  | [], _, _, h => by simp at h
  | x :: r, 0, d, h => by cases h; unfold PyData.depthAll; exact Nat.le_max_left ..
  | x :: r, i + 1, d, h => by
    have := depth_at (ds := r) (i := i) (d := d) h
    unfold PyData.depthAll
    exact Nat.le_trans this (Nat.le_max_right ..)
theorem tyx_list {H : Hp} {a : Addr} {xs : List V} (h : SqL K H a xs) : TyX K H (.ref a) (.type "list") := by
  rcases h with (h | ⟨o, h⟩) | ⟨o, its, n, h1, h2, _⟩
  · exact .base (.lst h)
  · exact .base (.frz h)
  · exact .kList h1 h2
theorem tyx_tup {H : Hp} {a : Addr} {xs : List V} (h : SqT K H a xs) : TyX K H (.ref a) (.type "tuple") := by
  rcases h with (h | ⟨o, h⟩) | ⟨o, its, n, h1, h2, _⟩
  · exact .base (.tup h)
  · exact .fTuple h
  · exact .kTuple h1 h2
theorem walk_zipT {a b : Addr} {xs ys : List V} {n : Nat} (hn : n = min xs.length ys.length) : Walk (RZ.ItzT K a b) n (fun H => SqT K H a xs ∧ SqT K H b ys) (YPair (fun i => xs[i]?) (fun i => ys[i]?)) := by
  subst hn
  refine ⟨fun i _ hi q => ?_, fun _ q => ⟨xs, ys, q.1, q.2, by omega⟩, fun i H v H' _ q y => ?_⟩
  · exact ⟨xs, ys, xs[i]'(by omega), ys[i]'(by omega), q.1, q.2, List.getElem?_eq_getElem _, List.getElem?_eq_getElem _⟩
  · obtain ⟨T, x, z, e1, e2, e3, e4, e5⟩ := y
    exact ⟨T, x, z, e1, e2, e3, e4 xs q.1, e5 ys q.2⟩
/-- the longest list within -/
def widAll : List PyData → Nat
  | [] => 0
  | x :: xs => max (wid x) (widAll xs)
where wid : PyData → Nat
  | .list xs => max xs.length (widAll xs)
  | .tuple xs => max xs.length (widAll xs)
  | _ => 0
theorem wid_at : ∀ {ds : List PyData} {i : Nat} {d : PyData}, ds[i]? = some d → widAll.wid d ≤ widAll ds
  | [], _, _, h => by simp at h
  | x :: r, 0, d, h => by cases h; unfold widAll; exact Nat.le_max_left ..
  | x :: r, i + 1, d, h => by
    have := wid_at (ds := r) (i := i) (d := d) h
    unfold widAll
    exact Nat.le_trans this (Nat.le_max_right ..)
/-! ### _law_same: two of one and the same make are told to be so -/
def spSame (K : PySem.W.Frag) (k : Nat) : Sp := fun vs H Q _ => ∃ (x y : V) (d : PyData), vs = [x, y] ∧ Dp K H x d ∧ Dp K H y d ∧ d.depth < k ∧ widAll.wid d ≤ 1000 ∧ ∀ H', Same H H' → Q (.bl true) H'
theorem scSame : FnScope ["_law_found", "_law_due", "_law_one", "_law_other"] ["_law_found", "_law_due"] (defScope sSame) := ⟨rfl, rfl, rfl, by decide +kernel, rfl, by decide +kernel, by decide +kernel⟩
theorem ok_same {f : Addr} {fd : FuncData} (F : Fun K "_law_same" "_law_same" sSame f fd) (T : Txt5 mg) (bF : Binds K fd ["_law_found", "_law_due"] []) (gF : mg "_law_same" = some (.ref f)) :
    ∀ k : Nat, FnOk P w K mg base CX0 (k + 1) f fd ["_law_found", "_law_due"] (spSame K k) := by
  intro k
  induction k with
  | zero =>
    refine F.ok scSame (fun vs H Q E h => ?_) (fun cdv A outer s H vs Q E hr h => ?_)
    · obtain ⟨x, y, d, rfl, _⟩ := h
      rfl
    · obtain ⟨x, y, d, rfl, hx, hy, hd, hw, q⟩ := h
      exact absurd hd (Nat.not_lt_zero _)
  | succ k G =>
    refine F.ok scSame (fun vs H Q E h => ?_) (fun cdv A outer s H vs Q E hr h => ?_)
    · obtain ⟨x, y, d, rfl, _⟩ := h
      rfl
    · obtain ⟨x, y, d, rfl, hx, hy, hd, hw, q⟩ := h
      refine ⟨_, pss_cons (ps_if (pt_val (pe_callB call_isiT (by rfl) T.isinstance (by decide +kernel) (pa_cons (pv 1) (pa_cons (pe_tup (pa_cons (pe_bltn (v := .ty "list") (by rfl) T.list (by decide +kernel) rfl) (pa_cons (pe_bltn (v := .ty "tuple") (by rfl) T.tuple (by decide +kernel) rfl) pa_nil))) pa_nil))))
          (pss_cons (ps_if (pw_or (pt_cmpR op_ne (pe_callB call_isi (by rfl) T.isinstance (by decide +kernel) (pa_cons (pv 0) (pa_cons (pe_bltn (v := .ty "list") (by rfl) T.list (by decide +kernel) rfl) pa_nil))) (pe_callB call_isi (by rfl) T.isinstance (by decide +kernel) (pa_cons (pv 1) (pa_cons (pe_bltn (v := .ty "list") (by rfl) T.list (by decide +kernel) rfl) pa_nil))) (nomark _))
            (pw_or1 (pt_cmpR op_ne (pe_callB call_isi (by rfl) T.isinstance (by decide +kernel) (pa_cons (pv 0) (pa_cons (pe_bltn (v := .ty "tuple") (by rfl) T.tuple (by decide +kernel) rfl) pa_nil))) (pe_callB call_isi (by rfl) T.isinstance (by decide +kernel) (pa_cons (pv 1) (pa_cons (pe_bltn (v := .ty "tuple") (by rfl) T.tuple (by decide +kernel) rfl) pa_nil))) (nomark _)))).pt
            pss_never pss_nil)
          (pss_one (ps_ret (pe_and (pe_cmpR op_eq (pe_callB call_len (by rfl) T.len PySem.boot_len (pa_cons (pv 0) pa_nil)) (pe_callB call_len (by rfl) T.len PySem.boot_len (pa_cons (pv 1) pa_nil)) (nomark _))
            (pe_one (pe_callB (cr_all rfl) (by rfl) T.all (by decide +kernel) (pa_cons
              (pe_lc (own := [("_law_one", 2), ("_law_other", 3)]) (g := gTup K 2 (gCons (gName 2) (gCons (gName 3) gNil))) (tt := tYes) rfl scSame.nd (RZ.pi_zipA (by rfl) T.zip (pa_cons (pv 0) (pa_cons (pv 1) pa_nil))) (blkOk_by (N := ["_law_found", "_law_due", "_law_one", "_law_other"]) (sc := defScope sSame) (by decide +kernel))
                (fun _ _ _ _ _ => pg_tup rfl (pgs_cons (pg_name (i := 2) scSame.nd rfl (.inl rfl)) (pgs_cons (pg_name (i := 3) scSame.nd rfl (.inl rfl)) pgs_nil))) (fun _ _ _ _ _ => pts_nil)
                (fun _ _ _ _ _ => pe_call G hr (by rfl) gF F.kp bF .nil pass0 (pa_cons (pv 2) (pa_cons (pv 3) pa_nil)))) pa_nil)))))))
          pss_nil)
        (pss_cons (ps_if (pt_cmpR op_isN (pv 1) pe_non (nomark _)) (pss_one (ps_ret (pe_cmpR op_isN (pv 0) pe_non (nomark _)))) pss_nil)
        (pss_cons (ps_if (pt_val (pe_callB call_isi (by rfl) T.isinstance (by decide +kernel) (pa_cons (pv 1) (pa_cons (pe_bltn (v := .ty "bool") (by rfl) T.bool (by decide +kernel) rfl) pa_nil))))
          (pss_one (ps_ret (pe_and (pe_callB call_isi (by rfl) T.isinstance (by decide +kernel) (pa_cons (pv 0) (pa_cons (pe_bltn (v := .ty "bool") (by rfl) T.bool (by decide +kernel) rfl) pa_nil))) (pe_one (pe_cmpR op_eq (pv 0) (pv 1) (nomark _)))))) pss_nil)
        (pss_cons (ps_if (pt_val (pe_callB call_isi (by rfl) T.isinstance (by decide +kernel) (pa_cons (pv 1) (pa_cons (pe_bltn (v := .ty "str") (by rfl) T.str (by decide +kernel) rfl) pa_nil))))
          (pss_one (ps_ret (pe_and (pe_callB call_isi (by rfl) T.isinstance (by decide +kernel) (pa_cons (pv 0) (pa_cons (pe_bltn (v := .ty "str") (by rfl) T.str (by decide +kernel) rfl) pa_nil))) (pe_one (pe_cmpR op_eq (pv 0) (pv 1) (nomark _)))))) pss_nil)
        (pss_one (ps_ret (pe_and (pe_callB call_isi (by rfl) T.isinstance (by decide +kernel) (pa_cons (pv 0) (pa_cons (pe_bltn (v := .ty "int") (by rfl) T.int (by decide +kernel) rfl) pa_nil)))
          (pe_and (pe_not (pe_callB call_isi (by rfl) T.isinstance (by decide +kernel) (pa_cons (pv 0) (pa_cons (pe_bltn (v := .ty "bool") (by rfl) T.bool (by decide +kernel) rfl) pa_nil)))) (pe_one (pe_cmpR op_eq (pv 0) (pv 1) (nomark _)))))))))), ?_⟩
      refine ⟨_, rfl, (by show 2 ≤ sizeLine; decide), fun t ht => ?_⟩
      have sm1 : Same H (upd H t (.tup [.ty "list", .ty "tuple"])) := same_upd ht
      have hpair : Paired ClsV [V.ty "list", .ty "tuple"] [Value.type "list", .type "tuple"] := .cons (.ty _) (.cons (.ty _) .nil)
      have hx1 := dp_same sm1 hx
      have hy1 := dp_same sm1 hy
      have ht1 : (upd H t (.tup [.ty "list", .ty "tuple"])) t = some (.tup [.ty "list", .ty "tuple"]) := upd_same
      generalize upd H t (.tup [.ty "list", .ty "tuple"]) = H1 at sm1 hx1 hy1 ht1 ⊢
      cases hy1 with
      | non =>
        cases hx1
        refine ⟨_, t, _, _, _, false, rfl, ht1, hpair, .base .non, (by rfl), _, rfl, iteF ?_⟩
        refine ⟨_, rfl, rfl, _, rfl, ite2 (fun _ => ?_) (fun h => absurd (decide_eq_true rfl) h)⟩
        refine ⟨_, rfl, rfl, ?_⟩
        rw [decide_eq_true rfl]
        exact q _ sm1
      | bl b =>
        cases hx1
        refine ⟨_, t, _, _, _, false, rfl, ht1, hpair, .base (.bl b), (by rfl), _, rfl, iteF ?_⟩
        refine ⟨_, rfl, rfl, _, rfl, ite2 (fun h => absurd (of_decide_eq_true h) (by intro z; cases z)) (fun _ => ?_)⟩
        refine ⟨_, rfl, _, .ty _, _, _, true, rfl, .ty _, (.base (.bl b)), kit_ty (by decide +kernel), _, rfl, iteT ?_⟩
        refine ⟨_, rfl, _, .ty _, _, _, true, rfl, .ty _, (.base (.bl b)), kit_ty (by decide +kernel), _, rfl, ?_⟩
        refine iteT ⟨_, rfl, _, rfl, rfl, ?_⟩
        rw [decide_eq_true rfl]
        exact q _ sm1
      | int i =>
        cases hx1
        refine ⟨_, t, _, _, _, false, rfl, ht1, hpair, .base (.int i), (by rfl), _, rfl, iteF ?_⟩
        refine ⟨_, rfl, rfl, _, rfl, ite2 (fun h => absurd (of_decide_eq_true h) (by intro z; cases z)) (fun _ => ?_)⟩
        refine ⟨_, rfl, _, .ty _, _, _, false, rfl, .ty _, (.base (.int i)), kit_ty (by decide +kernel), _, rfl, iteF ?_⟩
        refine ⟨_, rfl, _, .ty _, _, _, false, rfl, .ty _, (.base (.int i)), kit_ty (by decide +kernel), _, rfl, iteF ?_⟩
        refine ⟨_, rfl, _, .ty _, _, _, true, rfl, .ty _, (.base (.int i)), kit_ty (by decide +kernel), _, rfl, iteT ?_⟩
        refine ⟨_, rfl, _, .ty _, _, _, false, rfl, .ty _, (.base (.int i)), kit_ty (by decide +kernel), _, rfl, _, rfl, ?_⟩
        refine iteT ⟨_, rfl, _, rfl, rfl, ?_⟩
        rw [decide_eq_true rfl]
        exact q _ sm1
      | str z =>
        cases hx1
        refine ⟨_, t, _, _, _, false, rfl, ht1, hpair, .base (.str z), (by rfl), _, rfl, iteF ?_⟩
        refine ⟨_, rfl, rfl, _, rfl, ite2 (fun h => absurd (of_decide_eq_true h) (by intro z; cases z)) (fun _ => ?_)⟩
        refine ⟨_, rfl, _, .ty _, _, _, false, rfl, .ty _, (.base (.str z)), kit_ty (by decide +kernel), _, rfl, iteF ?_⟩
        refine ⟨_, rfl, _, .ty _, _, _, true, rfl, .ty _, (.base (.str z)), kit_ty (by decide +kernel), _, rfl, iteT ?_⟩
        refine ⟨_, rfl, _, .ty _, _, _, true, rfl, .ty _, (.base (.str z)), kit_ty (by decide +kernel), _, rfl, ?_⟩
        refine iteT ⟨_, rfl, _, rfl, rfl, ?_⟩
        rw [decide_eq_true rfl]
        exact q _ sm1
      | @lst b ys ds hl ha =>
        cases hx1 with
        | @lst a xs _ hl' ha' =>
        have e1 : xs.length = ys.length := (dpAll_len ha').trans (dpAll_len ha).symm
        refine ⟨_, t, _, _, _, true, rfl, ht1, hpair, tyx_list hl, (by rfl), _, rfl, iteT ?_⟩
        refine ⟨_, rfl, _, .ty _, _, _, true, rfl, .ty _, (tyx_list hl'), kit_ty (by decide +kernel), _, rfl, _, .ty _, _, _, true, rfl, .ty _, (tyx_list hl), kit_ty (by decide +kernel), rfl, _, rfl, iteF ?_⟩
        refine ⟨_, rfl, _, .ty _, _, _, false, rfl, .ty _, (tyx_list hl'), kit_ty (by decide +kernel), _, rfl, _, .ty _, _, _, false, rfl, .ty _, (tyx_list hl), kit_ty (by decide +kernel), rfl, _, rfl, iteF ?_⟩
        refine ⟨_, rfl, _, xs.length, rfl, .inl ⟨xs, hl', rfl⟩, _, rfl, _, ys.length, rfl, .inl ⟨ys, hl, rfl⟩, rfl, _, rfl, ?_⟩
        rw [e1]
        refine ite2 (fun _ => ?_) (fun h => absurd (decide_eq_true rfl) h)
        refine ⟨_, rfl, _, rfl, a, b, xs, ys, rfl, .inl ⟨hl', hl, fun D hD => ?_⟩⟩
        refine lc_it (walk_zip (xs := xs) (ys := ys) (n := ys.length) (by rw [e1, Nat.min_self])) (fun i H2 => Same H1 H2 ∧ H1 D = none ∧ H2 D = some (.lst ((List.replicate i true).map V.bl))) ⟨same_upd hD, hD, upd_same⟩ (fun i H2 _ h => ⟨h.1.seq hl', h.1.seq hl⟩) ?_ ?_
        · rintro i v H2 H3 hi ⟨sm, nD, hL⟩ ⟨u, x1, y1, rfl, hu, rfl, gx, gy⟩
          have sm3 : Same H1 (upd H2 u (.tup [x1, y1])) := same_put sm (sm.free hu)
          obtain ⟨d1, g1, p1⟩ := dpAll_at ha' gx
          obtain ⟨d2, g2, p2⟩ := dpAll_at ha gy
          have ed : d1 = d2 := Option.some.inj (g1.symm.trans g2)
          subst ed
          refine ⟨u, _, rfl, .inl (.inl upd_same), rfl, _, _, rfl, _, _, rfl, rfl, rfl, tYes_at ?_⟩
          rw [if_pos rfl]
          refine ⟨_, rfl, _, rfl, x1, y1, d1, rfl, dp_same sm3 p1, dp_same sm3 p2, ?_, ?_, fun H4 s4 => ?_⟩
          · have h1 := depth_at g1
            have h2 : PyData.depthAll ds + 1 < k + 1 := hd
            omega
          · exact Nat.le_trans (wid_at g1) (Nat.le_trans (Nat.le_max_right _ _) hw)
          · have nuD : D ≠ u := ne_of_none hL hu
            refine ⟨_, s4 _ _ (by rw [upd_ne nuD]; exact hL), ?_, same_put (sm3.trans s4) nD, nD, ?_⟩
            · rw [List.length_map, List.length_replicate]
              exact Nat.lt_of_lt_of_le (dpAll_len ha ▸ hi) (Nat.le_trans (Nat.le_trans (Nat.le_max_left _ _) hw) (by decide))
            · rw [upd_same, List.replicate_succ', List.map_append]
              rfl
        · rintro H2 ⟨sm, nD, hL⟩
          refine ⟨D, _, rfl, SqL.of hL, ?_⟩
          have e : (List.replicate ys.length true).all id = true := by simp
          rw [e]
          exact q _ (sm1.trans sm)
      | @tup b ys ds hl ha =>
        cases hx1 with
        | @tup a xs _ hl' ha' =>
        have e1 : xs.length = ys.length := (dpAll_len ha').trans (dpAll_len ha).symm
        refine ⟨_, t, _, _, _, true, rfl, ht1, hpair, tyx_tup hl, (by rfl), _, rfl, iteT ?_⟩
        refine ⟨_, rfl, _, .ty _, _, _, false, rfl, .ty _, (tyx_tup hl'), kit_ty (by decide +kernel), _, rfl, _, .ty _, _, _, false, rfl, .ty _, (tyx_tup hl), kit_ty (by decide +kernel), rfl, _, rfl, iteF ?_⟩
        refine ⟨_, rfl, _, .ty _, _, _, true, rfl, .ty _, (tyx_tup hl'), kit_ty (by decide +kernel), _, rfl, _, .ty _, _, _, true, rfl, .ty _, (tyx_tup hl), kit_ty (by decide +kernel), rfl, _, rfl, iteF ?_⟩
        refine ⟨_, rfl, _, xs.length, rfl, .inr ⟨xs, hl', rfl⟩, _, rfl, _, ys.length, rfl, .inr ⟨ys, hl, rfl⟩, rfl, _, rfl, ?_⟩
        rw [e1]
        refine ite2 (fun _ => ?_) (fun h => absurd (decide_eq_true rfl) h)
        refine ⟨_, rfl, _, rfl, a, b, xs, ys, rfl, .inr ⟨hl', hl, fun D hD => ?_⟩⟩
        refine lc_it (walk_zipT (xs := xs) (ys := ys) (n := ys.length) (by rw [e1, Nat.min_self])) (fun i H2 => Same H1 H2 ∧ H1 D = none ∧ H2 D = some (.lst ((List.replicate i true).map V.bl))) ⟨same_upd hD, hD, upd_same⟩ (fun i H2 _ h => ⟨same_tup h.1 hl', same_tup h.1 hl⟩) ?_ ?_
        · rintro i v H2 H3 hi ⟨sm, nD, hL⟩ ⟨u, x1, y1, rfl, hu, rfl, gx, gy⟩
          have sm3 : Same H1 (upd H2 u (.tup [x1, y1])) := same_put sm (sm.free hu)
          obtain ⟨d1, g1, p1⟩ := dpAll_at ha' gx
          obtain ⟨d2, g2, p2⟩ := dpAll_at ha gy
          have ed : d1 = d2 := Option.some.inj (g1.symm.trans g2)
          subst ed
          refine ⟨u, _, rfl, .inl (.inl upd_same), rfl, _, _, rfl, _, _, rfl, rfl, rfl, tYes_at ?_⟩
          rw [if_pos rfl]
          refine ⟨_, rfl, _, rfl, x1, y1, d1, rfl, dp_same sm3 p1, dp_same sm3 p2, ?_, ?_, fun H4 s4 => ?_⟩
          · have h1 := depth_at g1
            have h2 : PyData.depthAll ds + 1 < k + 1 := hd
            omega
          · exact Nat.le_trans (wid_at g1) (Nat.le_trans (Nat.le_max_right _ _) hw)
          · have nuD : D ≠ u := ne_of_none hL hu
            refine ⟨_, s4 _ _ (by rw [upd_ne nuD]; exact hL), ?_, same_put (sm3.trans s4) nD, nD, ?_⟩
            · rw [List.length_map, List.length_replicate]
              exact Nat.lt_of_lt_of_le (dpAll_len ha ▸ hi) (Nat.le_trans (Nat.le_trans (Nat.le_max_left _ _) hw) (by decide))
            · rw [upd_same, List.replicate_succ', List.map_append]
              rfl
        · rintro H2 ⟨sm, nD, hL⟩
          refine ⟨D, _, rfl, SqL.of hL, ?_⟩
          have e : (List.replicate ys.length true).all id = true := by simp
          rw [e]
          exact q _ (sm1.trans sm)
end
end Pot

namespace Pot
open PySem L2
theorem txt_congr {p q : Nat → Bool} (h : ∀ i, i < 24 → p i = q i) : txt p = txt q := by
  have e : ∀ i, i < 6 → sgn p i = sgn q i := by
    intro i hi
    unfold sgn
    rw [h _ (by omega), h _ (by omega), h _ (by omega), h _ (by omega)]
  unfold txt
  rw [e 0 (by decide), e 1 (by decide), e 2 (by decide), e 3 (by decide), e 4 (by decide), e 5 (by decide)]
theorem bool_iff {p q : Prop} [Decidable p] [Decidable q] (h : p ↔ q) : decide p = decide q := by
  by_cases hp : p
  · rw [decide_eq_true hp, decide_eq_true (h.mp hp)]
  · rw [decide_eq_false hp, decide_eq_false fun z => hp (h.mpr z)]
theorem memP_congr {xs ys : List Int} (h : ∀ k : Int, 0 ≤ k → k < 24 → (k ∈ xs ↔ k ∈ ys)) : ∀ i, i < 24 → memP xs i = memP ys i := fun i hi => bool_iff (h i (by omega) (by omega))
theorem mem_hoursP {p : Nat → Bool} {k : Int} : k ∈ hoursP p 24 ↔ ∃ h : Nat, h < 24 ∧ p h = true ∧ k = (h : Int) := by
  unfold hoursP
  rw [List.mem_map]
  constructor
  · rintro ⟨h, hm, e⟩
    rw [List.mem_filter, List.mem_range] at hm
    exact ⟨h, hm.1, hm.2, e.symm⟩
  · rintro ⟨h, h1, h2, e⟩
    exact ⟨h, List.mem_filter.mpr ⟨List.mem_range.mpr h1, h2⟩, e.symm⟩
theorem mem_hours_of {xs : List Int} (hx : ∀ h ∈ xs, 0 ≤ h ∧ h < 24) {k : Int} : k ∈ hoursP (memP xs) 24 ↔ k ∈ xs := by
  rw [mem_hoursP]
  constructor
  · rintro ⟨h, _, h2, rfl⟩
    exact of_decide_eq_true h2
  · intro hk
    have := hx k hk
    refine ⟨k.toNat, by omega, decide_eq_true ?_, by omega⟩
    rw [show ((k.toNat : Nat) : Int) = k by omega]
    exact hk
theorem mem_turn {b : Int} {xs : List Int} {k : Int} : k ∈ turn24 b xs ↔ ∃ h ∈ xs, (h + b) % 24 = k := by
  unfold turn24
  rw [List.mem_map]
theorem turn_day (b : Int) (xs : List Int) : ∀ h ∈ turn24 b xs, 0 ≤ h ∧ h < 24 := by
  intro h hh
  obtain ⟨z, _, rfl⟩ := mem_turn.mp hh
  omega
/-- turned, by way of its own hours -/
theorem turned_is {b : Int} {xs : List Int} (hx : ∀ h ∈ xs, 0 ≤ h ∧ h < 24) : txt (memP (turn24 b (hoursP (memP xs) 24))) = txt (memP (turn24 b xs)) := by
  refine txt_congr (memP_congr fun k _ _ => ?_)
  rw [mem_turn, mem_turn]
  constructor
  · rintro ⟨h, hm, e⟩
    exact ⟨h, (mem_hours_of hx).mp hm, e⟩
  · rintro ⟨h, hm, e⟩
    exact ⟨h, (mem_hours_of hx).mpr hm, e⟩
theorem turned_back {b : Int} {xs : List Int} (hx : ∀ h ∈ xs, 0 ≤ h ∧ h < 24) : txt (memP (turn24 (24 - b % 24) (turn24 b xs))) = txt (memP xs) := by
  refine txt_congr (memP_congr fun k h0 h1 => ?_)
  rw [mem_turn]
  constructor
  · rintro ⟨h, hm, e⟩
    obtain ⟨z, hz, rfl⟩ := mem_turn.mp hm
    have := hx z hz
    rw [show k = z by omega]
    exact hz
  · intro hk
    exact ⟨(k + b) % 24, mem_turn.mpr ⟨k, hk, rfl⟩, by omega⟩
/-- two rising lists of the same -/
theorem rise_ext : ∀ {xs ys : List Int}, xs.Pairwise (· < ·) → ys.Pairwise (· < ·) → (∀ k, k ∈ xs ↔ k ∈ ys) → xs = ys
  | [], [], _, _, _ => rfl
  | [], y :: ys, _, _, h => absurd ((h y).mpr List.mem_cons_self) List.not_mem_nil
  | x :: xs, [], _, _, h => absurd ((h x).mp List.mem_cons_self) List.not_mem_nil
  | x :: xs, y :: ys, hx, hy, h => by
    rw [List.pairwise_cons] at hx hy
    have e : x = y := by
      rcases List.mem_cons.mp ((h x).mp List.mem_cons_self) with e | m
      · exact e
      · rcases List.mem_cons.mp ((h y).mpr List.mem_cons_self) with e | m2
        · exact e.symm
        · have := hx.1 y m2
          have := hy.1 x m
          omega
    subst e
    congr 1
    refine rise_ext hx.2 hy.2 fun k => ⟨fun m => ?_, fun m => ?_⟩
    · rcases List.mem_cons.mp ((h k).mp (List.mem_cons_of_mem _ m)) with e | m2
      · have := hx.1 k m; omega
      · exact m2
    · rcases List.mem_cons.mp ((h k).mpr (List.mem_cons_of_mem _ m)) with e | m2
      · have := hy.1 k m; omega
      · exact m2
theorem hoursP_rise (p : Nat → Bool) : (hoursP p 24).Pairwise (· < ·) := by
  unfold hoursP
  rw [List.pairwise_map]
  have h : (List.range 24).Pairwise (· < ·) := List.pairwise_lt_range
  exact (h.filter p).imp fun h => by omega
theorem rise_of {ys xs : List Int} (hp : ys.Perm xs) (hle : ys.Pairwise (· ≤ ·)) (hn : xs.Pairwise (· ≠ ·)) : ys.Pairwise (· < ·) := by
  have hn2 : ys.Pairwise (· ≠ ·) := (hp.pairwise_iff (fun h => Ne.symm h)).mpr hn
  exact (hle.and hn2).imp fun h => by omega
theorem turn_ne {b : Int} {xs : List Int} (hx : ∀ h ∈ xs, 0 ≤ h ∧ h < 24) (hr : xs.Pairwise (· < ·)) : (turn24 b xs).Pairwise (· ≠ ·) := by
  unfold turn24
  rw [List.pairwise_map]
  refine hr.imp_of_mem fun {a c} ha hc hlt => ?_
  have := hx a ha
  have := hx c hc
  omega
theorem sorted_turn {b : Int} {xs ys : List Int} (hx : ∀ h ∈ xs, 0 ≤ h ∧ h < 24) (hr : xs.Pairwise (· < ·)) (hp : ys.Perm (turn24 b xs)) (hle : ys.Pairwise (· ≤ ·)) : hoursP (memP (turn24 b xs)) 24 = ys :=
  rise_ext (hoursP_rise _) (rise_of hp hle (turn_ne hx hr)) fun k => (mem_hours_of (turn_day b xs)).trans hp.mem_iff.symm
end Pot

namespace Pot
open PySem PySem.Spec PyProof.Rows L2
abbrev sLaw : Stmt := topS 19
/-- a def that may be called by its name: what it keeps, at which level -/
def Cl (P : Program) (w : World) (K : PySem.W.Frag) (mg : Str → Option Value) (base : Heap) (k : Nat) (x : Str) (sp : Sp) : Prop :=
  ∃ (f : Addr) (fd : FuncData) (ps : List Str), FnOk P w K mg base CX0 k f fd ps sp ∧ mg x = some (.ref f) ∧ PySem.W.keepIn K (.ref f) = true ∧ Binds K fd ps []
theorem pe_cl {X : Cx} {k j : Nat} {x : Str} {sp : Sp} {e : Expr} {es : List Expr} {t : TA} {p pos : Pos} (c : Cl X.prog X.w X.K X.mg X.base k x sp) (hr : Room j X.A) (hk : k ≤ j) (hg : Gl X x) (ha : PA X (e :: es) t) (hdb : (x == ("__debug__" : Str)) = false := by decide)
    (he : starEach (e :: es) X.env = (false, eval e X.env) :: starEach es X.env := by rfl) (hpl : (backTo pos (starEach es X.env)).any (·.1) = false := by rfl) : PE X (.Call (.Name x p) (e :: es) [] pos) (tCall sp [] E0 t) := by
  obtain ⟨f, fd, ps, G, hm, kp, b⟩ := c
  exact pe_call G (hr.mono hk) hg hm kp b .nil pass0 ha hdb he hpl
section
variable {P : Program} {w : World} {K : PySem.W.Frag} {mg : Str → Option Value} {base : Heap}
theorem depth_ints (ns : List Int) : (PyData.list (ns.map PyData.int)).depth = 1 := by
  have h : ∀ l : List Int, PyData.depthAll (l.map PyData.int) = 0 := by
    intro l
    induction l with
    | nil => rfl
    | cons x r ih =>
      show max 0 (PyData.depthAll (r.map PyData.int)) = 0
      rw [ih]
      rfl
  show PyData.depthAll (ns.map PyData.int) + 1 = 1
  rw [h]
theorem wid_ints (ns : List Int) : widAll.wid (PyData.list (ns.map PyData.int)) = ns.length := by
  have h : ∀ l : List Int, widAll (l.map PyData.int) = 0 := by
    intro l
    induction l with
    | nil => rfl
    | cons x r ih =>
      show max 0 (widAll (r.map PyData.int)) = 0
      rw [ih]
      rfl
  show max (ns.map PyData.int).length (widAll (ns.map PyData.int)) = ns.length
  rw [h, List.length_map, Nat.max_zero]
def nLaw : List Str := ["_law_script", "_law_state", "_law_turn", "_law_one", "_law_other", "_law_first", "_law_second", "_law_both", "_law_either", "_law_told", "_law_many", "_law_by", "_law_due", "_law_found", "_law_hour"]
theorem scLaw : FnScope nLaw ["_law_script"] (defScope sLaw) := ⟨rfl, rfl, rfl, by decide +kernel, rfl, by decide +kernel, by decide +kernel⟩
def spLaw (K : PySem.W.Frag) : Sp := fun vs H Q _ => ∃ (a : Addr) (ns : List Int), vs = [.ref a] ∧ SqL K H a (ns.map V.int) ∧ ns.length ≤ 63 ∧ ∀ H', Q (.bl true) H'
theorem ok_law {f : Addr} {fd : FuncData} (F : Fun K "law" "law" sLaw f fd) (T : Txt5 mg)
    (cB : Cl P w K mg base 1 "_law_begin" (spBegin K)) (cT : Cl P w K mg base 1 "_law_take" spTake) (cH : Cl P w K mg base 2 "_law_hours" spHours) (cW : Cl P w K mg base 1 "_law_written" (spLWr K)) (cS : Cl P w K mg base 4 "_law_same" (spSame K 3))
    (cBo : Cl P w K mg base 2 "both_tally" (spTwo fun p q h => p h && q h)) (cEi : Cl P w K mg base 2 "either_tally" (spTwo fun p q h => p h || q h)) (cTu : Cl P w K mg base 3 "turned_tally" spTurned) (cTh : Cl P w K mg base 2 "tally_hours" spTallyHours) :
    FnOk P w K mg base CX0 5 f fd ["_law_script"] (spLaw K) := by
  refine F.ok scLaw (fun vs H Q E h => ?_) (fun cdv A outer s H vs Q E hr h => ?_)
  · obtain ⟨a, ns, rfl, _⟩ := h
    rfl
  · obtain ⟨a, ns, rfl, hS, h63, q⟩ := h
    have nd := scLaw.nd
    refine ⟨_, pss_cons (ps_set (i := 1) nd rfl (.inl rfl) (pe_cl cB hr (by decide) (by rfl) (pa_cons (pv 0) pa_nil)))
      (pss_cons (ps_for PassesOwn.never rfl (pi_range1 (by rfl) T.range (pa_cons pe_int pa_nil)) (pg_name (i := 2) nd rfl (.inl rfl))
        (pss_cons (ps_set (i := 3) nd rfl (.inl rfl) (pe_cl cH hr (by decide) (by rfl) (pa_cons (pv 1) pa_nil)))
        (pss_cons (ps_set (i := 4) nd rfl (.inr rfl) (pe_ix ix_list (pe_lst (pa_cons (pe_cl cH hr (by decide) (by rfl) (pa_cons (pv 1) pa_nil)) (pa_cons (pe_cl cH hr (by decide) (by rfl) (pa_cons (pv 1) pa_nil)) (pa_cons (pe_callTy call_list_of (by rfl) T.list (by decide +kernel) (pa_cons (pv 3) pa_nil)) pa_nil))))
            (pe_cl cT hr (by decide) (by rfl) (pa_cons (pv 1) (pa_cons pe_int pa_nil))) (fun _ _ => rfl)))
        (pss_cons (ps_par (i := 5) (j := 6) rfl nd rfl rfl (by decide) rfl rfl (pa_cons (pe_cl cW hr (by decide) (by rfl) (pa_cons (pv 3) pa_nil)) (pa_cons (pe_cl cW hr (by decide) (by rfl) (pa_cons (pv 4) pa_nil)) pa_nil)) rfl)
        (pss_cons (ps_set (i := 7) nd rfl (.inl rfl) (pe_cl cW hr (by decide) (by rfl) (pa_cons
          (pe_lc (own := [("_law_hour", 14)]) (g := gName 14) (tt := tTest (tOp (rIn K false) (tVar 14) (tVar 4))) rfl nd (pi_list (pv 3)) (blkOk_by (N := nLaw) (sc := defScope sLaw) (by decide +kernel)) (fun _ _ _ _ _ => pg_name (i := 14) nd rfl (.inl rfl))
            (fun _ _ _ _ _ => pts_one (pt_cmpR op_in_seq (pv 14) (pv 4) rfl)) (fun _ _ _ _ _ => pv 14)) pa_nil)))
        (pss_cons (ps_set (i := 8) nd rfl (.inl rfl) (pe_cl cW hr (by decide) (by rfl) (pa_cons (pe_callB (cr_sortedSet rfl) (by rfl) T.sorted (by decide +kernel) (pa_cons (pe_callTy (cr_setLi rfl) (by rfl) T.set (by decide +kernel) (pa_cons (pe_op op_cat (pv 3) (pv 4)) pa_nil)) pa_nil)) pa_nil)))
        (pss_cons (ps_set (i := 9) nd rfl (.inl rfl) (pe_lst (pa_cons (pe_cl cBo hr (by decide) (by rfl) (pa_cons (pv 5) (pa_cons (pv 6) pa_nil))) (pa_cons (pe_cl cBo hr (by decide) (by rfl) (pa_cons (pv 6) (pa_cons (pv 5) pa_nil))) pa_nil))))
        (pss_cons (ps_set (i := 9) nd rfl (.inl rfl) (pe_op op_cat (pv 9) (pe_lst (pa_cons (pe_cl cEi hr (by decide) (by rfl) (pa_cons (pv 5) (pa_cons (pv 6) pa_nil))) (pa_cons (pe_cl cEi hr (by decide) (by rfl) (pa_cons (pv 6) (pa_cons (pv 5) pa_nil))) pa_nil)))))
        (pss_cons (ps_if (pt_not (pt_val (pe_cl cS hr (by decide) (by rfl) (pa_cons (pv 9) (pa_cons (pe_lst (pa_cons (pv 7) (pa_cons (pv 7) (pa_cons (pv 8) (pa_cons (pv 8) pa_nil))))) pa_nil))))) pss_never pss_nil)
        (pss_cons (ps_set (i := 10) nd rfl (.inl rfl) (pe_ix ix_list (pe_lst (pa_cons (pe_cl cT hr (by decide) (by rfl) (pa_cons (pv 1) (pa_cons pe_int pa_nil))) (pa_cons (pe_op op_mul pe_int (pe_cl cT hr (by decide) (by rfl) (pa_cons (pv 1) (pa_cons pe_int pa_nil)))) (pa_cons (pe_cl cT hr (by decide) (by rfl) (pa_cons (pv 1) (pa_cons (pe_op op_add (pe_op op_pow pe_int pe_int) pe_int) pa_nil))) pa_nil))))
            (pe_cl cT hr (by decide) (by rfl) (pa_cons (pv 1) (pa_cons pe_int pa_nil))) (fun _ _ => rfl)))
        (pss_one (ps_for PassesOwn.never rfl (pi_list (pe_op op_cat (pe_lst (pa_cons (pv 10) pa_nil)) (pe_op op_rep (pe_listRg rfl (by rfl) T.list (prg_1 (by rfl) T.range pe_int)) (pe_callTy call_int1 (by rfl) T.int (by decide +kernel) (pa_cons (pe_cmpR op_eq (pv 2) pe_int (nomark _)) pa_nil))))) (pg_name (i := 11) nd rfl (.inr rfl))
          (pss_cons (ps_set (i := 12) nd rfl (.inl rfl) (pe_cl cW hr (by decide) (by rfl) (pa_cons
            (pe_lc (own := [("_law_hour", 14)]) (g := gName 14) (tt := tYes) rfl nd (pi_list (pv 3)) (blkOk_by (N := nLaw) (sc := defScope sLaw) (by decide +kernel)) (fun _ _ _ _ _ => pg_name (i := 14) nd rfl (.inl rfl))
              (fun _ _ _ _ _ => pts_nil) (fun _ _ _ _ _ => pe_op op_mod (pe_op op_add (pv 14) (pv 11)) pe_int)) pa_nil)))
          (pss_cons (ps_set (i := 13) nd rfl (.inl rfl) (pe_cl cTu hr (by decide) (by rfl) (pa_cons (pv 5) (pa_cons (pv 11) pa_nil))))
          (pss_cons (ps_if (pt_not (pt_val (pe_cl cS hr (by decide) (by rfl) (pa_cons (pv 13) (pa_cons (pv 12) pa_nil))))) pss_never pss_nil)
          (pss_cons (ps_if (pt_not (pt_val (pe_cl cS hr (by decide) (by rfl) (pa_cons (pe_cl cTu hr (by decide) (by rfl) (pa_cons (pv 13) (pa_cons (pe_op op_sub pe_int (pe_op op_mod (pv 11) pe_int)) pa_nil))) (pa_cons (pv 5) pa_nil))))) pss_never pss_nil)
          (pss_one (ps_if (pt_not (pt_val (pe_cl cS hr (by decide) (by rfl) (pa_cons (pe_cl cTh hr (by decide) (by rfl) (pa_cons (pv 13) pa_nil)) (pa_cons (pe_callB cr_sorted (by rfl) T.sorted (by decide +kernel) (pa_cons
              (pe_lc (own := [("_law_hour", 14)]) (g := gName 14) (tt := tYes) rfl nd (pi_list (pv 3)) (blkOk_by (N := nLaw) (sc := defScope sLaw) (by decide +kernel)) (fun _ _ _ _ _ => pg_name (i := 14) nd rfl (.inl rfl))
                (fun _ _ _ _ _ => pts_nil) (fun _ _ _ _ _ => pe_op op_mod (pe_op op_add (pv 14) (pv 11)) pe_int)) pa_nil)) pa_nil))))) pss_never pss_nil))))))))))))))))))
      (pss_one (ps_ret pe_bl))), ?_⟩
    refine ⟨_, rfl, a, ns, rfl, hS, h63, fun H1 d c sm1 hSt nd0 nc0 => ?_⟩
    refine ⟨_, rfl, (by decide), (by decide), ?_⟩
    refine for_it walk_range (fun i σ H2 => ∃ v2 v3 v4 v5 v6 v7 v8 v9 v10 v11 v12 v13 v14, σ = [some (.ref a), some (.ref d), v2, v3, v4, v5, v6, v7, v8, v9, v10, v11, v12, v13, v14] ∧ StAt H2 d c (200 * i)) ⟨none, none, none, none, none, none, none, none, none, none, none, none, none, rfl, hSt⟩ (fun _ _ _ _ _ => trivial) ?_ ?_
    · rintro i x σ H2 H3 hi ⟨v2, v3, v4, v5, v6, v7, v8, v9, v10, v11, v12, v13, v14, rfl, hS2⟩ ⟨rfl, rfl⟩
      have hi' : i < 10 := hi
      refine ⟨_, rfl, d, c, 200 * i, rfl, hS2, by omega, fun H4 L1 o1 hS4 k4 n1 hL1 d1 => ?_⟩
      have nd1 : L1 ≠ d := (hS2.ne1 n1).symm
      have nc1 : L1 ≠ c := (hS2.ne2 n1).symm
      refine ⟨_, rfl, d, c, 200 * i + 26, rfl, hS4, by omega, fun H5 L2 o2 hS5 k5 n2 hL2 d2 => ?_⟩
      have nd2 : L2 ≠ d := (hS4.ne1 n2).symm
      have nc2 : L2 ≠ c := (hS4.ne2 n2).symm
      have hL1 := k5 L1 _ nd1 nc1 hL1
      refine ⟨_, rfl, d, c, 200 * i + 26 + 26, rfl, hS5, by omega, fun H6 L3 o3 hS6 k6 n3 hL3 d3 => ?_⟩
      have nd3 : L3 ≠ d := (hS5.ne1 n3).symm
      have nc3 : L3 ≠ c := (hS5.ne2 n3).symm
      have hL1 := k6 L1 _ nd1 nc1 hL1
      have hL2 := k6 L2 _ nd2 nc2 hL2
      refine ⟨_, rfl, L1, _, rfl, .inl (SqL.of hL1), fun L4 n4 => ⟨(by show 3 ≤ sizeLine; decide), fun z nz => ?_⟩⟩
      have nd4 : L4 ≠ d := (hS6.ne1 n4).symm
      have nc4 : L4 ≠ c := (hS6.ne2 n4).symm
      have hS7 := hS6.put (o := .lst (o1.map V.int)) nd4.symm nc4.symm
      have hL1 := same_upd (o := .lst (o1.map V.int)) n4 _ _ hL1
      have hL2 := same_upd (o := .lst (o1.map V.int)) n4 _ _ hL2
      have hL3 := same_upd (o := .lst (o1.map V.int)) n4 _ _ hL3
      have hL4 : upd H6 L4 (.lst (o1.map V.int)) L4 = _ := upd_same
      generalize upd H6 L4 (.lst (o1.map V.int)) = H7 at hS7 hL1 hL2 hL3 hL4 nz ⊢
      have ndz : z ≠ d := (hS7.ne1 nz).symm
      have ncz : z ≠ c := (hS7.ne2 nz).symm
      have hS8 := hS7.put (o := .lst [.ref L2, .ref L3, .ref L4]) ndz.symm ncz.symm
      have hL1 := same_upd (o := .lst [.ref L2, .ref L3, .ref L4]) nz _ _ hL1
      have hL2 := same_upd (o := .lst [.ref L2, .ref L3, .ref L4]) nz _ _ hL2
      have hL3 := same_upd (o := .lst [.ref L2, .ref L3, .ref L4]) nz _ _ hL3
      have hL4 := same_upd (o := .lst [.ref L2, .ref L3, .ref L4]) nz _ _ hL4
      have hz : upd H7 z (.lst [.ref L2, .ref L3, .ref L4]) z = _ := upd_same
      generalize upd H7 z (.lst [.ref L2, .ref L3, .ref L4]) = H8 at hS8 hL1 hL2 hL3 hL4 hz ⊢
      refine ⟨_, rfl, d, c, 3, 200 * i + 26 + 26 + 26, rfl, (by decide), (by decide), hS8, by omega, fun H9 r r0 r3 hS9 k9 => ?_⟩
      have hz := k9 z _ ndz ncz hz
      have hL1 := k9 L1 _ nd1 nc1 hL1
      obtain ⟨Lo, oo, eo, hLo, dO, nod, noc⟩ : ∃ (Lo : Addr) (oo : List Int), atI [V.ref L2, .ref L3, .ref L4] r = some (.ref Lo) ∧ H9 Lo = some (.lst (oo.map V.int)) ∧ Day oo ∧ Lo ≠ d ∧ Lo ≠ c := by
        have h : r = 0 ∨ r = 1 ∨ r = 2 := by omega
        rcases h with rfl | rfl | rfl
        · exact ⟨L2, o2, rfl, k9 L2 _ nd2 nc2 hL2, d2, nd2, nc2⟩
        · exact ⟨L3, o3, rfl, k9 L3 _ nd3 nc3 hL3, d3, nd3, nc3⟩
        · exact ⟨L4, o1, rfl, k9 L4 _ nd4 nc4 hL4, d1, nd4, nc4⟩
      refine ⟨z, _, r, .ref Lo, rfl, rfl, SqL.of hz, eo, ?_⟩
      -- first, second
      refine ⟨_, rfl, L1, o1, rfl, SqL.of hL1, fun H10 s10 => ?_⟩
      refine ⟨_, rfl, Lo, oo, rfl, SqL.of (s10 _ _ hLo), fun H11 s11 => ⟨_, _, rfl, ?_⟩⟩
      have s11 := s10.trans s11
      have hS11 := hS9.same s11
      have hL1 := s11 _ _ hL1
      have hLo := s11 _ _ hLo
      -- both
      refine ⟨_, rfl, L1, rfl, ⟨_, SqL.of hL1⟩, fun D nD => ?_⟩
      refine lc_it (walk_list (xs := o1.map V.int)) (fun j H12 => Same H11 H12 ∧ H12 D = some (.lst (((o1.take j).filter fun h => decide (h ∈ oo)).map V.int))) ⟨same_upd nD, upd_same⟩ (fun j H12 _ h => SqL.of (h.1 _ _ hL1)) ?_ ?_
      · rintro j x H12 H13 hj ⟨sm, hD⟩ ⟨rfl, hx⟩
        rw [List.getElem?_map] at hx
        obtain ⟨y, hy, rfl⟩ := Option.map_eq_some_iff.mp hx
        refine ⟨rfl, _, rfl, _, rfl, Lo, _, rfl, .inl (SqL.of (sm _ _ hLo)), rfl, flat_ints oo, _, rfl, ?_⟩
        show if inV (V.int y) (oo.map V.int) = true then _ else _
        rw [inV_ints, List.take_add_one, hy, Option.toList_some, List.filter_append]
        by_cases hm : y ∈ oo
        · rw [if_pos (decide_eq_true hm)]
          refine ⟨_, rfl, _, hD, ?_, same_put sm nD, ?_⟩
          · rw [List.length_map]
            refine Nat.lt_of_le_of_lt (List.length_filter_le ..) ?_
            exact Nat.lt_of_le_of_lt (Nat.le_trans (List.length_take_le' ..) d1.len) (by decide)
          · rw [upd_same]; simp [hm]
        · rw [if_neg (by simp [hm])]
          refine ⟨sm, ?_⟩
          rw [hD]; simp [hm]
      · rintro H12 ⟨sm, hD⟩
        rw [List.length_map, List.take_length] at hD
        refine ⟨D, _, rfl, SqL.of hD, fun H13 s13 => ?_⟩
        have s13 := sm.trans s13
        have hS13 := hS11.same s13
        have hL1 := s13 _ _ hL1
        have hLo := s13 _ _ hLo
        have eB : txt (memP (o1.filter fun h => decide (h ∈ oo))) = txt (fun h => memP o1 h && memP oo h) := txt_congr fun h hh => by
          unfold memP
          rw [Bool.eq_iff_iff]
          simp [List.mem_filter]
        rw [eB]
        -- either
        refine ⟨_, rfl, _, rfl, L1, Lo, _, _, rfl, rfl, hL1, hLo, ?_, fun p1 np1 => ?_⟩
        · rw [List.length_map, List.length_map, sizeLine_eq]
          have h1 := d1.len
          have h2 := dO.len
          omega
        refine ⟨p1, o1 ++ oo, rfl, SqL.of (by rw [upd_same, List.map_append]), ?_, fun p2 cn np2 hcn => ?_⟩
        · rw [List.length_append]
          have h1 := d1.len
          have h2 := dO.len
          omega
        refine ⟨p2, _, cn, rfl, upd_same, ?_, fun es p3 hup hmem hlen np3 => ?_⟩
        · rw [List.length_append] at hcn
          have h1 := d1.len
          have h2 := dO.len
          omega
        have s14 : Same H13 (upd (upd (upd H13 p1 (.lst (o1.map V.int ++ oo.map V.int))) p2 (SetO w p2 (fun k => decide (k ∈ o1 ++ oo)) cn)) p3 (.lst (es.map V.int))) := ((same_upd np1).trans (same_upd np2)).trans (same_upd np3)
        have h14 : upd (upd (upd H13 p1 (.lst (o1.map V.int ++ oo.map V.int))) p2 (SetO w p2 (fun k => decide (k ∈ o1 ++ oo)) cn)) p3 (.lst (es.map V.int)) p3 = some (.lst (es.map V.int)) := upd_same
        refine ⟨p3, es, rfl, SqL.of h14, fun H14 s15 => ?_⟩
        have s15 := s14.trans s15
        have hS14 := hS13.same s15
        have hL1 := s15 _ _ hL1
        have eE : txt (memP es) = txt (fun h => memP o1 h || memP oo h) := txt_congr fun h hh => by
          unfold memP
          rw [Bool.eq_iff_iff]
          have := hmem (h : Int)
          simp [this]
        rw [eE]
        -- told
        have cA : txt (fun h => memP oo h && memP o1 h) = txt (fun h => memP o1 h && memP oo h) := txt_congr fun h _ => Bool.and_comm ..
        have cO : txt (fun h => memP oo h || memP o1 h) = txt (fun h => memP o1 h || memP oo h) := txt_congr fun h _ => Bool.or_comm ..
        refine ⟨_, rfl, _, rfl, memP o1, memP oo, rfl, fun H15 s16 => ⟨_, rfl, _, rfl, memP oo, memP o1, rfl, fun H16 s17 => ⟨(by show 2 ≤ sizeLine; decide), fun l1 nl1 => ?_⟩⟩⟩
        rw [cA]
        have h17 : Same H14 (upd H16 l1 (.lst [.str (SX.S (txt fun h => memP o1 h && memP oo h)), .str (SX.S (txt fun h => memP o1 h && memP oo h))])) := (s16.trans s17).trans (same_upd nl1)
        have hl1 : upd H16 l1 (.lst [.str (SX.S (txt fun h => memP o1 h && memP oo h)), .str (SX.S (txt fun h => memP o1 h && memP oo h))]) l1 = _ := upd_same
        generalize upd H16 l1 (.lst [.str (SX.S (txt fun h => memP o1 h && memP oo h)), .str (SX.S (txt fun h => memP o1 h && memP oo h))]) = H17 at h17 hl1 ⊢
        refine ⟨_, rfl, _, rfl, _, rfl, memP o1, memP oo, rfl, fun H18 s18 => ⟨_, rfl, _, rfl, memP oo, memP o1, rfl, fun H19 s19 => ⟨(by show 2 ≤ sizeLine; decide), fun l2 nl2 => ?_⟩⟩⟩
        rw [cO]
        have nl12 : l1 ≠ l2 := ne_of_none (s19 _ _ (s18 _ _ hl1)) nl2
        refine ⟨l1, l2, _, _, rfl, rfl, (by rw [upd_ne nl12]; exact s19 _ _ (s18 _ _ hl1)), upd_same, (by show 4 ≤ sizeLine; decide), fun l3 nl3 => ?_⟩
        have h20 : Same H14 (upd (upd H19 l2 (.lst [.str (SX.S (txt fun h => memP o1 h || memP oo h)), .str (SX.S (txt fun h => memP o1 h || memP oo h))])) l3 (.lst ([V.str (SX.S (txt fun h => memP o1 h && memP oo h)), .str (SX.S (txt fun h => memP o1 h && memP oo h))] ++ [.str (SX.S (txt fun h => memP o1 h || memP oo h)), .str (SX.S (txt fun h => memP o1 h || memP oo h))]))) := (((h17.trans s18).trans s19).trans (same_upd nl2)).trans (same_upd nl3)
        have hl3 : upd (upd H19 l2 (.lst [.str (SX.S (txt fun h => memP o1 h || memP oo h)), .str (SX.S (txt fun h => memP o1 h || memP oo h))])) l3 (.lst ([V.str (SX.S (txt fun h => memP o1 h && memP oo h)), .str (SX.S (txt fun h => memP o1 h && memP oo h))] ++ [.str (SX.S (txt fun h => memP o1 h || memP oo h)), .str (SX.S (txt fun h => memP o1 h || memP oo h))])) l3 = _ := upd_same
        generalize upd (upd H19 l2 (.lst [.str (SX.S (txt fun h => memP o1 h || memP oo h)), .str (SX.S (txt fun h => memP o1 h || memP oo h))])) l3 (.lst ([V.str (SX.S (txt fun h => memP o1 h && memP oo h)), .str (SX.S (txt fun h => memP o1 h && memP oo h))] ++ [.str (SX.S (txt fun h => memP o1 h || memP oo h)), .str (SX.S (txt fun h => memP o1 h || memP oo h))])) = H20 at h20 hl3 ⊢
        -- the first look
        refine ⟨_, rfl, _, rfl, _, rfl, _, rfl, _, rfl, (by show 4 ≤ sizeLine; decide), fun l4 nl4 => ?_⟩
        refine ⟨_, _, .list [.str (SX.S (txt fun h => memP o1 h && memP oo h)), .str (SX.S (txt fun h => memP o1 h && memP oo h)), .str (SX.S (txt fun h => memP o1 h || memP oo h)), .str (SX.S (txt fun h => memP o1 h || memP oo h))], rfl,
          .lst (SqL.of (same_upd nl4 _ _ hl3)) (.cons (.str _) (.cons (.str _) (.cons (.str _) (.cons (.str _) .nil)))), .lst (SqL.of upd_same) (.cons (.str _) (.cons (.str _) (.cons (.str _) (.cons (.str _) .nil)))), (by show 1 < 3; decide), (by show 4 ≤ 1000; decide), fun H21 s21 => ⟨_, rfl, iteF ?_⟩⟩
        have s22 := (h20.trans (same_upd nl4)).trans s21
        have hS21 := hS14.same s22
        have hL1 := s22 _ _ hL1
        -- many
        refine ⟨_, rfl, d, c, 24, _, rfl, (by decide), (by decide), hS21, by omega, fun H22 r1 _ _ hS22 k22 => ?_⟩
        refine ⟨_, rfl, d, c, 40, _, rfl, (by decide), (by decide), hS22, by omega, fun H23 r2 _ _ hS23 k23 => ⟨_, _, rfl, rfl, .inl ⟨by decide, by decide⟩, ?_⟩⟩
        refine ⟨_, rfl, _, _, rfl, rfl, ⟨by decide, by decide, by decide⟩, _, _, rfl, rfl, d, c, _, _, rfl, (by decide), (by decide), hS23, by omega, fun H24 r3' _ _ hS24 k24 => ⟨(by show 3 ≤ sizeLine; decide), fun u nu => ?_⟩⟩
        have hL1 := k24 _ _ nd1 nc1 (k23 _ _ nd1 nc1 (k22 _ _ nd1 nc1 hL1))
        have hL1 := same_upd (o := .lst [.int r1, .int (24 * r2), .int r3']) nu _ _ hL1
        have ndu : u ≠ d := (hS24.ne1 nu).symm
        have ncu : u ≠ c := (hS24.ne2 nu).symm
        have hS25 := hS24.put (o := .lst [.int r1, .int (24 * r2), .int r3']) ndu.symm ncu.symm
        have hu : upd H24 u (.lst [.int r1, .int (24 * r2), .int r3']) u = _ := upd_same
        generalize upd H24 u (.lst [.int r1, .int (24 * r2), .int r3']) = H25 at hL1 hS25 hu ⊢
        refine ⟨_, rfl, d, c, 3, _, rfl, (by decide), (by decide), hS25, by omega, fun H26 r4 r40 r43 hS26 k26 => ?_⟩
        have hL1 := k26 _ _ nd1 nc1 hL1
        obtain ⟨bb, ebb⟩ : ∃ bb : Int, atI [V.int r1, .int (24 * r2), .int r3'] r4 = some (.int bb) := by
          have h : r4 = 0 ∨ r4 = 1 ∨ r4 = 2 := by omega
          rcases h with rfl | rfl | rfl <;> exact ⟨_, rfl⟩
        refine ⟨u, _, r4, .int bb, rfl, rfl, SqL.of (k26 _ _ ndu ncu hu), ebb, ?_⟩
        -- the hours by which it's turned
        refine ⟨_, rfl, (by show 1 ≤ sizeLine; decide), fun w1 nw1 => ⟨24, rfl, ⟨by decide, by decide, by decide, by decide, by decide⟩, fun w2 nw2 => ?_⟩⟩
        have nw12 : w1 ≠ w2 := ne_of_none upd_same nw2
        obtain ⟨m, em, hm⟩ : ∃ m : Int, (if decide (V.int (0 + (i : Int)) = V.int 0) = true then (1 : Int) else 0) = m ∧ (m = 0 ∨ m = 1) := ⟨_, rfl, by split <;> simp⟩
        refine ⟨_, rfl, rfl, .inr ⟨_, rfl, w2, m, _, rfl, congrArg V.int em, upd_same, (by omega), (by omega), ?_, fun w3 nw3 => ?_⟩⟩
        · rw [rgV_length, sizeLine_eq]
          rcases hm with rfl | rfl <;> decide
        have nw13 : w1 ≠ w3 := ne_of_none (by rw [upd_ne nw12]; exact upd_same) nw3
        refine ⟨w1, w3, _, _, rfl, rfl, (by rw [upd_ne nw13, upd_ne nw12]; exact upd_same), upd_same, ?_, fun w4 nw4 => ?_⟩
        · rcases hm with rfl | rfl
          · show 1 + 0 ≤ sizeLine
            decide
          · show 1 + (rgV 0 24 ++ []).length ≤ sizeLine
            rw [List.append_nil, rgV_length, sizeLine_eq]
            decide
        have sw := ((same_upd (o := .lst [V.int bb]) nw1).trans (same_upd (o := .lst (rgV 0 24)) nw2)).trans (same_upd (o := .lst (List.replicate m.toNat (rgV 0 24)).flatten) nw3)
        have sw := sw.trans (same_upd (o := .lst ([V.int bb] ++ (List.replicate m.toNat (rgV 0 24)).flatten)) nw4)
        have hw4 : upd (upd (upd (upd H26 w1 (.lst [V.int bb])) w2 (.lst (rgV 0 24))) w3 (.lst (List.replicate m.toNat (rgV 0 24)).flatten)) w4 (.lst ([V.int bb] ++ (List.replicate m.toNat (rgV 0 24)).flatten)) w4 = _ := upd_same
        have hall : ∀ x ∈ [V.int bb] ++ (List.replicate m.toNat (rgV 0 24)).flatten, ∃ b : Int, x = .int b := by
          intro x hx
          rcases List.mem_append.mp hx with hx | hx
          · exact ⟨bb, List.mem_singleton.mp hx⟩
          · obtain ⟨l, hl, hx⟩ := List.mem_flatten.mp hx
            rw [(List.mem_replicate.mp hl).2] at hx
            unfold rgV at hx
            obtain ⟨k, _, rfl⟩ := List.mem_map.mp hx
            exact ⟨_, rfl⟩
        generalize upd (upd (upd (upd H26 w1 (.lst [V.int bb])) w2 (.lst (rgV 0 24))) w3 (.lst (List.replicate m.toNat (rgV 0 24)).flatten)) w4 (.lst ([V.int bb] ++ (List.replicate m.toNat (rgV 0 24)).flatten)) = H27 at sw hw4 ⊢
        generalize [V.int bb] ++ (List.replicate m.toNat (rgV 0 24)).flatten = BL at hw4 hall
        have hS27 := hS26.same sw
        have hL1 := sw _ _ hL1
        have hday : ∀ h ∈ o1, 0 ≤ h ∧ h < 24 := fun h hh => ⟨d1.lo h hh, d1.hi h hh⟩
        have eh : hoursP (memP o1) 24 = o1 := rise_ext (hoursP_rise _) d1.up fun k => mem_hours_of hday
        refine ⟨w4, rfl, ⟨_, SqL.of hw4⟩, ?_⟩
        refine for_it (walk_list (xs := BL)) (fun j σ H28 => ∃ v11 v12 v13 v14, σ = [some (.ref a), some (.ref d), some (.int (0 + (i : Int))), some (.ref L1), some (.ref Lo), some (.str (SX.S (txt (memP o1)))), some (.str (SX.S (txt (memP oo)))), some (.str (SX.S (txt fun h => memP o1 h && memP oo h))), some (.str (SX.S (txt fun h => memP o1 h || memP oo h))), some (.ref l3), some (.int bb), v11, v12, v13, v14] ∧ Same H27 H28)
          ⟨_, _, _, _, rfl, Same.refl _⟩ (fun j σ H28 _ h => by obtain ⟨_, _, _, _, _, h⟩ := h; exact SqL.of (h _ _ hw4)) ?_ ?_
        · rintro j x σ H28 H29 hj ⟨v11, v12, v13, v14, rfl, sm28⟩ ⟨rfl, hx⟩
          obtain ⟨b, rfl⟩ := hall x (List.mem_of_getElem? hx)
          have hL1 := sm28 _ _ hL1
          -- due
          refine ⟨_, rfl, L1, rfl, ⟨_, SqL.of hL1⟩, fun D1 nD1 => ?_⟩
          refine lc_it (walk_list (xs := o1.map V.int)) (fun k Hc => Same H29 Hc ∧ Hc D1 = some (.lst ((turn24 b (o1.take k)).map V.int))) ⟨same_upd nD1, upd_same⟩ (fun k Hc _ h => SqL.of (h.1 _ _ hL1)) ?_ ?_
          · rintro k x Hc Hd hk ⟨smc, hD⟩ ⟨rfl, hx⟩
            rw [List.getElem?_map] at hx
            obtain ⟨y, hy, rfl⟩ := Option.map_eq_some_iff.mp hx
            refine ⟨rfl, tYes_at ?_⟩
            rw [if_pos rfl]
            refine ⟨_, rfl, _, rfl, _, _, rfl, rfl, _, _, rfl, rfl, (by show (0 : Int) < 24; decide), _, hD, ?_, same_put smc nD1, ?_⟩
            · rw [List.length_map]
              unfold turn24
              rw [List.length_map]
              exact Nat.lt_of_le_of_lt (Nat.le_trans (List.length_take_le' ..) d1.len) (by decide)
            · rw [upd_same, List.take_add_one, hy]
              unfold turn24
              simp
          rintro H30 ⟨sm30, hD1⟩
          rw [List.length_map, List.take_length] at hD1
          refine ⟨D1, _, rfl, SqL.of hD1, fun H31 s31 => ?_⟩
          -- found
          refine ⟨_, rfl, _, rfl, memP o1, b, rfl, fun H32 s32 => ?_⟩
          rw [eh]
          have s32 := (sm30.trans s31).trans s32
          refine ⟨_, rfl, _, rfl, _, _, .str (SX.S (txt (memP (turn24 b o1)))), rfl, .str _, .str _, (by show 0 < 3; decide), (by show 0 ≤ 1000; decide), fun H33 s33 => ⟨_, rfl, iteF ?_⟩⟩
          -- turned back
          refine ⟨_, rfl, _, rfl, _, _, rfl, rfl, (by show (0 : Int) < 24; decide), _, _, rfl, rfl, memP (turn24 b o1), _, rfl, fun H34 s34 => ?_⟩
          rw [turned_is (turn_day b o1), turned_back hday]
          refine ⟨_, rfl, _, _, .str (SX.S (txt (memP o1))), rfl, .str _, .str _, (by show 0 < 3; decide), (by show 0 ≤ 1000; decide), fun H35 s35 => ⟨_, rfl, iteF ?_⟩⟩
          have s35 := ((s32.trans s33).trans s34).trans s35
          have hL1 := s35 _ _ hL1
          -- its hours
          refine ⟨_, rfl, memP (turn24 b o1), rfl, fun H36 D2 s36 nD2 hD2 => ?_⟩
          have hL1 := s36 _ _ hL1
          refine ⟨_, rfl, L1, rfl, ⟨_, SqL.of hL1⟩, fun D3 nD3 => ?_⟩
          refine lc_it (walk_list (xs := o1.map V.int)) (fun k Hc => Same H36 Hc ∧ Hc D3 = some (.lst ((turn24 b (o1.take k)).map V.int))) ⟨same_upd nD3, upd_same⟩ (fun k Hc _ h => SqL.of (h.1 _ _ hL1)) ?_ ?_
          · rintro k x Hc Hd hk ⟨smc, hD⟩ ⟨rfl, hx⟩
            rw [List.getElem?_map] at hx
            obtain ⟨y, hy, rfl⟩ := Option.map_eq_some_iff.mp hx
            refine ⟨rfl, tYes_at ?_⟩
            rw [if_pos rfl]
            refine ⟨_, rfl, _, rfl, _, _, rfl, rfl, _, _, rfl, rfl, (by show (0 : Int) < 24; decide), _, hD, ?_, same_put smc nD3, ?_⟩
            · rw [List.length_map]
              unfold turn24
              rw [List.length_map]
              exact Nat.lt_of_le_of_lt (Nat.le_trans (List.length_take_le' ..) d1.len) (by decide)
            · rw [upd_same, List.take_add_one, hy]
              unfold turn24
              simp
          rintro H37 ⟨sm37, hD3⟩
          rw [List.length_map, List.take_length] at hD3
          refine ⟨D3, _, rfl, SqL.of hD3, ?_, fun ys D4 hperm hle nD4 => ?_⟩
          · unfold turn24
            rw [List.length_map]
            exact Nat.lt_of_le_of_lt d1.len (by decide)
          have ey := sorted_turn hday d1.up hperm hle
          rw [ey] at hD2
          have hD2 := sm37 _ _ hD2
          have hlen : ys.length ≤ 24 := by
            rw [hperm.length_eq]
            unfold turn24
            rw [List.length_map]
            exact d1.len
          refine ⟨_, _, .list (ys.map PyData.int), rfl, .lst (SqL.of (same_upd nD4 _ _ hD2)) (dp_ints ys), .lst (SqL.of upd_same) (dp_ints ys), ?_, ?_, fun H38 s38 => ⟨_, rfl, iteF ?_⟩⟩
          · rw [depth_ints]; decide
          · rw [wid_ints]; omega
          · exact ⟨_, _, _, _, rfl, sm28.trans (((s35.trans s36).trans sm37).trans ((same_upd nD4).trans s38))⟩
        · rintro σ H28 ⟨v11, v12, v13, v14, rfl, sm28⟩
          exact ⟨_, _, _, _, _, _, _, _, _, _, _, _, _, rfl, (hS27.same sm28).mono (by omega)⟩
    · rintro σ H2 ⟨v2, v3, v4, v5, v6, v7, v8, v9, v10, v11, v12, v13, v14, rfl, hS2⟩
      exact q _
end
end Pot

namespace Pot
open PySem PySem.Spec PyProof.Rows L2
theorem all_mk {l : PySem.W.OpenLaw} {w : World} {K : PySem.W.Frag} {h : Heap} {mg : Str → Option Value} {fa : Addr} (X : K.In h) (G : h.Ns mainGlobals mg) (hfa : mg "law" = some (.ref fa))
    {f1 : Addr} {od1 an1 : Option Addr} {sl1 : Array (Option Value)} {oc1 kV1 dc1 pm1 cd1 ct1 : Value}
    {f2 : Addr} {od2 an2 : Option Addr} {sl2 : Array (Option Value)} {oc2 kV2 dc2 pm2 cd2 ct2 : Value}
    {f3 : Addr} {od3 an3 : Option Addr} {sl3 : Array (Option Value)} {oc3 kV3 dc3 pm3 cd3 ct3 : Value}
    {f4 : Addr} {od4 an4 : Option Addr} {sl4 : Array (Option Value)} {oc4 kV4 dc4 pm4 cd4 ct4 : Value}
    {f5 : Addr} {od5 an5 : Option Addr} {sl5 : Array (Option Value)} {oc5 kV5 dc5 pm5 cd5 ct5 : Value}
    {f6 : Addr} {od6 an6 : Option Addr} {sl6 : Array (Option Value)} {oc6 kV6 dc6 pm6 cd6 ct6 : Value}
    {f7 : Addr} {od7 an7 : Option Addr} {sl7 : Array (Option Value)} {oc7 kV7 dc7 pm7 cd7 ct7 : Value}
    {f8 : Addr} {od8 an8 : Option Addr} {sl8 : Array (Option Value)} {oc8 kV8 dc8 pm8 cd8 ct8 : Value}
    {f9 : Addr} {od9 an9 : Option Addr} {sl9 : Array (Option Value)} {oc9 kV9 dc9 pm9 cd9 ct9 : Value}
    {f10 : Addr} {od10 an10 : Option Addr} {sl10 : Array (Option Value)} {oc10 kV10 dc10 pm10 cd10 ct10 : Value}
    {f11 : Addr} {od11 an11 : Option Addr} {sl11 : Array (Option Value)} {oc11 kV11 dc11 pm11 cd11 ct11 : Value}
    {f12 : Addr} {od12 an12 : Option Addr} {sl12 : Array (Option Value)} {oc12 kV12 dc12 pm12 cd12 ct12 : Value}
    {f13 : Addr} {od13 an13 : Option Addr} {sl13 : Array (Option Value)} {oc13 kV13 dc13 pm13 cd13 ct13 : Value}
    {tc1 : Tok}
    {tc2 : Tok}
    (a1 : PySem.W.nsIn K mainGlobals "written" = some (some (.ref f1))) (l1 : K.lookup f1 = some ⟨oc1, od1, .func (PySem.W.fnOf "written" "written" (defArgs sWritten) (defBody sWritten) (defScope sWritten) .none kV1 dc1 pm1 an1 cd1 ct1), sl1⟩) (c1 : PySem.W.codeIn K cd1 "written" = true) (k1 : PySem.W.keepIn K (.ref f1) = true)
    (a2 : PySem.W.nsIn K mainGlobals "bits_of" = some (some (.ref f2))) (l2 : K.lookup f2 = some ⟨oc2, od2, .func (PySem.W.fnOf "bits_of" "bits_of" (defArgs sBits) (defBody sBits) (defScope sBits) .none kV2 dc2 pm2 an2 cd2 ct2), sl2⟩) (c2 : PySem.W.codeIn K cd2 "bits_of" = true) (k2 : PySem.W.keepIn K (.ref f2) = true)
    (a3 : PySem.W.nsIn K mainGlobals "tally_of" = some (some (.ref f3))) (l3 : K.lookup f3 = some ⟨oc3, od3, .func (PySem.W.fnOf "tally_of" "tally_of" (defArgs sTallyOf) (defBody sTallyOf) (defScope sTallyOf) .none kV3 dc3 pm3 an3 cd3 ct3), sl3⟩) (c3 : PySem.W.codeIn K cd3 "tally_of" = true) (k3 : PySem.W.keepIn K (.ref f3) = true)
    (a4 : PySem.W.nsIn K mainGlobals "tally_hours" = some (some (.ref f4))) (l4 : K.lookup f4 = some ⟨oc4, od4, .func (PySem.W.fnOf "tally_hours" "tally_hours" (defArgs sTallyHours) (defBody sTallyHours) (defScope sTallyHours) .none kV4 dc4 pm4 an4 cd4 ct4), sl4⟩) (c4 : PySem.W.codeIn K cd4 "tally_hours" = true) (k4 : PySem.W.keepIn K (.ref f4) = true)
    (a5 : PySem.W.nsIn K mainGlobals "both_tally" = some (some (.ref f5))) (l5 : K.lookup f5 = some ⟨oc5, od5, .func (PySem.W.fnOf "both_tally" "both_tally" (defArgs sBoth) (defBody sBoth) (defScope sBoth) .none kV5 dc5 pm5 an5 cd5 ct5), sl5⟩) (c5 : PySem.W.codeIn K cd5 "both_tally" = true) (k5 : PySem.W.keepIn K (.ref f5) = true)
    (a6 : PySem.W.nsIn K mainGlobals "either_tally" = some (some (.ref f6))) (l6 : K.lookup f6 = some ⟨oc6, od6, .func (PySem.W.fnOf "either_tally" "either_tally" (defArgs sEither) (defBody sEither) (defScope sEither) .none kV6 dc6 pm6 an6 cd6 ct6), sl6⟩) (c6 : PySem.W.codeIn K cd6 "either_tally" = true) (k6 : PySem.W.keepIn K (.ref f6) = true)
    (a7 : PySem.W.nsIn K mainGlobals "turned_tally" = some (some (.ref f7))) (l7 : K.lookup f7 = some ⟨oc7, od7, .func (PySem.W.fnOf "turned_tally" "turned_tally" (defArgs sTurned) (defBody sTurned) (defScope sTurned) .none kV7 dc7 pm7 an7 cd7 ct7), sl7⟩) (c7 : PySem.W.codeIn K cd7 "turned_tally" = true) (k7 : PySem.W.keepIn K (.ref f7) = true)
    (a8 : PySem.W.nsIn K mainGlobals "_law_begin" = some (some (.ref f8))) (l8 : K.lookup f8 = some ⟨oc8, od8, .func (PySem.W.fnOf "_law_begin" "_law_begin" (defArgs sBegin) (defBody sBegin) (defScope sBegin) .none kV8 dc8 pm8 an8 cd8 ct8), sl8⟩) (c8 : PySem.W.codeIn K cd8 "_law_begin" = true) (k8 : PySem.W.keepIn K (.ref f8) = true)
    (a9 : PySem.W.nsIn K mainGlobals "_law_take" = some (some (.ref f9))) (l9 : K.lookup f9 = some ⟨oc9, od9, .func (PySem.W.fnOf "_law_take" "_law_take" (defArgs sTake) (defBody sTake) (defScope sTake) .none kV9 dc9 pm9 an9 cd9 ct9), sl9⟩) (c9 : PySem.W.codeIn K cd9 "_law_take" = true) (k9 : PySem.W.keepIn K (.ref f9) = true)
    (a10 : PySem.W.nsIn K mainGlobals "_law_same" = some (some (.ref f10))) (l10 : K.lookup f10 = some ⟨oc10, od10, .func (PySem.W.fnOf "_law_same" "_law_same" (defArgs sSame) (defBody sSame) (defScope sSame) .none kV10 dc10 pm10 an10 cd10 ct10), sl10⟩) (c10 : PySem.W.codeIn K cd10 "_law_same" = true) (k10 : PySem.W.keepIn K (.ref f10) = true)
    (a11 : PySem.W.nsIn K mainGlobals "_law_hours" = some (some (.ref f11))) (l11 : K.lookup f11 = some ⟨oc11, od11, .func (PySem.W.fnOf "_law_hours" "_law_hours" (defArgs sHours) (defBody sHours) (defScope sHours) .none kV11 dc11 pm11 an11 cd11 ct11), sl11⟩) (c11 : PySem.W.codeIn K cd11 "_law_hours" = true) (k11 : PySem.W.keepIn K (.ref f11) = true)
    (a12 : PySem.W.nsIn K mainGlobals "_law_written" = some (some (.ref f12))) (l12 : K.lookup f12 = some ⟨oc12, od12, .func (PySem.W.fnOf "_law_written" "_law_written" (defArgs sLWr) (defBody sLWr) (defScope sLWr) .none kV12 dc12 pm12 an12 cd12 ct12), sl12⟩) (c12 : PySem.W.codeIn K cd12 "_law_written" = true) (k12 : PySem.W.keepIn K (.ref f12) = true)
    (a13 : PySem.W.nsIn K mainGlobals "law" = some (some (.ref f13))) (l13 : K.lookup f13 = some ⟨oc13, od13, .func (PySem.W.fnOf "law" "law" (defArgs sLaw) (defBody sLaw) (defScope sLaw) .none kV13 dc13 pm13 an13 cd13 ct13), sl13⟩) (c13 : PySem.W.codeIn K cd13 "law" = true) (k13 : PySem.W.keepIn K (.ref f13) = true)
    (z1 : PySem.W.nsIn K mainGlobals "len" = some none)
    (z2 : PySem.W.nsIn K mainGlobals "divmod" = some none)
    (z3 : PySem.W.nsIn K mainGlobals "range" = some none)
    (z4 : PySem.W.nsIn K mainGlobals "sum" = some none)
    (z5 : PySem.W.nsIn K mainGlobals "all" = some none)
    (z6 : PySem.W.nsIn K mainGlobals "isinstance" = some none)
    (z7 : PySem.W.nsIn K mainGlobals "str" = some none)
    (z8 : PySem.W.nsIn K mainGlobals "int" = some none)
    (z9 : PySem.W.nsIn K mainGlobals "list" = some none)
    (z10 : PySem.W.nsIn K mainGlobals "tuple" = some none)
    (z11 : PySem.W.nsIn K mainGlobals "bool" = some none)
    (z12 : PySem.W.nsIn K mainGlobals "zip" = some none)
    (z13 : PySem.W.nsIn K mainGlobals "set" = some none)
    (z14 : PySem.W.nsIn K mainGlobals "sorted" = some none)
    (y1 : PySem.W.nsIn K mainGlobals "DAY" = some (some (.int 24 tc1)))
    (y2 : PySem.W.nsIn K mainGlobals "SIGNS" = some (some (.str "0123456789abcdef" tc2)))
    : ∃ fd : FuncData, (∀ (s : Shared) (v : Value), BindsTo s fd ⟨[v], []⟩ [("_law_script", v)]) ∧ ∀ base : Heap, K.In base → base.Ns mainGlobals mg → FnOk l.prog w K mg base CX0 5 fa fd ["_law_script"] (spLaw K) := by
  have e := hfa.symm.trans (PySem.W.mg_of X G a13)
  cases e
  have F1 := fun_mk (st := sWritten) l1 c1 k1
  have b1 := F1.binds (ps := ["bits"]) fun _ _ _ _ _ _ us hl => match us, hl with | [_], _ => rfl
  have g1 := PySem.W.mg_of X G a1
  have F2 := fun_mk (st := sBits) l2 c2 k2
  have b2 := F2.binds (ps := ["text"]) fun _ _ _ _ _ _ us hl => match us, hl with | [_], _ => rfl
  have g2 := PySem.W.mg_of X G a2
  have F3 := fun_mk (st := sTallyOf) l3 c3 k3
  have b3 := F3.binds (ps := ["hours"]) fun _ _ _ _ _ _ us hl => match us, hl with | [_], _ => rfl
  have g3 := PySem.W.mg_of X G a3
  have F4 := fun_mk (st := sTallyHours) l4 c4 k4
  have b4 := F4.binds (ps := ["text"]) fun _ _ _ _ _ _ us hl => match us, hl with | [_], _ => rfl
  have g4 := PySem.W.mg_of X G a4
  have F5 := fun_mk (st := sBoth) l5 c5 k5
  have b5 := F5.binds (ps := ["one", "other"]) fun _ _ _ _ _ _ us hl => match us, hl with | [_, _], _ => rfl
  have g5 := PySem.W.mg_of X G a5
  have F6 := fun_mk (st := sEither) l6 c6 k6
  have b6 := F6.binds (ps := ["one", "other"]) fun _ _ _ _ _ _ us hl => match us, hl with | [_, _], _ => rfl
  have g6 := PySem.W.mg_of X G a6
  have F7 := fun_mk (st := sTurned) l7 c7 k7
  have b7 := F7.binds (ps := ["tally", "by"]) fun _ _ _ _ _ _ us hl => match us, hl with | [_, _], _ => rfl
  have g7 := PySem.W.mg_of X G a7
  have F8 := fun_mk (st := sBegin) l8 c8 k8
  have b8 := F8.binds (ps := ["_law_script"]) fun _ _ _ _ _ _ us hl => match us, hl with | [_], _ => rfl
  have g8 := PySem.W.mg_of X G a8
  have F9 := fun_mk (st := sTake) l9 c9 k9
  have b9 := F9.binds (ps := ["_law_state", "_law_many"]) fun _ _ _ _ _ _ us hl => match us, hl with | [_, _], _ => rfl
  have g9 := PySem.W.mg_of X G a9
  have F10 := fun_mk (st := sSame) l10 c10 k10
  have b10 := F10.binds (ps := ["_law_found", "_law_due"]) fun _ _ _ _ _ _ us hl => match us, hl with | [_, _], _ => rfl
  have g10 := PySem.W.mg_of X G a10
  have F11 := fun_mk (st := sHours) l11 c11 k11
  have b11 := F11.binds (ps := ["_law_state"]) fun _ _ _ _ _ _ us hl => match us, hl with | [_], _ => rfl
  have g11 := PySem.W.mg_of X G a11
  have F12 := fun_mk (st := sLWr) l12 c12 k12
  have b12 := F12.binds (ps := ["_law_hours_here"]) fun _ _ _ _ _ _ us hl => match us, hl with | [_], _ => rfl
  have g12 := PySem.W.mg_of X G a12
  have F13 := fun_mk (st := sLaw) l13 c13 k13
  have T : Txt5 mg := ⟨PySem.W.mg_none_of X G z1, PySem.W.mg_none_of X G z2, PySem.W.mg_none_of X G z3, PySem.W.mg_none_of X G z4, PySem.W.mg_none_of X G z5, PySem.W.mg_none_of X G z6, PySem.W.mg_none_of X G z7, PySem.W.mg_none_of X G z8, PySem.W.mg_none_of X G z9, PySem.W.mg_none_of X G z10, PySem.W.mg_none_of X G z11, PySem.W.mg_none_of X G z12, PySem.W.mg_none_of X G z13, PySem.W.mg_none_of X G z14, ⟨_, PySem.W.mg_of X G y1⟩, ⟨_, PySem.W.mg_of X G y2⟩⟩
  refine ⟨PySem.W.fnOf "law" "law" (defArgs sLaw) (defBody sLaw) (defScope sLaw) .none kV13 dc13 pm13 an13 cd13 ct13, fun s v => .of_eq rfl, fun base _ _ => ?_⟩
  exact ok_law F13 T ⟨_, _, _, ok_begin F8 T, g8, F8.kp, b8⟩ ⟨_, _, _, ok_take F9 T.len T.divmod, g9, F9.kp, b9⟩ ⟨_, _, _, ok_hours F11 T F9 b9 g9, g11, F11.kp, b11⟩ ⟨_, _, _, ok_lwr F12 T, g12, F12.kp, b12⟩ ⟨_, _, _, ok_same F10 T b10 g10 3, g10, F10.kp, b10⟩
    ⟨_, _, _, ok_both F5 T F1 b1 g1 F2 b2 g2, g5, F5.kp, b5⟩ ⟨_, _, _, ok_either F6 T F1 b1 g1 F2 b2 g2, g6, F6.kp, b6⟩ ⟨_, _, _, ok_turned F7 T F1 b1 g1 F2 b2 g2 F3 b3 g3 F4 b4 g4, g7, F7.kp, b7⟩ ⟨_, _, _, ok_tallyHours F4 T F2 b2 g2, g4, F4.kp, b4⟩
end Pot
open PySem PySem.W PyProof.Rows
set_option maxRecDepth 100000 in
set_option maxHeartbeats 0 in
theorem PySem.Challenge.cw_potround_k05_tallies_together_and_turned_holds : PySem.Challenge.rw_potround_k05_tallies_together_and_turned.Holds := by
  w_on; o_law; k_head; (case hw => w_witness2)
  k_fill
  refine L2.walk_of (l := PySem.Challenge.rw_potround_k05_tallies_together_and_turned) (n := 63) (k := 5) (x := "_law_script") (CX := fun _ => L2.CX0) (sp := fun w => Pot.spLaw _) rfl (by decide) rfl ⟨rfl, by decide, by decide⟩ (fun w h Y => PySem.W.kIn_of Y) ?F (fun _ _ a ns hl _ hS => ⟨a, ns, rfl, hS, hl, fun _ => rfl⟩) (fun _ _ _ _ _ h => h)
  case F =>
    intro w mg fa h KX G hmg
    refine' Pot.all_mk KX G hmg ?a1 ?l1 ?c1 ?k1 ?a2 ?l2 ?c2 ?k2 ?a3 ?l3 ?c3 ?k3 ?a4 ?l4 ?c4 ?k4 ?a5 ?l5 ?c5 ?k5 ?a6 ?l6 ?c6 ?k6 ?a7 ?l7 ?c7 ?k7 ?a8 ?l8 ?c8 ?k8 ?a9 ?l9 ?c9 ?k9 ?a10 ?l10 ?c10 ?k10 ?a11 ?l11 ?c11 ?k11 ?a12 ?l12 ?c12 ?k12 ?a13 ?l13 ?c13 ?k13 ?z1 ?z2 ?z3 ?z4 ?z5 ?z6 ?z7 ?z8 ?z9 ?z10 ?z11 ?z12 ?z13 ?z14 ?y1 ?y2
    (case a1 => k_is)
    (case l1 => k_is)
    (case c1 => k_is)
    (case k1 => k_is)
    (case a2 => k_is)
    (case l2 => k_is)
    (case c2 => k_is)
    (case k2 => k_is)
    (case a3 => k_is)
    (case l3 => k_is)
    (case c3 => k_is)
    (case k3 => k_is)
    (case a4 => k_is)
    (case l4 => k_is)
    (case c4 => k_is)
    (case k4 => k_is)
    (case a5 => k_is)
    (case l5 => k_is)
    (case c5 => k_is)
    (case k5 => k_is)
    (case a6 => k_is)
    (case l6 => k_is)
    (case c6 => k_is)
    (case k6 => k_is)
    (case a7 => k_is)
    (case l7 => k_is)
    (case c7 => k_is)
    (case k7 => k_is)
    (case a8 => k_is)
    (case l8 => k_is)
    (case c8 => k_is)
    (case k8 => k_is)
    (case a9 => k_is)
    (case l9 => k_is)
    (case c9 => k_is)
    (case k9 => k_is)
    (case a10 => k_is)
    (case l10 => k_is)
    (case c10 => k_is)
    (case k10 => k_is)
    (case a11 => k_is)
    (case l11 => k_is)
    (case c11 => k_is)
    (case k11 => k_is)
    (case a12 => k_is)
    (case l12 => k_is)
    (case c12 => k_is)
    (case k12 => k_is)
    (case a13 => k_is)
    (case l13 => k_is)
    (case c13 => k_is)
    (case k13 => k_is)
    (case z1 => k_is)
    (case z2 => k_is)
    (case z3 => k_is)
    (case z4 => k_is)
    (case z5 => k_is)
    (case z6 => k_is)
    (case z7 => k_is)
    (case z8 => k_is)
    (case z9 => k_is)
    (case z10 => k_is)
    (case z11 => k_is)
    (case z12 => k_is)
    (case z13 => k_is)
    (case z14 => k_is)
    (case y1 => k_is)
    (case y2 => k_is)
