import PyProof.Rows.All
import Wide.All
import OpenK.AllK
import Wide.FinOn
import HandS.ForMost
import HandS.FStr
import KE.KxField
import HandS.Strs
import HandS.SetFor
import HandS.Zip
import PyProof.ReprRoads
import HandS.FStrTup
import HandS.ForExc
import HandS.IsInst
import HandS.Evl
import HandS.Conv
import HandS.Flow
import HandS.Style
import HandS.Sort
import HandS.Walk
import HandS.Codes
import HandS.StrMore
import HandS.TupAny
import HandS.Defaults
import KE.KEqSeq
import HandS.Exc
import HandS.ExcIs
import HandS.IntHex
import HandS.WideBits
import HandS.RaiseMore
import HandS.ExcOwn
import HandS.WordsExc
import PySem.Challenge.RW_potround_k04_tallies_written_and_read
set_option Elab.async false
set_option linter.all false
set_option maxRecDepth 100000
namespace Pot
open PySem PySem.Spec PyProof.Rows L2
/-! ### six signs in base 16 -/
def hexc (d : Nat) : Nat := (Nat.digitChar d).toNat
def padx (w n : Nat) : List Nat := List.replicate (w - ((Nat.toDigits 16 n).map fun c => (if ((120 : Nat) == 88) = true then c.toUpper else c).toNat).length) 48 ++ (Nat.toDigits 16 n).map fun c => (if ((120 : Nat) == 88) = true then c.toUpper else c).toNat
theorem low_id : (fun c : Char => (if ((120 : Nat) == 88) = true then c.toUpper else c).toNat) = Char.toNat := by
  funext c
  rfl
theorem padx_one {n : Nat} (h : n < 16) : padx 1 n = [hexc n] := by
  unfold padx
  rw [Nat.toDigits_of_lt_base h]
  rfl
theorem padx_more {w n : Nat} (hw : 1 ≤ w) (h : n < 16 ^ (w + 1)) : padx (w + 1) n = padx w (n / 16) ++ [hexc (n % 16)] := by
  unfold padx
  by_cases c : n < 16
  · rw [Nat.toDigits_of_lt_base c, Nat.div_eq_of_lt c, Nat.mod_eq_of_lt c, Nat.toDigits_zero]
    have e : List.replicate (w + 1 - 1) 48 = List.replicate (w - 1) 48 ++ [48] := by
      obtain ⟨v, rfl⟩ : ∃ v, w = v + 1 := ⟨w - 1, by omega⟩
      rw [Nat.add_sub_cancel, Nat.add_sub_cancel, List.replicate_succ']
    simp only [List.map_cons, List.map_nil, List.length_singleton]
    rw [e]
    rfl
  · rw [Nat.toDigits_of_base_le (by decide) (Nat.le_of_not_lt c), List.map_append, List.length_append]
    simp only [List.map_cons, List.map_nil, List.length_singleton]
    rw [Nat.add_sub_add_right, List.append_assoc]
    rfl
theorem pad6 {n : Nat} (h : n < 16777216) : padx 6 n = [hexc (n / 16 / 16 / 16 / 16 / 16), hexc (n / 16 / 16 / 16 / 16 % 16), hexc (n / 16 / 16 / 16 % 16), hexc (n / 16 / 16 % 16), hexc (n / 16 % 16), hexc (n % 16)] := by
  rw [padx_more (by decide) (by omega), padx_more (by decide) (by omega), padx_more (by decide) (by omega), padx_more (by decide) (by omega), padx_more (by decide) (by omega), padx_one (by omega)]
  rfl
def hex6 (n : Nat) : Str := ⟨(padx 6 n).toArray⟩
theorem field_eq (a : Nat) (l : List Nat) (h : l.length + 1 ≤ 6) : Str.mk (List.replicate 0 48 ++ [] ++ [] ++ List.replicate (Int.toNat (6 - (([] : List Nat).length + ([] : List Nat).length + ([] : List Nat).length : Int) - ((List.replicate (Int.toNat (6 - (([] : List Nat).length + ([] : List Nat).length + ([] : List Nat).length : Int)) - (a :: l).length) 48 ++ a :: l).length : Int))) 48 ++ (List.replicate (Int.toNat (6 - (([] : List Nat).length + ([] : List Nat).length + ([] : List Nat).length : Int)) - (a :: l).length) 48 ++ a :: l) ++ [] ++ List.replicate 0 48).toArray
    = ⟨(List.replicate (6 - (a :: l).length) 48 ++ a :: l).toArray⟩ := by
  have e1 : Int.toNat (6 - (([] : List Nat).length + ([] : List Nat).length + ([] : List Nat).length : Int)) = 6 := by decide
  rw [e1]
  have e2 : Int.toNat (((6 : Nat) : Int) - (([] : List Nat).length + ([] : List Nat).length + ([] : List Nat).length : Int) - ((List.replicate (6 - (a :: l).length) 48 ++ a :: l).length : Int)) = 0 := by
    rw [List.length_append, List.length_replicate, List.length_cons]
    simp only [List.length_nil]
    omega
  rw [e2]
  simp
theorem ret_text2 {M : Model} {A : Around} {E : Value → Shared → Prop} {s : Shared} {X T : PySem.Str} {Q : PySem.Fin → Shared → Prop} (e : X = T) (hL : T.length ≤ sizeLine) (h : ∀ t k, Q (.done (.ret (.str T t))) { s with toks := k }) : wpAny M A (retStr X) Q E s := by
  subst e
  exact PySem.W.KXf.ret_text rfl hL h
theorem meets_hex6 {a : Int} {t u : Tok} (h0 : 0 ≤ a) (h1 : a < 16777216) :
    Meets (Builtin.«int.__format__» ⟨[.int a t, .str (PySem.Str.ofString "06x") u], []⟩) (fun _ R s => ∀ t' k, R (.ok (.ret (.str (hex6 a.toNat) t'))) { s with toks := k }) := by
  apply PySem.W.KPc.meets_of
  intro prog w A s Q E hQ
  unfold Builtin.«int.__format__»
  refine wpAny_bind (wpAny_of_eq (a := (_, _)) rfl ?_)
  refine wpAny_bind (wpAny_of_eq (a := _) rfl ?_)
  refine wpAny_ite (PySem.W.KPc.ite_no Bool.false_ne_true ?_)
  refine wpAny_bind (wpAny_typeNameOf (T := "str") (typeIs_str _ _ _) (by decide) fun _ => ?_)
  refine wpAny_bind (wpAny_of_eq (a := some _) rfl ?_)
  refine wpAny_ite (PySem.W.KPc.ite_no (by decide +kernel) ?_)
  refine wpAny_ite (PySem.W.KPc.ite_no (by decide +kernel) ?_)
  refine wpAny_bind (wpAny_typeNameOfCut_int ?_)
  have hp : Builtin.Float.parseFormatSpec (PySem.Str.ofString "06x").cps.toList "int" 62 = .ok { fill := 48, align := 61, sign := none, noNeg0 := false, alt := false, width := some 6, grouping := none, precision := none, type := some 120 } := by rfl
  rw [hp]
  refine wpAny_ite (PySem.W.KPc.ite_yes (by decide +kernel) ?_)
  have hl : (Nat.toDigits 16 a.natAbs).length ≤ 6 := (Nat.length_toDigits_le_iff (by decide) (by decide)).mpr (by omega)
  have hsz : (hex6 a.toNat).length ≤ sizeLine := by
    show (List.toArray _).size ≤ _
    rw [List.size_toArray, pad6 (by omega)]
    show 6 ≤ sizeLine
    decide
  refine ret_text2 (T := hex6 a.toNat) ?e hsz hQ
  case e =>
    have hd : decide (a < 0) = false := decide_eq_false (by omega)
    rw [hd]
    cases e : (Nat.toDigits 16 a.natAbs).map (fun c => (if ((120 : Nat) == 88) = true then c.toUpper else c).toNat) with
    | nil =>
      have z := congrArg List.length e
      rw [List.length_map] at z
      exact absurd (List.length_eq_zero_iff.mp z) Nat.toDigits_ne_nil
    | cons b l =>
      have hz : l.length + 1 ≤ 6 := by
        have z := congrArg List.length e
        rw [List.length_map, List.length_cons] at z
        omega
      have hR : hex6 a.toNat = ⟨(List.replicate (6 - (b :: l).length) 48 ++ b :: l).toArray⟩ := by
        unfold hex6 padx
        rw [show a.toNat = a.natAbs by omega, e]
      rw [hR]
      generalize hD : List.map _ (Nat.toDigits 16 a.natAbs) = D
      have hD2 : D = b :: l := hD.symm.trans e
      subst hD2
      exact field_eq b l hz
theorem pe_hex6 {X : Cx} {e : Expr} {te : TE} {p1 p2 p3 p4 : Pos} (he : PE X e te) :
    PE X (.JoinedStr [.FormattedValue e (-1) (some (.JoinedStr [.Constant (.str "06x") 0 p1] p2)) p3] p4) (fun σ H Q => te σ H fun x H1 => ∃ i : Int, x = .int i ∧ 0 ≤ i ∧ i < 16777216 ∧ Q (.str (hex6 i.toNat)) H1) := by
  refine ⟨fun pins s σ H Q I h => ?_⟩
  refine wpAny_JoinedStr_one (wpAny_FormattedValue_spec (thn (he.run pins s σ H _ I h) fun v s1 hv => ?_))
  obtain ⟨x, H1, I1, r1, i, rfl, h0, h1, q⟩ := hv
  obtain ⟨t, rfl⟩ := r1
  have hs : PE X (.JoinedStr [.Constant (.str "06x") 0 p1] p2) _ := pe_joined1 pe_str
  refine thn (hs.run pins s1 σ H1 (fun y H2 => y = .str "06x" ∧ H2 = H1) I1 ⟨rfl, rfl⟩) fun r s2 hr => ?_
  obtain ⟨y, H2, I2, r2, rfl, rfl⟩ := hr
  obtain ⟨t2, rfl⟩ := r2
  refine ⟨_, _, rfl, ?_⟩
  refine PySem.W.KXf.field_int rfl (by decide +kernel) (by decide +kernel) (fun u => meets_hex6 h0 h1) fun t' k => ?_
  exact ⟨.str (hex6 i.toNat), H2, I2.tok _, ⟨_, rfl⟩, q⟩
end Pot

namespace Pot
open PySem PySem.Spec PyProof.Rows L2 PySem.W PySem.Calls
/-! ### set(xs) of a list of ints -/
/-- the object that set() makes first -/
abbrev emptySet (w : World) : Obj := { cls := .type "set", dict := none, data := .set #[] 0 (.fresh 0 0 (!w.params.followText "set-order")) }
section
variable {P : Program} {w : World} {A : Around} {E : Value → Shared → Prop} {s : Shared}
/-- what is wanted behind the filling -/
def Filled (w : World) (s : Shared) (ns : List Int) (s' : Shared) : Prop := ∃ h' tk c, s' = { s with heap := h', toks := tk } ∧ SetR w h' s.heap.objs.size (fun j => decide (j ∈ ns)) c ∧ c ≤ ns.length ∧ ∀ b o, s.heap.get? b = some o → h'.get? b = some o
set_option maxHeartbeats 4000000 in
theorem call_set_li {l : Addr} {items : Array Value} (ns : List Int) {Q : Value → Shared → Prop} (hh : A.handled = none) (hl : s.heap.IsList l items) (hit : IntsAre items.toList ns) (hb : ns.length + 1 < scanBound)
    (hq : ∀ s', Filled w s ns s' → Q (.ref s.heap.objs.size) s') : wpAny (model P w) A (call (.type "set") [.ref l]) Q E s := by
  have size : items.size = ns.length := by
    rw [← Array.length_toList]; exact IntsAre.length hit
  have made := F.called_set.made
  have below := F.called_set.sub
  obtain ⟨_, _, chain⟩ := F.called_set.mro
  have nt := F.called_set.notType
  have cc := F.called_set.canCreate
  have ck := F.typeCall_set_1 (.ref l)
  refine wpAny_call (codeAny_of_tree (show wpAny _ _ (callAny (.type "set") _) _ _ _ from wpAny_pure ⟨Code.quiet_builtin _ (by decide +kernel), codeAny_builtin F.entry_type_call ?_⟩))
  rw [Around.under_plain (weight_type_call_type "set" [.ref l] []) rfl]
  repeat (any_goals (first | assumption | wp_step))
  refine codeAny_mono (code_set_led1 (.ref l) (E := E) (Q₁ := fun obj z => obj = .ref s.heap.objs.size ∧ z = { s with heap := s.heap.push (emptySet w) }) ⟨rfl, rfl⟩) fun r z hr => ?_
  rcases r with _ | fl
  case error => exact hr
  cases fl <;> first | exact hr.elim | skip
  obtain ⟨rfl, rfl⟩ := hr
  have at0 : (s.heap.push (emptySet w)).get? s.heap.objs.size = some (emptySet w) := Heap.get?_push_size _ rfl
  have ty0 : Shared.TypeIs { s with heap := s.heap.push (emptySet w) } (.ref s.heap.objs.size) "set" := ⟨_, at0, rfl⟩
  have li := F.called_set.init.lookup
  have bi := F.called_set.init.bind (.ref s.heap.objs.size)
  repeat (any_goals (first | assumption | wp_step))
  refine codeAny_mono (codeAny_call_builtin (R := wants (fun r z => r = .none ∧ Filled w s ns z) E) F.called_set.init.plain F.entry_set_init (check_set_init_1 ty0 ?_)) fun r z hz => ?_
  · obtain ⟨⟨_, od, _, os⟩, hol, hcl, nl, hdl⟩ := hl
    simp only at hcl hdl
    subst hcl
    subst hdl
    have keep : (s.heap.push (emptySet w)).get? l = some { cls := .type "list", dict := od, data := .seq items nl, slots := os } := Heap.get?_push_of_some _ hol
    have s1 := F.sub_list_set
    have s2 := F.sub_list_frozenset
    have s3 : (Value.type "list" == Value.type "dict") = false := by decide
    have isl : (s.heap.push (emptySet w)).IsList l items := ⟨_, keep, rfl, nl, rfl⟩
    unfold Builtin.«set.__init__» noKeywords Builtin.Frozenset.updateFrom
    generalize hPI : pyIter = PI
    wp_walk
    subst hPI
    refine wpAny_pyIter_list isl (wpAny_bind (wpAny_runValue ?_))
    have lt : l < s.heap.objs.size := Heap.lt_size hol
    have sz : (s.heap.push (emptySet w)).objs.size = s.heap.objs.size + 1 := Heap.size_push ..
    have ne1 : l ≠ (s.heap.push (emptySet w)).objs.size := by rw [sz]; exact Nat.ne_of_lt (Nat.lt_succ_of_lt lt)
    have ne2 : s.heap.objs.size ∉ [(s.heap.push (emptySet w)).objs.size, l] := by
      rw [sz]
      intro z
      rcases List.mem_cons.mp z with z | z
      · exact absurd z (Nat.ne_of_lt (Nat.lt_succ_self _))
      · exact absurd (List.mem_singleton.mp z) (Nat.ne_of_gt lt)
    have each : ∀ (i : Nat) (v : Value), items[i]? = some v → ∃ k t, ns[i]? = some k ∧ v = .int k t := fun i v hv => by
      have hi : i < ns.length := size ▸ (Array.getElem?_eq_some_iff.mp hv).1
      obtain ⟨t, e⟩ := IntsAre.int_at hit i v (by rw [Array.getElem?_toList]; exact hv)
      exact ⟨ns[i], t, List.getElem?_eq_getElem hi, by rw [e, List.getD_eq_getElem?_getD, List.getElem?_eq_getElem hi]; rfl⟩
    refine set_update_ints ((Walks.list (show A.in1.in1.in1.handled = none by simp [hh]) _ l ne1 items).toS) s.heap.objs.size ne2 ns size hb each (items.size - 0) 0 _ (by omega) (Nat.zero_le _) ⟨⟨_, Heap.get?_push_size _ rfl, rfl, rfl⟩, isl.push _⟩ ⟨0, Nat.le_refl 0, setR_new_at (Heap.get?_push_of_some _ at0)⟩ fun s' c hm hc hS => ?_
    obtain ⟨h', g, d, tk, o⟩ := s'
    cases (show g = s.gens from hm.gens)
    cases (show d = s.drawn from hm.drawn)
    cases (show o = s.os from hm.os)
    refine (show wpAny _ _ _ _ _ _ from wpAny_pure (show wpAny _ _ (ret Value.none) _ _ _ from wpAny_pure ⟨rfl, h', tk, c, rfl, hS, size ▸ hc, fun b o e => ?_⟩))
    have hb0 : b < s.heap.objs.size := Heap.lt_size e
    refine hm.heap b o (fun z => ?_) (Heap.get?_push_of_some _ (Heap.get?_push_of_some _ e))
    rcases List.mem_cons.mp z with z | z
    · exact absurd z (Nat.ne_of_lt hb0)
    · exact absurd ((List.mem_singleton.mp z).trans sz) (Nat.ne_of_lt (Nat.lt_succ_of_lt hb0))
  · rcases r with _ | fl
    case error => exact hz
    cases fl <;> first | exact hz.elim | skip
    obtain ⟨rfl, f⟩ := hz
    obtain ⟨h', tk, c, rfl, hS, hc, k⟩ := id f
    repeat (any_goals (first | assumption | wp_step))
    exact hq _ ⟨_, _, _, rfl, hS, hc, k⟩
end
section
variable {X : Cx}
/-- set(xs), at most 60 ints: a set of just these -/
def rSetLi (K : PySem.W.Frag) (w : World) : List V → Hp → VK → Prop := fun xs H Q => ∃ (a : Addr) (ns : List Int), xs = [V.ref a] ∧ SqL K H a (ns.map V.int) ∧ ns.length ≤ 1000 ∧
  ∀ (p : Addr) (c : Nat), H p = none → c ≤ ns.length → Q (.ref p) (upd H p (SetO w p (fun k => decide (k ∈ ns)) c))
theorem cr_setLi (hc : X.calm = true) : CallR X (.type "set") (rSetLi X.K X.w) := by
  intro pins s σ H vs us Q I r h
  obtain ⟨a, ns, rfl, hS, hl, q⟩ := h
  rw [Vals.ref1 r]
  obtain ⟨its, rv, pl, hz⟩ := I.list hS
  refine call_set_li ns (I.ok.hd hc) pl.isList (by simpa using Vals.ints rv) (by unfold scanBound; omega) fun s' f => ?_
  obtain ⟨h', tk, c, rfl, R, hcn, k⟩ := f
  have hn : H s.heap.objs.size = none := I.hok.fresh (Nat.le_refl _)
  have J : Inv X pins σ (upd H s.heap.objs.size (SetO X.w s.heap.objs.size (fun k => decide (k ∈ ns)) c)) { s with heap := h', toks := tk } := I.laid (t' := tk) k (Nat.le_refl _) (setO_new R)
  exact ⟨.ref s.heap.objs.size, _, J, rfl, q _ _ hn hcn⟩
end
end Pot

namespace Pot
open PySem PySem.Spec PyProof.Rows L2
/-! ### defs that are called where no text of a thing is under way -/
structure FnG (P : Program) (w : World) (K : PySem.W.Frag) (mg : Str → Option Value) (base : Heap) (k : Nat) (f : Addr) (fd : FuncData) (ps : List Str) (sp : Sp) : Prop where
  many : ∀ vs H Q E, sp vs H Q E → vs.length = ps.length
  does : ∀ (A : Around) (outer : List Env) (s : Shared) (H : Hp) (args : Args) (us : List Value) (vs : List V) (Q : VK), A.guards = some [] → Room k A → Env0 P w K mg base A outer s H →
    BindsTo s fd args (ps.zip us) → Vals vs us → sp vs H Q E0 → codeAny (model P w) A (.call (.ref f) args) (CR CX0 outer P w H s Q E0) s
section
variable {P : Program} {w : World} {K : PySem.W.Frag} {mg : Str → Option Value} {base : Heap}
theorem FnG.of {k : Nat} {f : Addr} {fd : FuncData} {ps : List Str} {sp : Sp} (F : FnOk P w K mg base CX0 k f fd ps sp) : FnG P w K mg base k f fd ps sp :=
  ⟨F.len, fun A outer s H args us vs Q _ hr e hb r h => F.run A outer s H args us vs Q E0 hr e hb r h⟩
theorem okG {x qual : Str} {st : Stmt} {f : Addr} {fd : FuncData} {N ps : List Str} {k : Nat} {sp : Sp} (F : Fun K x qual st f fd) (S : FnScope N ps (defScope st)) (many : ∀ vs H Q E, sp vs H Q E → vs.length = ps.length)
    (body : ∀ (cdv : Value) (A : Around) (outer : List Env) (s : Shared) (H : Hp) (vs : List V) (Q : VK), A.guards = some [] → Room k (A.deeper (envOfC qual (defScope st) s.heap.objs.size f cdv)) → sp vs H Q E0 →
      ∃ t, PSs (cxOf CX0 P w K mg base N qual (defScope st) f cdv A outer s H E0).nox (defBody st) t ∧ t { nx := fun _ H' => Q .non H', rt := Q } (start N vs) H) : FnG P w K mg base (k + 1) f fd ps sp := by
  obtain ⟨oc, od, kV, doc, pm, an, cdv, ct, osl, rfl, at_, code⟩ := F.ex
  refine ⟨many, fun A outer s H args us vs Q gd room e0 bind rel want => ?_⟩
  have kin : K.In s.heap := e0.mod.kin.keeps fun b o e => (e0.bs b o e).1
  have nolim : s.heap.NoLimit := e0.mod.nolimit.keeps fun b o e => (e0.bs b o e).1
  refine codeAny_call_function room.depth (kin _ _ at_) rfl S.co S.gen rfl (PySem.W.codeRec_of kin code) (bind _ _ _ _ (wpAny_newFunctionEnv_cells S.kind (fun y hy => ?_) fun env he s1 x => ?_))
  · obtain ⟨n, v⟩ := y
    exact (S.par n (List.of_mem_zip hy).1).imp id fun q => ⟨q, PySem.W.cellsFrom_some _ _ _ (.inl q)⟩
  · subst he
    obtain ⟨t, ht, hq⟩ := body cdv A outer s H vs Q gd (room.deeper _) want
    have I : Inv (cxOf CX0 P w K mg base N qual (defScope st) f cdv A outer s H E0) [] (start N vs) H s1 := inv_start S room.hd e0 (many _ _ _ _ want) rel x
    refine ⟨nolim.keeps x.toInCall.keep, codeAny_func (wpAny_mono (ht.nox.run [] s1 (start N vs) H _ I hq) (fun fl s' hs => ?_) fun _ _ z => z)⟩
    cases fl with
    | ret u =>
      obtain ⟨v, σ', H', J, rv, q⟩ := hs
      exact ⟨v, H', J.os, J.bare, J.base, J.hok, rv, q⟩
    | next =>
      obtain ⟨σ', H', J, q⟩ := hs
      exact ⟨V.non, H', J.os, J.bare, J.base, J.hok, rfl, q⟩
    | brk => obtain ⟨_, _, _, q⟩ := hs; exact q.elim
    | cont => obtain ⟨_, _, _, q⟩ := hs; exact q.elim
/-! calls -/
/-- a def that may be called by its name where no text is under way -/
def ClG (P : Program) (w : World) (K : PySem.W.Frag) (mg : Str → Option Value) (base : Heap) (k : Nat) (x : Str) (ds : List V) (sp : Sp) : Prop :=
  ∃ (f : Addr) (fd : FuncData) (ps : List Str) (dus : List Value), FnG P w K mg base k f fd ps sp ∧ mg x = some (.ref f) ∧ PySem.W.keepIn K (.ref f) = true ∧ Binds K fd ps dus ∧ Vals ds dus
theorem pe_clG {X : Cx} {k j : Nat} {x : Str} {ds : List V} {sp : Sp} {e : Expr} {es : List Expr} {t : TA} {p pos : Pos} (c : ClG X.prog X.w X.K X.mg X.base k x ds sp) (hr : Room j X.A) (gd : X.A.guards = some []) (hk : k ≤ j) (hg : Gl X x) (ha : PA X (e :: es) t)
    (hdb : (x == ("__debug__" : Str)) = false := by decide) (he : starEach (e :: es) X.env = (false, eval e X.env) :: starEach es X.env := by rfl) (hpl : (backTo pos (starEach es X.env)).any (·.1) = false := by rfl) :
    PE X (.Call (.Name x p) (e :: es) [] pos) (tCall sp ds E0 t) := by
  obtain ⟨f, fd, ps, dus, G, named, kept, binds, dv⟩ := c
  refine ⟨fun pins s σ H Q I h => wpAny_Call_Name_kw (ld_glob I hg named (PySem.W.callWith_K (h₀ := X.base) I.ok.mod.kin kept (thn (ha.run pos pins s σ H _ I h) fun us s1 hh => ?_) he hpl) hdb)⟩
  obtain ⟨vs, H1, I1, r, q⟩ := hh
  refine ⟨I1.kIn, ?_⟩
  have rel := r.append dv
  have n : (us ++ dus).length = ps.length := rel.length ▸ G.many _ _ _ _ q
  refine wpAny_call (codeAny_mono (G.does X.A X.stack s1 H1 ⟨us, []⟩ (us ++ dus) (vs ++ ds) Q gd (hr.mono hk) I1.env0 (binds s1 us I1.kIn n) rel q) fun res s' hq => ?_)
  rcases res with _ | fl
  case error => exact (show False from hq).elim
  cases fl <;> first | exact I1.after hq | exact (show False from hq).elim
/-! the law's own call -/
theorem law_callG {mb : Str → Option Value} {k : Nat} {fa a : Addr} {fd : FuncData} {x : Str} {sp : Sp} {s : Shared} {vs : List Value} {ns : List Int} (kin : K.In s.heap) (glob : s.heap.Ns mainGlobals mg) (blt : s.heap.Ns builtinsNs mb)
    (boot : ∀ y : Str, y ≠ "__name__" → mb y = bootBuiltins y) (lim : s.heap.NoLimit) (gens : s.gens = #[]) (obj : s.heap.get? a = some { cls := .type "list", data := .seq vs.toArray }) (whole : IntsAre vs ns) (small : ns.length ≤ sizeLine) (room : Room k callerA)
    (F : ∀ base : Heap, K.In base → base.Ns mainGlobals mg → FnG P w K mg base k fa fd [x] sp) (bind : ∀ (s : Shared) (u : Value), BindsTo s fd ⟨[u], []⟩ [(x, u)])
    (want : ∀ H : Hp, Only H → SqL K H a (ns.map V.int) → sp [.ref a] H (fun v _ => v = .bl true) E0) :
    codeAny (model P w) callerA (.call (.ref fa) ⟨[.ref a], []⟩) (fun r s' => r = .ok (.ret (.bool true)) ∧ OldK s.heap s'.heap ∧ s'.os = s.os ∧ AllBare s'.gens) s := by
  have rv := vals_ints whole
  have nv := whole.length
  -- which heap is told: the script, locked, where it isn't one of the written part
  obtain ⟨H, only, seq, fine, alone, apart⟩ : ∃ H : Hp, Only H ∧ SqL K H a (ns.map V.int) ∧ HOk P w H s.heap ∧ (∀ b u, H b = some u → b = a) ∧ (∀ u, H a = some u → K.lookup a = none) := by
    cases lk : K.lookup a with
    | some o =>
      have same := kin a o lk
      rw [obj] at same
      cases same
      exact ⟨fun _ => none, fun _ => .inl rfl, .inr ⟨_, vs.toArray, _, lk, rfl, rfl, rfl, by rw [List.size_toArray, nv]; exact small, by simpa using rv⟩, (fun b u z => nomatch (show (none : Option HO) = some u from z)), (fun b u z => nomatch (show (none : Option HO) = some u from z)), fun u z => nomatch (show (none : Option HO) = some u from z)⟩
    | none =>
      have hit : ∀ b u, (if b = a then some (HO.frz { cls := .type "list", data := .seq vs.toArray } (.lst (ns.map V.int))) else none) = some u → b = a ∧ u = .frz { cls := .type "list", data := .seq vs.toArray } (.lst (ns.map V.int)) := fun b u z => by
        split at z
        · cases z; exact ⟨‹_›, rfl⟩
        · cases z
      refine ⟨fun b => if b = a then some (.frz { cls := .type "list", data := .seq vs.toArray } (.lst (ns.map V.int))) else none, fun b => ?_, .inl (.inr ⟨_, if_pos rfl⟩), fun b u z => ?_, fun b u z => (hit b u z).1, fun _ _ => rfl⟩
      · by_cases hb : b = a
        · exact .inr ⟨_, _, if_pos hb⟩
        · exact .inl (if_neg hb)
      · obtain ⟨rfl, rfl⟩ := hit b u z
        exact ⟨obj, by rw [List.length_map]; exact small, vs, _, rv, obj⟩
  have hid : ∀ {b : Addr} {o : Obj}, s.heap.get? b = some o → (b = a → H a = none) → (hidT s.heap H).get? b = some o := fun {b o} e n => hidT_get e (by
    cases q : H b with
    | none => rfl
    | some u =>
      have e2 := alone b u q
      subst e2
      rw [n rfl] at q
      cases q)
  have kinB : K.In (hidT s.heap H) := fun b o e => hid (kin b o e) fun z => by
    subst z
    cases q : H b with
    | none => rfl
    | some u => rw [apart u q] at e; cases e
  have ns_ : ∀ {b : Addr} {m : Str → Option Value}, s.heap.Ns b m → (hidT s.heap H).Ns b m := fun {b m} h => by
    obtain ⟨o, es, ep, e, d, r⟩ := h
    refine ⟨o, es, ep, hid e fun z => ?_, d, r⟩
    subst z
    rw [obj] at e
    cases e
    exact nomatch (show Data.seq vs.toArray _ = Data.dict es ep from d)
  have md : Mod K mg (hidT s.heap H) := ⟨kinB, ns_ glob, ⟨mb, ns_ blt, boot⟩, by obtain ⟨mc, h1, h2⟩ := lim; exact ⟨mc, ns_ h1, h2⟩⟩
  have e0 : Env0 P w K mg (hidT s.heap H) callerA [] s H := ⟨rfl, md, fun b o e => of_hidT e, Nat.le_of_eq (hidT_size _ _), trivial, (fun b hb => nomatch (show b ∈ ([] : List Addr) from hb)), fine, .of_eq gens⟩
  refine codeAny_mono ((F _ kinB (ns_ glob)).does callerA [] s H ⟨[.ref a], []⟩ [.ref a] [.ref a] _ rfl room e0 (bind s (.ref a)) (.cons rfl .nil) (want H only seq)) fun res s' h => ?_
  rcases res with _ | fl
  case error => exact (show False from h).elim
  cases fl <;> first | exact (show False from h).elim | skip
  obtain ⟨v, H', os, bare, un, fine', rel, q⟩ := h
  cases (show v = .bl true from q)
  cases (show _ = Value.bool true from rel)
  refine ⟨rfl, OldK.of_keep fun b o e => ?_, os, bare⟩
  cases q : H b with
  | none => exact un.keep b o e q (fun z => nomatch (show b ∈ ([] : List Addr) from z)) (fun z => nomatch z)
  | some u =>
    rcases only b with z | ⟨ob, xs, z⟩
    · rw [q] at z; cases z
    · obtain ⟨e1, _⟩ := fine b _ z
      obtain ⟨e2, _⟩ := fine' b _ (un.frzs b ob _ z)
      rw [e] at e1; cases e1
      exact e2
end
theorem walkG {l : PySem.W.OpenLaw} {n k : Nat} {q : Program} {loose : List Str} {XP : (Str → Option Value) → Heap → Prop} {YP : World → Heap → Prop} {d : DefRec} {K : Params → PySem.W.Frag} {sp : World → Sp} {x : Str}
    (most : l.most = some n) (fits : n ≤ sizeLine) (plain : d.params.defaults = []) (room : Room k callerA) (part : ∀ (w : World) (h : Heap), YP w h → (K w.params).In h)
    (F : ∀ (w : World) (mg : Str → Option Value) (fa : Addr) (h : Heap), (K w.params).In h → h.Ns mainGlobals mg → mg d.name = some (.ref fa) →
      ∃ fd : FuncData, (∀ (s : Shared) (u : Value), BindsTo s fd ⟨[u], []⟩ [(x, u)]) ∧ ∀ base : Heap, (K w.params).In base → base.Ns mainGlobals mg → FnG l.prog w (K w.params) mg base k fa fd [x] (sp w))
    (want : ∀ (w : World) (H : Hp) (a : Addr) (ns : List Int), ns.length ≤ n → Only H → SqL (K w.params) H a (ns.map V.int) → sp w [.ref a] H (fun v _ => v = .bl true) E0) :
    PySem.W.WalkO q loose XP YP l.row.toRowW d [] (fun f vs => PySem.call f vs) := by
  refine Att.attach_call most plain fun w s₀ s₁ mg mb fa o pm cd doc a vs ns G Y _ _ _ named obj whole len gens => ?_
  obtain ⟨fd, bind, hF⟩ := F w mg fa _ (part w _ Y) G.T.g named
  exact law_callG (part w _ Y) G.T.g G.T.b G.T.builtins G.T.nolimit gens obj whole (Nat.le_trans len fits) room hF bind fun H only seq => want w H a ns len only seq
end Pot

namespace Pot
open PySem PySem.Spec PyProof.Rows L2
/-! ### repr of what is made of numbers, texts, truths, None, lists and tuples -/
section
variable {K : PySem.W.Frag}
mutual
theorem dp_noDict {H : Hp} : ∀ {v : V} {d : PyData}, Dp K H v d → d.hasDict = false
  | _, _, .non => rfl
  | _, _, .bl _ => rfl
  | _, _, .int _ => rfl
  | _, _, .str _ => rfl
  | _, _, .lst _ a => dpAll_noDict a
  | _, _, .tup _ a => dpAll_noDict a
theorem dpAll_noDict {H : Hp} : ∀ {vs : List V} {ds : List PyData}, DpAll K H vs ds → PyData.hasDictAll ds = false
  | _, _, .nil => rfl
  | _, _, .cons h t => by
    show (PyData.hasDict _ || PyData.hasDictAll _) = false
    rw [dp_noDict h, dpAll_noDict t]
    rfl
end
/-- how long its text may be, told roughly -/
def costAll : List PyData → Nat
  | [] => 0
  | x :: xs => cost x + 2 + costAll xs
where cost : PyData → Nat
  | .none => 4
  | .bool _ => 5
  | .int _ => 1921
  | .str x => 10 * x.length + 2
  | .list xs => costAll xs + 3
  | .tuple xs => costAll xs + 3
  | .dict _ => 0
/-- what repr is asked of here: its texts of plain signs -/
def fineAll : List PyData → Prop
  | [] => True
  | x :: xs => fine x ∧ fineAll xs
where fine : PyData → Prop
  | .none => True
  | .bool _ => True
  | .int i => i.natAbs.log2 < 1920
  | .str x => ∀ c ∈ x.cps.toList, c < 16 ^ 8
  | .list xs => fineAll xs
  | .tuple xs => fineAll xs
  | .dict _ => False
theorem from_len : ∀ (ts : List Str) (k : Nat) (acc : Str), (textFrom k acc ts).length ≤ acc.length + piled ts
  | [], k, acc => by rw [piled_nil]; exact Nat.le_refl _
  | t :: r, k, acc => by
    have ih := from_len r (k + 1)
    rw [piled_cons]
    unfold textFrom
    refine Nat.le_trans (ih _) ?_
    rw [strLen_append]
    split
    · rw [strLen_append]
      have e : (", " : Str).length = 2 := by decide +kernel
      omega
    · rw [strLen_append]
      have e : ("" : Str).length = 0 := by decide +kernel
      omega
theorem list_len (ts : List Str) : (listText ts).length ≤ piled ts + 2 := by
  unfold listText
  rw [strLen_append]
  have h := from_len ts 0 "["
  have e1 : ("[" : Str).length = 1 := by decide +kernel
  have e2 : ("]" : Str).length = 1 := by decide +kernel
  omega
mutual
theorem shown_len : ∀ d : PyData, fineAll.fine d → d.shown.length ≤ costAll.cost d
  | .none, _ => by decide +kernel
  | .bool b, _ => by cases b <;> decide +kernel
  | .int i, h => PyProof.Rows.int_text_len_1921 h
  | .str x, h => StrLaws.reprText_len x h
  | .list xs, h => Nat.le_trans (list_len _) (Nat.add_le_add (piled_len xs h) (by decide))
  | .tuple xs, h => Nat.le_trans (fmt_text _) (Nat.add_le_add (piled_len xs h) (by decide))
  | .dict _, h => h.elim
theorem piled_len : ∀ ds : List PyData, fineAll ds → piled (PyData.shownAll ds) ≤ costAll ds
  | [], _ => Nat.le_refl _
  | x :: xs, h => by
    have h1 := shown_len x h.1
    have h2 := piled_len xs h.2
    show piled (x.shown :: PyData.shownAll xs) ≤ costAll.cost x + 2 + costAll xs
    rw [piled_cons]
    omega
end
mutual
theorem fine_show : ∀ d : PyData, fineAll.fine d → d.showable = true
  | .none, _ => rfl
  | .bool _, _ => rfl
  | .int i, h => decide_eq_true h
  | .str _, _ => rfl
  | .list xs, h => fineAll_show xs h
  | .tuple xs, h => fineAll_show xs h
  | .dict _, h => h.elim
theorem fineAll_show : ∀ ds : List PyData, fineAll ds → PyData.showableAll ds = true
  | [], _ => rfl
  | x :: xs, h => by
    show (PyData.showable x && PyData.showableAll xs) = true
    rw [fine_show x h.1, fineAll_show xs h.2]
    rfl
end
end
section
variable {X : Cx}
def rRepr (K : PySem.W.Frag) : List V → Hp → VK → Prop := fun xs H Q => ∃ (a : Addr) (d : PyData), xs = [V.ref a] ∧ Dp K H (.ref a) d ∧ fineAll.fine d ∧ d.depth ≤ 60 ∧ costAll.cost d ≤ 16777216 ∧ Q (.str d.shown) H
theorem cr_repr (gd : X.A.guards = some []) (hu : X.A.units + 64 < cLine) : CallR X (.builtin "repr") (rRepr X.K) := by
  intro pins s σ H vs us Q I r h
  obtain ⟨a, d, rfl, dp, sh, dep, sz, q⟩ := h
  rw [Vals.ref1 r]
  obtain ⟨as, rd⟩ := Dp.reads I d (.ref a) (.ref a) dp rfl
  refine repr_of_reads' rd (fine_show d sh) (fun z => ?_) gd (by omega) (fun _ _ e => e) (fun h' u tk k => ⟨.str d.shown, H, I.kept k, ⟨u, rfl⟩, q⟩) (Nat.le_trans (shown_len d sh) (by rw [sizeLine_eq]; exact sz))
  rw [dp_noDict dp] at z
  cases z
end
end Pot

/-! The rules whose readings name the written part, with it as a letter of its own. -/
namespace Pot
open PySem PySem.Spec PyProof.Rows L2
section
variable {X : Cx} {K : PySem.W.Frag}
theorem kx_list (h : X.K = K := by rfl) : IxR X (rIxL K) := h ▸ ix_list
theorem kx_tup (h : X.K = K := by rfl) : IxR X (rIxT K) := h ▸ ix_tup
theorem kl_list (h : X.K = K := by rfl) : SlR X (rSlL K) := h ▸ sl_list
theorem kl_tup (h : X.K = K := by rfl) : SlR X (rSlA K) := h ▸ sl_tupA
theorem ko_in (h : X.K = K := by rfl) : OpR X (compareOp .In) (rIn K false) := h ▸ op_in_seq
theorem ko_eq (hu : X.A.units + 64 < cLine) (h : X.K = K := by rfl) : OpR X (compareOp .Eq) (rEqD K) := h ▸ op_eqD hu
theorem ko_ne (hu : X.A.units + 64 < cLine) (h : X.K = K := by rfl) : OpR X (compareOp .NotEq) (rNeD K) := h ▸ op_neD hu
def rLen (K : PySem.W.Frag) : List V → Hp → VK → Prop := fun xs H Q => ∃ x n, xs = [x] ∧ LenV K x H n ∧ Q (.int n) H
theorem kc_len (h : X.K = K := by rfl) : CallR X (.builtin "len") (rLen K) := by subst h; exact call_len
def rListOf (K : PySem.W.Frag) : List V → Hp → VK → Prop := fun xs H Q => ∃ p ys, xs = [.ref p] ∧ (SqL K H p ys ∨ SqT K H p ys) ∧ ∀ l, H l = none → Q (.ref l) (upd H l (.lst ys))
theorem kc_list (h : X.K = K := by rfl) : CallR X (.type "list") (rListOf K) := by subst h; exact call_list_of
def rTupleOf (K : PySem.W.Frag) : List V → Hp → VK → Prop := fun xs H Q => ∃ p ys, xs = [.ref p] ∧ ((SqL K H p ys ∧ ∀ l, H l = none → Q (.ref l) (upd H l (.tup ys))) ∨ (SqT K H p ys ∧ Q (.ref p) H))
theorem kc_tuple (h : X.K = K := by rfl) : CallR X (.type "tuple") (rTupleOf K) := by subst h; exact call_tuple_of
theorem kc_sum (hc : X.calm = true := by rfl) (h : X.K = K := by rfl) : CallR X (.builtin "sum") (rSum K) := h ▸ cr_sum hc
theorem kc_all (hc : X.calm = true := by rfl) (h : X.K = K := by rfl) : CallR X (.builtin "all") (rAll K) := h ▸ cr_all hc
theorem kc_any (hc : X.calm = true := by rfl) (h : X.K = K := by rfl) : CallR X (.builtin "any") (rAny K) := h ▸ cr_any hc
theorem kc_sorted (h : X.K = K := by rfl) : CallR X (.builtin "sorted") (rSorted K) := h ▸ cr_sorted
theorem kc_sortedS (h : X.K = K := by rfl) : CallR X (.builtin "sorted") (rSortedS K) := h ▸ cr_sortedS
theorem kc_isi (h : X.K = K := by rfl) : CallR X (.builtin "isinstance") (rIsi K) := h ▸ call_isi
theorem kc_isiT (h : X.K = K := by rfl) : CallR X (.builtin "isinstance") (rIsiT K) := h ▸ call_isiT
theorem kc_repr (gd : X.A.guards = some []) (hu : X.A.units + 64 < cLine) (h : X.K = K := by rfl) : CallR X (.builtin "repr") (rRepr K) := h ▸ cr_repr gd hu
theorem kc_setLi {w : World} (hc : X.calm = true := by rfl) (h : X.K = K := by rfl) (hw : X.w = w := by rfl) : CallR X (.type "set") (rSetLi K w) := by subst h; subst hw; exact cr_setLi hc
theorem kc_sortedSet {w : World} (hc : X.calm = true := by rfl) (hw : X.w = w := by rfl) : CallR X (.builtin "sorted") (rSortedSet w) := hw ▸ cr_sortedSet hc
theorem ki_list {tg l : Expr} {tl : TE} (hl : PE X l tl) (h : X.K = K := by rfl) : PI X tg l (iList K tl) := h ▸ pi_list hl
theorem ki_tup {tg l : Expr} {tl : TE} (hl : PE X l tl) (h : X.K = K := by rfl) : PI X tg l (iTup K tl) := h ▸ pi_tup hl
theorem ki_zip {e e2 : Expr} {ta : TA} {p pos tpos : Pos} {elts : List Expr} {kk : Nat} (hg : Gl X "zip") (hm : X.mg "zip" = none) (ha : PA X [e, e2] ta) (hs : starEach [e, e2] X.env = (false, eval e X.env) :: starEach [e2] X.env := by rfl)
    (hpl : (backTo pos (starEach [e2] X.env)).any (·.1) = false := by rfl) (h : X.K = K := by rfl) : PI X (.Tuple elts kk tpos) (.Call (.Name "zip" p) [e, e2] [] pos) (RZ.iZipA K ta) := h ▸ RZ.pi_zipA hg hm ha hs hpl
theorem ki_enum {e : Expr} {ta : TA} {p pos tpos : Pos} {elts : List Expr} {kk : Nat} (hg : Gl X "enumerate") (hm : X.mg "enumerate" = none) (ha : PA X [e] ta) (hs : starEach [e] X.env = [(false, eval e X.env)] := by rfl) (h : X.K = K := by rfl)
    : PI X (.Tuple elts kk tpos) (.Call (.Name "enumerate" p) [e] [] pos) (iEnum K ta) := h ▸ pi_enum hg hm ha hs
theorem kg_tup {pos : Pos} {es : List Expr} {k : Nat} {t : TGs} {n : Nat} (h : PGs X es t) (hc : X.calm = true := by rfl) (hn : (assignEach es X.env).length = n := by rfl) (hst : (assignEach es X.env).findIdx? (·.1) = none := by rfl) (hk : X.K = K := by rfl) : PG X (.Tuple es k pos) (gTup K n t) := hk ▸ pg_tup hc h hn hst
def tTru (K : PySem.W.Frag) (ta : TE) : TT := fun σ H Q => ta σ H fun x H' => ∃ k, TruV K x H' k ∧ Q k H'
theorem kt_truth {a : Expr} {ta : TE} (ha : PE X a ta) (he : ∀ whole, isTrue a X.env whole = (do let v ← whole; standAt a.pos; holding [v] (truthy v)) := by intro _; rfl) (h : X.K = K := by rfl) : PT X a (tTru K ta) := by subst h; exact pt_truth ha he
def rJoin (K : PySem.W.Frag) : V → List V → Hp → VK → Prop := fun x xs H Q => ∃ a p, ∃ ys : List Str, x = .str a ∧ xs = [.ref p] ∧ (SqL K H p (ys.map V.str) ∨ SqT K H p (ys.map V.str)) ∧ (ys.map (·.length)).sum + ys.length * a.length ≤ 16777216 ∧ Q (.str (Txt.join a ys)) H
theorem ke_join {o e : Expr} {to te : TE} {apos pos : Pos} (ho : PE X o to) (he : PE X e te) (hs : starEach [e] X.env = [(false, eval e X.env)] := by rfl) (hbase : attributeBase o "join" X.env (eval o X.env) = eval o X.env := by rfl) (hline : (apos.endLine == pos.line) = true := by rfl) (h : X.K = K := by rfl) :
    PE X (.Call (.Attribute o "join" apos) [e] [] pos) (tM1 (rJoin K) to te) := by subst h; exact pe_join ho he hs hbase hline
theorem pss_never {st : List Stmt} : PSs X st (fun _ _ _ => False) := ⟨fun _ _ _ _ _ _ h => h.elim⟩
theorem ps_never {st : Stmt} : PS X st (fun _ _ _ => False) := ⟨fun _ _ _ _ _ _ h => h.elim⟩
theorem pe_never {e : Expr} : PE X e (fun _ _ _ => False) := ⟨fun _ _ _ _ _ _ h => h.elim⟩
theorem tYes_at {σ : L2.St} {H : Hp} {Q : Bool → Hp → Prop} (h : Q true H) : tYes σ H Q := h
end
end Pot

/-! An exception that stays in a variable behind its except suite. -/
namespace Pot
open PySem PySem.Spec PyProof.Rows L2
/-- an exception of the class cls that was caught and is kept, at a -/
def CauO (cls : Value) (d : Option Addr) (a : Addr) : HO := .ext fun h => ∃ (oe : Obj) (vs : Array Value), h.get? a = some oe ∧ Zc cls d oe ∧ oe.data = .fields vs
section
variable {X : Cx} {pins : List (Addr × Obj)} {σ : L2.St} {H : Hp} {s : Shared}
/-- an object that is in hand, and that wasn't there at the entry, is tracked from now on -/
theorem keepIt {a : Addr} {oe : Obj} {vs : Array Value} {cls : Value} {d : Option Addr} (I : Inv X pins σ H s) (e : s.heap.get? a = some oe) (hz : Zc cls d oe) (hd : oe.data = .fields vs) (na : H a = none)
    (nL : a ≠ X.env.locals) (n0 : X.s_0.heap.get? a = none) (np : ∀ p ∈ X.pn ++ pins, p.1 ≠ a) : Inv X pins σ (upd H a (CauO cls d a)) s := by
  have ne0 : ∀ b o, X.s_0.heap.get? b = some o → b ≠ a := fun b o q z => by rw [z, n0] at q; cases q
  have neS : ∀ b o, H b = some o → b ≠ a := fun b o q z => by rw [z, na] at q; cases q
  refine ⟨I.ok, I.os, I.bare, ⟨I.base.keep, I.base.slot, fun b o q n hb => ?_, I.base.there, fun b xs q => ?_, fun b o u q => ?_, fun b ps q => ?_⟩, I.loc, I.cell, ?_, fun x c q => ?_, fun p hp => ?_, fun b u q => ?_, I.len⟩
  · rw [upd_ne (ne0 b o q)]; exact I.base.free b o q n hb
  · have z := I.base.tups b xs q
    rw [upd_ne (neS b _ z)]; exact z
  · have z := I.base.frzs b o u q
    rw [upd_ne (neS b _ z)]; exact z
  · obtain ⟨m, z⟩ := I.base.tbls b ps q
    exact ⟨m, by rw [upd_ne (neS b _ z)]; exact z⟩
  · rw [upd_ne (Ne.symm nL)]; exact I.free
  · have nc : c ≠ a := fun z => by
      obtain ⟨v, o, ho, hc⟩ := I.cell x c q
      rw [z, e] at ho
      cases ho
      rw [hd] at hc
      cases hc
    rw [upd_ne nc]; exact I.freeC x c q
  · obtain ⟨p1, p2, p3⟩ := I.pin p hp
    exact ⟨p1, by rw [upd_ne (np p hp)]; exact p2, p3⟩
  · by_cases hb : b = a
    · subst hb
      rw [upd_same] at q
      cases q
      exact ⟨⟨oe, vs, e, hz, hd⟩, ⟨oe, e⟩, fun _ _ ⟨o, v, z, r⟩ k => ⟨o, v, k o z, r⟩⟩
    · rw [upd_ne hb] at q
      exact (I.hok b u q).stay (fun c v _ z => z) (fun c z => by rw [upd_ne (neS c _ z)]; exact z) fun c xs z => by rw [upd_ne (neS c _ z)]; exact z
end
/-- what 'except x as n: m = n' wishes of an exception of the body: slot i is n's, and what it's bound to is kept -/
def wKeep (K : PySem.W.Frag) (c : Value) (i : Nat) (ts : Addr → TS) (D : Ends) : WX := fun cls d σ H =>
  PySem.W.exmOne K cls c = some true ∧ ∀ a, H a = none → ts a { nx := fun σ' H' => D.nx (σ'.set i none) (upd H' a (CauO cls d a)), rt := fun _ _ => False, bk := fun _ _ => False, ct := fun _ _ => False } (σ.set i (some (.ref a))) H
section
variable {X : Cx} {x n : Str} {c : Value} {i : Nat} {body suite : List Stmt} {b₀ : Stmt} {np pos pos' : Pos} {tb : WX → TS} {ts : Addr → TS}
theorem ps_try_keep (hx : X.ex = []) (hs : X.stack = X.env :: X.outer) (hf : X.env.frame = some X.env.locals) (hN : X.N.Nodup) (hi : X.N[i]? = some n) (hln : X.env.kindOf n = some .local) (hc : Names X x c)
    (hb : ∀ (W : WX) (pn : List (Addr × Obj)) (xe : Value → Shared → Prop), Takes (X.tr pn xe) W → PassesOwn (model X.prog X.w) X.A X.env xe → PSs (X.tr pn xe) body (tb W))
    (hsu : ∀ (a : Addr) (pn : List (Addr × Obj)), PSs (X.suite a pn) (b₀ :: suite) (ts a)) :
    PS X (.Try body [.ExceptHandler (some (.Name x np)) (some n) (b₀ :: suite) pos'] [] [] pos) (fun D σ H => tb (wKeep X.K c i ts D) D σ H) := by
  refine ⟨fun pins s σ H D I h => ?_⟩
  have ok := I.ok
  have hfr : X.A.frames = some (X.env :: X.outer) := by rw [ok.frames, hs]
  refine wpAny_Try_except (wpAny_mono ((hb (wKeep X.K c i ts D) (X.pn ++ pins) _ (fun u s' xx => ?_) PassesOwn.looking).run [] s σ H D (I.toTry _) h) (fun f s1 hsp => ?_) (fun e s1 he => he))
  · obtain ⟨a, B, sI, pins', σ', H', cls, d, rfl, J', nb, up, sky, na, os, ag, hb1, hyes⟩ := xx
    have J : Inv X pins σ' H' sI := J'.ofTry ok
    rw [show X.stack = X.env :: X.outer from hs] at sky
    refine Sky.land Zc.steady hfr hf sky fun h3 fl3 up3 => ?_
    have J3 : Inv X pins σ' H' { s' with heap := h3 } := J.landed nb fl3.1 (up.trans up3) os ag
    obtain ⟨oe3, vs3, he3, hz3, hd3⟩ := fl3.there
    have nfr : a ∉ frs (X.env :: X.outer) := fun hm => by
      obtain ⟨_, o', e', hnf⟩ := fl3.2.2.1.mem hm
      rw [he3] at e'; cases e'
      exact hnf _ hd3
    have nL : a ≠ X.env.locals := fun z => nfr (List.mem_filterMap.mpr ⟨X.env, List.mem_cons_self, by rw [hf, z]⟩)
    have nF : a ∉ X.fs := fun hm => by
      obtain ⟨e, he, q⟩ := List.mem_filterMap.mp hm
      exact nfr (List.mem_filterMap.mpr ⟨e, List.mem_cons_of_mem _ he, q⟩)
    have nI : sI.heap.get? a = none := by
      cases q : sI.heap.get? a with
      | none => rfl
      | some o =>
        have z := nb a o q (by rw [hs]; exact nfr)
        rw [fl3.2.1] at z; cases z
    have n0 : X.s_0.heap.get? a = none := by
      cases q : X.s_0.heap.get? a with
      | none => rfl
      | some o =>
        obtain ⟨o', z⟩ := J.base.there a o q (by rw [hx]; exact fun z => nomatch z)
        rw [nI] at z; cases z
    have npin : ∀ p ∈ X.pn ++ pins, p.1 ≠ a := fun p hp z => by
      have q := (J.pin p hp).1
      rw [z, nI] at q; cases q
    have S3 := J3.suite he3 hd3 na nL nF
    refine wpAny_handleBy_cons (codeAny_handlers_test ?_) (by intro q; cases q)
    have LM := PySem.W.exm_one (M := model X.prog X.w) (J3.kIn) (fun A Q E s k q => wpAny_typeOf_ref (k _ _ he3) (by rw [hz3.1]; exact q)) hb1
    have test : ∀ {Q : Value → Shared → Prop} {E : Value → Shared → Prop}, Q c { s' with heap := h3 } → wpAny (model X.prog X.w) (X.A.mark (some (.ref a))) (eval (.Name x np) X.env) Q E { s' with heap := h3 } := fun {Q E} q => by
      obtain ⟨hg, hdbg, hm | ⟨hm, hv, hnn⟩⟩ := hc
      · exact ld_glob (X := X.suite a ((a, oe3) :: (X.pn ++ pins))) S3 hg hm q hdbg
      · exact ld_blt (X := X.suite a ((a, oe3) :: (X.pn ++ pins))) S3 hg hm hv q hnn hdbg
    refine test (LM.here (codeAny_handlers_suite_as (HandSPX.lands_againZ fl3 fun h4 fl4 up4 => ?_)))
    have J4 : Inv X pins σ' H' { s' with heap := h4 } := J.landed nb fl4.1 ((up.trans up3).trans up4) os ag
    obtain ⟨oe4, vs4, he4, hz4, hd4⟩ := fl4.there
    refine store_ok (X := X.suite a ((a, oe4) :: (X.pn ++ pins))) (v := .ref a) (J4.suite he4 hd4 na nL nF) hN hi (.inl hln) rfl (fun s5 S5 => ?_) (.inr hln)
    refine wpAny_mono ((hsu a ((a, oe4) :: (X.pn ++ pins))).run [] s5 _ H' _ S5 (hyes a na)) (fun f s6 hsp => ?_) (fun _ _ z => False.elim z)
    cases f with
    | next =>
      obtain ⟨σ6, H6, S6, q6⟩ := hsp
      obtain ⟨g1, g2, _⟩ := S6.pin (a, oe4) (List.mem_append.mpr (.inl List.mem_cons_self))
      exact gone_ok (keepIt (S6.unsuite ok) g1 hz4 hd4 g2 nL n0 npin) hN hi hln fun s7 J7 => ⟨_, _, J7, q6⟩
    | brk => obtain ⟨_, _, _, z⟩ := hsp; exact z.elim
    | cont => obtain ⟨_, _, _, z⟩ := hsp; exact z.elim
    | ret u => obtain ⟨_, _, _, _, _, z⟩ := hsp; exact z.elim
  · cases f with
    | next =>
      obtain ⟨σ', H', J', q⟩ := hsp
      exact wpAny_execs_nil ⟨σ', H', J'.ofTry ok, q⟩
    | brk =>
      obtain ⟨σ', H', J', q⟩ := hsp
      exact ⟨σ', H', J'.ofTry ok, q⟩
    | cont =>
      obtain ⟨σ', H', J', q⟩ := hsp
      exact ⟨σ', H', J'.ofTry ok, q⟩
    | ret u =>
      obtain ⟨v, σ', H', J', r, q⟩ := hsp
      exact ⟨v, σ', H', J'.ofTry ok, r, q⟩
end
/-- isinstance(e, c), isinstance(e, (c1, ..)) of a kept exception without a dict -/
def rIsK (K : PySem.W.Frag) : List V → Hp → VK → Prop := fun xs H Q => ∃ (a D : Addr) (c : V) (u : Value) (b : Bool), xs = [.ref a, c] ∧ H a = some (CauO (.ref D) none a) ∧ ExcC K D ∧ ClsV c u ∧ PySem.W.kitOne K (.ref D) u = some b ∧ Q (.bl b) H
def rIsKT (K : PySem.W.Frag) : List V → Hp → VK → Prop := fun xs H Q => ∃ (a D tp : Addr) (cs : List V) (us : List Value) (b : Bool), xs = [.ref a, .ref tp] ∧ H a = some (CauO (.ref D) none a) ∧ ExcC K D ∧ H tp = some (.tup cs) ∧ Paired ClsV cs us ∧ PySem.W.kitAny K (.ref D) us = some b ∧ Q (.bl b) H
theorem cau_inst {X : Cx} {pins : List (Addr × Obj)} {σ : L2.St} {H : Hp} {s : Shared} {a D : Addr} (I : Inv X pins σ H s) (h : H a = some (CauO (.ref D) none a)) : ∃ oe, PySem.W.InstAt s.heap a oe D none := by
  obtain ⟨⟨oe, vs, hget, hz, hv⟩, _, _⟩ := (show ObjOk X.prog X.w H s.heap a (CauO (.ref D) none a) from I.hok a _ h)
  obtain ⟨oc, od, oda, osl⟩ := oe
  obtain ⟨h1, h2⟩ := hz
  dsimp only at h1 h2 hv
  subst h1 h2 hv
  exact ⟨_, hget, rfl, rfl, trivial⟩
theorem kc_isK {X : Cx} {K : PySem.W.Frag} (hK : X.K = K := by rfl) : CallR X (.builtin "isinstance") (rIsK K) := by
  subst hK
  intro pins s σ H xs us Q I r h
  obtain ⟨a, D, c, u, b, rfl, hA, C, k, e, q⟩ := h
  obtain ⟨u1, u2, rfl, r1, r2⟩ := vals2 r
  have e2 := k.eq r2
  subst e2
  cases (show u1 = Value.ref a from r1)
  obtain ⟨oe, J⟩ := cau_inst I hA
  exact PySem.W.kia_one (PySem.W.handS_kitx_exc C.hg C.hk C.hs C.hd C.ha C.hn C.ht C.hm) I.kIn J e (fun z => nomatch z) fun tk => ⟨.bl b, H, I.tok tk, rfl, q⟩
theorem kc_isKT {X : Cx} {K : PySem.W.Frag} (hK : X.K = K := by rfl) : CallR X (.builtin "isinstance") (rIsKT K) := by
  subst hK
  intro pins s σ H xs us Q I r h
  obtain ⟨a, D, tp, cs, ws, b, rfl, hA, C, hT, k, e, q⟩ := h
  obtain ⟨u1, u2, rfl, r1, r2⟩ := vals2 r
  cases (show u2 = Value.ref tp from r2)
  cases (show u1 = Value.ref a from r1)
  obtain ⟨oe, J⟩ := cau_inst I hA
  obtain ⟨_, its, rv, o, h1, h2, n, h3⟩ := (show ObjOk X.prog X.w H s.heap tp (.tup cs) from I.hok tp _ hT)
  have e3 := ClsV.all k rv
  subst e3
  obtain ⟨oc, od, dt, sl⟩ := o
  simp only at h2 h3
  subst h2 h3
  exact PySem.W.kia_tup (PySem.W.handS_kitx_exc C.hg C.hk C.hs C.hd C.ha C.hn C.ht C.hm) I.kIn J h1 e (fun z => nomatch z) fun tk => ⟨.bl b, H, I.tok tk, rfl, q⟩
end Pot

namespace Pot
open PySem L2
/-! ### tallies: bits, signs -/
def b2 (b : Bool) : Nat := if b = true then 1 else 0
def bitsW (p : Nat → Bool) : Nat → Nat
  | 0 => 0
  | w + 1 => bitsW p w + b2 (p w) * 2 ^ w
theorem bitsW_lt (p : Nat → Bool) : ∀ w, bitsW p w < 2 ^ w
  | 0 => by show 0 < 1; decide
  | w + 1 => by
    have ih := bitsW_lt p w
    unfold bitsW b2
    rw [Nat.pow_succ]
    split <;> omega
theorem bitsW_test (p : Nat → Bool) : ∀ w i, (bitsW p w).testBit i = (decide (i < w) && p i)
  | 0, i => by simp [bitsW]
  | w + 1, i => by
    have ih := bitsW_test p w i
    have lt := bitsW_lt p w
    unfold bitsW b2
    cases hp : p w with
    | false =>
      simp only [Bool.false_eq_true, if_false, Nat.zero_mul, Nat.add_zero]
      rw [ih]
      by_cases hi : i < w
      · simp [hi, Nat.lt_succ_of_lt hi]
      · by_cases he : i = w
        · subst he; simp [hp]
        · simp [hi, show ¬ i < w + 1 by omega]
    | true =>
      simp only [if_true, Nat.one_mul]
      rw [Nat.add_comm]
      by_cases hi : i < w
      · rw [Nat.testBit_two_pow_add_gt hi, ih]; simp [hi, Nat.lt_succ_of_lt hi]
      · by_cases he : i = w
        · subst he
          rw [Nat.testBit_two_pow_add_eq, Nat.testBit_lt_two_pow lt]; simp [hp]
        · have h2 : 2 ^ w + bitsW p w < 2 ^ i := by
            have : 2 ^ (w + 1) ≤ 2 ^ i := Nat.pow_le_pow_right (by decide) (by omega)
            rw [Nat.pow_succ] at this
            omega
          rw [Nat.testBit_lt_two_pow h2]; simp [show ¬ i < w + 1 by omega]
/-- the number of a day's hours -/
def bitsP (p : Nat → Bool) : Nat := bitsW p 24
theorem bitsP_lt (p : Nat → Bool) : bitsP p < 16777216 := bitsW_lt p 24
theorem bitsP_bit (p : Nat → Bool) {h : Nat} (hh : h < 24) : bitsP p / 2 ^ h % 2 = b2 (p h) := by
  have e := bitsW_test p 24 h
  rw [Nat.testBit_eq_decide_div_mod_eq] at e
  have lt : bitsP p / 2 ^ h % 2 < 2 := Nat.mod_lt _ (by decide)
  unfold b2
  show bitsW p 24 / 2 ^ h % 2 = _
  cases hp : p h with
  | true => rw [hp] at e; simp [hh] at e; simp [e]
  | false => rw [hp] at e; simp at e; simp; exact e
theorem bitsP_and (p q : Nat → Bool) : bitsP p &&& bitsP q = bitsP fun h => p h && q h := by
  apply Nat.eq_of_testBit_eq
  intro i
  rw [Nat.testBit_and]
  unfold bitsP
  rw [bitsW_test, bitsW_test, bitsW_test]
  cases decide (i < 24) <;> simp
theorem bitsP_or (p q : Nat → Bool) : bitsP p ||| bitsP q = bitsP fun h => p h || q h := by
  apply Nat.eq_of_testBit_eq
  intro i
  rw [Nat.testBit_or]
  unfold bitsP
  rw [bitsW_test, bitsW_test, bitsW_test]
  cases decide (i < 24) <;> simp
theorem bitsP_congr {p q : Nat → Bool} (h : ∀ i, i < 24 → p i = q i) : bitsP p = bitsP q := by
  apply Nat.eq_of_testBit_eq
  intro i
  unfold bitsP
  rw [bitsW_test, bitsW_test]
  by_cases hi : i < 24
  · rw [h i hi]
  · simp [hi]
/-- the sign of four hours -/
def sgn (p : Nat → Bool) (i : Nat) : Nat := b2 (p (4 * i)) + 2 * b2 (p (4 * i + 1)) + 4 * b2 (p (4 * i + 2)) + 8 * b2 (p (4 * i + 3))
theorem b2_le (b : Bool) : b2 b ≤ 1 := by unfold b2; split <;> omega
theorem sgn_lt (p : Nat → Bool) (i : Nat) : sgn p i < 16 := by
  have h0 := b2_le (p (4 * i)); have h1 := b2_le (p (4 * i + 1)); have h2 := b2_le (p (4 * i + 2)); have h3 := b2_le (p (4 * i + 3))
  unfold sgn; omega
/-- a tally's signs -/
def txt (p : Nat → Bool) : List Nat := [hexc (sgn p 5), hexc (sgn p 4), hexc (sgn p 3), hexc (sgn p 2), hexc (sgn p 1), hexc (sgn p 0)]
theorem digs (p : Nat → Bool) : bitsP p % 16 = sgn p 0 ∧ bitsP p / 16 % 16 = sgn p 1 ∧ bitsP p / 16 / 16 % 16 = sgn p 2 ∧ bitsP p / 16 / 16 / 16 % 16 = sgn p 3 ∧ bitsP p / 16 / 16 / 16 / 16 % 16 = sgn p 4 ∧ bitsP p / 16 / 16 / 16 / 16 / 16 = sgn p 5 := by
  have lt := bitsP_lt p
  have g := @bitsP_bit p
  have d0 : bitsP p % 16 = sgn p 0 := by
    unfold sgn; rw [← g (by decide), ← g (by decide), ← g (by decide), ← g (by decide)]; omega
  have d1 : bitsP p / 16 % 16 = sgn p 1 := by
    unfold sgn; rw [← g (by decide), ← g (by decide), ← g (by decide), ← g (by decide)]; omega
  have d2 : bitsP p / 16 / 16 % 16 = sgn p 2 := by
    unfold sgn; rw [← g (by decide), ← g (by decide), ← g (by decide), ← g (by decide)]; omega
  have d3 : bitsP p / 16 / 16 / 16 % 16 = sgn p 3 := by
    unfold sgn; rw [← g (by decide), ← g (by decide), ← g (by decide), ← g (by decide)]; omega
  have d4 : bitsP p / 16 / 16 / 16 / 16 % 16 = sgn p 4 := by
    unfold sgn; rw [← g (by decide), ← g (by decide), ← g (by decide), ← g (by decide)]; omega
  have d5 : bitsP p / 16 / 16 / 16 / 16 / 16 = sgn p 5 := by
    unfold sgn; rw [← g (by decide), ← g (by decide), ← g (by decide), ← g (by decide)]; omega
  exact ⟨d0, d1, d2, d3, d4, d5⟩
theorem pad_bits (p : Nat → Bool) : padx 6 (bitsP p) = txt p := by
  obtain ⟨d0, d1, d2, d3, d4, d5⟩ := digs p
  rw [pad6 (bitsP_lt p), d0, d1, d2, d3, d4, d5]
  rfl
theorem hex6_bits (p : Nat → Bool) : hex6 (bitsP p) = SX.S (txt p) := by
  unfold hex6; rw [pad_bits]
theorem hexc_ok : ∀ d, d < 16 → Hx.IsHex (hexc d) ∧ Hx.hv (hexc d) = d ∧ (hexc d ≤ 57 ∨ 97 ≤ hexc d) := by
  unfold Hx.IsHex; decide
theorem txt_hex (p : Nat → Bool) : ∀ c ∈ txt p, Hx.IsHex c := by
  intro c hc
  simp only [txt, List.mem_cons, List.not_mem_nil, or_false] at hc
  rcases hc with rfl | rfl | rfl | rfl | rfl | rfl <;> exact (hexc_ok _ (sgn_lt p _)).1
theorem txt_num (p : Nat → Bool) : Hx.hexNum (txt p) = bitsP p := by
  obtain ⟨d0, d1, d2, d3, d4, d5⟩ := digs p
  have v := fun i => (hexc_ok _ (sgn_lt p i)).2.1
  unfold Hx.hexNum txt
  simp only [List.foldl_cons, List.foldl_nil, v]
  rw [← d0, ← d1, ← d2, ← d3, ← d4, ← d5]
  omega
/-- the number in the sum's own words -/
theorem sum_bits (p : Nat → Bool) : ∀ w, (((List.range w).filter p).map fun h => (2 : Int) ^ h).sum = (bitsW p w : Int)
  | 0 => rfl
  | w + 1 => by
    have ih := sum_bits p w
    rw [List.range_succ, List.filter_append, List.map_append, List.sum_append, ih]
    show _ = ((bitsW p w + b2 (p w) * 2 ^ w : Nat) : Int)
    unfold b2
    cases hp : p w with
    | true => simp [hp]
    | false => simp [hp]
/-- an hour is among these -/
def memP (ns : List Int) (h : Nat) : Bool := decide ((h : Int) ∈ ns)
theorem inV_ints (k : Int) (ns : List Int) : inV (.int k) (ns.map V.int) = decide (k ∈ ns) := by
  unfold inV
  rw [List.any_map, Bool.eq_iff_iff, List.any_eq_true, decide_eq_true_eq]
  constructor
  · rintro ⟨x, hx, e⟩
    have e2 : (x == k) = true := e
    rw [← eq_of_beq e2]; exact hx
  · intro h
    exact ⟨k, h, show (k == k) = true from beq_self_eq_true k⟩
theorem flat_ints (ns : List Int) : (ns.map V.int).all flatV = true := by
  rw [List.all_eq_true]
  intro x hx
  obtain ⟨k, _, rfl⟩ := List.mem_map.mp hx
  rfl
end Pot

namespace Pot
open PySem PySem.Spec PyProof.Rows L2
/-- built-in names that the module gives no other meaning -/
structure Txt (mg : Str → Option Value) : Prop where
  len : mg "len" = none
  divmod : mg "divmod" = none
  range : mg "range" = none
  sum : mg "sum" = none
  all : mg "all" = none
  any : mg "any" = none
  isinstance : mg "isinstance" = none
  str : mg "str" = none
  int : mg "int" = none
  list : mg "list" = none
  tuple : mg "tuple" = none
  bool : mg "bool" = none
  zip : mg "zip" = none
  set : mg "set" = none
  sorted : mg "sorted" = none
  enumerate : mg "enumerate" = none
  repr : mg "repr" = none
  min : mg "min" = none
  max : mg "max" = none
  abs : mg "abs" = none
/-- a def that may be called by its name: what it keeps, at which level -/
def Cl (P : Program) (w : World) (K : PySem.W.Frag) (mg : Str → Option Value) (base : Heap) (k : Nat) (x : Str) (sp : Sp) : Prop :=
  ∃ (f : Addr) (fd : FuncData) (ps : List Str), FnOk P w K mg base CX0 k f fd ps sp ∧ mg x = some (.ref f) ∧ PySem.W.keepIn K (.ref f) = true ∧ Binds K fd ps []
theorem pe_cl {X : Cx} {k j : Nat} {x : Str} {sp : Sp} {e : Expr} {es : List Expr} {t : TA} {p pos : Pos} (c : Cl X.prog X.w X.K X.mg X.base k x sp) (hr : Room j X.A) (hk : k ≤ j) (hg : Gl X x) (ha : PA X (e :: es) t) (hdb : (x == ("__debug__" : Str)) = false := by decide)
    (he : starEach (e :: es) X.env = (false, eval e X.env) :: starEach es X.env := by rfl) (hpl : (backTo pos (starEach es X.env)).any (·.1) = false := by rfl) : PE X (.Call (.Name x p) (e :: es) [] pos) (tCall sp [] E0 t) := by
  obtain ⟨f, fd, ps, G, hm, kp, b⟩ := c
  exact pe_call G (hr.mono hk) hg hm kp b .nil pass0 ha hdb he hpl
/-! ### the drawing state -/
def dS (c : Addr) (t : Int) : List (Key × V) := [(Sum.inr "cells", .ref c), (Sum.inr "turn", .int t)]
/-- at d stands a state of the law: its cells at c, its turn at most n -/
def StAt (H : Hp) (d c : Addr) (n : Nat) : Prop := d ≠ c ∧ ∃ (xs : List Int) (t : Int),
  H d = some (.dK (dS c t)) ∧ H c = some (.lst (xs.map V.int)) ∧ xs ≠ [] ∧ xs.length ≤ 63 ∧ 0 ≤ t ∧ t ≤ n
/-- all that was tracked stands, but d and c -/
def Kp (d c : Addr) (H H' : Hp) : Prop := ∀ b o, b ≠ d → b ≠ c → H b = some o → H' b = some o
theorem Kp.refl (d c : Addr) (H : Hp) : Kp d c H H := fun _ _ _ _ e => e
theorem Kp.trans {d c : Addr} {H H1 H2 : Hp} (a : Kp d c H H1) (b : Kp d c H1 H2) : Kp d c H H2 := fun x o h1 h2 e => b x o h1 h2 (a x o h1 h2 e)
theorem Kp.of {d c : Addr} {H H' : Hp} (s : Same H H') : Kp d c H H' := fun x o _ _ e => s x o e
theorem same_upd {H : Hp} {p : Addr} {o : HO} (h : H p = none) : Same H (upd H p o) := fun b x e => by
  rw [upd_ne (ne_of_none e h)]
  exact e
theorem same_put {H H' : Hp} {p : Addr} {o : HO} (s : Same H H') (h : H p = none) : Same H (upd H' p o) := fun b x e => by
  rw [upd_ne (ne_of_none e h)]
  exact s b x e
theorem kp_put {d c : Addr} {H H' : Hp} {p : Addr} {o : HO} (s : Kp d c H H') (h : H p = none) : Kp d c H (upd H' p o) := fun b x h1 h2 e => by
  rw [upd_ne (ne_of_none e h)]
  exact s b x h1 h2 e
theorem StAt.mono {H : Hp} {d c : Addr} {n m : Nat} (h : StAt H d c n) (k : n ≤ m) : StAt H d c m := by
  obtain ⟨h0, xs, t, h1, h2, h3, h4, h5, h6⟩ := h
  exact ⟨h0, xs, t, h1, h2, h3, h4, h5, by omega⟩
theorem StAt.same {H H' : Hp} {d c : Addr} {n : Nat} (h : StAt H d c n) (s : Same H H') : StAt H' d c n := by
  obtain ⟨h0, xs, t, h1, h2, h3, h4, h5, h6⟩ := h
  exact ⟨h0, xs, t, s _ _ h1, s _ _ h2, h3, h4, h5, h6⟩
theorem Kp.free {d c : Addr} {H H' : Hp} {n : Nat} {l : Addr} (k : Kp d c H H') (s : StAt H' d c n) (h : H' l = none) : H l = none := by
  obtain ⟨_, xs, t, h1, h2, _⟩ := s
  have n1 : l ≠ d := (ne_of_none h1 h).symm
  have n2 : l ≠ c := (ne_of_none h2 h).symm
  cases e : H l with
  | none => rfl
  | some o =>
    rw [k l o n1 n2 e] at h
    cases h
theorem StAt.ne1 {H : Hp} {d c : Addr} {n : Nat} {l : Addr} (s : StAt H d c n) (h : H l = none) : d ≠ l := by
  obtain ⟨_, xs, t, h1, h2, _⟩ := s
  exact ne_of_none h1 h
theorem StAt.ne2 {H : Hp} {d c : Addr} {n : Nat} {l : Addr} (s : StAt H d c n) (h : H l = none) : c ≠ l := by
  obtain ⟨_, xs, t, h1, h2, _⟩ := s
  exact ne_of_none h2 h
theorem StAt.put {H : Hp} {d c : Addr} {n : Nat} {l : Addr} {o : HO} (s : StAt H d c n) (n1 : d ≠ l) (n2 : c ≠ l) : StAt (upd H l o) d c n := by
  obtain ⟨h0, xs, t, h1, h2, h3, h4, h5, h6⟩ := s
  exact ⟨h0, xs, t, by rw [upd_ne n1]; exact h1, by rw [upd_ne n2]; exact h2, h3, h4, h5, h6⟩
theorem val_turn (c : Addr) (t : Int) : valV (dS c t) (Sum.inr "turn") = some (.int t) := by
  have e : ¬ ((Sum.inr (Str.ofString "cells") : Key) = Sum.inr (Str.ofString "turn")) := by decide +kernel
  unfold dS; rw [valV_neg e, valV_pos rfl]
theorem val_cells (c : Addr) (t : Int) : valV (dS c t) (Sum.inr "cells") = some (.ref c) := by
  unfold dS; rw [valV_pos rfl]
theorem put_turn (c : Addr) (t u : Int) : putK (dS c t) (Sum.inr "turn") (.int u) = dS c u := by
  have e : ¬ ((Sum.inr (Str.ofString "cells") : Key) = Sum.inr (Str.ofString "turn")) := by decide +kernel
  unfold putK dS
  simp [e]

theorem dget_turn {H : Hp} {d c : Addr} {t : Int} (h : H d = some (.dK (dS c t))) : DGet H d (.str "turn") (some (.int t)) := by
  rw [← val_turn c t]; exact DGet.k (k := Sum.inr "turn") h
theorem dget_cells {H : Hp} {d c : Addr} {t : Int} (h : H d = some (.dK (dS c t))) : DGet H d (.str "cells") (some (.ref c)) := by
  rw [← val_cells c t]; exact DGet.k (k := Sum.inr "cells") h
theorem dput_turn {H : Hp} {d c : Addr} {t : Int} (u : Int) (h : H d = some (.dK (dS c t))) : DPut H d (.str "turn") (.int u) (upd H d (.dK (dS c u))) := by
  rw [← put_turn c t u]; exact DPut.k (k := Sum.inr "turn") h (by show 2 < sizeLine; decide)
theorem ge18 (x : Int) : (decide ((10 : Int) ^ (18 : Int).toNat ≤ x) = true) ↔ 1000000000000000000 ≤ x := by
  have e : (10 : Int) ^ (18 : Int).toNat = 1000000000000000000 := by decide
  rw [e, decide_eq_true_eq]
theorem cmul_mod (a b : Int) {m : Int} (h0 : 0 < m) (h1 : m < 2 ^ 64) : CMul (a % m) b := by
  have p := Int.emod_nonneg a (show m ≠ 0 by omega)
  have q := Int.emod_lt_of_pos a h0
  exact .inl ⟨by omega, by omega⟩
theorem mod_at {xs : List Int} {u : Int} (hx : xs ≠ []) : ∃ (j : Nat) (y : Int), u % ((xs.map V.int).length : Int) = (j : Int) ∧ j < xs.length ∧ xs[j]? = some y := by
  have h0 : 0 < xs.length := List.length_pos_iff.mpr hx
  rw [List.length_map]
  have a := Int.emod_nonneg u (show (xs.length : Int) ≠ 0 by omega)
  have b := Int.emod_lt_of_pos u (show (0 : Int) < (xs.length : Int) by omega)
  refine ⟨(u % (xs.length : Int)).toNat, xs[(u % (xs.length : Int)).toNat]'(by omega), by omega, by omega, ?_⟩
  exact List.getElem?_eq_getElem _

section
variable {K : PySem.W.Frag}
theorem cut63 {xs : List V} (h : xs.length ≤ 63) : cutV xs none (some 63) = xs := by
  unfold cutV
  rw [HT.sIx_none, show HT.sIx xs.length xs.length (some 63) = min 63 xs.length from HT.sIx_nat xs.length xs.length 63, Nat.min_eq_right h]
  simp
theorem dp_ints {H : Hp} (ns : List Int) : DpAll K H (ns.map V.int) (ns.map PyData.int) := by
  induction ns with
  | nil => exact .nil
  | cons n r ih => exact .cons (.int n) ih
theorem same_tup {H H' : Hp} {a : Addr} {xs : List V} (e : Same H H') (h : SqT K H a xs) : SqT K H' a xs := by
  rcases h with (h | ⟨o, h⟩) | h
  · exact .inl (.inl (e _ _ h))
  · exact .inl (.inr ⟨o, e _ _ h⟩)
  · exact .inr h
mutual
theorem dp_same {H H' : Hp} (s : Same H H') : ∀ {v : V} {d : PyData}, Dp K H v d → Dp K H' v d
  | _, _, .non => .non
  | _, _, .bl b => .bl b
  | _, _, .int i => .int i
  | _, _, .str x => .str x
  | _, _, .lst h a => .lst (s.seq h) (dpAll_same s a)
  | _, _, .tup h a => .tup (same_tup s h) (dpAll_same s a)
theorem dpAll_same {H H' : Hp} (s : Same H H') : ∀ {vs : List V} {ds : List PyData}, DpAll K H vs ds → DpAll K H' vs ds
  | _, _, .nil => .nil
  | _, _, .cons h t => .cons (dp_same s h) (dpAll_same s t)
end
theorem dpAll_len {H : Hp} : ∀ {vs : List V} {ds : List PyData}, DpAll K H vs ds → vs.length = ds.length
  | _, _, .nil => rfl
  | _, _, .cons _ t => by rw [List.length_cons, List.length_cons, dpAll_len t]
theorem dpAll_at {H : Hp} : ∀ {vs : List V} {ds : List PyData} {i : Nat} {v : V}, DpAll K H vs ds → vs[i]? = some v → ∃ d, ds[i]? = some d ∧ Dp K H v d
  | _, _, _, _, .nil, h => by simp at h
  | _, _, 0, _, .cons h _, e => ⟨_, rfl, by cases e; exact h⟩
  | _, _, i + 1, _, .cons _ t, e => dpAll_at (i := i) t e
theorem depth_at : ∀ {ds : List PyData} {i : Nat} {d : PyData}, ds[i]? = some d → d.depth ≤ PyData.depthAll ds
  | [], _, _, h => by simp at h
  | x :: r, 0, d, h => by cases h; unfold PyData.depthAll; exact Nat.le_max_left ..
  | x :: r, i + 1, d, h => by
    have := depth_at (ds := r) (i := i) (d := d) h
    unfold PyData.depthAll
    exact Nat.le_trans this (Nat.le_max_right ..)
theorem tyx_list {H : Hp} {a : Addr} {xs : List V} (h : SqL K H a xs) : TyX K H (.ref a) (.type "list") := by
  rcases h with (h | ⟨o, h⟩) | ⟨o, its, n, h1, h2, _⟩
  · exact .base (.lst h)
  · exact .base (.frz h)
  · exact .kList h1 h2
theorem tyx_tup {H : Hp} {a : Addr} {xs : List V} (h : SqT K H a xs) : TyX K H (.ref a) (.type "tuple") := by
  rcases h with (h | ⟨o, h⟩) | ⟨o, its, n, h1, h2, _⟩
  · exact .base (.tup h)
  · exact .fTuple h
  · exact .kTuple h1 h2
theorem walk_zipT {a b : Addr} {xs ys : List V} {n : Nat} (hn : n = min xs.length ys.length) : Walk (RZ.ItzT K a b) n (fun H => SqT K H a xs ∧ SqT K H b ys) (YPair (fun i => xs[i]?) (fun i => ys[i]?)) := by
  subst hn
  refine ⟨fun i _ hi q => ?_, fun _ q => ⟨xs, ys, q.1, q.2, by omega⟩, fun i H v H' _ q y => ?_⟩
  · exact ⟨xs, ys, xs[i]'(by omega), ys[i]'(by omega), q.1, q.2, List.getElem?_eq_getElem _, List.getElem?_eq_getElem _⟩
  · obtain ⟨T, x, z, e1, e2, e3, e4, e5⟩ := y
    exact ⟨T, x, z, e1, e2, e3, e4 xs q.1, e5 ys q.2⟩
/-- the longest list within -/
def widAll : List PyData → Nat
  | [] => 0
  | x :: xs => max (wid x) (widAll xs)
where wid : PyData → Nat
  | .list xs => max xs.length (widAll xs)
  | .tuple xs => max xs.length (widAll xs)
  | _ => 0
theorem wid_at : ∀ {ds : List PyData} {i : Nat} {d : PyData}, ds[i]? = some d → widAll.wid d ≤ widAll ds
  | [], _, _, h => by simp at h
  | x :: r, 0, d, h => by cases h; unfold widAll; exact Nat.le_max_left ..
  | x :: r, i + 1, d, h => by
    have := wid_at (ds := r) (i := i) (d := d) h
    unfold widAll
    exact Nat.le_trans this (Nat.le_max_right ..)
theorem depth_ints (ns : List Int) : (PyData.list (ns.map PyData.int)).depth = 1 := by
  have h : ∀ l : List Int, PyData.depthAll (l.map PyData.int) = 0 := by
    intro l
    induction l with
    | nil => rfl
    | cons x r ih =>
      show max 0 (PyData.depthAll (r.map PyData.int)) = 0
      rw [ih]
      rfl
  show PyData.depthAll (ns.map PyData.int) + 1 = 1
  rw [h]
theorem wid_ints (ns : List Int) : widAll.wid (PyData.list (ns.map PyData.int)) = ns.length := by
  have h : ∀ l : List Int, widAll (l.map PyData.int) = 0 := by
    intro l
    induction l with
    | nil => rfl
    | cons x r ih =>
      show max 0 (widAll (r.map PyData.int)) = 0
      rw [ih]
      rfl
  show max (ns.map PyData.int).length (widAll (ns.map PyData.int)) = ns.length
  rw [h, List.length_map, Nat.max_zero]
end
section
variable {P : Program} {w : World} {K : PySem.W.Frag} {mg : Str → Option Value} {base : Heap}
/-- a def with values that may be left out -/
abbrev FunV (K : PySem.W.Frag) (x : Str) (st : Stmt) (dvs : List V) (f : Addr) (fd : FuncData) : Prop := FunD K x x (defArgs st) (defBody st) (defScope st) dvs [] f fd
theorem okD {x : Str} {st : Stmt} {dvs : List V} {f : Addr} {fd : FuncData} {N ps : List Str} {k : Nat} {sp : Sp} (F : FunV K x st dvs f fd) (S : FnScope N ps (defScope st)) (len : ∀ vs H Q E, sp vs H Q E → vs.length = ps.length)
    (body : ∀ (cdv : Value) (A : Around) (outer : List Env) (s : Shared) (H : Hp) (vs : List V) (Q : VK) (E : XK), Room k (A.deeper (envOfC x (defScope st) s.heap.objs.size f cdv)) → sp vs H Q E →
      ∃ t, PSs (cxOf CX0 P w K mg base N x (defScope st) f cdv A outer s H E).nox (defBody st) t ∧ t { nx := fun _ H' => Q .non H', rt := Q } (start N vs) H) : FnOk P w K mg base CX0 (k + 1) f fd ps sp :=
  FunD.ok F S len fun cdv A outer s H vs Q E hr h => by
    obtain ⟨t, ht, hq⟩ := body cdv A outer s H vs Q E hr h
    exact ⟨t, ht.nox, hq⟩
/-- a def that may be called by its name, the values ds being left out -/
def ClD (P : Program) (w : World) (K : PySem.W.Frag) (mg : Str → Option Value) (base : Heap) (k : Nat) (x : Str) (ds : List V) (sp : Sp) : Prop :=
  ∃ (f : Addr) (fd : FuncData) (ps : List Str) (dus : List Value), FnOk P w K mg base CX0 k f fd ps sp ∧ mg x = some (.ref f) ∧ PySem.W.keepIn K (.ref f) = true ∧ Binds K fd ps dus ∧ Vals ds dus
theorem pe_cd {X : Cx} {k j : Nat} {x : Str} {ds : List V} {sp : Sp} {e : Expr} {es : List Expr} {t : TA} {p pos : Pos} (c : ClD X.prog X.w X.K X.mg X.base k x ds sp) (hr : Room j X.A) (hk : k ≤ j) (hg : Gl X x) (ha : PA X (e :: es) t) (hdb : (x == ("__debug__" : Str)) = false := by decide)
    (he : starEach (e :: es) X.env = (false, eval e X.env) :: starEach es X.env := by rfl) (hpl : (backTo pos (starEach es X.env)).any (·.1) = false := by rfl) : PE X (.Call (.Name x p) (e :: es) [] pos) (tCall sp ds E0 t) := by
  obtain ⟨f, fd, ps, dus, G, hm, kp, b, dv⟩ := c
  exact pe_call G (hr.mono hk) hg hm kp b dv pass0 ha hdb he hpl
theorem Cl.mono {k j : Nat} {x : Str} {sp : Sp} (c : Cl P w K mg base k x sp) (h : k ≤ j) : Cl P w K mg base j x sp := by
  obtain ⟨f, fd, ps, G, r⟩ := c
  exact ⟨f, fd, ps, G.mono h, r⟩
end
end Pot

namespace Pot
open PySem PySem.Spec PyProof.Rows L2
/-! ### words of letters -/
/-- at most n letters a to z -/
def Wd (n : Nat) (z : Str) : Prop := z.length ≤ n ∧ ∀ c ∈ z.cps.toList, 97 ≤ c ∧ c ≤ 122
theorem Wd.mono {n m : Nat} {z : Str} (h : Wd n z) (k : n ≤ m) : Wd m z := ⟨Nat.le_trans h.1 k, h.2⟩
theorem wd_add {n m : Nat} {a b : Str} (h : Wd n a) (k : Wd m b) : Wd (n + m) (a ++ b) := by
  refine ⟨by rw [strLen_append]; exact Nat.add_le_add h.1 k.1, fun c hc => ?_⟩
  have e : (a ++ b).cps.toList = a.cps.toList ++ b.cps.toList := by
    show (a.cps ++ b.cps).toList = _
    simp
  rw [e] at hc
  exact (List.mem_append.mp hc).elim (h.2 c) (k.2 c)
def az : List Nat := [97, 98, 99, 100, 101, 102, 103, 104, 105, 106, 107, 108, 109, 110, 111, 112, 113, 114, 115, 116, 117, 118, 119, 120, 121, 122]
theorem az_cps : (Str.ofString "abcdefghijklmnopqrstuvwxyz").cps.toList = az := by decide +kernel
theorem az_at : ∀ k : Nat, k < 26 → atI az ((k : Nat) : Int) = some (97 + k) := by unfold az; decide
theorem az_ix {i : Int} (h0 : 0 ≤ i) (h1 : i < 26) : atI (Str.ofString "abcdefghijklmnopqrstuvwxyz").cps.toList i = some (97 + i.toNat) := by
  rw [az_cps]
  have h := az_at i.toNat (by omega)
  rw [show ((i.toNat : Nat) : Int) = i by omega] at h
  exact h
theorem wd_sign {c : Nat} (h0 : 97 ≤ c) (h1 : c ≤ 122) : Wd 1 ⟨#[c]⟩ := ⟨Nat.le_refl _, fun d hd => by
  have e : d = c := by simpa using hd
  subst e; exact ⟨h0, h1⟩⟩
theorem wd_letter {i : Int} (h0 : 0 ≤ i) (h1 : i < 26) : Wd 1 ⟨#[97 + i.toNat]⟩ := wd_sign (by omega) (by omega)
theorem wd_nil : Wd 0 Str.empty := ⟨Nat.le_refl _, fun c hc => by have : c ∈ ([] : List Nat) := hc; simp at this⟩
theorem wd_join : ∀ {ys : List Str}, (∀ y ∈ ys, Wd 1 y) → Wd ys.length (Str.join Str.empty ys)
  | [], _ => wd_nil
  | [x], h => h x List.mem_cons_self
  | x :: y :: r, h => by
    have ih := wd_join (ys := y :: r) fun z hz => h z (List.mem_cons_of_mem _ hz)
    show Wd _ (x ++ Str.empty ++ Str.join Str.empty (y :: r))
    have h1 := wd_add (wd_add (h x List.mem_cons_self) wd_nil) ih
    exact h1.mono (by simp only [List.length_cons]; omega)
theorem cut_mem {z : Str} {lo hi : Option Int} {c : Nat} (h : c ∈ (cutS z lo hi).cps.toList) : c ∈ z.cps.toList := by
  unfold cutS at h
  have h2 : c ∈ (z.cps.toList.drop (HT.sIx z.length 0 lo)).take (HT.sIx z.length z.length hi - HT.sIx z.length 0 lo) := by simpa using h
  exact List.mem_of_mem_drop (List.mem_of_mem_take h2)
theorem cut_len (z : Str) (lo hi : Option Int) : (cutS z lo hi).length ≤ HT.sIx z.length z.length hi - HT.sIx z.length 0 lo := by
  unfold cutS
  show (List.toArray _).size ≤ _
  rw [List.size_toArray]
  exact List.length_take_le ..
theorem wd_head {n k : Nat} {z : Str} (h : Wd n z) : Wd k (cutS z none (some (k : Int))) := by
  refine ⟨Nat.le_trans (cut_len z none (some (k : Int))) ?_, fun c hc => h.2 c (cut_mem hc)⟩
  rw [HT.sIx_nat]
  omega
theorem wd_tail {n k : Nat} {z : Str} (h : Wd n z) : Wd (z.length - k) (cutS z (some (k : Int)) none) := by
  refine ⟨Nat.le_trans (cut_len z (some (k : Int)) none) ?_, fun c hc => h.2 c (cut_mem hc)⟩
  rw [HT.sIx_nat, HT.sIx_none]
  omega
theorem wd_cut {n : Nat} {z : Str} {lo hi : Option Int} (h : Wd n z) : Wd n (cutS z lo hi) := by
  refine ⟨Nat.le_trans (cut_len z lo hi) ?_, fun c hc => h.2 c (cut_mem hc)⟩
  have := HT.sIx_le z.length z.length (Nat.le_refl _) hi
  have := h.1
  omega
theorem wd_small {n : Nat} {z : Str} (h : Wd n z) (k : n ≤ 1000) : z.length ≤ sizeLine := Nat.le_trans h.1 (Nat.le_trans k (by decide))
theorem wd_codes {n : Nat} {z : Str} (h : Wd n z) : ∀ x ∈ z.cps.toList, x < 1114112 := fun x hx => by have := (h.2 x hx).2; omega
section
variable {K : PySem.W.Frag}
theorem kp_seq {d c l : Addr} {H H' : Hp} {xs : List V} (k : Kp d c H H') (n1 : l ≠ d) (n2 : l ≠ c) (h : SqL K H l xs) : SqL K H' l xs := by
  rcases h with (h | ⟨o, h⟩) | h
  · exact .inl (.inl (k _ _ n1 n2 h))
  · exact .inl (.inr ⟨o, k _ _ n1 n2 h⟩)
  · exact .inr h
end
end Pot

namespace Pot
open PySem PySem.Spec PyProof.Rows L2
def topS (i : Nat) : Stmt := PySem.Challenge.pw_potround_k04_tallies_written_and_read.main.body.getD i (.Pass ⟨0, 0, 0, 0⟩)
section
variable {P : Program} {w : World} {K : PySem.W.Frag} {mg : Str → Option Value} {base : Heap}
abbrev s__law_take : Stmt := topS 15
def n__law_take : List Str := ["_law_state", "_law_many", "_law_turn", "_law_place", "_law_cell", "_law_digit", "_law_mixed"]
theorem sc__law_take : FnScope n__law_take ["_law_state", "_law_many"] (defScope s__law_take) := ⟨rfl, rfl, rfl, by decide +kernel, rfl, by decide +kernel, by decide +kernel⟩
/-! ### _law_take -/
def spTake : Sp := fun vs H Q _ => ∃ (d c : Addr) (m : Int) (n : Nat), vs = [.ref d, .int m] ∧ 0 < m ∧ m < 1073741824 ∧ StAt H d c n ∧ n < 2 ^ 40 ∧
  ∀ H' r, 0 ≤ r → r < m → StAt H' d c (n + 1) → Kp d c H H' → Q (.int r) H'
theorem ok_take {f : Addr} {fd : FuncData} {k : Nat} (F : Fun K "_law_take" "_law_take" s__law_take f fd) (T : Txt mg) :
    FnOk P w K mg base CX0 (k + 1) f fd ["_law_state", "_law_many"] spTake := by
  refine F.ok sc__law_take (fun vs H Q E h => ?_) (fun cdv A outer s H vs Q E hr h => ?_)
  · obtain ⟨d, c, m, n, rfl, _⟩ := h
    rfl
  · obtain ⟨d, c, m, n, rfl, hm0, hm1, ⟨ndc, xs, t, hd, hc, hx, hx63, ht0, htn⟩, hn, q⟩ := h
    have hu := hu_of hr
    have nd := sc__law_take.nd
    refine ⟨_, (pss_cons (ps_set (i := 2) nd rfl (.inl rfl) (pe_op op_add (pe_dget hu (pv 0) pe_str (fun _ _ => rfl)) pe_int))
      (pss_cons (ps_dput hu (pv 0) pe_str (pv 2) rfl)
      (pss_cons (ps_set (i := 3) nd rfl (.inl rfl) (pe_op op_mod (pv 2) (pe_callB (kc_len (K := K)) (by rfl) T.len PySem.boot_len (pa_cons (pe_dget hu (pv 0) pe_str (fun _ _ => rfl)) pa_nil))))
      (pss_cons (ps_set (i := 4) nd rfl (.inl rfl) (pe_ix (kx_list (K := K)) (pe_dget hu (pv 0) pe_str (fun _ _ => rfl)) (pv 3) (fun _ _ => rfl)))
      (pss_cons (ps_if (pt_cmpR op_ge (pv 4) (pe_op op_pow pe_int pe_int) (nomark _))
          (pss_cons (ps_asg (pe_callB call_divmod (by rfl) T.divmod (by decide +kernel) (pa_cons (pv 4) (pa_cons (pv 1) pa_nil))) (kg_tup (K := K) (n := 2) (pgs_cons (pg_sub (pe_dget hu (pv 0) pe_str (fun _ _ => rfl)) (pv 3) set_list) (pgs_cons (pg_name (i := 5) nd rfl (.inl rfl)) pgs_nil))))
          (pss_one (ps_ret (pv 5))))
          pss_nil)
      (pss_cons (ps_set (i := 6) nd rfl (.inl rfl) (pe_op op_mod (pe_op op_mul (pe_op op_add (pe_op op_add (pe_op op_mod (pv 4) pe_int) (pe_op op_mul (pe_op op_mul (pv 2) (pv 2)) pe_int)) pe_int) pe_int) pe_int))
      (pss_cons (ps_set (i := 6) nd rfl (.inl rfl) (pe_op op_mod (pe_op op_mul (pv 6) (pv 6)) pe_int))
      (pss_one (ps_ret (pe_op op_mod (pe_op op_fdiv (pe_op op_mod (pe_op op_mul (pe_op op_add (pv 6) (pe_op op_mul (pv 2) pe_int)) pe_int) pe_int) pe_int) (pv 1))))))))))), ?_⟩
    -- turn = state['turn'] + 1
    refine ⟨_, rfl, d, _, rfl, dget_turn hd, _, _, rfl, rfl, ?_⟩
    -- state['turn'] = turn
    refine ⟨_, rfl, _, rfl, d, _, rfl, dput_turn (t + 1) hd, ?_⟩
    have hd1 : (upd H d (.dK (dS c (t + 1)))) d = some (.dK (dS c (t + 1))) := upd_same
    have hc1 : (upd H d (.dK (dS c (t + 1)))) c = some (.lst (xs.map V.int)) := by rw [upd_ne ndc.symm]; exact hc
    generalize hH1 : upd H d (.dK (dS c (t + 1))) = H1 at hd1 hc1 ⊢
    have kp1 : Kp d c H H1 := fun b o h1 h2 e => by rw [← hH1, upd_ne h1]; exact e
    obtain ⟨j, y, ej, hj, gj⟩ := mod_at (u := t + 1) hx
    have gj' : (xs.map V.int)[j]? = some (.int y) := by rw [List.getElem?_map, gj]; rfl
    -- place = turn % len(state['cells'])
    refine ⟨_, rfl, _, rfl, d, _, rfl, dget_cells hd1, _, _, rfl, .inl ⟨_, SqL.of hc1, rfl⟩, _, _, rfl, rfl, ?_, ?_⟩
    · show (0 : Int) < ((xs.map V.int).length : Int)
      rw [List.length_map]
      have h0 : 0 < xs.length := List.length_pos_iff.mpr hx
      omega
    -- cell = state['cells'][place]
    refine ⟨_, rfl, d, _, rfl, dget_cells hd1, _, rfl, c, _, _, _, rfl, rfl, SqL.of hc1, (by show atI (xs.map V.int) ((t + 1) % ((xs.map V.int).length : Int)) = some (.int y); rw [ej]; exact atI_nat gj'), ?_⟩
    -- if cell >= 10 ** 18
    refine ⟨_, rfl, _, _, rfl, rfl, ⟨by decide, by decide, by decide⟩, _, _, rfl, rfl, _, rfl, ?_⟩
    refine ite2 (fun hb => ?_) (fun hb => ?_)
    · -- cells[place], digit = divmod(cell, many)
      refine ⟨_, rfl, _, rfl, _, _, rfl, ⟨hm0, hm1⟩, fun p hp => ?_⟩
      have npd : d ≠ p := ne_of_none hd1 hp
      have npc : c ≠ p := ne_of_none hc1 hp
      refine ⟨p, _, rfl, .inl (.inl upd_same), rfl, _, _, rfl, _, rfl, d, _, rfl, dget_cells (t := t + 1) (by rw [upd_ne npd]; exact hd1), _, rfl, ?_⟩
      refine ⟨c, _, _, j, rfl, rfl, (by rw [upd_ne npc]; exact hc1), (by show ixN (xs.map V.int).length ((t + 1) % ((xs.map V.int).length : Int)) = some j; rw [ej]; exact Evl.ixN_nat (by rw [List.length_map]; exact hj)), ?_⟩
      refine ⟨_, _, rfl, rfl, _, rfl, ?_⟩
      refine q _ _ (Int.emod_nonneg _ (by omega)) (Int.emod_lt_of_pos _ hm0) ⟨ndc, xs.set j (y / m), t + 1, ?_, ?_, ?_, ?_, by omega, by omega⟩ (kp1.trans fun b o h1 h2 e => ?_)
      · rw [upd_ne ndc, upd_ne npd]; exact hd1
      · rw [upd_same, List.map_set]
      · intro z
        have z2 := congrArg List.length z
        rw [List.length_set] at z2
        exact hx (List.length_eq_zero_iff.mp z2)
      · rw [List.length_set]; exact hx63
      · rw [upd_ne h2, upd_ne (ne_of_none e hp)]; exact e
    · -- the mixed way
      have t2 : t + 1 < 2 ^ 41 := by omega
      have tt : (t + 1) * (t + 1) < 2 ^ 82 := Int.lt_of_lt_of_le (Int.mul_lt_mul t2 (Int.le_of_lt t2) (by omega) (by decide)) (by decide)
      refine ⟨_, rfl, _, _, rfl, rfl, (by show (0 : Int) < 2147483629; decide), _, rfl, _, rfl, _, _, rfl, rfl, .inl ⟨by omega, by omega⟩, _, _, rfl, rfl, .inr ⟨by decide, by decide⟩, _, _, rfl, rfl, _, _, rfl, rfl, _, _, rfl, rfl, .inr ⟨by decide, by decide⟩, _, _, rfl, rfl, (by show (0 : Int) < 2147483647; decide), ?_⟩
      refine ⟨_, rfl, _, rfl, _, _, rfl, rfl, cmul_mod _ _ (by decide) (by decide), _, _, rfl, rfl, (by show (0 : Int) < 2147483579; decide), ?_⟩
      refine ⟨_, rfl, _, rfl, _, _, rfl, rfl, .inr ⟨by decide, by decide⟩, _, _, rfl, rfl, _, _, rfl, rfl, .inr ⟨by decide, by decide⟩, _, _, rfl, rfl, (by show (0 : Int) < 2147483629; decide), _, _, rfl, rfl, ⟨by decide, by decide⟩, _, rfl, _, _, rfl, rfl, hm0, ?_⟩
      exact q _ _ (Int.emod_nonneg _ (by omega)) (Int.emod_lt_of_pos _ hm0) ⟨ndc, xs, t + 1, hd1, hc1, hx, hx63, by omega, by omega⟩ kp1

abbrev s__law_begin : Stmt := topS 14
def n__law_begin : List Str := ["_law_script", "_law_cells"]
theorem sc__law_begin : FnScope n__law_begin ["_law_script"] (defScope s__law_begin) := ⟨rfl, rfl, rfl, by decide +kernel, rfl, by decide +kernel, by decide +kernel⟩
/-! ### _law_begin -/
def spBegin (K : PySem.W.Frag) : Sp := fun vs H Q _ => ∃ (a : Addr) (ns : List Int), vs = [.ref a] ∧ SqL K H a (ns.map V.int) ∧ ns.length ≤ 63 ∧ ∀ H' d c, Same H H' → StAt H' d c 0 → H d = none → H c = none → Q (.ref d) H'
theorem ok_begin {f : Addr} {fd : FuncData} {k : Nat} (F : Fun K "_law_begin" "_law_begin" s__law_begin f fd) (T : Txt mg) : FnOk P w K mg base CX0 (k + 1) f fd ["_law_script"] (spBegin K) := by
  refine F.ok sc__law_begin (fun vs H Q E h => ?_) (fun cdv A outer s H vs Q E hr h => ?_)
  · obtain ⟨a, ns, rfl, _⟩ := h
    rfl
  · obtain ⟨a, ns, rfl, hS, h63, q⟩ := h
    refine ⟨_, pss_cons (ps_set (i := 1) sc__law_begin.nd rfl (.inl rfl) (pe_callTy call_list_of (by rfl) T.list (by decide +kernel) (pa_cons (pe_slice sl_list (pv 0) po_none (po_some pe_int)) pa_nil)))
      (pss_cons (ps_if (pt_cmpR (op_eqD hr.units) (pv 1) (pe_lst pa_nil) (nomark _)) (pss_one (ps_set (i := 1) sc__law_begin.nd rfl (.inl rfl) (pe_lst (pa_cons pe_int pa_nil)))) pss_nil)
      (pss_one (ps_ret (pe_disp (pps_cons pe_str (pv 1) (pps_cons pe_str pe_int pps_nil)) (by rfl) (by rfl) (fun z => by cases z) (by decide))))), ?_⟩
    refine ⟨_, rfl, 63, rfl, a, _, rfl, hS, fun p hp => ?_⟩
    rw [cut63 (by rw [List.length_map]; exact h63)]
    refine ⟨p, _, rfl, .inl (SqL.of upd_same), fun c hc => ?_⟩
    have npc : p ≠ c := ne_of_none (upd_same (H := H) (o := .lst (ns.map V.int))) hc
    have sm1 : Same H (upd (upd H p (.lst (ns.map V.int))) c (.lst (ns.map V.int))) := (same_upd hp).trans (same_upd hc)
    have hc0 : H c = none := (same_upd hp).free hc
    have hcl : (upd (upd H p (.lst (ns.map V.int))) c (.lst (ns.map V.int))) c = some (.lst (ns.map V.int)) := upd_same
    generalize upd (upd H p (.lst (ns.map V.int))) c (.lst (ns.map V.int)) = H1 at sm1 hcl ⊢
    refine ⟨_, rfl, Nat.zero_le _, fun e he => ?_⟩
    have nce : c ≠ e := ne_of_none hcl he
    refine ⟨_, _, .lst (SqL.of (by rw [upd_ne nce]; exact hcl)) (dp_ints ns), .lst (SqL.of upd_same) .nil, PySem.W.ke_shaped_ints ns, PySem.W.ke_shaped_ints [], _, rfl, ?_⟩
    have fin : ∀ (H2 : Hp) (c2 : Addr) (xs : List Int), Same H H2 → H c2 = none → H2 c2 = some (.lst (xs.map V.int)) → xs ≠ [] → xs.length ≤ 63 →
        tRet (tDisp [(tC (V.str "cells"), tVar 1), (tC (V.str "turn"), tC (V.int 0))]) { nx := fun x H' => Q V.non H', rt := Q } [some (.ref a), some (.ref c2)] H2 := by
      intro H2 c2 xs s2 n2 h2 x0 x63 d hd
      refine ⟨_, rfl, upd_same, [(Sum.inr "cells", .ref c2), (Sum.inr "turn", .int 0)], rfl, (by show 2 ≤ 15; decide), ?_⟩
      have em : mergeK [] [((Sum.inr "cells" : Key), V.ref c2), (Sum.inr "turn", .int 0)] = dS c2 0 := by
        have e : ¬ ((Sum.inr (Str.ofString "cells") : Key) = Sum.inr (Str.ofString "turn")) := by decide +kernel
        unfold mergeK dS
        simp [putK, e]
      rw [em]
      have ncd : c2 ≠ d := ne_of_none h2 hd
      refine q _ d c2 (same_put (same_put s2 (s2.free hd)) (s2.free hd)) ⟨ncd.symm, xs, 0, upd_same, ?_, x0, x63, by decide, by decide⟩ (s2.free hd) n2
      rw [upd_ne ncd, upd_ne ncd]
      exact h2
    cases ns with
    | nil =>
      show if PyData.eqv (PyData.list []) (PyData.list []) = true then _ else _
      rw [if_pos (by rfl)]
      refine ⟨(by show 1 ≤ sizeLine; decide), fun g hg => ?_⟩
      have hg1 : H1 g = none := (same_upd he).free hg
      exact fin _ g [17] (same_put (same_put sm1 (sm1.free he)) (sm1.free hg1)) (sm1.free hg1) upd_same (by intro z; cases z) (by decide)
    | cons n r =>
      show if PyData.eqv (PyData.list (PyData.int n :: r.map PyData.int)) (PyData.list []) = true then _ else _
      rw [if_neg (by intro z; cases z)]
      refine fin _ c (n :: r) (same_put sm1 (sm1.free he)) hc0 (by rw [upd_ne nce]; exact hcl) (by intro z; cases z) h63

abbrev s__law_same : Stmt := topS 17
def n__law_same : List Str := ["_law_found", "_law_due", "_law_one", "_law_other"]
theorem sc__law_same : FnScope n__law_same ["_law_found", "_law_due"] (defScope s__law_same) := ⟨rfl, rfl, rfl, by decide +kernel, rfl, by decide +kernel, by decide +kernel⟩
/-! ### _law_same: two of one and the same make are told to be so -/
def spSame (K : PySem.W.Frag) (k : Nat) : Sp := fun vs H Q _ => ∃ (x y : V) (d : PyData), vs = [x, y] ∧ Dp K H x d ∧ Dp K H y d ∧ d.depth < k ∧ widAll.wid d ≤ 1000 ∧ ∀ H', Same H H' → Q (.bl true) H'
theorem ok_same {f : Addr} {fd : FuncData} (F : Fun K "_law_same" "_law_same" s__law_same f fd) (T : Txt mg) (bF : Binds K fd ["_law_found", "_law_due"] []) (gF : mg "_law_same" = some (.ref f)) :
    ∀ k : Nat, FnOk P w K mg base CX0 (k + 1) f fd ["_law_found", "_law_due"] (spSame K k) := by
  intro k
  induction k with
  | zero =>
    refine F.ok sc__law_same (fun vs H Q E h => ?_) (fun cdv A outer s H vs Q E hr h => ?_)
    · obtain ⟨x, y, d, rfl, _⟩ := h
      rfl
    · obtain ⟨x, y, d, rfl, hx, hy, hd, hw, q⟩ := h
      exact absurd hd (Nat.not_lt_zero _)
  | succ k G =>
    refine F.ok sc__law_same (fun vs H Q E h => ?_) (fun cdv A outer s H vs Q E hr h => ?_)
    · obtain ⟨x, y, d, rfl, _⟩ := h
      rfl
    · obtain ⟨x, y, d, rfl, hx, hy, hd, hw, q⟩ := h
      refine ⟨_, pss_cons (ps_if (pt_val (pe_callB call_isiT (by rfl) T.isinstance (by decide +kernel) (pa_cons (pv 1) (pa_cons (pe_tup (pa_cons (pe_bltn (v := .ty "list") (by rfl) T.list (by decide +kernel) rfl) (pa_cons (pe_bltn (v := .ty "tuple") (by rfl) T.tuple (by decide +kernel) rfl) pa_nil))) pa_nil))))
          (pss_cons (ps_if (pw_or (pt_cmpR op_ne (pe_callB call_isi (by rfl) T.isinstance (by decide +kernel) (pa_cons (pv 0) (pa_cons (pe_bltn (v := .ty "list") (by rfl) T.list (by decide +kernel) rfl) pa_nil))) (pe_callB call_isi (by rfl) T.isinstance (by decide +kernel) (pa_cons (pv 1) (pa_cons (pe_bltn (v := .ty "list") (by rfl) T.list (by decide +kernel) rfl) pa_nil))) (nomark _))
            (pw_or1 (pt_cmpR op_ne (pe_callB call_isi (by rfl) T.isinstance (by decide +kernel) (pa_cons (pv 0) (pa_cons (pe_bltn (v := .ty "tuple") (by rfl) T.tuple (by decide +kernel) rfl) pa_nil))) (pe_callB call_isi (by rfl) T.isinstance (by decide +kernel) (pa_cons (pv 1) (pa_cons (pe_bltn (v := .ty "tuple") (by rfl) T.tuple (by decide +kernel) rfl) pa_nil))) (nomark _)))).pt
            pss_never pss_nil)
          (pss_one (ps_ret (pe_and (pe_cmpR op_eq (pe_callB call_len (by rfl) T.len PySem.boot_len (pa_cons (pv 0) pa_nil)) (pe_callB call_len (by rfl) T.len PySem.boot_len (pa_cons (pv 1) pa_nil)) (nomark _))
            (pe_one (pe_callB (cr_all rfl) (by rfl) T.all (by decide +kernel) (pa_cons
              (pe_lc (own := [("_law_one", 2), ("_law_other", 3)]) (g := gTup K 2 (gCons (gName 2) (gCons (gName 3) gNil))) (tt := tYes) rfl sc__law_same.nd (RZ.pi_zipA (by rfl) T.zip (pa_cons (pv 0) (pa_cons (pv 1) pa_nil))) (blkOk_by (N := n__law_same) (sc := defScope s__law_same) (by decide +kernel))
                (fun _ _ _ _ _ => pg_tup rfl (pgs_cons (pg_name (i := 2) sc__law_same.nd rfl (.inl rfl)) (pgs_cons (pg_name (i := 3) sc__law_same.nd rfl (.inl rfl)) pgs_nil))) (fun _ _ _ _ _ => pts_nil)
                (fun _ _ _ _ _ => pe_call G hr (by rfl) gF F.kp bF .nil pass0 (pa_cons (pv 2) (pa_cons (pv 3) pa_nil)))) pa_nil)))))))
          pss_nil)
        (pss_cons (ps_if (pt_cmpR op_isN (pv 1) pe_non (nomark _)) (pss_one (ps_ret (pe_cmpR op_isN (pv 0) pe_non (nomark _)))) pss_nil)
        (pss_cons (ps_if (pt_val (pe_callB call_isi (by rfl) T.isinstance (by decide +kernel) (pa_cons (pv 1) (pa_cons (pe_bltn (v := .ty "bool") (by rfl) T.bool (by decide +kernel) rfl) pa_nil))))
          (pss_one (ps_ret (pe_and (pe_callB call_isi (by rfl) T.isinstance (by decide +kernel) (pa_cons (pv 0) (pa_cons (pe_bltn (v := .ty "bool") (by rfl) T.bool (by decide +kernel) rfl) pa_nil))) (pe_one (pe_cmpR op_eq (pv 0) (pv 1) (nomark _)))))) pss_nil)
        (pss_cons (ps_if (pt_val (pe_callB call_isi (by rfl) T.isinstance (by decide +kernel) (pa_cons (pv 1) (pa_cons (pe_bltn (v := .ty "str") (by rfl) T.str (by decide +kernel) rfl) pa_nil))))
          (pss_one (ps_ret (pe_and (pe_callB call_isi (by rfl) T.isinstance (by decide +kernel) (pa_cons (pv 0) (pa_cons (pe_bltn (v := .ty "str") (by rfl) T.str (by decide +kernel) rfl) pa_nil))) (pe_one (pe_cmpR op_eq (pv 0) (pv 1) (nomark _)))))) pss_nil)
        (pss_one (ps_ret (pe_and (pe_callB call_isi (by rfl) T.isinstance (by decide +kernel) (pa_cons (pv 0) (pa_cons (pe_bltn (v := .ty "int") (by rfl) T.int (by decide +kernel) rfl) pa_nil)))
          (pe_and (pe_not (pe_callB call_isi (by rfl) T.isinstance (by decide +kernel) (pa_cons (pv 0) (pa_cons (pe_bltn (v := .ty "bool") (by rfl) T.bool (by decide +kernel) rfl) pa_nil)))) (pe_one (pe_cmpR op_eq (pv 0) (pv 1) (nomark _)))))))))), ?_⟩
      refine ⟨_, rfl, (by show 2 ≤ sizeLine; decide), fun t ht => ?_⟩
      have sm1 : Same H (upd H t (.tup [.ty "list", .ty "tuple"])) := same_upd ht
      have hpair : Paired ClsV [V.ty "list", .ty "tuple"] [Value.type "list", .type "tuple"] := .cons (.ty _) (.cons (.ty _) .nil)
      have hx1 := dp_same sm1 hx
      have hy1 := dp_same sm1 hy
      have ht1 : (upd H t (.tup [.ty "list", .ty "tuple"])) t = some (.tup [.ty "list", .ty "tuple"]) := upd_same
      generalize upd H t (.tup [.ty "list", .ty "tuple"]) = H1 at sm1 hx1 hy1 ht1 ⊢
      cases hy1 with
      | non =>
        cases hx1
        refine ⟨_, t, _, _, _, false, rfl, ht1, hpair, .base .non, (by rfl), _, rfl, iteF ?_⟩
        refine ⟨_, rfl, rfl, _, rfl, ite2 (fun _ => ?_) (fun h => absurd (decide_eq_true rfl) h)⟩
        refine ⟨_, rfl, rfl, ?_⟩
        rw [decide_eq_true rfl]
        exact q _ sm1
      | bl b =>
        cases hx1
        refine ⟨_, t, _, _, _, false, rfl, ht1, hpair, .base (.bl b), (by rfl), _, rfl, iteF ?_⟩
        refine ⟨_, rfl, rfl, _, rfl, ite2 (fun h => absurd (of_decide_eq_true h) (by intro z; cases z)) (fun _ => ?_)⟩
        refine ⟨_, rfl, _, .ty _, _, _, true, rfl, .ty _, (.base (.bl b)), kit_ty (by decide +kernel), _, rfl, iteT ?_⟩
        refine ⟨_, rfl, _, .ty _, _, _, true, rfl, .ty _, (.base (.bl b)), kit_ty (by decide +kernel), _, rfl, ?_⟩
        refine iteT ⟨_, rfl, _, rfl, rfl, ?_⟩
        rw [decide_eq_true rfl]
        exact q _ sm1
      | int i =>
        cases hx1
        refine ⟨_, t, _, _, _, false, rfl, ht1, hpair, .base (.int i), (by rfl), _, rfl, iteF ?_⟩
        refine ⟨_, rfl, rfl, _, rfl, ite2 (fun h => absurd (of_decide_eq_true h) (by intro z; cases z)) (fun _ => ?_)⟩
        refine ⟨_, rfl, _, .ty _, _, _, false, rfl, .ty _, (.base (.int i)), kit_ty (by decide +kernel), _, rfl, iteF ?_⟩
        refine ⟨_, rfl, _, .ty _, _, _, false, rfl, .ty _, (.base (.int i)), kit_ty (by decide +kernel), _, rfl, iteF ?_⟩
        refine ⟨_, rfl, _, .ty _, _, _, true, rfl, .ty _, (.base (.int i)), kit_ty (by decide +kernel), _, rfl, iteT ?_⟩
        refine ⟨_, rfl, _, .ty _, _, _, false, rfl, .ty _, (.base (.int i)), kit_ty (by decide +kernel), _, rfl, _, rfl, ?_⟩
        refine iteT ⟨_, rfl, _, rfl, rfl, ?_⟩
        rw [decide_eq_true rfl]
        exact q _ sm1
      | str z =>
        cases hx1
        refine ⟨_, t, _, _, _, false, rfl, ht1, hpair, .base (.str z), (by rfl), _, rfl, iteF ?_⟩
        refine ⟨_, rfl, rfl, _, rfl, ite2 (fun h => absurd (of_decide_eq_true h) (by intro z; cases z)) (fun _ => ?_)⟩
        refine ⟨_, rfl, _, .ty _, _, _, false, rfl, .ty _, (.base (.str z)), kit_ty (by decide +kernel), _, rfl, iteF ?_⟩
        refine ⟨_, rfl, _, .ty _, _, _, true, rfl, .ty _, (.base (.str z)), kit_ty (by decide +kernel), _, rfl, iteT ?_⟩
        refine ⟨_, rfl, _, .ty _, _, _, true, rfl, .ty _, (.base (.str z)), kit_ty (by decide +kernel), _, rfl, ?_⟩
        refine iteT ⟨_, rfl, _, rfl, rfl, ?_⟩
        rw [decide_eq_true rfl]
        exact q _ sm1
      | @lst b ys ds hl ha =>
        cases hx1 with
        | @lst a xs _ hl' ha' =>
        have e1 : xs.length = ys.length := (dpAll_len ha').trans (dpAll_len ha).symm
        refine ⟨_, t, _, _, _, true, rfl, ht1, hpair, tyx_list hl, (by rfl), _, rfl, iteT ?_⟩
        refine ⟨_, rfl, _, .ty _, _, _, true, rfl, .ty _, (tyx_list hl'), kit_ty (by decide +kernel), _, rfl, _, .ty _, _, _, true, rfl, .ty _, (tyx_list hl), kit_ty (by decide +kernel), rfl, _, rfl, iteF ?_⟩
        refine ⟨_, rfl, _, .ty _, _, _, false, rfl, .ty _, (tyx_list hl'), kit_ty (by decide +kernel), _, rfl, _, .ty _, _, _, false, rfl, .ty _, (tyx_list hl), kit_ty (by decide +kernel), rfl, _, rfl, iteF ?_⟩
        refine ⟨_, rfl, _, xs.length, rfl, .inl ⟨xs, hl', rfl⟩, _, rfl, _, ys.length, rfl, .inl ⟨ys, hl, rfl⟩, rfl, _, rfl, ?_⟩
        rw [e1]
        refine ite2 (fun _ => ?_) (fun h => absurd (decide_eq_true rfl) h)
        refine ⟨_, rfl, _, rfl, a, b, xs, ys, rfl, .inl ⟨hl', hl, fun D hD => ?_⟩⟩
        refine lc_it (walk_zip (xs := xs) (ys := ys) (n := ys.length) (by rw [e1, Nat.min_self])) (fun i H2 => Same H1 H2 ∧ H1 D = none ∧ H2 D = some (.lst ((List.replicate i true).map V.bl))) ⟨same_upd hD, hD, upd_same⟩ (fun i H2 _ h => ⟨h.1.seq hl', h.1.seq hl⟩) ?_ ?_
        · rintro i v H2 H3 hi ⟨sm, nD, hL⟩ ⟨u, x1, y1, rfl, hu, rfl, gx, gy⟩
          have sm3 : Same H1 (upd H2 u (.tup [x1, y1])) := same_put sm (sm.free hu)
          obtain ⟨d1, g1, p1⟩ := dpAll_at ha' gx
          obtain ⟨d2, g2, p2⟩ := dpAll_at ha gy
          have ed : d1 = d2 := Option.some.inj (g1.symm.trans g2)
          subst ed
          refine ⟨u, _, rfl, .inl (.inl upd_same), rfl, _, _, rfl, _, _, rfl, rfl, rfl, tYes_at ?_⟩
          rw [if_pos rfl]
          refine ⟨_, rfl, _, rfl, x1, y1, d1, rfl, dp_same sm3 p1, dp_same sm3 p2, ?_, ?_, fun H4 s4 => ?_⟩
          · have h1 := depth_at g1
            have h2 : PyData.depthAll ds + 1 < k + 1 := hd
            omega
          · exact Nat.le_trans (wid_at g1) (Nat.le_trans (Nat.le_max_right _ _) hw)
          · have nuD : D ≠ u := ne_of_none hL hu
            refine ⟨_, s4 _ _ (by rw [upd_ne nuD]; exact hL), ?_, same_put (sm3.trans s4) nD, nD, ?_⟩
            · rw [List.length_map, List.length_replicate]
              exact Nat.lt_of_lt_of_le (dpAll_len ha ▸ hi) (Nat.le_trans (Nat.le_trans (Nat.le_max_left _ _) hw) (by decide))
            · rw [upd_same, List.replicate_succ', List.map_append]
              rfl
        · rintro H2 ⟨sm, nD, hL⟩
          refine ⟨D, _, rfl, SqL.of hL, ?_⟩
          have e : (List.replicate ys.length true).all id = true := by simp
          rw [e]
          exact q _ (sm1.trans sm)
      | @tup b ys ds hl ha =>
        cases hx1 with
        | @tup a xs _ hl' ha' =>
        have e1 : xs.length = ys.length := (dpAll_len ha').trans (dpAll_len ha).symm
        refine ⟨_, t, _, _, _, true, rfl, ht1, hpair, tyx_tup hl, (by rfl), _, rfl, iteT ?_⟩
        refine ⟨_, rfl, _, .ty _, _, _, false, rfl, .ty _, (tyx_tup hl'), kit_ty (by decide +kernel), _, rfl, _, .ty _, _, _, false, rfl, .ty _, (tyx_tup hl), kit_ty (by decide +kernel), rfl, _, rfl, iteF ?_⟩
        refine ⟨_, rfl, _, .ty _, _, _, true, rfl, .ty _, (tyx_tup hl'), kit_ty (by decide +kernel), _, rfl, _, .ty _, _, _, true, rfl, .ty _, (tyx_tup hl), kit_ty (by decide +kernel), rfl, _, rfl, iteF ?_⟩
        refine ⟨_, rfl, _, xs.length, rfl, .inr ⟨xs, hl', rfl⟩, _, rfl, _, ys.length, rfl, .inr ⟨ys, hl, rfl⟩, rfl, _, rfl, ?_⟩
        rw [e1]
        refine ite2 (fun _ => ?_) (fun h => absurd (decide_eq_true rfl) h)
        refine ⟨_, rfl, _, rfl, a, b, xs, ys, rfl, .inr ⟨hl', hl, fun D hD => ?_⟩⟩
        refine lc_it (walk_zipT (xs := xs) (ys := ys) (n := ys.length) (by rw [e1, Nat.min_self])) (fun i H2 => Same H1 H2 ∧ H1 D = none ∧ H2 D = some (.lst ((List.replicate i true).map V.bl))) ⟨same_upd hD, hD, upd_same⟩ (fun i H2 _ h => ⟨same_tup h.1 hl', same_tup h.1 hl⟩) ?_ ?_
        · rintro i v H2 H3 hi ⟨sm, nD, hL⟩ ⟨u, x1, y1, rfl, hu, rfl, gx, gy⟩
          have sm3 : Same H1 (upd H2 u (.tup [x1, y1])) := same_put sm (sm.free hu)
          obtain ⟨d1, g1, p1⟩ := dpAll_at ha' gx
          obtain ⟨d2, g2, p2⟩ := dpAll_at ha gy
          have ed : d1 = d2 := Option.some.inj (g1.symm.trans g2)
          subst ed
          refine ⟨u, _, rfl, .inl (.inl upd_same), rfl, _, _, rfl, _, _, rfl, rfl, rfl, tYes_at ?_⟩
          rw [if_pos rfl]
          refine ⟨_, rfl, _, rfl, x1, y1, d1, rfl, dp_same sm3 p1, dp_same sm3 p2, ?_, ?_, fun H4 s4 => ?_⟩
          · have h1 := depth_at g1
            have h2 : PyData.depthAll ds + 1 < k + 1 := hd
            omega
          · exact Nat.le_trans (wid_at g1) (Nat.le_trans (Nat.le_max_right _ _) hw)
          · have nuD : D ≠ u := ne_of_none hL hu
            refine ⟨_, s4 _ _ (by rw [upd_ne nuD]; exact hL), ?_, same_put (sm3.trans s4) nD, nD, ?_⟩
            · rw [List.length_map, List.length_replicate]
              exact Nat.lt_of_lt_of_le (dpAll_len ha ▸ hi) (Nat.le_trans (Nat.le_trans (Nat.le_max_left _ _) hw) (by decide))
            · rw [upd_same, List.replicate_succ', List.map_append]
              rfl
        · rintro H2 ⟨sm, nD, hL⟩
          refine ⟨D, _, rfl, SqL.of hL, ?_⟩
          have e : (List.replicate ys.length true).all id = true := by simp
          rw [e]
          exact q _ (sm1.trans sm)

end
end Pot

namespace Pot
open PySem PySem.Spec PyProof.Rows L2
abbrev sTallyOf : Stmt := topS 9
abbrev sTallyHours : Stmt := topS 10
abbrev sWritten : Stmt := topS 11
abbrev sBits : Stmt := topS 12
/-- what the module's names hold -/
structure Txt4 (mg : Str → Option Value) : Prop extends Txt mg where
  day : ∃ t, mg "DAY" = some (.int 24 t)
  signs : ∃ t, mg "SIGNS" = some (.str "0123456789abcdef" t)
/-- what stands of the refusals: HallError at cH, BadTally at C -/
structure Exc4 (K : PySem.W.Frag) (mg : Str → Option Value) (C cH : Addr) : Prop where
  gC : mg "BadTally" = some (.ref C)
  gH : mg "HallError" = some (.ref cH)
  xC : PySem.W.excIn K C [.type "ValueError", .type "Exception", .type "BaseException", .type "object"] "ValueError.__new__" = true
  kC : PySem.W.keepIn K (.ref C) = true
  bC : PySem.W.subIn K (.ref C) (.type "BaseException") = some true
  tC : PySem.W.typeIn K (.ref C) = some (.type "type")
  te : PySem.W.exmOne K (.ref C) (.ref cH) = some true
/-! ### texts that are tallies -/
def signs16 : List Nat := [48, 49, 50, 51, 52, 53, 54, 55, 56, 57, 97, 98, 99, 100, 101, 102]
theorem signs_cps : (Str.ofString "0123456789abcdef").cps.toList = signs16 := by decide +kernel
theorem txt_signs (p : Nat → Bool) : ∀ c ∈ txt p, c ∈ signs16 := by
  have h : ∀ d, d < 16 → hexc d ∈ signs16 := by unfold signs16; decide
  intro c hc
  simp only [txt, List.mem_cons, List.not_mem_nil, or_false] at hc
  rcases hc with rfl | rfl | rfl | rfl | rfl | rfl <;> exact h _ (sgn_lt p _)
theorem sign_dig : ∀ c ∈ signs16, ∃ d, d < 16 ∧ c = hexc d := by unfold signs16; decide
/-- the hours of six digits -/
def digP (ds : List Nat) (h : Nat) : Bool := decide (ds.getD (h / 4) 0 / 2 ^ (h % 4) % 2 = 1)
theorem sgn_dig {ds : List Nat} {i : Nat} (h : ds.getD i 0 < 16) : sgn (digP ds) i = ds.getD i 0 := by
  have e : ∀ j, j < 4 → (4 * i + j) / 4 = i ∧ (4 * i + j) % 4 = j := fun j hj => by omega
  have g : ∀ j, j < 4 → digP ds (4 * i + j) = decide (ds.getD i 0 / 2 ^ j % 2 = 1) := fun j hj => by
    unfold digP; rw [(e j hj).1, (e j hj).2]
  have g0 := g 0 (by decide)
  rw [Nat.add_zero] at g0
  unfold sgn
  rw [g0, g 1 (by decide), g 2 (by decide), g 3 (by decide)]
  generalize ds.getD i 0 = d at h ⊢
  have key : ∀ d, d < 16 → b2 (decide (d / 2 ^ 0 % 2 = 1)) + 2 * b2 (decide (d / 2 ^ 1 % 2 = 1)) + 4 * b2 (decide (d / 2 ^ 2 % 2 = 1)) + 8 * b2 (decide (d / 2 ^ 3 % 2 = 1)) = d := by unfold b2; decide
  exact key d h
theorem tal_txt : ∀ {l : List Nat}, l.length = 6 → (∀ c ∈ l, c ∈ signs16) → ∃ p, l = txt p
  | [c5, c4, c3, c2, c1, c0], _, h => by
    obtain ⟨d5, l5, rfl⟩ := sign_dig c5 (h _ (by simp))
    obtain ⟨d4, l4, rfl⟩ := sign_dig c4 (h _ (by simp))
    obtain ⟨d3, l3, rfl⟩ := sign_dig c3 (h _ (by simp))
    obtain ⟨d2, l2, rfl⟩ := sign_dig c2 (h _ (by simp))
    obtain ⟨d1, l1, rfl⟩ := sign_dig c1 (h _ (by simp))
    obtain ⟨d0, l0, rfl⟩ := sign_dig c0 (h _ (by simp))
    refine ⟨digP [d0, d1, d2, d3, d4, d5], ?_⟩
    have g := @sgn_dig [d0, d1, d2, d3, d4, d5]
    unfold txt
    rw [g (i := 5) l5, g (i := 4) l4, g (i := 3) l3, g (i := 2) l2, g (i := 1) l1, g (i := 0) l0]
    rfl
theorem not_tal {l : List Nat} (h : ¬ (l.length = 6 ∧ ∀ c ∈ l, c ∈ signs16)) : ∀ p, l ≠ txt p := fun p e => h (e ▸ ⟨rfl, txt_signs p⟩)
section
variable {P : Program} {w : World} {K : PySem.W.Frag} {mg : Str → Option Value} {base : Heap}
/-! ### written -/
def spWritten : Sp := fun vs H Q _ => ∃ (p : Nat → Bool) (N : Nat), vs = [.int N] ∧ N = bitsP p ∧ Q (.str (SX.S (txt p))) H
theorem scWritten : FnScope ["bits"] ["bits"] (defScope sWritten) := ⟨rfl, rfl, rfl, by decide +kernel, rfl, by decide +kernel, by decide +kernel⟩
theorem ok_written {f : Addr} {fd : FuncData} {k : Nat} (F : Fun K "written" "written" sWritten f fd) : FnOk P w K mg base CX0 (k + 1) f fd ["bits"] spWritten := by
  refine F.ok scWritten (fun vs H Q E h => ?_) (fun cdv A outer s H vs Q E hr h => ?_)
  · obtain ⟨p, N, rfl, _⟩ := h
    rfl
  · obtain ⟨p, N, rfl, eN, q⟩ := h
    refine ⟨_, pss_one (ps_ret (pe_hex6 (pv 0))), ?_⟩
    refine ⟨_, rfl, _, rfl, Int.natCast_nonneg _, (by have := bitsP_lt p; omega), ?_⟩
    rw [Int.toNat_natCast, eN, hex6_bits]
    exact q
/-! ### tally_of -/
def spTallyOf (K : PySem.W.Frag) : Sp := fun vs H Q _ => ∃ (a : Addr) (ns : List Int), vs = [.ref a] ∧ SqL K H a (ns.map V.int) ∧ ∀ H', Same H H' → Q (.str (SX.S (txt (memP ns)))) H'
theorem scTallyOf : FnScope ["hours", "hour"] ["hours"] (defScope sTallyOf) := ⟨rfl, rfl, rfl, by decide +kernel, rfl, by decide +kernel, by decide +kernel⟩
theorem ok_tallyOf {f fW : Addr} {fd fdW : FuncData} {k : Nat} (F : Fun K "tally_of" "tally_of" sTallyOf f fd) (T : Txt4 mg) (FW : Fun K "written" "written" sWritten fW fdW) (bW : Binds K fdW ["bits"] []) (gW : mg "written" = some (.ref fW)) :
    FnOk P w K mg base CX0 (k + 2) f fd ["hours"] (spTallyOf K) := by
  have GW : FnOk P w K mg base CX0 (k + 1) fW fdW ["bits"] spWritten := ok_written FW
  obtain ⟨tD, hD⟩ := T.day
  refine F.ok scTallyOf (fun vs H Q E h => ?_) (fun cdv A outer s H vs Q E hr h => ?_)
  · obtain ⟨a, ns, rfl, _⟩ := h
    rfl
  · obtain ⟨a, ns, rfl, hS, q⟩ := h
    refine ⟨_, pss_one (ps_ret (pe_call GW hr (by rfl) gW FW.kp bW .nil pass0 (pa_cons (pe_callB (cr_sum rfl) (by rfl) T.sum (by decide +kernel) (pa_cons
      (pe_lc (own := [("hour", 1)]) (g := gName 1) (tt := tTest (tOp (rIn K false) (tVar 1) (tVar 0))) rfl scTallyOf.nd (pi_range1 (by rfl) T.range (pa_cons (pe_glob (v := .int 24) (by rfl) hD ⟨tD, rfl⟩) pa_nil)) (blkOk_by (N := ["hours", "hour"]) (sc := defScope sTallyOf) (by decide +kernel))
        (fun _ _ _ _ _ => pg_name (i := 1) scTallyOf.nd rfl (.inl rfl)) (fun _ _ _ _ _ => pts_one (pt_cmpR op_in_seq (pv 1) (pv 0) rfl)) (fun _ _ _ _ _ => pe_op op_shl pe_int (pv 1)))
      pa_nil)) pa_nil))), ?_⟩
    refine ⟨_, rfl, (by decide), (by decide), fun D hD => ?_⟩
    refine lc_it walk_range (fun i H2 => Same H H2 ∧ H2 D = some (.lst ((((List.range i).filter (memP ns)).map fun h => V.int (2 ^ h))))) ⟨same_upd hD, upd_same⟩ (fun _ _ _ _ => trivial) ?_ ?_
    · rintro i x H2 H3 hi ⟨sm, hL⟩ ⟨rfl, rfl⟩
      refine ⟨rfl, _, rfl, _, rfl, a, _, rfl, .inl (sm.seq hS), rfl, flat_ints ns, _, rfl, ?_⟩
      have eb : inV (V.int (0 + (i : Int))) (ns.map V.int) = memP ns i := by rw [Int.zero_add, inV_ints]; rfl
      show if inV (V.int (0 + (i : Int))) (ns.map V.int) = true then _ else _
      rw [eb]
      have er : (List.range (i + 1)).filter (memP ns) = (List.range i).filter (memP ns) ++ if memP ns i = true then [i] else [] := by
        rw [List.range_succ, List.filter_append]
        cases hp : memP ns i <;> simp [hp]
      rw [er]
      cases hp : memP ns i with
      | true =>
        rw [if_pos rfl]
        refine ⟨_, rfl, 1, 0 + (i : Int), rfl, rfl, ⟨by omega, by omega, by decide⟩, _, hL, ?_, same_put sm hD, ?_⟩
        · rw [List.length_map]
          refine Nat.lt_of_le_of_lt (List.length_filter_le ..) ?_
          rw [List.length_range]
          exact Nat.lt_trans hi (by decide)
        · rw [upd_same]
          simp
      | false =>
        rw [if_neg Bool.false_ne_true]
        simp only [Bool.false_eq_true, if_false, List.append_nil]
        exact ⟨sm, hL⟩
    · rintro H2 ⟨sm, hL⟩
      refine ⟨D, ((List.range 24).filter (memP ns)).map fun h => (2 : Int) ^ h, rfl, .inl (.inl ?_), memP ns, bitsW (memP ns) 24, ?_, rfl, q _ sm⟩
      · rw [hL, List.map_map]
        rfl
      · rw [sum_bits]
        rfl
/-! ### bits_of -/
def spBits (C : Addr) : Sp := fun vs H Q E => ∃ (l : List Nat), vs = [.str (SX.S l)] ∧ l.length ≤ 1000 ∧ (∀ p, l = txt p → ∀ H' (N : Nat), N = bitsP p → Same H H' → Q (.int N) H') ∧ ((∀ p, l ≠ txt p) → ∀ H', Same H H' → E (.ref C) none H')
theorem scBits : FnScope ["text", "sign"] ["text"] (defScope sBits) := ⟨rfl, rfl, rfl, by decide +kernel, rfl, by decide +kernel, by decide +kernel⟩
theorem ok_bits {f C cH : Addr} {fd : FuncData} {k : Nat} (F : Fun K "bits_of" "bits_of" sBits f fd) (T : Txt4 mg) (X4 : Exc4 K mg C cH) : FnOk P w K mg base (L2.CX P w) (k + 1) f fd ["text"] (spBits C) := by
  obtain ⟨tS, hG⟩ := T.signs
  refine F.okX scBits (fun vs H Q E h => ?_) (fun cdv A outer s H vs Q E hr h => ?_)
  · obtain ⟨l, rfl, _⟩ := h
    rfl
  · obtain ⟨l, rfl, hl, q, qe⟩ := h
    refine ⟨_, pss_cons (ps_if (pt_not (pw_and (pt_val (pe_callB call_isi (by rfl) T.isinstance (by decide +kernel) (pa_cons (pv 0) (pa_cons (pe_bltn (v := .ty "str") (by rfl) T.str (by decide +kernel) rfl) pa_nil))))
        (pw_and (pt_cmpR op_eq (pe_callB call_len (by rfl) T.len PySem.boot_len (pa_cons (pv 0) pa_nil)) pe_int (nomark _))
        (pw_and1 (pt_val (pe_callB (cr_all rfl) (by rfl) T.all (by decide +kernel) (pa_cons
          (pe_lc (own := [("sign", 1)]) (g := gName 1) (tt := tYes) rfl scBits.nd (pi_str (pv 0)) (blkOk_by (N := ["text", "sign"]) (sc := defScope sBits) (by decide +kernel))
            (fun _ _ _ _ _ => pg_name (i := 1) scBits.nd rfl (.inl rfl)) (fun _ _ _ _ _ => pts_nil) (fun _ _ _ _ _ => pe_cmpR op_in_sign (pv 1) (pe_glob (v := .str "0123456789abcdef") (by rfl) hG ⟨tS, rfl⟩) rfl)) pa_nil)))))).pt)
        (pss_one (ps_raise rfl (takes_of rfl rfl rfl rfl) (SkE.pmk_own1 PySem.F.excBase_ValueError X4.xC X4.gC X4.kC (raises_own X4.bC X4.tC) (by exact rfl)
          (pe_joined (.cons pe_str (.cons (pe_fmt (pe_glob (v := .str "0123456789abcdef") (by rfl) hG ⟨tS, rfl⟩)) .nil)))))) pss_nil)
      (pss_one (ps_ret (pe_callTy call_int_hex (by rfl) T.int (by decide +kernel) (pa_cons (pv 0) (pa_cons pe_int pa_nil))))), ?_⟩
    have out : ∀ H2, Same H H2 → (∀ p, l ≠ txt p) → E (.ref C) none H2 := fun H2 sm z => qe z H2 sm
    refine ⟨_, rfl, _, .ty "str", _, _, true, rfl, .ty "str", .base (.str _), kit_ty (by decide +kernel), _, rfl, ?_⟩
    refine iteT ?_
    refine ⟨_, rfl, _, l.length, rfl, ⟨by rw [SX.S_len]; exact Nat.le_trans hl (by decide), by rw [SX.S_len]⟩, rfl, _, rfl, ?_⟩
    have say : ∀ H2, Same H H2 → (∀ p, l ≠ txt p) → tJs [tC (V.str (Str.ofString "a tally is six signs of ")), tFmt (tC (V.str (Str.ofString "0123456789abcdef")))] Str.empty (L2.start ["text", "sign"] [V.str (SX.S l)]) H2 (fun _ H1 => E (.ref C) none H1) := fun H2 sm z =>
      ⟨_, rfl, (by decide +kernel), .inl ⟨_, rfl, (by decide +kernel), _, rfl, (by decide +kernel), out H2 sm z⟩⟩
    refine ite2 (fun hb => ?_) (fun hb => ?_)
    · have h6 : l.length = 6 := by
        have h6 := V.int.inj (of_decide_eq_true hb)
        omega
      refine ⟨_, rfl, _, rfl, fun D hD => ?_⟩
      have sz : (SX.S l).cps.size = 6 := h6
      have hm : ∀ {i c}, l[i]? = some c → (l.map (fun c => decide (c ∈ signs16))).take (i + 1) = (l.map (fun c => decide (c ∈ signs16))).take i ++ [decide (c ∈ signs16)] := fun {i c} hc => by
        rw [List.take_add_one, List.getElem?_map, hc]; rfl
      refine lc_it (n := 6) (sz ▸ walk_str) (fun i H2 => Same H H2 ∧ H2 D = some (.lst (((l.map (fun c => decide (c ∈ signs16))).take i).map V.bl))) ⟨same_upd hD, upd_same⟩ (fun _ _ _ _ => trivial) ?_ ?_
      · rintro i x H2 H3 hi ⟨sm, hL⟩ ⟨rfl, c, hc, rfl⟩
        refine ⟨rfl, tYes_at ?_⟩
        rw [if_pos rfl]
        refine ⟨_, rfl, c, _, rfl, rfl, ?_⟩
        have hc' : l[i]? = some c := by
          have h2 : l.toArray[i]? = some c := hc
          rw [List.getElem?_toArray] at h2
          exact h2
        refine ⟨_, hL, ?_, same_put sm hD, ?_⟩
        · rw [List.length_map]; exact Nat.lt_of_le_of_lt (List.length_take_le _ _) (Nat.lt_trans hi (by decide))
        · rw [upd_same, hm hc', List.map_append, signs_cps]
          rfl
      · rintro H2 ⟨sm, hL⟩
        rw [List.take_of_length_le (by rw [List.length_map, h6]; decide)] at hL
        refine ⟨D, _, rfl, .inl (.inl hL), _, rfl, ?_⟩
        by_cases hs : ∀ c ∈ l, c ∈ signs16
        · have ea : ((l.map (fun c => decide (c ∈ signs16))).all id) = true := by
            rw [List.all_map, List.all_eq_true]
            intro c hc
            exact decide_eq_true (hs c hc)
          rw [ea]
          refine iteF ?_
          obtain ⟨p, rfl⟩ := tal_txt h6 hs
          refine ⟨_, rfl, txt p, rfl, (by intro z; cases z), (by show 6 ≤ 640; decide), txt_hex p, ?_⟩
          exact q p rfl _ _ (txt_num p) sm
        · have ea : ((l.map (fun c => decide (c ∈ signs16))).all id) = false := by
            cases e : (l.map (fun c => decide (c ∈ signs16))).all id with
            | false => rfl
            | true =>
              rw [List.all_map, List.all_eq_true] at e
              exact absurd (fun c hc => of_decide_eq_true (e c hc)) hs
          rw [ea]
          refine iteT ?_
          exact say H2 sm (not_tal fun z => hs z.2)
    · refine iteT ?_
      exact say H (Same.refl H) (not_tal fun z => hb (by rw [z.1]; rfl))
/-! ### tally_hours -/
def hoursP (p : Nat → Bool) (w : Nat) : List Int := ((List.range w).filter p).map fun (h : Nat) => (h : Int)
theorem hoursP_succ (p : Nat → Bool) (i : Nat) : hoursP p (i + 1) = hoursP p i ++ if p i = true then [(i : Int)] else [] := by
  unfold hoursP
  rw [List.range_succ, List.filter_append, List.map_append]
  cases hp : p i <;> simp [hp]
theorem hoursP_len (p : Nat → Bool) (w : Nat) : (hoursP p w).length ≤ w := by
  unfold hoursP
  rw [List.length_map]
  have h := List.length_filter_le p (List.range w)
  rw [List.length_range] at h
  exact h
/-- the truth of bits >> hour & 1 -/
def tOdd (K : PySem.W.Frag) (i j : Nat) : TT := fun σ H Q => tOp (fun x y H Q => ∃ n : Nat, x = .int (n : Int) ∧ y = .int 1 ∧ Q (.int ((n % 2 : Nat) : Int)) H) (tOp (fun x y H Q => ∃ (i : Int) (k : Nat), x = .int i ∧ y = .int (k : Int) ∧ Q (.int (i / 2 ^ k)) H) (tVar i) (tVar j)) (tC (.int 1)) σ H fun x H' => ∃ k, TruV K x H' k ∧ Q k H'
def spTallyHours (C : Addr) : Sp := fun vs H Q E => ∃ (l : List Nat), vs = [.str (SX.S l)] ∧ l.length ≤ 1000 ∧ (∀ p, l = txt p → ∀ H' D, Same H H' → H D = none → H' D = some (.lst ((hoursP p 24).map V.int)) → Q (.ref D) H') ∧ ((∀ p, l ≠ txt p) → ∀ H', Same H H' → E (.ref C) none H')
theorem scTallyHours : FnScope ["text", "bits", "hour"] ["text"] (defScope sTallyHours) := ⟨rfl, rfl, rfl, by decide +kernel, rfl, by decide +kernel, by decide +kernel⟩
theorem ok_tallyHours {f fB C cH : Addr} {fd fdB : FuncData} {k : Nat} (F : Fun K "tally_hours" "tally_hours" sTallyHours f fd) (T : Txt4 mg) (X4 : Exc4 K mg C cH) (FB : Fun K "bits_of" "bits_of" sBits fB fdB) (bB : Binds K fdB ["text"] []) (gB : mg "bits_of" = some (.ref fB)) :
    FnOk P w K mg base (L2.CX P w) (k + 2) f fd ["text"] (spTallyHours C) := by
  have GB : FnOk P w K mg base (L2.CX P w) (k + 1) fB fdB ["text"] (spBits C) := ok_bits FB T X4
  obtain ⟨tD, hDay⟩ := T.day
  refine F.okX scTallyHours (fun vs H Q E h => ?_) (fun cdv A outer s H vs Q E hr h => ?_)
  · obtain ⟨p, rfl, _⟩ := h
    rfl
  · obtain ⟨l, rfl, hl, q, qe⟩ := h
    refine ⟨_, pss_cons (ps_set (i := 1) scTallyHours.nd rfl (.inr rfl) (pe_callS GB hr (by rfl) gB FB.kp bB (fun σ => passAt (takes_of rfl rfl rfl rfl) σ) (pa_cons (pv 0) pa_nil)))
      (pss_one (ps_ret (pe_lc (own := [("hour", 2)]) (g := gName 2) rfl scTallyHours.nd (pi_range1 (by rfl) T.range (pa_cons (pe_glob (v := .int 24) (by rfl) hDay ⟨tD, rfl⟩) pa_nil)) (blkOk_by (N := ["text", "bits", "hour"]) (sc := defScope sTallyHours) (by decide +kernel))
        (fun _ _ _ _ _ => pg_name (i := 2) scTallyHours.nd rfl (.inl rfl)) (tt := tOdd K 1 2)
        (fun _ _ _ _ _ => pts_one (pt_truth (pe_op op_odd (pe_op op_shrN (pv 1) (pv 2)) pe_int) (by intro _; rfl))) (fun _ _ _ _ _ => pv 2)))), ?_⟩
    refine ⟨_, rfl, l, rfl, hl, fun p el H1 N eN sm1 => ?_, fun z H1 sm1 => qe z H1 sm1⟩
    subst el
    refine ⟨_, rfl, (by decide), (by decide), fun D hD => ?_⟩
    refine lc_it walk_range (fun i H2 => Same H H2 ∧ H2 D = some (.lst ((hoursP p i).map V.int))) ⟨sm1.trans (same_upd hD), upd_same⟩ (fun _ _ _ _ => trivial) ?_ ?_
    · rintro i x H2 H3 hi ⟨sm, hL⟩ ⟨rfl, rfl⟩
      refine ⟨rfl, _, rfl, _, rfl, _, i, rfl, (by show V.int (0 + (i : Int)) = _; rw [Int.zero_add]), N / 2 ^ i, (by rw [Int.natCast_ediv, Int.natCast_pow]; rfl), rfl, ?_⟩
      have hi' : i < 24 := hi
      rw [eN, bitsP_bit p hi']
      refine ⟨p i, ?_, ?_⟩
      · unfold b2; cases p i <;> rfl
      · rw [hoursP_succ]
        cases hp : p i with
        | true =>
          rw [if_pos rfl]
          refine ⟨_, rfl, _, hL, ?_, same_put sm (sm1.free hD), ?_⟩
          · rw [List.length_map]; exact Nat.lt_of_le_of_lt (hoursP_len p i) (Nat.lt_trans hi' (by decide))
          · rw [upd_same, if_pos rfl, List.map_append]
            show some (HO.lst (_ ++ [V.int (0 + (i : Int))])) = _
            rw [Int.zero_add]
            rfl
        | false =>
          rw [if_neg Bool.false_ne_true, if_neg Bool.false_ne_true, List.append_nil]
          exact ⟨sm, hL⟩
    · rintro H2 ⟨sm, hL⟩
      exact q p rfl _ _ sm (sm1.free hD) hL
end
end Pot

namespace Pot
open PySem PySem.Spec PyProof.Rows L2
abbrev sTold : Stmt := topS 22
/-- the other refusals, and what isinstance says of a BadTally -/
structure Oth4 (K : PySem.W.Frag) (mg : Str → Option Value) (C cR cF cN : Addr) : Prop where
  gR : mg "BadRow" = some (.ref cR)
  gF : mg "Full" = some (.ref cF)
  gN : mg "Never" = some (.ref cN)
  gV : mg "ValueError" = none
  ex : ExcC K C
  o1 : PySem.W.kitAny K (.ref C) [.ref cR, .ref cF, .ref cN] = some false
  o2 : PySem.W.kitOne K (.ref C) (.type "ValueError") = some true
  o3 : PySem.W.kitOne K (.ref C) (.ref C) = some true
section
variable {P : Program} {w : World} {K : PySem.W.Frag} {mg : Str → Option Value} {base : Heap}
def spTold : Sp := fun vs H Q _ => ∃ (l : List Nat), vs = [.str (SX.S l)] ∧ l.length ≤ 1000 ∧ (∀ p, l = txt p → ∀ H' D, Same H H' → H D = none → H' D = some (.lst ((hoursP p 24).map V.int)) → Q (.ref D) H') ∧ ((∀ p, l ≠ txt p) → ∀ H', Same H H' → Q .non H')
def nTold : List Str := ["_law_text_here", "_law_found", "_law_caught", "error", "_law_others"]
theorem scTold : FnScope nTold ["_law_text_here"] (defScope sTold) := ⟨rfl, rfl, rfl, by decide +kernel, rfl, by decide +kernel, by decide +kernel⟩
theorem ok_told {f fT C cH cR cF cN : Addr} {fd fdT : FuncData} {k : Nat} (F : Fun K "_law_told" "_law_told" sTold f fd) (T : Txt4 mg) (X4 : Exc4 K mg C cH) (O : Oth4 K mg C cR cF cN)
    (GT : FnOk P w K mg base (L2.CX P w) k fT fdT ["text"] (spTallyHours C)) (FT : Fun K "tally_hours" "tally_hours" sTallyHours fT fdT) (bT : Binds K fdT ["text"] []) (gT : mg "tally_hours" = some (.ref fT)) :
    FnOk P w K mg base CX0 (k + 1) f fd ["_law_text_here"] spTold := by
  have nd := scTold.nd
  refine F.ok scTold (fun vs H Q E h => ?_) (fun cdv A outer s H vs Q E hr h => ?_)
  · obtain ⟨l, rfl, _⟩ := h
    rfl
  · obtain ⟨l, rfl, hl, q, qe⟩ := h
    refine ⟨_, pss_cons (ps_asg (pe_tup (pa_cons pe_non (pa_cons pe_non pa_nil))) (kg_tup (K := K) (n := 2) (pgs_cons (pg_name (i := 1) nd rfl (.inl rfl)) (pgs_cons (pg_name (i := 2) nd rfl (.inl rfl)) pgs_nil))))
      (pss_cons (ps_try_keep (i := 3) (tb := fun W => tAsg (tCallS (spTallyHours C) (WE W) (tCons (tVar 0) tNil)) (gName 1)) (ts := fun _ => tAsg (tVar 3) (gName 2)) rfl rfl rfl nd rfl rfl ⟨rfl, by decide, .inl X4.gH⟩
          (fun W pn xe tk _ => pss_one (ps_set (i := 1) nd rfl (.inl rfl) (pe_callS GT hr (by rfl) gT FT.kp bT (fun σ => passAt tk σ) (pa_cons (pv 0) pa_nil))))
          (fun a pn => pss_one (ps_set (i := 2) nd rfl (.inl rfl) (pv 3))))
      (pss_cons (ps_if (pt_cmpR op_isN (pv 2) pe_non (nomark _)) (pss_one (ps_ret (pv 1))) pss_nil)
      (pss_cons (ps_set (i := 4) nd rfl (.inl rfl) (pe_or (pe_callB (kc_isKT (K := K)) (by rfl) T.isinstance (by decide +kernel) (pa_cons (pv 2) (pa_cons (pe_tup (pa_cons (pe_glob (v := .ref cR) (by rfl) O.gR rfl) (pa_cons (pe_glob (v := .ref cF) (by rfl) O.gF rfl) (pa_cons (pe_glob (v := .ref cN) (by rfl) O.gN rfl) pa_nil)))) pa_nil)))
          (pe_one (pe_not (pe_callB (kc_isK (K := K)) (by rfl) T.isinstance (by decide +kernel) (pa_cons (pv 2) (pa_cons (pe_bltn (v := .ty "ValueError") (by rfl) O.gV (by decide +kernel) rfl) pa_nil)))))))
      (pss_one (ps_ret (pe_ifExp (pw_and (pt_val (pe_callB (kc_isK (K := K)) (by rfl) T.isinstance (by decide +kernel) (pa_cons (pv 2) (pa_cons (pe_glob (v := .ref C) (by rfl) X4.gC rfl) pa_nil)))) (pw_and1 (pt_not (pt_val (pv 4))))).pt pe_non pe_str)))))), ?_⟩
    refine ⟨(by decide), fun z0 hz0 => ⟨z0, _, rfl, .inl (.inl upd_same), rfl, _, _, rfl, _, _, rfl, rfl, ?_⟩⟩
    have sm0 : Same H (upd H z0 (.tup [.non, .non])) := same_upd hz0
    refine ⟨_, rfl, l, rfl, hl, fun p el H1 D sm1 hD hL => ?_, fun z H1 sm1 => ⟨X4.te, fun a ha => ?_⟩⟩
    · refine ⟨_, rfl, rfl, _, rfl, ?_⟩
      refine iteT ?_
      refine ⟨_, rfl, ?_⟩
      exact q p el H1 D (sm0.trans sm1) (sm0.free hD) hL
    · have hA : (upd H1 a (CauO (.ref C) none a)) a = some (CauO (.ref C) none a) := upd_same
      have sm2 : Same H (upd H1 a (CauO (.ref C) none a)) := (sm0.trans sm1).trans (same_upd ha)
      refine ⟨_, rfl, ?_⟩
      refine ⟨_, rfl, rfl, _, rfl, ?_⟩
      refine iteF ?_
      show tSeq _ _ _ _ (upd H1 a (CauO (.ref C) none a))
      generalize upd H1 a (CauO (.ref C) none a) = H2 at hA sm2 ⊢
      refine ⟨_, rfl, (by show 3 ≤ sizeLine; decide), fun t ht => ⟨a, C, t, _, _, false, rfl, same_upd ht a _ hA, O.ex, upd_same, .cons (.own cR) (.cons (.own cF) (.cons (.own cN) .nil)), O.o1, _, rfl, ?_⟩⟩
      have sm3 : Same H (upd H2 t (.tup [.ref cR, .ref cF, .ref cN])) := sm2.trans (same_upd ht)
      have hA3 := same_upd (o := .tup [.ref cR, .ref cF, .ref cN]) ht a _ hA
      generalize upd H2 t (.tup [.ref cR, .ref cF, .ref cN]) = H3 at sm3 hA3 ⊢
      refine iteF ?_
      refine ⟨_, rfl, a, C, _, _, true, rfl, hA3, O.ex, .ty "ValueError", O.o2, _, rfl, ?_⟩
      refine ⟨_, rfl, a, C, _, _, true, rfl, hA3, O.ex, .own C, O.o3, _, rfl, ?_⟩
      refine iteT ?_
      refine ⟨_, rfl, _, rfl, ?_⟩
      refine iteT ?_
      exact qe z H3 sm3
end
end Pot

namespace Pot
open PySem PySem.Spec PyProof.Rows L2
section
variable {P : Program} {w : World} {K : PySem.W.Frag} {mg : Str → Option Value} {base : Heap}
/-! ### _law_some, of a text -/
abbrev s__law_some : Stmt := topS 16
def n__law_some : List Str := ["_law_state", "_law_things"]
theorem sc__law_some : FnScope n__law_some ["_law_state", "_law_things"] (defScope s__law_some) := ⟨rfl, rfl, rfl, by decide +kernel, rfl, by decide +kernel, by decide +kernel⟩
def spSomeT : Sp := fun vs H Q _ => ∃ (d c : Addr) (n : Nat) (z : Str), vs = [.ref d, .str z] ∧ StAt H d c n ∧ n < 2 ^ 40 ∧ 0 < z.length ∧ z.length ≤ 1000 ∧
  ∀ H' x, StAt H' d c (n + 1) → Kp d c H H' → Q (.str ⟨#[x]⟩) H'
theorem ok_some {f : Addr} {fd : FuncData} {k : Nat} (F : Fun K "_law_some" "_law_some" s__law_some f fd) (T : Txt mg) (c__law_take : Cl P w K mg base (k + 1) "_law_take" spTake) : FnOk P w K mg base CX0 (k + 2) f fd ["_law_state", "_law_things"] spSomeT := by
  refine F.ok sc__law_some (fun vs H Q E h => ?_) (fun cdv A outer s H vs Q E hr h => ?_)
  · obtain ⟨d, c, n, z, rfl, _⟩ := h
    rfl
  · obtain ⟨d, c, n, z, rfl, hS, hn, h0, h1000, q⟩ := h
    have nd := sc__law_some.nd
    refine ⟨_, (pss_one (ps_ret (pe_ix ix_str (pv 1) (pe_cl c__law_take hr (by omega) (by rfl) (pa_cons (pv 0) (pa_cons (pe_callB (kc_len (K := K)) (by rfl) T.len PySem.boot_len (pa_cons (pv 1) pa_nil)) pa_nil))) (fun _ _ => rfl)))), ?_⟩
    refine ⟨_, rfl, _, rfl, _, rfl, _, z.length, rfl, ⟨Nat.le_trans h1000 (by decide), rfl⟩, d, c, _, n, rfl, (by omega), (by omega), hS, hn, fun H1 r r0 r1 hS1 k1 => ?_⟩
    obtain ⟨i, rfl⟩ : ∃ i : Nat, r = (i : Int) := ⟨r.toNat, by omega⟩
    have hi : i < z.cps.toList.length := by rw [Array.length_toList]; have : z.length = z.cps.size := rfl; omega
    exact ⟨z, _, z.cps.toList[i], rfl, rfl, Nat.le_trans h1000 (by decide), atI_nat (List.getElem?_eq_getElem hi), q _ _ hS1 k1⟩
/-! ### _law_hours -/
abbrev s__law_hours : Stmt := topS 18
def n__law_hours : List Str := ["_law_state", "_law_way", "_law_some_here", "_law_turn"]
theorem sc__law_hours : FnScope n__law_hours ["_law_state"] (defScope s__law_hours) := ⟨rfl, rfl, rfl, by decide +kernel, rfl, by decide +kernel, by decide +kernel⟩
def DayH (ns : List Int) : Prop := (∀ h ∈ ns, 0 ≤ h ∧ h < 24) ∧ ns.length ≤ 50
theorem dayH_all : DayH ((List.range 24).map fun (i : Nat) => (i : Int)) := by
  refine ⟨fun h hh => ?_, by decide⟩
  obtain ⟨i, hi, rfl⟩ := List.mem_map.mp hh
  have := List.mem_range.mp hi
  omega
theorem dayH_nil : DayH [] := ⟨fun _ h => (List.not_mem_nil h).elim, by decide⟩
theorem rg24 : rgV 0 24 = ((List.range 24).map fun (i : Nat) => (i : Int)).map V.int := by decide
def spHours : Sp := fun vs H Q _ => ∃ (d c : Addr) (n : Nat), vs = [.ref d] ∧ StAt H d c n ∧ n + 100 < 2 ^ 40 ∧
  ∀ H' L ns, StAt H' d c (n + 30) → Kp d c H H' → H L = none → H' L = some (.lst (ns.map V.int)) → DayH ns → Q (.ref L) H'
theorem ok_hours {f : Addr} {fd : FuncData} {k : Nat} (F : Fun K "_law_hours" "_law_hours" s__law_hours f fd) (T : Txt mg) (c__law_take : Cl P w K mg base (k + 1) "_law_take" spTake) : FnOk P w K mg base CX0 (k + 2) f fd ["_law_state"] spHours := by
  refine F.ok sc__law_hours (fun vs H Q E h => ?_) (fun cdv A outer s H vs Q E hr h => ?_)
  · obtain ⟨d, c, n, rfl, _⟩ := h
    rfl
  · obtain ⟨d, c, n, rfl, hS, hn, q⟩ := h
    have nd := sc__law_hours.nd
    refine ⟨_, (pss_cons (ps_set (i := 1) nd rfl (.inl rfl) (pe_cl c__law_take hr (by omega) (by rfl) (pa_cons (pv 0) (pa_cons pe_int pa_nil))))
      (pss_cons (ps_if (pt_cmpR op_lt (pv 1) pe_int (nomark _))
          (pss_one (ps_ret (pe_ix (kx_list (K := K)) (pe_lst (pa_cons (pe_listRg rfl (by rfl) T.list (prg_1 (by rfl) T.range pe_int)) (pa_cons (pe_lst pa_nil) pa_nil))) (pv 1) (fun _ _ => rfl))))
          pss_nil)
      (pss_cons (ps_setLc (i := 2) (own := [("_law_turn", 3)]) rfl nd rfl rfl (sw_true rfl rfl rfl (by decide +kernel)) (pi_range1 (by rfl) T.range (pa_cons (pe_cl c__law_take hr (by omega) (by rfl) (pa_cons (pv 0) (pa_cons pe_int pa_nil))) pa_nil)) (blkOk_by (N := n__law_hours) (sc := defScope s__law_hours) (by decide +kernel)) (fun _ _ _ _ _ => (pg_name (i := 3) nd rfl (.inl rfl))) (fun _ _ _ _ _ => pts_nil) (fun _ _ _ _ _ => (pe_cl c__law_take hr (by omega) (by rfl) (pa_cons (pv 0) (pa_cons pe_int pa_nil)))))
      (pss_one (ps_ret (pe_op op_cat (pv 2) (pe_slice (kl_list (K := K)) (pv 2) po_none (po_some (pe_cl c__law_take hr (by omega) (by rfl) (pa_cons (pv 0) (pa_cons pe_int pa_nil))))))))))), ?_⟩
    refine ⟨_, rfl, d, c, 8, n, rfl, (by decide), (by decide), hS, by omega, fun H1 r r0 r8 hS1 k1 => ?_⟩
    refine ⟨_, rfl, _, _, rfl, rfl, _, rfl, ?_⟩
    refine ite2 (fun hb => ?_) (fun hb => ?_)
    · have hr2 : r < 2 := of_decide_eq_true hb
      refine ⟨24, rfl, ⟨by decide, by decide, by decide, by decide, by decide⟩, fun u hu => ?_⟩
      refine ⟨Nat.zero_le _, fun v hv => ⟨(by show 2 ≤ sizeLine; decide), fun z hz => ?_⟩⟩
      have nuv : u ≠ v := ne_of_none (upd_same (H := H1) (o := .lst (rgV 0 24))) hv
      have hv1 : H1 v = none := (same_upd hu).free hv
      have hz1 : H1 z = none := (same_upd hu).free ((same_upd hv).free hz)
      have nuz : u ≠ z := ne_of_none (by rw [upd_ne nuv]; exact upd_same) hz
      have nvz : v ≠ z := ne_of_none upd_same hz
      have sm : Same H1 (upd (upd (upd H1 u (.lst (rgV 0 24))) v (.lst [])) z (.lst [.ref u, .ref v])) := same_put (same_put (same_upd hu) hv1) hz1
      have fin : ∀ L ns, H1 L = none → (upd (upd (upd H1 u (.lst (rgV 0 24))) v (.lst [])) z (.lst [.ref u, .ref v])) L = some (.lst (ns.map V.int)) → DayH ns → Q (.ref L) (upd (upd (upd H1 u (.lst (rgV 0 24))) v (.lst [])) z (.lst [.ref u, .ref v])) := fun L ns h1 h2 h3 =>
        q _ L ns ((hS1.same sm).mono (by omega)) (k1.trans (.of sm)) (k1.free hS1 h1) h2 h3
      by_cases h0 : r = 0
      · subst h0
        refine ⟨_, rfl, z, _, 0, .ref u, rfl, rfl, SqL.of upd_same, rfl, ?_⟩
        refine fin u _ hu ?_ dayH_all
        rw [upd_ne nuz, upd_ne nuv, upd_same, rg24]
      · have h1 : r = 1 := by omega
        subst h1
        refine ⟨_, rfl, z, _, 1, .ref v, rfl, rfl, SqL.of upd_same, rfl, ?_⟩
        refine fin v [] hv1 ?_ dayH_nil
        rw [upd_ne nvz, upd_same]
        rfl
    · refine ⟨_, rfl, d, c, 25, n + 1, rfl, (by decide), (by decide), hS1, by omega, fun H2 r2 r20 r21 hS2 k2 => ⟨_, rfl, (by omega), (by omega), fun D hD => ?_⟩⟩
      have hD1 : H D = none := (k1.trans k2).free hS2 hD
      have nDd : D ≠ d := fun e => by rw [e] at hD; exact (hS2.ne1 hD) rfl
      have nDc : D ≠ c := fun e => by rw [e] at hD; exact (hS2.ne2 hD) rfl
      refine lc_it walk_range (fun i H3 => StAt H3 d c (n + 2 + i) ∧ Kp d c H H3 ∧ ∃ ns : List Int, H3 D = some (.lst (ns.map V.int)) ∧ (∀ h ∈ ns, 0 ≤ h ∧ h < 24) ∧ ns.length = i) ⟨hS2.put (hS2.ne1 hD) (hS2.ne2 hD), kp_put (k1.trans k2) hD1, [], upd_same, (fun _ h => (List.not_mem_nil h).elim), rfl⟩ (fun _ _ _ _ => trivial) ?_ ?_
      · rintro i x H3 H4 hi ⟨hS3, k3, ns, hL, hd, hl⟩ ⟨rfl, rfl⟩
        have hi' : i < 25 := by omega
        refine ⟨rfl, tYes_at ?_⟩
        rw [if_pos rfl]
        refine ⟨_, rfl, d, c, 24, n + 2 + i, rfl, (by decide), (by decide), hS3, by omega, fun H5 r3 r30 r31 hS5 k5 => ?_⟩
        have hL5 := k5 D _ nDd nDc hL
        refine ⟨_, hL5, ?_, (hS5.mono (by omega)).put nDd.symm nDc.symm, kp_put (k3.trans k5) hD1, ns ++ [r3], ?_, fun h hh => ?_, ?_⟩
        · rw [List.length_map, hl]; exact Nat.lt_trans hi' (by decide)
        · rw [upd_same, List.map_append]; rfl
        · rcases List.mem_append.mp hh with z | z
          · exact hd h z
          · rw [List.mem_singleton] at z; subst z; exact ⟨r30, r31⟩
        · rw [List.length_append, hl]; rfl
      · rintro H3 ⟨hS3, k3, ns, hL, hd, hl⟩
        have h25 : ns.length < 25 := by omega
        refine ⟨_, rfl, _, rfl, _, rfl, d, c, 4, n + 2 + r2.toNat, rfl, (by decide), (by decide), hS3, by omega, fun H4 r4 r40 r41 hS4 k4 => ⟨_, rfl, D, _, rfl, .inl (.inl (k4 D _ nDd nDc hL)), fun p hp => ?_⟩⟩
        have hL4 := k4 D _ nDd nDc hL
        obtain ⟨ms, em, hm⟩ : ∃ ms : List Int, cutV (ns.map V.int) none (some r4) = ms.map V.int ∧ (∀ h ∈ ms, h ∈ ns) ∧ ms.length ≤ ns.length := by
          refine ⟨(ns.drop (HT.sIx (ns.map V.int).length 0 none)).take (HT.sIx (ns.map V.int).length (ns.map V.int).length (some r4) - HT.sIx (ns.map V.int).length 0 none), ?_, fun h hh => List.mem_of_mem_drop (List.mem_of_mem_take hh), ?_⟩
          · unfold cutV; rw [List.map_take, List.map_drop]
          · rw [List.length_take, List.length_drop]; omega
        have hpD : p ≠ D := fun e => by rw [e, hL4] at hp; cases hp
        refine ⟨D, p, _, _, rfl, rfl, (by rw [upd_ne hpD.symm]; exact hL4), upd_same, ?_, fun z hz => ?_⟩
        · rw [em, List.length_map, List.length_map]; exact Nat.le_trans (show ns.length + ms.length ≤ 50 by omega) (by decide)
        have k34 := k3.trans k4
        have hp1 : H p = none := k34.free hS4 hp
        have hz4 : H4 z = none := (same_upd hp).free hz
        have hz1 : H z = none := k34.free hS4 hz4
        refine q _ z (ns ++ ms) ?_ (kp_put (kp_put k34 hp1) hz1) hz1 ?_ ⟨fun h hh => ?_, ?_⟩
        · exact ((hS4.mono (by omega)).put (hS4.ne1 hp) (hS4.ne2 hp)).put (hS4.ne1 hz4) (hS4.ne2 hz4)
        · rw [upd_same, em, List.map_append]
        · rcases List.mem_append.mp hh with y | y
          · exact hd h y
          · exact hd h (hm.1 h y)
        · rw [List.length_append]; omega
/-! ### _law_written -/
abbrev sLWr : Stmt := topS 19
def sgW (p : Nat → Bool) (f : Nat) : Nat → Nat
  | 0 => 0
  | j + 1 => sgW p f j + 2 ^ j * b2 (p (4 * f + j))
theorem sgW_4 (p : Nat → Bool) (f : Nat) : sgW p f 4 = sgn p f := by
  show 0 + 2 ^ 0 * b2 (p (4 * f + 0)) + 2 ^ 1 * b2 (p (4 * f + 1)) + 2 ^ 2 * b2 (p (4 * f + 2)) + 2 ^ 3 * b2 (p (4 * f + 3)) = _
  unfold sgn
  rw [Nat.add_zero]
  omega
theorem at_two {j : Nat} (h : j < 4) : atI [V.int 1, .int 2, .int 4, .int 8] (0 + (j : Int)) = some (.int ((2 ^ j : Nat) : Int)) := by
  have h : j = 0 ∨ j = 1 ∨ j = 2 ∨ j = 3 := by omega
  rcases h with rfl | rfl | rfl | rfl <;> rfl
theorem at_sign : ∀ d : Nat, d < 16 → atI signs16 ((d : Nat) : Int) = some (hexc d) := by
  unfold signs16; decide
theorem txt_take (p : Nat → Bool) {i : Nat} (h : i < 6) : (txt p).take (i + 1) = (txt p).take i ++ [hexc (sgn p (5 - i))] := by
  have h : i = 0 ∨ i = 1 ∨ i = 2 ∨ i = 3 ∨ i = 4 ∨ i = 5 := by omega
  rcases h with rfl | rfl | rfl | rfl | rfl | rfl <;> rfl
theorem cmul_b (i : Int) (b : Bool) : CMul i (if b = true then 1 else 0) := .inr (by cases b <;> decide)
def spLWr (K : PySem.W.Frag) : Sp := fun vs H Q _ => ∃ (a : Addr) (ns : List Int), vs = [.ref a] ∧ SqL K H a (ns.map V.int) ∧ ∀ H', Same H H' → Q (.str (SX.S (txt (memP ns)))) H'
theorem scLWr : FnScope ["_law_hours_here", "_law_found", "_law_four", "_law_sign", "_law_bit"] ["_law_hours_here"] (defScope sLWr) := ⟨rfl, rfl, rfl, by decide +kernel, rfl, by decide +kernel, by decide +kernel⟩
theorem ok_lwr {f : Addr} {fd : FuncData} {k : Nat} (F : Fun K "_law_written" "_law_written" sLWr f fd) (T : Txt4 mg) : FnOk P w K mg base CX0 (k + 1) f fd ["_law_hours_here"] (spLWr K) := by
  refine F.ok scLWr (fun vs H Q E h => ?_) (fun cdv A outer s H vs Q E hr h => ?_)
  · obtain ⟨a, ns, rfl, _⟩ := h
    rfl
  · obtain ⟨a, ns, rfl, hS, q⟩ := h
    refine ⟨_, pss_cons (ps_set (i := 1) scLWr.nd rfl (.inl rfl) pe_str)
      (pss_cons (ps_for PassesOwn.never rfl (pi_range3 (by rfl) T.range (pa_cons pe_int (pa_cons (pe_un un_neg pe_int) (pa_cons (pe_un un_neg pe_int) pa_nil)))) (pg_name (i := 2) scLWr.nd rfl (.inl rfl))
        (pss_cons (ps_set (i := 3) scLWr.nd rfl (.inl rfl) pe_int)
        (pss_cons (ps_for PassesOwn.never rfl (pi_range1 (by rfl) T.range (pa_cons pe_int pa_nil)) (pg_name (i := 4) scLWr.nd rfl (.inl rfl))
          (pss_one (ps_set (i := 3) scLWr.nd rfl (.inl rfl) (pe_op op_add (pv 3) (pe_op op_mul (pe_ix ix_list (pe_lst (pa_cons pe_int (pa_cons pe_int (pa_cons pe_int (pa_cons pe_int pa_nil))))) (pv 4) (fun _ _ => rfl))
            (pe_callTy call_int1 (by rfl) T.int (by decide +kernel) (pa_cons (pe_cmpR op_in_seq (pe_op op_add (pe_op op_mul pe_int (pv 2)) (pv 4)) (pv 0) rfl) pa_nil)))))))
        (pss_one (ps_set (i := 1) scLWr.nd rfl (.inl rfl) (pe_op op_add_str (pv 1) (pe_ix ix_str pe_str (pv 3) (fun _ _ => rfl))))))))
      (pss_one (ps_ret (pv 1)))), ?_⟩
    refine ⟨_, rfl, _, rfl, 5, -1, -1, 6, rfl, RgC.neg (by decide) (by decide) (by decide) (by decide), ?_⟩
    refine for_it walk_rangeC (fun i σ H2 => ∃ v2 v3 v4, σ = [some (.ref a), some (.str (SX.S ((txt (memP ns)).take i))), v2, v3, v4] ∧ Same H H2) ⟨none, none, none, rfl, Same.refl H⟩ (fun _ _ _ _ _ => trivial) ?_ ?_
    · rintro i x σ H2 H3 hi ⟨v2, v3, v4, rfl, sm⟩ ⟨rfl, rfl⟩
      have ef : (5 : Int) + ((i : Nat) : Int) * -1 = ((5 - i : Nat) : Int) := by omega
      refine ⟨_, rfl, (by decide), (by decide), ?_⟩
      refine for_it walk_range (fun j σ H4 => ∃ v4, σ = [some (.ref a), some (.str (SX.S ((txt (memP ns)).take i))), some (.int ((5 - i : Nat) : Int)), some (.int (sgW (memP ns) (5 - i) j : Nat)), v4] ∧ Same H H4) ⟨v4, ?_, sm⟩ (fun _ _ _ _ _ => trivial) ?_ ?_
      · show [_, _, some (V.int ((5 : Int) + ((i : Nat) : Int) * -1)), some (V.int 0), v4] = _
        rw [ef]
        rfl
      · rintro j x σ H4 H5 hj ⟨v4, rfl, sm4⟩ ⟨rfl, rfl⟩
        have hj' : j < 4 := hj
        refine ⟨_, rfl, (by show 4 ≤ sizeLine; decide), fun l hl => ?_⟩
        have sm5 : Same H (upd H5 l (.lst [V.int 1, .int 2, .int 4, .int 8])) := same_put sm4 (sm4.free hl)
        refine ⟨_, rfl, l, _, _, _, rfl, rfl, SqL.of upd_same, at_two hj', ?_⟩
        refine ⟨_, rfl, _, _, rfl, rfl, .inl ⟨by decide, by decide⟩, _, rfl, _, _, rfl, rfl, _, rfl, a, _, rfl, .inl (sm5.seq hS), rfl, flat_ints ns, ?_⟩
        have eb : inV (V.int (4 * ((5 - i : Nat) : Int) + (0 + (j : Int)))) (ns.map V.int) = memP ns (4 * (5 - i) + j) := by
          rw [inV_ints]
          unfold memP
          have e : 4 * ((5 - i : Nat) : Int) + (0 + (j : Int)) = ((4 * (5 - i) + j : Nat) : Int) := by omega
          rw [e]
        refine .inr ⟨_, rfl, _, _, rfl, rfl, cmul_b _ _, _, _, rfl, rfl, some (.int (0 + (j : Int))), ?_, sm5⟩
        · show [_, _, _, some (V.int ((sgW (memP ns) (5 - i) j : Nat) + ((2 ^ j : Nat) : Int) * (if inV (V.int (4 * ((5 - i : Nat) : Int) + (0 + (j : Int)))) (ns.map V.int) = true then 1 else 0))), _] = _
          rw [eb]
          have e2 : ((sgW (memP ns) (5 - i) j : Nat) : Int) + ((2 ^ j : Nat) : Int) * (if memP ns (4 * (5 - i) + j) = true then 1 else 0) = ((sgW (memP ns) (5 - i) (j + 1) : Nat) : Int) := by
            show _ = ((sgW (memP ns) (5 - i) j + 2 ^ j * b2 (memP ns (4 * (5 - i) + j)) : Nat) : Int)
            unfold b2
            cases memP ns (4 * (5 - i) + j) <;> simp
          rw [e2]
      · rintro σ H4 ⟨v4, rfl, sm4⟩
        have lt := sgn_lt (memP ns) (5 - i)
        refine ⟨_, rfl, _, rfl, _, _, hexc (sgn (memP ns) (5 - i)), rfl, rfl, (by decide +kernel), ?_, _, _, rfl, rfl, ?_, some (.int ((5 - i : Nat) : Int)), some (.int (sgW (memP ns) (5 - i) 4 : Nat)), v4, ?_, sm4⟩
        · rw [signs_cps]
          show atI signs16 ((sgW (memP ns) (5 - i) 4 : Nat) : Int) = _
          rw [sgW_4]
          exact at_sign _ lt
        · rw [SX.S_len]
          have := List.length_take_le i (txt (memP ns))
          show _ + 1 ≤ sizeLine
          rw [sizeLine_eq]
          omega
        · rw [txt_take _ hi, ← SX.S_cat]
          rfl
    · rintro σ H2 ⟨v2, v3, v4, rfl, sm⟩
      refine ⟨_, rfl, ?_⟩
      exact q _ sm
end
end Pot

namespace Pot
open PySem PySem.Spec PyProof.Rows L2
theorem txt_congr {p q : Nat → Bool} (h : ∀ i, i < 24 → p i = q i) : txt p = txt q := by
  have e : ∀ i, i < 6 → sgn p i = sgn q i := by
    intro i hi
    unfold sgn
    rw [h _ (by omega), h _ (by omega), h _ (by omega), h _ (by omega)]
  unfold txt
  rw [e 0 (by decide), e 1 (by decide), e 2 (by decide), e 3 (by decide), e 4 (by decide), e 5 (by decide)]
theorem bool_iff {p q : Prop} [Decidable p] [Decidable q] (h : p ↔ q) : decide p = decide q := by
  by_cases hp : p
  · rw [decide_eq_true hp, decide_eq_true (h.mp hp)]
  · rw [decide_eq_false hp, decide_eq_false fun z => hp (h.mpr z)]
theorem memP_congr {xs ys : List Int} (h : ∀ k : Int, 0 ≤ k → k < 24 → (k ∈ xs ↔ k ∈ ys)) : ∀ i, i < 24 → memP xs i = memP ys i := fun i hi => bool_iff (h i (by omega) (by omega))
theorem mem_hoursP {p : Nat → Bool} {k : Int} : k ∈ hoursP p 24 ↔ ∃ h : Nat, h < 24 ∧ p h = true ∧ k = (h : Int) := by
  unfold hoursP
  rw [List.mem_map]
  constructor
  · rintro ⟨h, hm, e⟩
    rw [List.mem_filter, List.mem_range] at hm
    exact ⟨h, hm.1, hm.2, e.symm⟩
  · rintro ⟨h, h1, h2, e⟩
    exact ⟨h, List.mem_filter.mpr ⟨List.mem_range.mpr h1, h2⟩, e.symm⟩
theorem mem_hours_of {xs : List Int} (hx : ∀ h ∈ xs, 0 ≤ h ∧ h < 24) {k : Int} : k ∈ hoursP (memP xs) 24 ↔ k ∈ xs := by
  rw [mem_hoursP]
  constructor
  · rintro ⟨h, _, h2, rfl⟩
    exact of_decide_eq_true h2
  · intro hk
    have := hx k hk
    refine ⟨k.toNat, by omega, decide_eq_true ?_, by omega⟩
    rw [show ((k.toNat : Nat) : Int) = k by omega]
    exact hk
theorem rise_ext : ∀ {xs ys : List Int}, xs.Pairwise (· < ·) → ys.Pairwise (· < ·) → (∀ k, k ∈ xs ↔ k ∈ ys) → xs = ys
  | [], [], _, _, _ => rfl
  | [], y :: ys, _, _, h => absurd ((h y).mpr List.mem_cons_self) List.not_mem_nil
  | x :: xs, [], _, _, h => absurd ((h x).mp List.mem_cons_self) List.not_mem_nil
  | x :: xs, y :: ys, hx, hy, h => by
    rw [List.pairwise_cons] at hx hy
    have e : x = y := by
      rcases List.mem_cons.mp ((h x).mp List.mem_cons_self) with e | m
      · exact e
      · rcases List.mem_cons.mp ((h y).mpr List.mem_cons_self) with e | m2
        · exact e.symm
        · have := hx.1 y m2
          have := hy.1 x m
          omega
    subst e
    congr 1
    refine rise_ext hx.2 hy.2 fun k => ⟨fun m => ?_, fun m => ?_⟩
    · rcases List.mem_cons.mp ((h k).mp (List.mem_cons_of_mem _ m)) with e | m2
      · have := hx.1 k m; omega
      · exact m2
    · rcases List.mem_cons.mp ((h k).mpr (List.mem_cons_of_mem _ m)) with e | m2
      · have := hy.1 k m; omega
      · exact m2
theorem hoursP_rise (p : Nat → Bool) : (hoursP p 24).Pairwise (· < ·) := by
  unfold hoursP
  rw [List.pairwise_map]
  have h : (List.range 24).Pairwise (· < ·) := List.pairwise_lt_range
  exact (h.filter p).imp fun h => by omega
end Pot

namespace Pot
open PySem PySem.Spec PyProof.Rows L2
section
variable {P : Program} {w : World} {K : PySem.W.Frag} {mg : Str → Option Value} {base : Heap}
/-! ### _law_read -/
theorem txt_at (p : Nat → Bool) {i : Nat} (h : i < 6) : atI (SX.S (txt p)).cps.toList (5 - (0 + (i : Int))) = some (hexc (sgn p i)) := by
  have h : i = 0 ∨ i = 1 ∨ i = 2 ∨ i = 3 ∨ i = 4 ∨ i = 5 := by omega
  rcases h with rfl | rfl | rfl | rfl | rfl | rfl <;> rfl
theorem ix_sign : ∀ d : Nat, d < 16 → Txt.index0 "0123456789abcdef" ⟨#[hexc d]⟩ = some d := by decide +kernel
theorem sgn_bit (p : Nat → Bool) (i : Nat) {j : Nat} (h : j < 4) : sgn p i / 2 ^ j % 2 = b2 (p (4 * i + j)) := by
  have h0 := b2_le (p (4 * i)); have h1 := b2_le (p (4 * i + 1)); have h2 := b2_le (p (4 * i + 2)); have h3 := b2_le (p (4 * i + 3))
  have h : j = 0 ∨ j = 1 ∨ j = 2 ∨ j = 3 := by omega
  unfold sgn
  rcases h with rfl | rfl | rfl | rfl
  · simp only [Nat.add_zero, Nat.pow_zero, Nat.div_one]; omega
  · omega
  · omega
  · omega
theorem cdiv2 {a : Int} {j : Nat} (h : j < 4) : CDiv a ((2 ^ j : Nat) : Int) := by
  have h : j = 0 ∨ j = 1 ∨ j = 2 ∨ j = 3 := by omega
  rcases h with rfl | rfl | rfl | rfl <;> exact ⟨by decide, by decide⟩
/-- the hours of a sign -/
def inn (p : Nat → Bool) (i : Nat) : Nat → List Int
  | 0 => []
  | j + 1 => inn p i j ++ if p (4 * i + j) = true then [((4 * i + j : Nat) : Int)] else []
theorem inn_succ (p : Nat → Bool) (i j : Nat) : inn p i (j + 1) = inn p i j ++ if p (4 * i + j) = true then [((4 * i + j : Nat) : Int)] else [] := rfl
theorem inn_len (p : Nat → Bool) (i : Nat) : ∀ j, (inn p i j).length ≤ j
  | 0 => Nat.le_refl _
  | j + 1 => by
    have ih := inn_len p i j
    unfold inn
    rw [List.length_append]
    split <;> simp <;> omega
theorem hours_inn (p : Nat → Bool) (i : Nat) : ∀ j, hoursP p (4 * i + j) = hoursP p (4 * i) ++ inn p i j
  | 0 => by rw [Nat.add_zero]; unfold inn; rw [List.append_nil]
  | j + 1 => by
    rw [← Nat.add_assoc, hoursP_succ, hours_inn p i j, List.append_assoc]
    rfl
abbrev s__law_read : Stmt := topS 20
def n__law_read : List Str := ["_law_text_here", "_law_sign", "_law_found", "_law_four", "_law_bit"]
theorem sc__law_read : FnScope n__law_read ["_law_text_here"] (defScope s__law_read) := ⟨rfl, rfl, rfl, by decide +kernel, rfl, by decide +kernel, by decide +kernel⟩
def spRead : Sp := fun vs H Q _ => ∃ (l : List Nat), vs = [.str (SX.S l)] ∧ l.length ≤ 1000 ∧ (∀ p, l = txt p → ∀ H' D, Same H H' → H D = none → H' D = some (.lst ((hoursP p 24).map V.int)) → Q (.ref D) H') ∧ ((∀ p, l ≠ txt p) → ∀ H', Same H H' → Q .non H')
theorem ok_read {f : Addr} {fd : FuncData} {k : Nat} (F : Fun K "_law_read" "_law_read" s__law_read f fd) (T : Txt mg) : FnOk P w K mg base CX0 (k + 1) f fd ["_law_text_here"] spRead := by
  refine F.ok sc__law_read (fun vs H Q E h => ?_) (fun cdv A outer s H vs Q E hr h => ?_)
  · obtain ⟨l, rfl, _⟩ := h
    rfl
  · obtain ⟨l, rfl, hl, q, qe⟩ := h
    have nd := sc__law_read.nd
    refine ⟨_, (pss_cons (ps_if ((pw_or (pt_cmpR op_ne (pe_callB (kc_len (K := K)) (by rfl) T.len PySem.boot_len (pa_cons (pv 0) pa_nil)) pe_int (nomark _)) (pw_or1 (pt_not (pt_val (pe_callB (kc_all (K := K)) (by rfl) T.all (by decide +kernel) (pa_cons (pe_lc (own := [("_law_sign", 1)]) rfl nd (pi_str (pv 0)) (blkOk_by (N := n__law_read) (sc := defScope s__law_read) (by decide +kernel)) (fun _ _ _ _ _ => (pg_name (i := 1) nd rfl (.inl rfl))) (fun _ _ _ _ _ => pts_nil) (fun _ _ _ _ _ => (pe_cmpR op_in_sign (pv 1) pe_str rfl))) pa_nil))))))).pt
          (pss_one (ps_ret pe_non))
          pss_nil)
      (pss_cons (ps_set (i := 2) nd rfl (.inl rfl) (pe_lst pa_nil))
      (pss_cons (ps_for PassesOwn.never rfl (pi_range1 (by rfl) T.range (pa_cons pe_int pa_nil)) (pg_name (i := 3) nd rfl (.inr rfl))
          (pss_cons (ps_set (i := 1) nd rfl (.inr rfl) (pe_bmS PySem.F.plainAttrs_str PySem.F.slot_str_index PySem.F.type_str_index (mt_indexX (W := fun _ _ _ _ => False) rfl takes0) pe_str (pa_cons (pe_ix ix_str (pv 0) (pe_op op_sub pe_int (pv 3)) (fun _ _ => rfl)) pa_nil)))
          (pss_one (ps_expr (pe_bm PySem.F.plainAttrs_list PySem.F.slot_list_extend PySem.F.type_list_extend mt_extend (pv 2) (pa_cons (pe_lc (own := [("_law_bit", 4)]) rfl nd (pi_range1 (by rfl) T.range (pa_cons pe_int pa_nil)) (blkOk_by (N := n__law_read) (sc := defScope s__law_read) (by decide +kernel)) (fun _ _ _ _ _ => (pg_name (i := 4) nd rfl (.inl rfl))) (fun _ _ _ _ _ => (pts_one (pt_cmpR op_eq (pe_op op_mod (pe_op op_fdiv (pv 1) (pe_ix (kx_list (K := K)) (pe_lst (pa_cons pe_int (pa_cons pe_int (pa_cons pe_int (pa_cons pe_int pa_nil))))) (pv 4) (fun _ _ => rfl))) pe_int) pe_int (nomark _)))) (fun _ _ _ _ _ => (pe_op op_add (pe_op op_mul pe_int (pv 3)) (pv 4)))) pa_nil))))))
      (pss_one (ps_ret (pv 2)))))), ?_⟩
    refine ⟨_, rfl, _, l.length, rfl, ⟨by rw [SX.S_len]; exact Nat.le_trans hl (by decide), by rw [SX.S_len]⟩, rfl, _, rfl, ?_⟩
    refine ite2 (fun hb => ?_) (fun hb => ?_)
    · refine iteT ?_
      exact qe (not_tal fun z => by rw [z.1] at hb; revert hb; decide) H (Same.refl H)
    have h6 : l.length = 6 := by
      rcases Nat.decEq l.length 6 with z | z
      · exact absurd (show (!decide (V.int (l.length : Int) = V.int 6)) = true by
          rw [decide_eq_false (fun e => z (by have := V.int.inj e; omega))]; rfl) hb
      · exact z
    refine ⟨_, rfl, _, rfl, fun D hD => ?_⟩
    have sz : (SX.S l).cps.size = 6 := h6
    have hm : ∀ {i c}, l[i]? = some c → (l.map (fun c => decide (c ∈ signs16))).take (i + 1) = (l.map (fun c => decide (c ∈ signs16))).take i ++ [decide (c ∈ signs16)] := fun {i c} hc => by
      rw [List.take_add_one, List.getElem?_map, hc]; rfl
    refine lc_it (n := 6) (sz ▸ walk_str) (fun i H2 => Same H H2 ∧ H2 D = some (.lst (((l.map (fun c => decide (c ∈ signs16))).take i).map V.bl))) ⟨same_upd hD, upd_same⟩ (fun _ _ _ _ => trivial) ?_ ?_
    · rintro i x H2 H3 hi ⟨sm, hL⟩ ⟨rfl, c, hc, rfl⟩
      refine ⟨rfl, tYes_at ?_⟩
      rw [if_pos rfl]
      refine ⟨_, rfl, c, _, rfl, rfl, ?_⟩
      have hc' : l[i]? = some c := by
        have h2 : l.toArray[i]? = some c := hc
        rw [List.getElem?_toArray] at h2
        exact h2
      refine ⟨_, hL, ?_, same_put sm hD, ?_⟩
      · rw [List.length_map]; exact Nat.lt_of_le_of_lt (List.length_take_le _ _) (Nat.lt_trans hi (by decide))
      · rw [upd_same, hm hc', List.map_append, signs_cps]
        rfl
    rintro H2 ⟨sm, hL⟩
    rw [List.take_of_length_le (by rw [List.length_map, h6]; decide)] at hL
    refine ⟨D, _, rfl, .inl (.inl hL), _, rfl, ?_⟩
    by_cases hs : ∀ c ∈ l, c ∈ signs16
    case neg =>
      have ea : ((l.map (fun c => decide (c ∈ signs16))).all id) = false := by
        cases e : (l.map (fun c => decide (c ∈ signs16))).all id with
        | false => rfl
        | true =>
          rw [List.all_map, List.all_eq_true] at e
          exact absurd (fun c hc => of_decide_eq_true (e c hc)) hs
      rw [ea]
      refine iteT ?_
      exact qe (not_tal fun z => hs z.2) H2 sm
    have ea : ((l.map (fun c => decide (c ∈ signs16))).all id) = true := by
      rw [List.all_map, List.all_eq_true]
      intro c hc
      exact decide_eq_true (hs c hc)
    rw [ea]
    refine iteF ?_
    obtain ⟨p, rfl⟩ := tal_txt h6 hs
    -- found = []
    refine ⟨Nat.zero_le _, fun G hG => ?_⟩
    have hG1 : H G = none := sm.free hG
    refine ⟨_, rfl, (by decide), (by decide), ?_⟩
    refine for_it walk_range (fun i σ H3 => ∃ v1 v3, σ = [some (.str (SX.S (txt p))), v1, some (.ref G), v3, none] ∧ Same H H3 ∧ H3 G = some (.lst ((hoursP p (4 * i)).map V.int))) ⟨none, none, rfl, sm.trans (same_upd hG), upd_same⟩ (fun _ _ _ _ _ => trivial) ?_ ?_
    · rintro i x σ H3 H4 hi ⟨v1, v3, rfl, sm3, hL3⟩ ⟨rfl, rfl⟩
      have hi' : i < 6 := hi
      refine ⟨rfl, _, rfl, _, rfl, _, _, rfl, rfl, _, _, hexc (sgn p i), rfl, rfl, (by show 6 ≤ sizeLine; decide), txt_at p hi', _, _, rfl, rfl, fun k hk => ?_, fun z => ?_⟩
      rotate_left
      · have z2 := ix_sign _ (sgn_lt p i)
        rw [show Txt.index0 _ _ = none from z] at z2
        cases z2
      have ek : k = sgn p i := by
        have z2 := ix_sign _ (sgn_lt p i)
        rw [show Txt.index0 _ _ = some k from hk] at z2
        exact Option.some.inj z2
      subst ek
      refine ⟨_, rfl, .inl ⟨rfl, _, .inl (.inl hL3)⟩, _, rfl, (by decide), (by decide), fun B hB => ?_⟩
      have nGB : G ≠ B := ne_of_none hL3 hB
      have hB1 : H B = none := sm3.free hB
      refine lc_it walk_range (fun j H5 => Same H H5 ∧ H5 G = some (.lst ((hoursP p (4 * i)).map V.int)) ∧ H5 B = some (.lst ((inn p i j).map V.int))) ⟨sm3.trans (same_upd hB), by rw [upd_ne nGB]; exact hL3, upd_same⟩ (fun _ _ _ _ => trivial) ?_ ?_
      · rintro j x H5 H6 hj ⟨sm5, hL5, hB5⟩ ⟨rfl, rfl⟩
        have hj' : j < 4 := hj
        refine ⟨rfl, _, rfl, (by show 4 ≤ sizeLine; decide), fun y hy => ?_⟩
        have nGy : G ≠ y := ne_of_none hL5 hy
        have nBy : B ≠ y := ne_of_none hB5 hy
        refine ⟨_, rfl, y, _, _, _, rfl, rfl, SqL.of upd_same, at_two hj', ?_⟩
        have e2 : ((sgn p i : Nat) : Int) / ((2 ^ j : Nat) : Int) % 2 = ((b2 (p (4 * i + j)) : Nat) : Int) := by
          rw [← sgn_bit p i hj']; omega
        have eD : decide (V.int (((sgn p i : Nat) : Int) / ((2 ^ j : Nat) : Int) % 2) = V.int 1) = p (4 * i + j) := by
          rw [e2]
          unfold b2
          cases p (4 * i + j) <;> decide
        refine ⟨_, _, rfl, rfl, cdiv2 hj', _, _, rfl, rfl, (by show (0 : Int) < 2; decide), rfl, p (4 * i + j), congrArg V.bl eD, ?_⟩
        have smy : Same H (upd H6 y (.lst [V.int 1, .int 2, .int 4, .int 8])) := same_put sm5 (sm5.free hy)
        have hLy : (upd H6 y (.lst [V.int 1, .int 2, .int 4, .int 8])) G = some (.lst ((hoursP p (4 * i)).map V.int)) := by rw [upd_ne nGy]; exact hL5
        have hBy : (upd H6 y (.lst [V.int 1, .int 2, .int 4, .int 8])) B = some (.lst ((inn p i j).map V.int)) := by rw [upd_ne nBy]; exact hB5
        cases hp : p (4 * i + j) with
        | true =>
          refine iteT ?_
          refine ⟨_, rfl, _, _, rfl, rfl, .inl ⟨by decide, by decide⟩, _, rfl, _, _, rfl, rfl, _, hBy, ?_, same_put smy hB1, ?_, ?_⟩
          · rw [List.length_map]; exact Nat.lt_of_le_of_lt (inn_len p i j) (Nat.lt_trans hj' (by decide))
          · rw [upd_ne nGB]; exact hLy
          · rw [upd_same]
            rw [inn_succ, if_pos hp, List.map_append]
            show some (HO.lst (_ ++ [V.int (4 * (0 + (i : Int)) + (0 + (j : Int)))])) = some (HO.lst (_ ++ [V.int _]))
            rw [show 4 * (0 + (i : Int)) + (0 + (j : Int)) = ((4 * i + j : Nat) : Int) by omega]
        | false =>
          refine iteF ?_
          refine ⟨smy, hLy, ?_⟩
          rw [inn_succ, if_neg (by rw [hp]; decide), List.append_nil]
          exact hBy
      · rintro H5 ⟨sm5, hL5, hB5⟩
        have hB5 : H5 B = some (.lst ((inn p i 4).map V.int)) := hB5
        refine ⟨G, B, _, _, rfl, rfl, hL5, hB5, ?_, ?_⟩
        · rw [List.length_map, List.length_map]
          have := hoursP_len p (4 * i)
          have := inn_len p i 4
          exact Nat.le_trans (show _ ≤ 30 by omega) (by decide)
        · refine ⟨_, _, rfl, same_put sm5 hG1, ?_⟩
          rw [upd_same, show 4 * (i + 1) = 4 * i + 4 by omega, hours_inn, List.map_append]
    · rintro σ H3 ⟨v1, v3, rfl, sm3, hL3⟩
      refine ⟨_, rfl, ?_⟩
      exact q p rfl _ G sm3 hG1 hL3
end
end Pot

namespace Pot
open PySem PySem.Spec PyProof.Rows L2
section
variable {P : Program} {w : World} {K : PySem.W.Frag} {mg : Str → Option Value} {base : Heap}
/-! ### _law_text -/
theorem pick {ys : List Str} {r : Int} {B : Nat} (h0 : 0 ≤ r) (h1 : r < ys.length) (hB : ∀ y ∈ ys, y.length ≤ B) : ∃ y, atI (ys.map V.str) r = some (V.str y) ∧ y.length ≤ B := by
  obtain ⟨i, rfl⟩ : ∃ i : Nat, r = (i : Int) := ⟨r.toNat, by omega⟩
  have hi : i < ys.length := by omega
  refine ⟨ys[i], atI_nat ?_, hB _ (List.getElem_mem hi)⟩
  rw [List.getElem?_map, List.getElem?_eq_getElem hi]
  rfl
theorem sum_ones : ∀ {ys : List Str}, (∀ y ∈ ys, y.length = 1) → (ys.map (·.length)).sum = ys.length
  | [], _ => rfl
  | y :: r, h => by
    have ih := sum_ones (ys := r) fun z hz => h z (List.mem_cons_of_mem _ hz)
    rw [List.map_cons, List.sum_cons, ih, h y List.mem_cons_self, List.length_cons]
    omega
theorem join_len : ∀ {ys : List Str}, (∀ y ∈ ys, y.length = 1) → (Str.join Str.empty ys).length ≤ ys.length
  | [], _ => Nat.le_refl _
  | [x], h => by rw [show Str.join Str.empty [x] = x from rfl, h x List.mem_cons_self]; exact Nat.le_refl _
  | x :: y :: r, h => by
    have ih := join_len (ys := y :: r) fun z hz => h z (List.mem_cons_of_mem _ hz)
    show (x ++ Str.empty ++ Str.join Str.empty (y :: r)).length ≤ _
    rw [strLen_append, strLen_append, h x List.mem_cons_self, show Str.length Str.empty = 0 from rfl]
    simp only [List.length_cons] at ih ⊢
    omega
theorem sign_list {r : Int} (r0 : 0 ≤ r) (r1 : r < 2) : ∃ sg : Str, atI [V.str " !\"#$&'()*+,-./0123456789:;<=>?@ABCDEFGHIJKLMNOPQRSTUVWXYZ[\\]^_`abcdefghijklmnopqrstuvwxyz{|}~", V.str "0123456789abcdefABCDEFgx"] r = some (V.str sg) ∧ 0 < sg.length ∧ sg.length ≤ 1000 := by
  have h : r = 0 ∨ r = 1 := by omega
  rcases h with rfl | rfl
  · exact ⟨_, rfl, by decide +kernel, by decide +kernel⟩
  · exact ⟨_, rfl, by decide +kernel, by decide +kernel⟩
abbrev s__law_text : Stmt := topS 21
def n__law_text : List Str := ["_law_state", "_law_tally", "_law_signs", "_law_way", "_law_sign", "_law_at", "_law_some_here", "_law_turn"]
theorem sc__law_text : FnScope n__law_text ["_law_state", "_law_tally"] (defScope s__law_text) := ⟨rfl, rfl, rfl, by decide +kernel, rfl, by decide +kernel, by decide +kernel⟩
def spText : Sp := fun vs H Q _ => ∃ (d c : Addr) (n : Nat) (z : Str), vs = [.ref d, .str z] ∧ StAt H d c n ∧ n + 100 < 2 ^ 40 ∧ z.length ≤ 200 ∧
  ∀ H' y, StAt H' d c (n + 20) → Kp d c H H' → Str.length y ≤ 3 * z.length + 10 → Q (.str y) H'
theorem ok_text {f : Addr} {fd : FuncData} {k : Nat} (F : Fun K "_law_text" "_law_text" s__law_text f fd) (T : Txt mg) (c__law_take : Cl P w K mg base (k + 2) "_law_take" spTake) (c__law_some : Cl P w K mg base (k + 2) "_law_some" spSomeT) :
    FnOk P w K mg base CX0 (k + 3) f fd ["_law_state", "_law_tally"] spText := by
  refine F.ok sc__law_text (fun vs H Q E h => ?_) (fun cdv A outer s H vs Q E hr h => ?_)
  · obtain ⟨d, c, n, z, rfl, _⟩ := h
    rfl
  · obtain ⟨d, c, n, z, rfl, hS, hn, hz, q⟩ := h
    have nd := sc__law_text.nd
    refine ⟨_, (pss_cons (ps_set (i := 2) nd rfl (.inr rfl) pe_str)
      (pss_cons (ps_set (i := 2) nd rfl (.inr rfl) (pe_ix (kx_list (K := K)) (pe_lst (pa_cons (pv 2) (pa_cons pe_str pa_nil))) (pe_cl c__law_take hr (by omega) (by rfl) (pa_cons (pv 0) (pa_cons pe_int pa_nil))) (fun _ _ => rfl)))
      (pss_cons (ps_par3 (i := 3) (j := 4) (l := 5) rfl nd rfl rfl rfl (by decide) (by decide) (by decide) rfl rfl rfl (pa_cons (pe_cl c__law_take hr (by omega) (by rfl) (pa_cons (pv 0) (pa_cons pe_int pa_nil))) (pa_cons (pe_cl c__law_some hr (by omega) (by rfl) (pa_cons (pv 0) (pa_cons (pv 2) pa_nil))) (pa_cons (pe_cl c__law_take hr (by omega) (by rfl) (pa_cons (pv 0) (pa_cons pe_int pa_nil))) pa_nil))) rfl)
      (pss_cons (ps_if (pt_cmpR op_lt (pv 3) pe_int (nomark _))
          (pss_cons (ps_set (i := 6) nd rfl (.inl rfl) (pe_lst (pa_cons (pe_op op_add_str (pe_op op_add_str (pe_slice sl_str (pv 1) po_none (po_some (pv 5))) (pv 4)) (pe_slice sl_str (pv 1) (po_some (pe_op op_add (pv 5) pe_int)) po_none)) (pa_cons (pe_op op_add_str (pe_op op_add_str (pe_slice sl_str (pv 1) po_none (po_some (pv 5))) (pv 4)) (pe_slice sl_str (pv 1) (po_some (pv 5)) po_none)) (pa_cons (pe_op op_add_str (pe_slice sl_str (pv 1) po_none (po_some (pv 5))) (pe_slice sl_str (pv 1) (po_some (pe_op op_add (pv 5) pe_int)) po_none)) pa_nil)))))
          (pss_one (ps_ret (pe_ix (kx_list (K := K)) (pe_op op_cat (pv 6) (pe_lst (pa_cons (pe_op op_add_str (pe_op op_add_str (pe_slice sl_str (pv 1) po_none (po_some (pv 5))) (pv 4)) (pe_slice sl_str (pv 1) (po_some (pv 5)) (po_some pe_int))) (pa_cons (pe_op op_add_str (pe_slice sl_str (pv 1) po_none (po_some pe_int)) (pv 4)) pa_nil)))) (pv 3) (fun _ _ => rfl)))))
          pss_nil)
      (pss_cons (ps_if (pt_cmpR op_lt (pv 3) pe_int (nomark _))
          (pss_cons (ps_set (i := 6) nd rfl (.inl rfl) (pe_lst (pa_cons (pe_upper (pv 1)) (pa_cons (pe_op op_add_str pe_str (pe_slice sl_str (pv 1) (po_some pe_int) po_none)) (pa_cons (pe_op op_add_str pe_str (pe_slice sl_str (pv 1) (po_some pe_int) po_none)) (pa_cons pe_str (pa_cons (pe_op op_add_str pe_str (pe_slice sl_str (pv 1) (po_some pe_int) po_none)) (pa_cons (pe_op op_add_str (pe_op op_add_str (pe_slice sl_str (pv 1) po_none (po_some pe_int)) pe_str) (pe_slice sl_str (pv 1) (po_some pe_int) (po_some pe_int))) pa_nil))))))))
          (pss_one (ps_ret (pe_ix (kx_list (K := K)) (pv 6) (pe_op op_sub (pv 3) pe_int) (fun _ _ => rfl)))))
          pss_nil)
      (pss_one (ps_ret (ke_join (K := K) pe_str (pe_lc (own := [("_law_turn", 7)]) rfl nd (pi_range1 (by rfl) T.range (pa_cons (pe_cl c__law_take hr (by omega) (by rfl) (pa_cons (pv 0) (pa_cons pe_int pa_nil))) pa_nil)) (blkOk_by (N := n__law_text) (sc := defScope s__law_text) (by decide +kernel)) (fun _ _ _ _ _ => (pg_name (i := 7) nd rfl (.inl rfl))) (fun _ _ _ _ _ => pts_nil) (fun _ _ _ _ _ => (pe_cl c__law_some hr (by omega) (by rfl) (pa_cons (pv 0) (pa_cons (pv 2) pa_nil))))))))))))), ?_⟩
    have hzL : z.length ≤ sizeLine := Nat.le_trans hz (by decide)
    have lc : ∀ lo hi : Option Int, (cutS z lo hi).length ≤ z.length := fun lo hi => cutS_length z lo hi
    refine ⟨_, rfl, (by show 2 ≤ sizeLine; decide), fun p0 hp0 => ⟨_, rfl, d, c, 2, n, rfl, (by decide), (by decide), hS.put (hS.ne1 hp0) (hS.ne2 hp0), by omega, fun H1 r r0 r1 hS1 k1 => ?_⟩⟩
    have n1 : p0 ≠ d := (hS.ne1 hp0).symm
    have n2 : p0 ≠ c := (hS.ne2 hp0).symm
    have k0 : Kp d c H H1 := fun b o h1 h2 e => k1 b o h1 h2 (same_upd hp0 b o e)
    obtain ⟨sg, hv, g0, g1⟩ := sign_list r0 r1
    refine ⟨p0, _, _, .str sg, rfl, rfl, .inl (.inl (k1 p0 _ n1 n2 upd_same)), hv, ?_⟩
    refine ⟨_, rfl, d, c, 12, n + 1, rfl, (by decide), (by decide), hS1, by omega, fun H2 way w0 w1 hS2 k2 => ⟨_, rfl, _, rfl, d, c, n + 2, sg, rfl, hS2, by omega, g0, g1, fun H3 x hS3 k3 => ⟨_, rfl, d, c, 7, n + 3, rfl, (by decide), (by decide), hS3, by omega, fun H4 at_ a0 a1 hS4 k4 => ⟨_, _, _, rfl, ?_⟩⟩⟩⟩
    have kk : Kp d c H H4 := ((k0.trans k2).trans k3).trans k4
    have x1 : Str.length ⟨#[x]⟩ = 1 := rfl
    have c1 := lc none (some at_)
    have c2 := lc (some (at_ + 1)) none
    have c3 := lc (some at_) none
    have c4 := lc (some at_) (some 5)
    have c5 := lc none (some 5)
    have c6 := lc (some 2) none
    have c7 := lc (some 1) none
    have c8 := lc none (some 4)
    have c9 := lc (some 4) (some 5)
    refine ⟨_, rfl, _, _, rfl, rfl, _, rfl, ?_⟩
    refine ite2 (fun hb => ?_) (fun hb => ?_)
    · have hw : way < 5 := of_decide_eq_true hb
      refine ⟨_, rfl, _, rfl, _, rfl, _, rfl, hzL, _, rfl, _, _, rfl, rfl, (by rw [sizeLine_eq]; (try simp only [strLen_append]); omega), _, rfl, _, rfl, _, _, rfl, rfl, _, rfl, _, rfl, hzL, _, _, rfl, rfl, (by rw [sizeLine_eq]; (try simp only [strLen_append]); omega), _, rfl, _, rfl, _, rfl, _, rfl, hzL, _, rfl, _, _, rfl, rfl, (by rw [sizeLine_eq]; (try simp only [strLen_append]); omega), _, rfl, _, rfl, _, rfl, _, rfl, hzL, _, _, rfl, rfl, (by rw [sizeLine_eq]; (try simp only [strLen_append]); omega), _, rfl, _, rfl, _, rfl, _, rfl, hzL, _, rfl, _, rfl, _, _, rfl, rfl, _, rfl, _, rfl, hzL, _, _, rfl, rfl, (by rw [sizeLine_eq]; (try simp only [strLen_append]); omega), (by show 3 ≤ sizeLine; decide), fun p1 hp1 => ?_⟩
      refine ⟨_, rfl, _, rfl, _, rfl, _, rfl, _, rfl, hzL, _, rfl, _, _, rfl, rfl, (by rw [sizeLine_eq]; (try simp only [strLen_append]); omega), _, rfl, _, rfl, _, rfl, _, rfl, _, rfl, hzL, _, _, rfl, rfl, (by rw [sizeLine_eq]; (try simp only [strLen_append]); omega), _, rfl, _, rfl, _, rfl, hzL, _, rfl, _, _, rfl, rfl, (by rw [sizeLine_eq]; (try simp only [strLen_append]); omega), (by show 2 ≤ sizeLine; decide), fun p2 hp2 => ?_⟩
      have n12 : p1 ≠ p2 := ne_of_none upd_same hp2
      refine ⟨p1, p2, _, _, rfl, rfl, (by rw [upd_ne n12]; exact upd_same), upd_same, (by show 5 ≤ sizeLine; decide), fun p3 hp3 => ?_⟩
      have q1 : H4 p1 = none := hp1
      have q2 : H4 p2 = none := (same_upd hp1).free hp2
      have q3 : H4 p3 = none := (same_upd hp1).free ((same_upd hp2).free hp3)
      obtain ⟨y, hy, hyl⟩ := pick (B := 3 * z.length + 10) (ys := [cutS z none (some at_) ++ ⟨#[x]⟩ ++ cutS z (some (at_ + 1)) none, cutS z none (some at_) ++ ⟨#[x]⟩ ++ cutS z (some at_) none, cutS z none (some at_) ++ cutS z (some (at_ + 1)) none,
        cutS z none (some at_) ++ ⟨#[x]⟩ ++ cutS z (some at_) (some 5), cutS z none (some 5) ++ ⟨#[x]⟩]) w0 hw (by
          intro y hy
          simp only [List.mem_cons, List.not_mem_nil, or_false] at hy
          rcases hy with rfl | rfl | rfl | rfl | rfl <;> simp only [strLen_append] <;> omega)
      refine ⟨_, rfl, p3, _, _, .str y, rfl, rfl, .inl (.inl upd_same), hy, ?_⟩
      refine q _ y ?_ (kp_put (kp_put (kp_put kk (kk.free hS4 q1)) (kk.free hS4 q2)) (kk.free hS4 q3)) hyl
      exact (((hS4.mono (by omega)).put (hS4.ne1 q1) (hS4.ne2 q1)).put (hS4.ne1 q2) (hS4.ne2 q2)).put (hS4.ne1 q3) (hS4.ne2 q3)
    refine ⟨_, rfl, _, _, rfl, rfl, _, rfl, ?_⟩
    refine ite2 (fun hb2 => ?_) (fun hb2 => ?_)
    · have hw : way < 11 := of_decide_eq_true hb2
      have hw5 : ¬ way < 5 := fun e => hb (decide_eq_true e)
      have up := PyProof.Rows.len_upper z
      have l0 : Str.length "0x" = 2 := rfl
      have l1 : Str.length " " = 1 := rfl
      have l2 : Str.length "+" = 1 := rfl
      have l3 : Str.length "_" = 1 := rfl
      have l4 : Str.length "" = 0 := rfl
      refine ⟨_, rfl, ⟨_, rfl⟩, _, rfl, rfl, (by omega), _, rfl, _, rfl, _, rfl, hzL, _, _, rfl, rfl, (by rw [sizeLine_eq]; (try simp only [strLen_append]); omega), _, rfl, _, rfl, _, rfl, hzL, _, _, rfl, rfl, (by rw [sizeLine_eq]; (try simp only [strLen_append]); omega), _, rfl, _, rfl, _, rfl, hzL, _, _, rfl, rfl, (by rw [sizeLine_eq]; (try simp only [strLen_append]); omega), _, rfl, _, rfl, _, rfl, hzL, _, _, rfl, rfl, (by rw [sizeLine_eq]; (try simp only [strLen_append]); omega), _, rfl, _, rfl, _, rfl, _, rfl, hzL, _, _, rfl, rfl, (by rw [sizeLine_eq]; (try simp only [strLen_append]); omega), (by show 6 ≤ sizeLine; decide), fun p1 hp1 => ?_⟩
      obtain ⟨y, hy, hyl⟩ := pick (r := way - 5) (B := 3 * z.length + 10) (ys := [Txt.upper z, "0x" ++ cutS z (some 2) none, " " ++ cutS z (some 1) none, "", "+" ++ cutS z (some 1) none, cutS z none (some 4) ++ "_" ++ cutS z (some 4) (some 5)]) (by omega) (by show way - 5 < 6; omega) (by
          intro y hy
          simp only [List.mem_cons, List.not_mem_nil, or_false] at hy
          rcases hy with rfl | rfl | rfl | rfl | rfl | rfl <;> (try simp only [strLen_append]) <;> omega)
      refine ⟨_, rfl, _, rfl, _, _, rfl, rfl, p1, _, _, .str y, rfl, rfl, .inl (.inl upd_same), hy, ?_⟩
      refine q _ y ?_ (kp_put kk (kk.free hS4 hp1)) hyl
      exact (hS4.mono (by omega)).put (hS4.ne1 hp1) (hS4.ne2 hp1)
    · refine ⟨⟨_, rfl⟩, _, rfl, d, c, 9, n + 4, rfl, (by decide), (by decide), hS4, by omega, fun H5 r5 r50 r51 hS5 k5 => ⟨_, rfl, (by omega), (by omega), fun D hD => ?_⟩⟩
      have k15 := kk.trans k5
      have hD1 : H D = none := k15.free hS5 hD
      have nDd : D ≠ d := (hS5.ne1 hD).symm
      have nDc : D ≠ c := (hS5.ne2 hD).symm
      refine lc_it walk_range (fun i H6 => StAt H6 d c (n + 5 + i) ∧ Kp d c H H6 ∧ ∃ ys : List Str, H6 D = some (.lst (ys.map V.str)) ∧ (∀ y ∈ ys, y.length = 1) ∧ ys.length = i) ⟨hS5.put (hS5.ne1 hD) (hS5.ne2 hD), kp_put k15 hD1, [], upd_same, (fun _ h => (List.not_mem_nil h).elim), rfl⟩ (fun _ _ _ _ => trivial) ?_ ?_
      · rintro i u H6 H7 hi ⟨hS6, k6, ys, hL, hd, hl⟩ ⟨rfl, rfl⟩
        have hi' : i < 9 := by omega
        refine ⟨rfl, tYes_at ?_⟩
        rw [if_pos rfl]
        refine ⟨_, rfl, _, rfl, d, c, n + 5 + i, sg, rfl, hS6, by omega, g0, g1, fun H8 x8 hS8 k8 => ?_⟩
        refine ⟨_, k8 D _ nDd nDc hL, ?_, (hS8.mono (by omega)).put nDd.symm nDc.symm, kp_put (k6.trans k8) hD1, ys ++ [⟨#[x8]⟩], ?_, fun y hy => ?_, ?_⟩
        · rw [List.length_map, hl]; exact Nat.lt_trans hi' (by decide)
        · rw [upd_same, List.map_append]; rfl
        · rcases List.mem_append.mp hy with e | e
          · exact hd y e
          · rw [List.mem_singleton] at e; subst e; rfl
        · rw [List.length_append, hl]; rfl
      · rintro H6 ⟨hS6, k6, ys, hL, hd, hl⟩
        have h9 : ys.length < 9 := by omega
        have sm1 : (ys.map (·.length)).sum = ys.length := sum_ones hd
        refine ⟨_, D, ys, rfl, rfl, .inl (.inl (.inl hL)), (by show _ + _ * 0 ≤ _; omega), ?_⟩
        refine q _ _ (hS6.mono (by omega)) k6 ?_
        have hj : (Txt.join (Str.ofString "") ys).length ≤ ys.length := by rw [TL.join_eq]; exact join_len hd
        omega
end
end Pot

namespace Pot
open PySem PySem.Spec PyProof.Rows L2
section
variable {P : Program} {w : World} {K : PySem.W.Frag} {mg : Str → Option Value} {base : Heap}
/-! ### law -/
theorem txt_hours {p q : Nat → Bool} (h : txt p = txt q) : hoursP p 24 = hoursP q 24 := by
  have hb : bitsP p = bitsP q := by rw [← txt_num, ← txt_num, h]
  have e : ∀ i, i < 24 → p i = q i := fun i hi => by
    have h1 := bitsP_bit p hi
    have h2 := bitsP_bit q hi
    rw [hb, h2] at h1
    revert h1
    unfold b2
    cases p i <;> cases q i <;> decide
  unfold hoursP
  congr 1
  exact List.filter_congr fun i hi => e i (List.mem_range.mp hi)
theorem shaped_ints (l : List Int) : SeqAt.shaped (.list (l.map PyData.int)) = true := by
  have h1 : ∀ l : List Int, PyData.canLayAll0 (l.map PyData.int) = true := by
    intro l
    induction l with
    | nil => rfl
    | cons r l ih =>
      show (true && PyData.canLayAll0 (l.map PyData.int)) = true
      rw [ih]
      rfl
  have h2 := depth_ints l
  show (PyData.canLayAll0 (l.map PyData.int) && decide ((PyData.list (l.map PyData.int)).depth ≤ 64)) = true
  rw [h1, decide_eq_true (by omega)]
  rfl
theorem eqv_ints : ∀ l : List Int, PyData.eqv (.list (l.map PyData.int)) (.list (l.map PyData.int)) = true
  | [] => rfl
  | x :: r => by
    show ((x == x) && PyData.eqvAll (r.map PyData.int) (r.map PyData.int)) = true
    rw [beq_self_eq_true, show PyData.eqvAll (r.map PyData.int) (r.map PyData.int) = true from eqv_ints r]
    rfl
abbrev s_law : Stmt := topS 23
def n_law : List Str := ["_law_script", "_law_state", "_law_turn", "_law_hours_here", "_law_kept", "_law_due", "_law_found", "_law_again", "_law_text_here"]
theorem sc_law : FnScope n_law ["_law_script"] (defScope s_law) := ⟨rfl, rfl, rfl, by decide +kernel, rfl, by decide +kernel, by decide +kernel⟩
def spLaw (K : PySem.W.Frag) : Sp := fun vs H Q _ => ∃ (a : Addr) (ns : List Int), vs = [.ref a] ∧ SqL K H a (ns.map V.int) ∧ ns.length ≤ 63 ∧ ∀ H', Q (.bl true) H'
theorem ok_law {f fT C : Addr} {fdT : FuncData} {fd : FuncData} (F : Fun K "law" "law" s_law f fd) (T : Txt mg) (c__law_begin : Cl P w K mg base 1 "_law_begin" (spBegin K)) (c__law_hours : Cl P w K mg base 2 "_law_hours" spHours)
    (c__law_written : Cl P w K mg base 1 "_law_written" (spLWr K)) (c__law_same : Cl P w K mg base 4 "_law_same" (spSame K 3)) (c_tally_of : Cl P w K mg base 2 "tally_of" (spTallyOf K))
    (c__law_text : Cl P w K mg base 3 "_law_text" spText) (c__law_told : Cl P w K mg base 3 "_law_told" spTold) (c__law_read : Cl P w K mg base 1 "_law_read" spRead) 
    (GT : FnOk P w K mg base (L2.CX P w) 2 fT fdT ["text"] (spTallyHours C)) (FT : Fun K "tally_hours" "tally_hours" sTallyHours fT fdT) (bT : Binds K fdT ["text"] []) (gT : mg "tally_hours" = some (.ref fT)) :
    FnOk P w K mg base CX0 5 f fd ["_law_script"] (spLaw K) := by
  refine F.ok sc_law (fun vs H Q E h => ?_) (fun cdv A outer s H vs Q E hr h => ?_)
  · obtain ⟨a, ns, rfl, _⟩ := h
    rfl
  · obtain ⟨a, ns, rfl, hA, h63, q⟩ := h
    have nd := sc_law.nd
    have hu64 := hr.units
    have hr2 : Room 2 _ := hr.mono (by decide)
    refine ⟨_, (pss_cons (ps_set (i := 1) nd rfl (.inl rfl) (pe_cl c__law_begin hr (by omega) (by rfl) (pa_cons (pv 0) pa_nil)))
      (pss_cons (ps_for PassesOwn.never rfl (pi_range1 (by rfl) T.range (pa_cons pe_int pa_nil)) (pg_name (i := 2) nd rfl (.inl rfl))
          (pss_cons (ps_set (i := 3) nd rfl (.inl rfl) (pe_cl c__law_hours hr (by omega) (by rfl) (pa_cons (pv 1) pa_nil)))
          (pss_cons (ps_par (i := 4) (j := 5) rfl nd rfl rfl (by decide) rfl rfl (pa_cons (pe_callTy (kc_list (K := K)) (by rfl) T.list (by decide +kernel) (pa_cons (pv 3) pa_nil)) (pa_cons (pe_cl c__law_written hr (by omega) (by rfl) (pa_cons (pv 3) pa_nil)) pa_nil)) rfl)
          (pss_cons (ps_if ((pw_or (pt_not (pt_val (pe_cl c__law_same hr (by omega) (by rfl) (pa_cons (pe_cl c_tally_of hr (by omega) (by rfl) (pa_cons (pv 3) pa_nil)) (pa_cons (pv 5) pa_nil))))) (pw_or1 (pt_cmpR (ko_ne (K := K) hu64) (pv 3) (pv 4) (nomark _))))).pt
              pss_never
              pss_nil)
          (pss_cons (ps_set (i := 6) nd rfl (.inl rfl) (pe_callS GT hr2 (by rfl) gT FT.kp bT (fun σ => passAt (W := fun _ _ _ _ => False) takes0 σ) (pa_cons (pv 5) pa_nil)))
          (pss_cons (ps_if (pt_not (pt_val (pe_cl c__law_same hr (by omega) (by rfl) (pa_cons (pv 6) (pa_cons (pe_callB (kc_sortedSet (w := w)) (by rfl) T.sorted (by decide +kernel) (pa_cons (pe_callTy (kc_setLi (K := K) (w := w)) (by rfl) T.set (by decide +kernel) (pa_cons (pv 3) pa_nil)) pa_nil)) pa_nil)))))
              pss_never
              pss_nil)
          (pss_one (ps_for PassesOwn.never rfl (pi_range1 (by rfl) T.range (pa_cons pe_int pa_nil)) (pg_name (i := 7) nd rfl (.inl rfl))
              (pss_cons (ps_set (i := 8) nd rfl (.inl rfl) (pe_cl c__law_text hr (by omega) (by rfl) (pa_cons (pv 1) (pa_cons (pv 5) pa_nil))))
              (pss_cons (ps_if (pt_cmpR op_eq (pv 7) pe_int (nomark _))
                  (pss_one (ps_set (i := 8) nd rfl (.inl rfl) (pe_cl c__law_text hr (by omega) (by rfl) (pa_cons (pv 1) (pa_cons (pv 8) pa_nil)))))
                  pss_nil)
              (pss_one (ps_if (pt_not (pt_val (pe_cl c__law_same hr (by omega) (by rfl) (pa_cons (pe_cl c__law_told hr (by omega) (by rfl) (pa_cons (pv 8) pa_nil)) (pa_cons (pe_cl c__law_read hr (by omega) (by rfl) (pa_cons (pv 8) pa_nil)) pa_nil)))))
                  pss_never
                  pss_nil))))))))))))
      (pss_one (ps_ret pe_bl)))), ?_⟩
    refine ⟨_, rfl, a, ns, rfl, hA, h63, fun H1 d c sm1 hSt nd0 nc0 => ?_⟩
    refine ⟨_, rfl, (by decide), (by decide), ?_⟩
    refine for_it walk_range (fun i σ H2 => ∃ v2 v3 v4 v5 v6 v7 v8, σ = [some (.ref a), some (.ref d), v2, v3, v4, v5, v6, v7, v8] ∧ StAt H2 d c (300 * i)) ⟨none, none, none, none, none, none, none, rfl, hSt⟩ (fun _ _ _ _ _ => trivial) ?_ ?_
    · rintro i x σ H2 H3 hi ⟨v2, v3, v4, v5, v6, v7, v8, rfl, hS2⟩ ⟨rfl, rfl⟩
      have hi' : i < 12 := hi
      refine ⟨_, rfl, d, c, 300 * i, rfl, hS2, by omega, fun H4 L os hS4 k4 nL hL dL => ?_⟩
      have nLd : L ≠ d := (hS2.ne1 nL).symm
      have nLc : L ≠ c := (hS2.ne2 nL).symm
      have l50 := dL.2
      refine ⟨_, rfl, L, _, rfl, .inl (SqL.of hL), fun L2 n2 => ⟨_, rfl, L, os, rfl, SqL.of (same_upd n2 _ _ hL), fun H5 s5 => ⟨_, _, rfl, ?_⟩⟩⟩
      have hS5 : StAt H5 d c (300 * i + 30) := (hS4.put (hS4.ne1 n2) (hS4.ne2 n2)).same s5
      have hL5 := s5 _ _ (same_upd (o := .lst (os.map V.int)) n2 _ _ hL)
      have hL2 := s5 _ _ (upd_same (H := H4) (a := L2) (o := .lst (os.map V.int)))
      -- the tally
      refine ⟨_, rfl, L, os, rfl, SqL.of hL5, fun H6 s6 => ⟨_, rfl, _, _, .str _, rfl, .str _, .str _, (by show 0 < 3; decide), Nat.zero_le _, fun H7 s7 => ⟨_, rfl, iteF ?_⟩⟩⟩
      have s67 := s6.trans s7
      have hS7 := hS5.same s67
      have hL7 := s67 _ _ hL5
      have hL27 := s67 _ _ hL2
      refine ⟨_, rfl, _, rfl, .list (os.map PyData.int), .list (os.map PyData.int), .lst (SqL.of hL7) (dp_ints os), .lst (SqL.of hL27) (dp_ints os), shaped_ints os, shaped_ints os, _, rfl, ?_⟩
      rw [eqv_ints]
      refine iteF ?_
      -- its hours
      refine ⟨_, rfl, txt (memP os), rfl, (by show 6 ≤ 1000; decide), fun p ep H8 D s8 nD hD => ?_, fun z => absurd rfl (z (memP os))⟩
      rw [← txt_hours ep] at hD
      have hS8 := hS7.same s8
      have hL8 := s8 _ _ hL7
      refine ⟨_, rfl, _, rfl, L, os, rfl, SqL.of hL8, (by omega), fun p2 cn np2 hcn => ⟨p2, _, cn, rfl, upd_same, (by omega), fun es p3 hup hmem hlen np3 => ?_⟩⟩
      have ees : es = hoursP (memP os) 24 := rise_ext hup (hoursP_rise _) fun k => by
        rw [mem_hours_of dL.1]
        exact (hmem k).trans decide_eq_true_iff
      subst ees
      have s9 : Same H8 (upd (upd H8 p2 (SetO w p2 (fun k => decide (k ∈ os)) cn)) p3 (.lst ((hoursP (memP os) 24).map V.int))) := (same_upd np2).trans (same_upd np3)
      have h9 : upd (upd H8 p2 (SetO w p2 (fun k => decide (k ∈ os)) cn)) p3 (.lst ((hoursP (memP os) 24).map V.int)) p3 = some (.lst ((hoursP (memP os) 24).map V.int)) := upd_same
      have l24 := hoursP_len (memP os) 24
      refine ⟨_, _, .list ((hoursP (memP os) 24).map PyData.int), rfl, .lst (SqL.of (s9 _ _ hD)) (dp_ints _), .lst (SqL.of h9) (dp_ints _), (by rw [depth_ints]; decide), (by rw [wid_ints]; omega), fun H10 s10 => ⟨_, rfl, iteF ?_⟩⟩
      have hS10 := (hS8.same s9).same s10
      -- the texts
      refine ⟨_, rfl, (by decide), (by decide), ?_⟩
      refine for_it walk_range (fun j σ H2 => ∃ v6 v7 v8, σ = [some (.ref a), some (.ref d), some (V.int (0 + (i : Int))), some (.ref L), some (.ref L2), some (.str (SX.S (txt (memP os)))), v6, v7, v8] ∧ StAt H2 d c (300 * i + 30 + 40 * j)) ⟨_, _, _, rfl, hS10⟩ (fun _ _ _ _ _ => trivial) ?_ ?_
      · rintro j x σ H11 H12 hj ⟨v6, v7, v8, rfl, hS11⟩ ⟨rfl, rfl⟩
        have hj' : j < 4 := hj
        refine ⟨_, rfl, _, rfl, d, c, 300 * i + 30 + 40 * j, SX.S (txt (memP os)), rfl, hS11, by omega, (by show 6 ≤ 200; decide), fun H13 y hS13 k13 hy => ?_⟩
        have hy28 : Str.length y ≤ 28 := hy
        refine ⟨_, rfl, rfl, _, rfl, ?_⟩
        refine ite2 (fun _ => ?_) (fun _ => ?_)
        · refine ⟨_, rfl, _, rfl, d, c, 300 * i + 30 + 40 * j + 20, y, rfl, hS13, by omega, (by omega), fun H14 y2 hS14 k14 hy2 => ?_⟩
          refine ⟨_, rfl, y2.cps.toList, (by rw [SX.S_tl]; rfl), (by rw [Array.length_toList]; have e : y2.length = y2.cps.size := rfl; omega), fun p1 ep1 H15 D1 s15 n15 h15 => ?_, fun z H15 s15 => ?_⟩
          · refine ⟨_, rfl, y2.cps.toList, (by rw [SX.S_tl]; rfl), (by rw [Array.length_toList]; have e : y2.length = y2.cps.size := rfl; omega), fun p4 ep4 H16 D2 s16 n16 h16 => ?_, fun z => absurd ep1 (z p1)⟩
            rw [txt_hours (ep4.symm.trans ep1)] at h16
            have l24 := hoursP_len p1 24
            refine ⟨_, _, .list ((hoursP p1 24).map PyData.int), rfl, .lst (SqL.of (s16 _ _ h15)) (dp_ints _), .lst (SqL.of h16) (dp_ints _), (by rw [depth_ints]; decide), (by rw [wid_ints]; omega), fun H17 s17 => ⟨_, rfl, iteF ?_⟩⟩
            exact ⟨_, _, _, rfl, (((hS14.same s15).same s16).same s17).mono (by omega)⟩
          · refine ⟨_, rfl, y2.cps.toList, (by rw [SX.S_tl]; rfl), (by rw [Array.length_toList]; have e : y2.length = y2.cps.size := rfl; omega), fun p4 ep4 => absurd ep4 (z p4), fun _ H16 s16 => ?_⟩
            refine ⟨_, _, .none, rfl, .non, .non, (by show 0 < 3; decide), Nat.zero_le _, fun H17 s17 => ⟨_, rfl, iteF ?_⟩⟩
            exact ⟨_, _, _, rfl, (((hS14.same s15).same s16).same s17).mono (by omega)⟩
        · refine ⟨_, rfl, y.cps.toList, (by rw [SX.S_tl]; rfl), (by rw [Array.length_toList]; have e : y.length = y.cps.size := rfl; omega), fun p1 ep1 H15 D1 s15 n15 h15 => ?_, fun z H15 s15 => ?_⟩
          · refine ⟨_, rfl, y.cps.toList, (by rw [SX.S_tl]; rfl), (by rw [Array.length_toList]; have e : y.length = y.cps.size := rfl; omega), fun p4 ep4 H16 D2 s16 n16 h16 => ?_, fun z => absurd ep1 (z p1)⟩
            rw [txt_hours (ep4.symm.trans ep1)] at h16
            have l24 := hoursP_len p1 24
            refine ⟨_, _, .list ((hoursP p1 24).map PyData.int), rfl, .lst (SqL.of (s16 _ _ h15)) (dp_ints _), .lst (SqL.of h16) (dp_ints _), (by rw [depth_ints]; decide), (by rw [wid_ints]; omega), fun H17 s17 => ⟨_, rfl, iteF ?_⟩⟩
            exact ⟨_, _, _, rfl, (((hS13.same s15).same s16).same s17).mono (by omega)⟩
          · refine ⟨_, rfl, y.cps.toList, (by rw [SX.S_tl]; rfl), (by rw [Array.length_toList]; have e : y.length = y.cps.size := rfl; omega), fun p4 ep4 => absurd ep4 (z p4), fun _ H16 s16 => ?_⟩
            refine ⟨_, _, .none, rfl, .non, .non, (by show 0 < 3; decide), Nat.zero_le _, fun H17 s17 => ⟨_, rfl, iteF ?_⟩⟩
            exact ⟨_, _, _, rfl, (((hS13.same s15).same s16).same s17).mono (by omega)⟩
      · rintro σ H11 ⟨v6, v7, v8, rfl, hS11⟩
        exact ⟨_, _, _, _, _, _, _, rfl, hS11.mono (by show 300 * i + 30 + 40 * 4 ≤ _; omega)⟩
    · rintro σ H2 ⟨v2, v3, v4, v5, v6, v7, v8, rfl, hS2⟩
      exact q _
end
end Pot

namespace Pot
open PySem PySem.Spec PyProof.Rows L2
theorem kit_sub {K : PySem.W.Frag} {t : Value} {C : Addr} {b : Bool} (ne : (t == Value.ref C) = false) (hd : PySem.W.hasDictIn K C = true) (ht : PySem.W.typeIn K (.ref C) = some (.type "type")) (hs : PySem.W.subIn K t (.ref C) = some b) : PySem.W.kitOne K t (.ref C) = some b := by
  obtain ⟨cd, hc, _⟩ := PySem.W.any_some hd
  have e2 : ((PySem.W.clsIn K C).isSome && PySem.W.typeIn K (.ref C) == some (.type "type")) = true := by rw [hc, ht] <;> rfl
  show (if (t == Value.ref C) = true then some true else (if ((PySem.W.clsIn K C).isSome && PySem.W.typeIn K (.ref C) == some (.type "type")) = true then PySem.W.subIn K t (.ref C) else none)) = some b
  rw [if_neg (by rw [ne]; exact Bool.false_ne_true), if_pos e2]
  exact hs
theorem kit_val {K : PySem.W.Frag} {C : Addr} {b : Bool} (hs : PySem.W.subIn K (.ref C) (.type "ValueError") = some b) : PySem.W.kitOne K (.ref C) (.type "ValueError") = some b := by
  show (if (Value.ref C == Value.type "ValueError") = true then some true else (if PySem.W.kitMeta "ValueError" = true then PySem.W.subIn K (.ref C) (.type "ValueError") else none)) = some b
  rw [if_neg (by show ¬ (false = true); exact Bool.false_ne_true), if_pos (by decide +kernel)]
  exact hs
theorem kit_three {K : PySem.W.Frag} {t a b c : Value} (h1 : PySem.W.kitOne K t a = some false) (h2 : PySem.W.kitOne K t b = some false) (h3 : PySem.W.kitOne K t c = some false) : PySem.W.kitAny K t [a, b, c] = some false := by
  unfold PySem.W.kitAny; rw [h1]
  unfold PySem.W.kitAny; rw [h2]
  unfold PySem.W.kitAny; rw [h3]
  rfl
abbrev s_tally_of : Stmt := sTallyOf
abbrev s_tally_hours : Stmt := sTallyHours
abbrev s_written : Stmt := sWritten
abbrev s_bits_of : Stmt := sBits
abbrev s__law_written : Stmt := sLWr
abbrev s__law_told : Stmt := sTold
theorem all_mk {l : PySem.W.OpenLaw} {w : World} {K : PySem.W.Frag} {h : Heap} {mg : Str → Option Value} {fa : Addr} (X : K.In h) (G : h.Ns mainGlobals mg) (hfa : mg "law" = some (.ref fa))
    {f1 : Addr} {od1 an1 : Option Addr} {sl1 : Array (Option Value)} {oc1 kV1 dc1 pm1 cd1 ct1 : Value}
    {f2 : Addr} {od2 an2 : Option Addr} {sl2 : Array (Option Value)} {oc2 kV2 dc2 pm2 cd2 ct2 : Value}
    {f3 : Addr} {od3 an3 : Option Addr} {sl3 : Array (Option Value)} {oc3 kV3 dc3 pm3 cd3 ct3 : Value}
    {f4 : Addr} {od4 an4 : Option Addr} {sl4 : Array (Option Value)} {oc4 kV4 dc4 pm4 cd4 ct4 : Value}
    {f5 : Addr} {od5 an5 : Option Addr} {sl5 : Array (Option Value)} {oc5 kV5 dc5 pm5 cd5 ct5 : Value}
    {f6 : Addr} {od6 an6 : Option Addr} {sl6 : Array (Option Value)} {oc6 kV6 dc6 pm6 cd6 ct6 : Value}
    {f7 : Addr} {od7 an7 : Option Addr} {sl7 : Array (Option Value)} {oc7 kV7 dc7 pm7 cd7 ct7 : Value}
    {f8 : Addr} {od8 an8 : Option Addr} {sl8 : Array (Option Value)} {oc8 kV8 dc8 pm8 cd8 ct8 : Value}
    {f9 : Addr} {od9 an9 : Option Addr} {sl9 : Array (Option Value)} {oc9 kV9 dc9 pm9 cd9 ct9 : Value}
    {f10 : Addr} {od10 an10 : Option Addr} {sl10 : Array (Option Value)} {oc10 kV10 dc10 pm10 cd10 ct10 : Value}
    {f11 : Addr} {od11 an11 : Option Addr} {sl11 : Array (Option Value)} {oc11 kV11 dc11 pm11 cd11 ct11 : Value}
    {f12 : Addr} {od12 an12 : Option Addr} {sl12 : Array (Option Value)} {oc12 kV12 dc12 pm12 cd12 ct12 : Value}
    {f13 : Addr} {od13 an13 : Option Addr} {sl13 : Array (Option Value)} {oc13 kV13 dc13 pm13 cd13 ct13 : Value}
    {f14 : Addr} {od14 an14 : Option Addr} {sl14 : Array (Option Value)} {oc14 kV14 dc14 pm14 cd14 ct14 : Value}
    {tc1 : Tok}
    {tc2 : Tok}
    {C : Addr}
    {cH : Addr}
    {cR : Addr}
    {cF : Addr}
    {cN : Addr}
    (a1 : PySem.W.nsIn K mainGlobals "tally_of" = some (some (.ref f1))) (l1 : K.lookup f1 = some ⟨oc1, od1, .func (PySem.W.fnOf "tally_of" "tally_of" (defArgs s_tally_of) (defBody s_tally_of) (defScope s_tally_of) .none kV1 dc1 pm1 an1 cd1 ct1), sl1⟩) (c1 : PySem.W.codeIn K cd1 "tally_of" = true) (k1 : PySem.W.keepIn K (.ref f1) = true)
    (a2 : PySem.W.nsIn K mainGlobals "tally_hours" = some (some (.ref f2))) (l2 : K.lookup f2 = some ⟨oc2, od2, .func (PySem.W.fnOf "tally_hours" "tally_hours" (defArgs s_tally_hours) (defBody s_tally_hours) (defScope s_tally_hours) .none kV2 dc2 pm2 an2 cd2 ct2), sl2⟩) (c2 : PySem.W.codeIn K cd2 "tally_hours" = true) (k2 : PySem.W.keepIn K (.ref f2) = true)
    (a3 : PySem.W.nsIn K mainGlobals "written" = some (some (.ref f3))) (l3 : K.lookup f3 = some ⟨oc3, od3, .func (PySem.W.fnOf "written" "written" (defArgs s_written) (defBody s_written) (defScope s_written) .none kV3 dc3 pm3 an3 cd3 ct3), sl3⟩) (c3 : PySem.W.codeIn K cd3 "written" = true) (k3 : PySem.W.keepIn K (.ref f3) = true)
    (a4 : PySem.W.nsIn K mainGlobals "bits_of" = some (some (.ref f4))) (l4 : K.lookup f4 = some ⟨oc4, od4, .func (PySem.W.fnOf "bits_of" "bits_of" (defArgs s_bits_of) (defBody s_bits_of) (defScope s_bits_of) .none kV4 dc4 pm4 an4 cd4 ct4), sl4⟩) (c4 : PySem.W.codeIn K cd4 "bits_of" = true) (k4 : PySem.W.keepIn K (.ref f4) = true)
    (a5 : PySem.W.nsIn K mainGlobals "_law_begin" = some (some (.ref f5))) (l5 : K.lookup f5 = some ⟨oc5, od5, .func (PySem.W.fnOf "_law_begin" "_law_begin" (defArgs s__law_begin) (defBody s__law_begin) (defScope s__law_begin) .none kV5 dc5 pm5 an5 cd5 ct5), sl5⟩) (c5 : PySem.W.codeIn K cd5 "_law_begin" = true) (k5 : PySem.W.keepIn K (.ref f5) = true)
    (a6 : PySem.W.nsIn K mainGlobals "_law_take" = some (some (.ref f6))) (l6 : K.lookup f6 = some ⟨oc6, od6, .func (PySem.W.fnOf "_law_take" "_law_take" (defArgs s__law_take) (defBody s__law_take) (defScope s__law_take) .none kV6 dc6 pm6 an6 cd6 ct6), sl6⟩) (c6 : PySem.W.codeIn K cd6 "_law_take" = true) (k6 : PySem.W.keepIn K (.ref f6) = true)
    (a7 : PySem.W.nsIn K mainGlobals "_law_some" = some (some (.ref f7))) (l7 : K.lookup f7 = some ⟨oc7, od7, .func (PySem.W.fnOf "_law_some" "_law_some" (defArgs s__law_some) (defBody s__law_some) (defScope s__law_some) .none kV7 dc7 pm7 an7 cd7 ct7), sl7⟩) (c7 : PySem.W.codeIn K cd7 "_law_some" = true) (k7 : PySem.W.keepIn K (.ref f7) = true)
    (a8 : PySem.W.nsIn K mainGlobals "_law_same" = some (some (.ref f8))) (l8 : K.lookup f8 = some ⟨oc8, od8, .func (PySem.W.fnOf "_law_same" "_law_same" (defArgs s__law_same) (defBody s__law_same) (defScope s__law_same) .none kV8 dc8 pm8 an8 cd8 ct8), sl8⟩) (c8 : PySem.W.codeIn K cd8 "_law_same" = true) (k8 : PySem.W.keepIn K (.ref f8) = true)
    (a9 : PySem.W.nsIn K mainGlobals "_law_hours" = some (some (.ref f9))) (l9 : K.lookup f9 = some ⟨oc9, od9, .func (PySem.W.fnOf "_law_hours" "_law_hours" (defArgs s__law_hours) (defBody s__law_hours) (defScope s__law_hours) .none kV9 dc9 pm9 an9 cd9 ct9), sl9⟩) (c9 : PySem.W.codeIn K cd9 "_law_hours" = true) (k9 : PySem.W.keepIn K (.ref f9) = true)
    (a10 : PySem.W.nsIn K mainGlobals "_law_written" = some (some (.ref f10))) (l10 : K.lookup f10 = some ⟨oc10, od10, .func (PySem.W.fnOf "_law_written" "_law_written" (defArgs s__law_written) (defBody s__law_written) (defScope s__law_written) .none kV10 dc10 pm10 an10 cd10 ct10), sl10⟩) (c10 : PySem.W.codeIn K cd10 "_law_written" = true) (k10 : PySem.W.keepIn K (.ref f10) = true)
    (a11 : PySem.W.nsIn K mainGlobals "_law_read" = some (some (.ref f11))) (l11 : K.lookup f11 = some ⟨oc11, od11, .func (PySem.W.fnOf "_law_read" "_law_read" (defArgs s__law_read) (defBody s__law_read) (defScope s__law_read) .none kV11 dc11 pm11 an11 cd11 ct11), sl11⟩) (c11 : PySem.W.codeIn K cd11 "_law_read" = true) (k11 : PySem.W.keepIn K (.ref f11) = true)
    (a12 : PySem.W.nsIn K mainGlobals "_law_text" = some (some (.ref f12))) (l12 : K.lookup f12 = some ⟨oc12, od12, .func (PySem.W.fnOf "_law_text" "_law_text" (defArgs s__law_text) (defBody s__law_text) (defScope s__law_text) .none kV12 dc12 pm12 an12 cd12 ct12), sl12⟩) (c12 : PySem.W.codeIn K cd12 "_law_text" = true) (k12 : PySem.W.keepIn K (.ref f12) = true)
    (a13 : PySem.W.nsIn K mainGlobals "_law_told" = some (some (.ref f13))) (l13 : K.lookup f13 = some ⟨oc13, od13, .func (PySem.W.fnOf "_law_told" "_law_told" (defArgs s__law_told) (defBody s__law_told) (defScope s__law_told) .none kV13 dc13 pm13 an13 cd13 ct13), sl13⟩) (c13 : PySem.W.codeIn K cd13 "_law_told" = true) (k13 : PySem.W.keepIn K (.ref f13) = true)
    (a14 : PySem.W.nsIn K mainGlobals "law" = some (some (.ref f14))) (l14 : K.lookup f14 = some ⟨oc14, od14, .func (PySem.W.fnOf "law" "law" (defArgs s_law) (defBody s_law) (defScope s_law) .none kV14 dc14 pm14 an14 cd14 ct14), sl14⟩) (c14 : PySem.W.codeIn K cd14 "law" = true) (k14 : PySem.W.keepIn K (.ref f14) = true)
    (z1 : PySem.W.nsIn K mainGlobals "len" = some none)
    (z2 : PySem.W.nsIn K mainGlobals "divmod" = some none)
    (z3 : PySem.W.nsIn K mainGlobals "range" = some none)
    (z4 : PySem.W.nsIn K mainGlobals "sum" = some none)
    (z5 : PySem.W.nsIn K mainGlobals "all" = some none)
    (z6 : PySem.W.nsIn K mainGlobals "any" = some none)
    (z7 : PySem.W.nsIn K mainGlobals "isinstance" = some none)
    (z8 : PySem.W.nsIn K mainGlobals "str" = some none)
    (z9 : PySem.W.nsIn K mainGlobals "int" = some none)
    (z10 : PySem.W.nsIn K mainGlobals "list" = some none)
    (z11 : PySem.W.nsIn K mainGlobals "tuple" = some none)
    (z12 : PySem.W.nsIn K mainGlobals "bool" = some none)
    (z13 : PySem.W.nsIn K mainGlobals "zip" = some none)
    (z14 : PySem.W.nsIn K mainGlobals "set" = some none)
    (z15 : PySem.W.nsIn K mainGlobals "sorted" = some none)
    (z16 : PySem.W.nsIn K mainGlobals "enumerate" = some none)
    (z17 : PySem.W.nsIn K mainGlobals "repr" = some none)
    (z18 : PySem.W.nsIn K mainGlobals "min" = some none)
    (z19 : PySem.W.nsIn K mainGlobals "max" = some none)
    (z20 : PySem.W.nsIn K mainGlobals "abs" = some none)
    (y1 : PySem.W.nsIn K mainGlobals "DAY" = some (some (.int 24 tc1)))
    (y2 : PySem.W.nsIn K mainGlobals "SIGNS" = some (some (.str "0123456789abcdef" tc2)))
    (hC : PySem.W.nsIn K mainGlobals "BadTally" = some (some (.ref C)))
    (hH : PySem.W.nsIn K mainGlobals "HallError" = some (some (.ref cH)))
    (hR : PySem.W.nsIn K mainGlobals "BadRow" = some (some (.ref cR)))
    (hF : PySem.W.nsIn K mainGlobals "Full" = some (some (.ref cF)))
    (hN : PySem.W.nsIn K mainGlobals "Never" = some (some (.ref cN)))
    (hV : PySem.W.nsIn K mainGlobals "ValueError" = some none)
    (xC : PySem.W.excIn K C [.type "ValueError", .type "Exception", .type "BaseException", .type "object"] "ValueError.__new__" = true)
    (kC : PySem.W.keepIn K (.ref C) = true)
    (bC : PySem.W.subIn K (.ref C) (.type "BaseException") = some true)
    (tC : PySem.W.typeIn K (.ref C) = some (.type "type"))
    (bH : PySem.W.subIn K (.ref cH) (.type "BaseException") = some true)
    (dH : PySem.W.hasDictIn K cH = true)
    (tH : PySem.W.typeIn K (.ref cH) = some (.type "type"))
    (sC : PySem.W.subIn K (.ref C) (.ref cH) = some true)
    (e1 : PySem.W.findIn K (.ref C) "__getattribute__" = some (some (.builtin "BaseException.__getattribute__")))
    (e2 : PySem.W.findIn K (.ref C) "__getattr__" = some none)
    (e4 : PySem.W.hasDictIn K C = true)
    (e5 : PySem.W.findIn K (.ref C) "__class__" = some (some (.builtin "object.__class__")))
    (e6 : PySem.W.specialIn K (.builtin "object.__class__") "__get__" = some (some (.builtin "getset_descriptor.__get__")))
    (e7 : PySem.W.takesIn K (.builtin "object.__class__") = some true)
    (e8 : PySem.W.mroIn K C (.type "object") = some true)
    (sV : PySem.W.subIn K (.ref C) (.type "ValueError") = some true)
    (o3 : PySem.W.kitOne K (.ref C) (.ref C) = some true)
    (ncR : (Value.ref C == Value.ref cR) = false)
    (scR : PySem.W.subIn K (.ref C) (.ref cR) = some false)
    (dcR : PySem.W.hasDictIn K cR = true)
    (tcR : PySem.W.typeIn K (.ref cR) = some (.type "type"))
    (ncF : (Value.ref C == Value.ref cF) = false)
    (scF : PySem.W.subIn K (.ref C) (.ref cF) = some false)
    (dcF : PySem.W.hasDictIn K cF = true)
    (tcF : PySem.W.typeIn K (.ref cF) = some (.type "type"))
    (ncN : (Value.ref C == Value.ref cN) = false)
    (scN : PySem.W.subIn K (.ref C) (.ref cN) = some false)
    (dcN : PySem.W.hasDictIn K cN = true)
    (tcN : PySem.W.typeIn K (.ref cN) = some (.type "type"))
    : ∃ fd : FuncData, (∀ (s : Shared) (v : Value), BindsTo s fd ⟨[v], []⟩ [("_law_script", v)]) ∧ ∀ base : Heap, K.In base → base.Ns mainGlobals mg → FnOk l.prog w K mg base CX0 5 fa fd ["_law_script"] (spLaw K) := by
  have e := hfa.symm.trans (PySem.W.mg_of X G a14)
  cases e
  have T : Txt mg := ⟨PySem.W.mg_none_of X G z1, PySem.W.mg_none_of X G z2, PySem.W.mg_none_of X G z3, PySem.W.mg_none_of X G z4, PySem.W.mg_none_of X G z5, PySem.W.mg_none_of X G z6, PySem.W.mg_none_of X G z7, PySem.W.mg_none_of X G z8, PySem.W.mg_none_of X G z9, PySem.W.mg_none_of X G z10, PySem.W.mg_none_of X G z11, PySem.W.mg_none_of X G z12, PySem.W.mg_none_of X G z13, PySem.W.mg_none_of X G z14, PySem.W.mg_none_of X G z15, PySem.W.mg_none_of X G z16, PySem.W.mg_none_of X G z17, PySem.W.mg_none_of X G z18, PySem.W.mg_none_of X G z19, PySem.W.mg_none_of X G z20⟩
  have F1 := fun_mk (st := s_tally_of) l1 c1 k1
  have b1 := F1.binds (ps := ["hours"]) fun _ _ _ _ _ _ us hl => match us, hl with | [_], _ => rfl
  have g1 := PySem.W.mg_of X G a1
  have F2 := fun_mk (st := s_tally_hours) l2 c2 k2
  have b2 := F2.binds (ps := ["text"]) fun _ _ _ _ _ _ us hl => match us, hl with | [_], _ => rfl
  have g2 := PySem.W.mg_of X G a2
  have F3 := fun_mk (st := s_written) l3 c3 k3
  have b3 := F3.binds (ps := ["bits"]) fun _ _ _ _ _ _ us hl => match us, hl with | [_], _ => rfl
  have g3 := PySem.W.mg_of X G a3
  have F4 := fun_mk (st := s_bits_of) l4 c4 k4
  have b4 := F4.binds (ps := ["text"]) fun _ _ _ _ _ _ us hl => match us, hl with | [_], _ => rfl
  have g4 := PySem.W.mg_of X G a4
  have F5 := fun_mk (st := s__law_begin) l5 c5 k5
  have b5 := F5.binds (ps := ["_law_script"]) fun _ _ _ _ _ _ us hl => match us, hl with | [_], _ => rfl
  have g5 := PySem.W.mg_of X G a5
  have F6 := fun_mk (st := s__law_take) l6 c6 k6
  have b6 := F6.binds (ps := ["_law_state", "_law_many"]) fun _ _ _ _ _ _ us hl => match us, hl with | [_, _], _ => rfl
  have g6 := PySem.W.mg_of X G a6
  have F7 := fun_mk (st := s__law_some) l7 c7 k7
  have b7 := F7.binds (ps := ["_law_state", "_law_things"]) fun _ _ _ _ _ _ us hl => match us, hl with | [_, _], _ => rfl
  have g7 := PySem.W.mg_of X G a7
  have F8 := fun_mk (st := s__law_same) l8 c8 k8
  have b8 := F8.binds (ps := ["_law_found", "_law_due"]) fun _ _ _ _ _ _ us hl => match us, hl with | [_, _], _ => rfl
  have g8 := PySem.W.mg_of X G a8
  have F9 := fun_mk (st := s__law_hours) l9 c9 k9
  have b9 := F9.binds (ps := ["_law_state"]) fun _ _ _ _ _ _ us hl => match us, hl with | [_], _ => rfl
  have g9 := PySem.W.mg_of X G a9
  have F10 := fun_mk (st := s__law_written) l10 c10 k10
  have b10 := F10.binds (ps := ["_law_hours_here"]) fun _ _ _ _ _ _ us hl => match us, hl with | [_], _ => rfl
  have g10 := PySem.W.mg_of X G a10
  have F11 := fun_mk (st := s__law_read) l11 c11 k11
  have b11 := F11.binds (ps := ["_law_text_here"]) fun _ _ _ _ _ _ us hl => match us, hl with | [_], _ => rfl
  have g11 := PySem.W.mg_of X G a11
  have F12 := fun_mk (st := s__law_text) l12 c12 k12
  have b12 := F12.binds (ps := ["_law_state", "_law_tally"]) fun _ _ _ _ _ _ us hl => match us, hl with | [_, _], _ => rfl
  have g12 := PySem.W.mg_of X G a12
  have F13 := fun_mk (st := s__law_told) l13 c13 k13
  have b13 := F13.binds (ps := ["_law_text_here"]) fun _ _ _ _ _ _ us hl => match us, hl with | [_], _ => rfl
  have g13 := PySem.W.mg_of X G a13
  have F14 := fun_mk (st := s_law) l14 c14 k14
  refine ⟨PySem.W.fnOf "law" "law" (defArgs s_law) (defBody s_law) (defScope s_law) .none kV14 dc14 pm14 an14 cd14 ct14, fun s v => .of_eq rfl, fun base _ _ => ?_⟩
  have T4 : Txt4 mg := { T with day := ⟨_, PySem.W.mg_of X G y1⟩, signs := ⟨_, PySem.W.mg_of X G y2⟩ }
  have X4 : Exc4 K mg C cH := ⟨PySem.W.mg_of X G hC, PySem.W.mg_of X G hH, xC, kC, bC, tC, PySem.W.exm_ref bH dH tH sC⟩
  have O4 : Oth4 K mg C cR cF cN := ⟨PySem.W.mg_of X G hR, PySem.W.mg_of X G hF, PySem.W.mg_of X G hN, PySem.W.mg_none_of X G hV, ⟨e1, e2, bC, e4, e5, e6, e7, e8⟩, kit_three (kit_sub ncR dcR tcR scR) (kit_sub ncF dcF tcF scF) (kit_sub ncN dcN tcN scN), kit_val sV, o3⟩
  have cT1 : Cl l.prog w K mg base 1 "_law_take" spTake := ⟨_, _, _, ok_take F6 T, g6, F6.kp, b6⟩
  have cT2 : Cl l.prog w K mg base 2 "_law_take" spTake := ⟨_, _, _, ok_take F6 T, g6, F6.kp, b6⟩
  have cS : Cl l.prog w K mg base 2 "_law_some" spSomeT := ⟨_, _, _, ok_some F7 T cT1, g7, F7.kp, b7⟩
  have GT : FnOk l.prog w K mg base (L2.CX l.prog w) 2 f2 _ ["text"] (spTallyHours C) := ok_tallyHours F2 T4 X4 F4 b4 g4
  exact ok_law F14 T ⟨_, _, _, ok_begin F5 T, g5, F5.kp, b5⟩ ⟨_, _, _, ok_hours F9 T cT1, g9, F9.kp, b9⟩ ⟨_, _, _, ok_lwr F10 T4, g10, F10.kp, b10⟩ ⟨_, _, _, ok_same F8 T b8 g8 3, g8, F8.kp, b8⟩ ⟨_, _, _, ok_tallyOf F1 T4 F3 b3 g3, g1, F1.kp, b1⟩
    ⟨_, _, _, ok_text F12 T cT2 cS, g12, F12.kp, b12⟩ ⟨_, _, _, ok_told F13 T4 X4 O4 GT F2 b2 g2, g13, F13.kp, b13⟩ ⟨_, _, _, ok_read F11 T, g11, F11.kp, b11⟩ GT F2 b2 g2
end Pot
open PySem PySem.W PyProof.Rows
set_option maxRecDepth 100000 in
set_option maxHeartbeats 0 in
theorem PySem.Challenge.cw_potround_k04_tallies_written_and_read_holds : PySem.Challenge.rw_potround_k04_tallies_written_and_read.Holds := by
  w_on; o_law; k_head; (case hw => w_witness2)
  k_fill
  refine L2.walk_of (l := PySem.Challenge.rw_potround_k04_tallies_written_and_read) (n := 63) (k := 5) (x := "_law_script") (CX := fun _ => L2.CX0) (sp := fun w => Pot.spLaw _) rfl (by decide) rfl ⟨rfl, by decide, by decide⟩ (fun w h Y => PySem.W.kIn_of Y) ?F (fun _ _ a ns hl _ hS => ⟨a, ns, rfl, hS, hl, fun _ => rfl⟩) (fun _ _ _ _ _ h => h)
  case F =>
    intro w mg fa h KX G hmg
    refine' Pot.all_mk KX G hmg ?a1 ?l1 ?c1 ?k1 ?a2 ?l2 ?c2 ?k2 ?a3 ?l3 ?c3 ?k3 ?a4 ?l4 ?c4 ?k4 ?a5 ?l5 ?c5 ?k5 ?a6 ?l6 ?c6 ?k6 ?a7 ?l7 ?c7 ?k7 ?a8 ?l8 ?c8 ?k8 ?a9 ?l9 ?c9 ?k9 ?a10 ?l10 ?c10 ?k10 ?a11 ?l11 ?c11 ?k11 ?a12 ?l12 ?c12 ?k12 ?a13 ?l13 ?c13 ?k13 ?a14 ?l14 ?c14 ?k14 ?z1 ?z2 ?z3 ?z4 ?z5 ?z6 ?z7 ?z8 ?z9 ?z10 ?z11 ?z12 ?z13 ?z14 ?z15 ?z16 ?z17 ?z18 ?z19 ?z20 ?y1 ?y2 ?hC ?hH ?hR ?hF ?hN ?hV ?xC ?kC ?bC ?tC ?bH ?dH ?tH ?sC ?e1 ?e2 ?e4 ?e5 ?e6 ?e7 ?e8 ?sV ?o3 ?ncR ?scR ?dcR ?tcR ?ncF ?scF ?dcF ?tcF ?ncN ?scN ?dcN ?tcN
    (case a1 => k_is)
    (case l1 => k_is)
    (case c1 => k_is)
    (case k1 => k_is)
    (case a2 => k_is)
    (case l2 => k_is)
    (case c2 => k_is)
    (case k2 => k_is)
    (case a3 => k_is)
    (case l3 => k_is)
    (case c3 => k_is)
    (case k3 => k_is)
    (case a4 => k_is)
    (case l4 => k_is)
    (case c4 => k_is)
    (case k4 => k_is)
    (case a5 => k_is)
    (case l5 => k_is)
    (case c5 => k_is)
    (case k5 => k_is)
    (case a6 => k_is)
    (case l6 => k_is)
    (case c6 => k_is)
    (case k6 => k_is)
    (case a7 => k_is)
    (case l7 => k_is)
    (case c7 => k_is)
    (case k7 => k_is)
    (case a8 => k_is)
    (case l8 => k_is)
    (case c8 => k_is)
    (case k8 => k_is)
    (case a9 => k_is)
    (case l9 => k_is)
    (case c9 => k_is)
    (case k9 => k_is)
    (case a10 => k_is)
    (case l10 => k_is)
    (case c10 => k_is)
    (case k10 => k_is)
    (case a11 => k_is)
    (case l11 => k_is)
    (case c11 => k_is)
    (case k11 => k_is)
    (case a12 => k_is)
    (case l12 => k_is)
    (case c12 => k_is)
    (case k12 => k_is)
    (case a13 => k_is)
    (case l13 => k_is)
    (case c13 => k_is)
    (case k13 => k_is)
    (case a14 => k_is)
    (case l14 => k_is)
    (case c14 => k_is)
    (case k14 => k_is)
    (case z1 => k_is)
    (case z2 => k_is)
    (case z3 => k_is)
    (case z4 => k_is)
    (case z5 => k_is)
    (case z6 => k_is)
    (case z7 => k_is)
    (case z8 => k_is)
    (case z9 => k_is)
    (case z10 => k_is)
    (case z11 => k_is)
    (case z12 => k_is)
    (case z13 => k_is)
    (case z14 => k_is)
    (case z15 => k_is)
    (case z16 => k_is)
    (case z17 => k_is)
    (case z18 => k_is)
    (case z19 => k_is)
    (case z20 => k_is)
    (case y1 => k_is)
    (case y2 => k_is)
    (case hC => k_is)
    (case hH => k_is)
    (case hR => k_is)
    (case hF => k_is)
    (case hN => k_is)
    (case hV => k_is)
    (case xC => k_exc)
    (case kC => k_is)
    (case bC => k_is)
    (case tC => k_is)
    (case bH => k_is)
    (case dH => k_is)
    (case tH => k_is)
    (case sC => k_is)
    (case e1 => k_is)
    (case e2 => k_is)
    (case e4 => k_is)
    (case e5 => k_is)
    (case e6 => k_is)
    (case e7 => k_is)
    (case e8 => k_is)
    (case sV => k_is)
    (case o3 => first | rfl | k_is)
    (case ncR => first | rfl | decide)
    (case scR => k_is)
    (case dcR => k_is)
    (case tcR => k_is)
    (case ncF => first | rfl | decide)
    (case scF => k_is)
    (case dcF => k_is)
    (case tcF => k_is)
    (case ncN => first | rfl | decide)
    (case scN => k_is)
    (case dcN => k_is)
    (case tcN => k_is)
