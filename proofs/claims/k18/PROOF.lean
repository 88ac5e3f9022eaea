import PyProof.Rows.All
import Wide.All
import OpenK.AllK
import Wide.FinOn
import HandS.ForMost
import HandS.Strs
import HandS.SetFor
import HandS.Zip
import PyProof.ReprRoads
import HandS.FStrTup
import HandS.ForExc
import HandS.IsInst
import HandS.Evl
import HandS.Conv
import HandS.Flow
import HandS.Style
import HandS.Sort
import HandS.Walk
import HandS.Codes
import HandS.StrMore
import HandS.TupAny
import HandS.Defaults
import KE.KEqSeq
import HandS.More
import HandS.WideBits
import PyProof.SetRoads
import HandS.Deep
import PyProof.StrBlock2
import KE.GoesNew
import PySem.Challenge.RW_potround_k18_rows_of_a_round
set_option Elab.async false
set_option linter.all false
set_option maxRecDepth 100000
namespace Pot
open PySem PySem.Spec PyProof.Rows L2 PySem.W PySem.Calls
/-! ### set(xs) of a list of ints -/
/-- the object that set() makes first -/
abbrev emptySet (w : World) : Obj := { cls := .type "set", dict := none, data := .set #[] 0 (.fresh 0 0 (!w.params.followText "set-order")) }
section
variable {P : Program} {w : World} {A : Around} {E : Value → Shared → Prop} {s : Shared}
/-- what is wanted behind the filling -/
def Filled (w : World) (s : Shared) (ns : List Int) (s' : Shared) : Prop := ∃ h' tk c, s' = { s with heap := h', toks := tk } ∧ SetR w h' s.heap.objs.size (fun j => decide (j ∈ ns)) c ∧ c ≤ ns.length ∧ ∀ b o, s.heap.get? b = some o → h'.get? b = some o
set_option maxHeartbeats 4000000 in
theorem call_set_li {l : Addr} {items : Array Value} (ns : List Int) {Q : Value → Shared → Prop} (hh : A.handled = none) (hl : s.heap.IsList l items) (hit : IntsAre items.toList ns) (hb : ns.length + 1 < scanBound)
    (hq : ∀ s', Filled w s ns s' → Q (.ref s.heap.objs.size) s') : wpAny (model P w) A (call (.type "set") [.ref l]) Q E s := by
  have size : items.size = ns.length := by
    rw [← Array.length_toList]; exact IntsAre.length hit
  have made := F.called_set.made
  have below := F.called_set.sub
  obtain ⟨_, _, chain⟩ := F.called_set.mro
  have nt := F.called_set.notType
  have cc := F.called_set.canCreate
  have ck := F.typeCall_set_1 (.ref l)
  refine wpAny_call (codeAny_of_tree (show wpAny _ _ (callAny (.type "set") _) _ _ _ from wpAny_pure ⟨Code.quiet_builtin _ (by decide +kernel), codeAny_builtin F.entry_type_call ?_⟩))
  rw [Around.under_plain (weight_type_call_type "set" [.ref l] []) rfl]
  repeat (any_goals (first | assumption | wp_step))
  refine codeAny_mono (code_set_led1 (.ref l) (E := E) (Q₁ := fun obj z => obj = .ref s.heap.objs.size ∧ z = { s with heap := s.heap.push (emptySet w) }) ⟨rfl, rfl⟩) fun r z hr => ?_
  rcases r with _ | fl
  case error => exact hr
  cases fl <;> first | exact hr.elim | skip
  obtain ⟨rfl, rfl⟩ := hr
  have at0 : (s.heap.push (emptySet w)).get? s.heap.objs.size = some (emptySet w) := Heap.get?_push_size _ rfl
  have ty0 : Shared.TypeIs { s with heap := s.heap.push (emptySet w) } (.ref s.heap.objs.size) "set" := ⟨_, at0, rfl⟩
  have li := F.called_set.init.lookup
  have bi := F.called_set.init.bind (.ref s.heap.objs.size)
  repeat (any_goals (first | assumption | wp_step))
  refine codeAny_mono (codeAny_call_builtin (R := wants (fun r z => r = .none ∧ Filled w s ns z) E) F.called_set.init.plain F.entry_set_init (check_set_init_1 ty0 ?_)) fun r z hz => ?_
  · obtain ⟨⟨_, od, _, os⟩, hol, hcl, nl, hdl⟩ := hl
    simp only at hcl hdl
    subst hcl
    subst hdl
    have keep : (s.heap.push (emptySet w)).get? l = some { cls := .type "list", dict := od, data := .seq items nl, slots := os } := Heap.get?_push_of_some _ hol
    have s1 := F.sub_list_set
    have s2 := F.sub_list_frozenset
    have s3 : (Value.type "list" == Value.type "dict") = false := by decide
    have isl : (s.heap.push (emptySet w)).IsList l items := ⟨_, keep, rfl, nl, rfl⟩
    unfold Builtin.«set.__init__» noKeywords Builtin.Frozenset.updateFrom
    generalize hPI : pyIter = PI
    wp_walk
    subst hPI
    refine wpAny_pyIter_list isl (wpAny_bind (wpAny_runValue ?_))
    have lt : l < s.heap.objs.size := Heap.lt_size hol
    have sz : (s.heap.push (emptySet w)).objs.size = s.heap.objs.size + 1 := Heap.size_push ..
    have ne1 : l ≠ (s.heap.push (emptySet w)).objs.size := by rw [sz]; exact Nat.ne_of_lt (Nat.lt_succ_of_lt lt)
    have ne2 : s.heap.objs.size ∉ [(s.heap.push (emptySet w)).objs.size, l] := by
      rw [sz]
      intro z
      rcases List.mem_cons.mp z with z | z
      · exact absurd z (Nat.ne_of_lt (Nat.lt_succ_self _))
      · exact absurd (List.mem_singleton.mp z) (Nat.ne_of_gt lt)
    have each : ∀ (i : Nat) (v : Value), items[i]? = some v → ∃ k t, ns[i]? = some k ∧ v = .int k t := fun i v hv => by
      have hi : i < ns.length := size ▸ (Array.getElem?_eq_some_iff.mp hv).1
      obtain ⟨t, e⟩ := IntsAre.int_at hit i v (by rw [Array.getElem?_toList]; exact hv)
      exact ⟨ns[i], t, List.getElem?_eq_getElem hi, by rw [e, List.getD_eq_getElem?_getD, List.getElem?_eq_getElem hi]; rfl⟩
    refine set_update_ints ((Walks.list (show A.in1.in1.in1.handled = none by simp [hh]) _ l ne1 items).toS) s.heap.objs.size ne2 ns size hb each (items.size - 0) 0 _ (by omega) (Nat.zero_le _) ⟨⟨_, Heap.get?_push_size _ rfl, rfl, rfl⟩, isl.push _⟩ ⟨0, Nat.le_refl 0, setR_new_at (Heap.get?_push_of_some _ at0)⟩ fun s' c hm hc hS => ?_
    obtain ⟨h', g, d, tk, o⟩ := s'
    cases (show g = s.gens from hm.gens)
    cases (show d = s.drawn from hm.drawn)
    cases (show o = s.os from hm.os)
    refine (show wpAny _ _ _ _ _ _ from wpAny_pure (show wpAny _ _ (ret Value.none) _ _ _ from wpAny_pure ⟨rfl, h', tk, c, rfl, hS, size ▸ hc, fun b o e => ?_⟩))
    have hb0 : b < s.heap.objs.size := Heap.lt_size e
    refine hm.heap b o (fun z => ?_) (Heap.get?_push_of_some _ (Heap.get?_push_of_some _ e))
    rcases List.mem_cons.mp z with z | z
    · exact absurd z (Nat.ne_of_lt hb0)
    · exact absurd ((List.mem_singleton.mp z).trans sz) (Nat.ne_of_lt (Nat.lt_succ_of_lt hb0))
  · rcases r with _ | fl
    case error => exact hz
    cases fl <;> first | exact hz.elim | skip
    obtain ⟨rfl, f⟩ := hz
    obtain ⟨h', tk, c, rfl, hS, hc, k⟩ := id f
    repeat (any_goals (first | assumption | wp_step))
    exact hq _ ⟨_, _, _, rfl, hS, hc, k⟩
end
section
variable {X : Cx}
/-- set(xs), at most 60 ints: a set of just these -/
def rSetLi (K : PySem.W.Frag) (w : World) : List V → Hp → VK → Prop := fun xs H Q => ∃ (a : Addr) (ns : List Int), xs = [V.ref a] ∧ SqL K H a (ns.map V.int) ∧ ns.length ≤ 1000 ∧
  ∀ (p : Addr) (c : Nat), H p = none → c ≤ ns.length → Q (.ref p) (upd H p (SetO w p (fun k => decide (k ∈ ns)) c))
theorem cr_setLi (hc : X.calm = true) : CallR X (.type "set") (rSetLi X.K X.w) := by
  intro pins s σ H vs us Q I r h
  obtain ⟨a, ns, rfl, hS, hl, q⟩ := h
  rw [Vals.ref1 r]
  obtain ⟨its, rv, pl, hz⟩ := I.list hS
  refine call_set_li ns (I.ok.hd hc) pl.isList (by simpa using Vals.ints rv) (by unfold scanBound; omega) fun s' f => ?_
  obtain ⟨h', tk, c, rfl, R, hcn, k⟩ := f
  have hn : H s.heap.objs.size = none := I.hok.fresh (Nat.le_refl _)
  have J : Inv X pins σ (upd H s.heap.objs.size (SetO X.w s.heap.objs.size (fun k => decide (k ∈ ns)) c)) { s with heap := h', toks := tk } := I.laid (t' := tk) k (Nat.le_refl _) (setO_new R)
  exact ⟨.ref s.heap.objs.size, _, J, rfl, q _ _ hn hcn⟩
end
end Pot

namespace Pot
open PySem PySem.Spec PyProof.Rows L2
/-! ### defs that are called where no text of a thing is under way -/
structure FnG (P : Program) (w : World) (K : PySem.W.Frag) (mg : Str → Option Value) (base : Heap) (k : Nat) (f : Addr) (fd : FuncData) (ps : List Str) (sp : Sp) : Prop where
  many : ∀ vs H Q E, sp vs H Q E → vs.length = ps.length
  does : ∀ (A : Around) (outer : List Env) (s : Shared) (H : Hp) (args : Args) (us : List Value) (vs : List V) (Q : VK), A.guards = some [] → Room k A → Env0 P w K mg base A outer s H →
    BindsTo s fd args (ps.zip us) → Vals vs us → sp vs H Q E0 → codeAny (model P w) A (.call (.ref f) args) (CR CX0 outer P w H s Q E0) s
section
variable {P : Program} {w : World} {K : PySem.W.Frag} {mg : Str → Option Value} {base : Heap}
theorem FnG.of {k : Nat} {f : Addr} {fd : FuncData} {ps : List Str} {sp : Sp} (F : FnOk P w K mg base CX0 k f fd ps sp) : FnG P w K mg base k f fd ps sp :=
  ⟨F.len, fun A outer s H args us vs Q _ hr e hb r h => F.run A outer s H args us vs Q E0 hr e hb r h⟩
theorem okG {x qual : Str} {st : Stmt} {f : Addr} {fd : FuncData} {N ps : List Str} {k : Nat} {sp : Sp} (F : Fun K x qual st f fd) (S : FnScope N ps (defScope st)) (many : ∀ vs H Q E, sp vs H Q E → vs.length = ps.length)
    (body : ∀ (cdv : Value) (A : Around) (outer : List Env) (s : Shared) (H : Hp) (vs : List V) (Q : VK), A.guards = some [] → Room k (A.deeper (envOfC qual (defScope st) s.heap.objs.size f cdv)) → sp vs H Q E0 →
      ∃ t, PSs (cxOf CX0 P w K mg base N qual (defScope st) f cdv A outer s H E0).nox (defBody st) t ∧ t { nx := fun _ H' => Q .non H', rt := Q } (start N vs) H) : FnG P w K mg base (k + 1) f fd ps sp := by
  obtain ⟨oc, od, kV, doc, pm, an, cdv, ct, osl, rfl, at_, code⟩ := F.ex
  refine ⟨many, fun A outer s H args us vs Q gd room e0 bind rel want => ?_⟩
  have kin : K.In s.heap := e0.mod.kin.keeps fun b o e => (e0.bs b o e).1
  have nolim : s.heap.NoLimit := e0.mod.nolimit.keeps fun b o e => (e0.bs b o e).1
  refine codeAny_call_function room.depth (kin _ _ at_) rfl S.co S.gen rfl (PySem.W.codeRec_of kin code) (bind _ _ _ _ (wpAny_newFunctionEnv_cells S.kind (fun y hy => ?_) fun env he s1 x => ?_))
  · obtain ⟨n, v⟩ := y
    exact (S.par n (List.of_mem_zip hy).1).imp id fun q => ⟨q, PySem.W.cellsFrom_some _ _ _ (.inl q)⟩
  · subst he
    obtain ⟨t, ht, hq⟩ := body cdv A outer s H vs Q gd (room.deeper _) want
    have I : Inv (cxOf CX0 P w K mg base N qual (defScope st) f cdv A outer s H E0) [] (start N vs) H s1 := inv_start S room.hd e0 (many _ _ _ _ want) rel x
    refine ⟨nolim.keeps x.toInCall.keep, codeAny_func (wpAny_mono (ht.nox.run [] s1 (start N vs) H _ I hq) (fun fl s' hs => ?_) fun _ _ z => z)⟩
    cases fl with
    | ret u =>
      obtain ⟨v, σ', H', J, rv, q⟩ := hs
      exact ⟨v, H', J.os, J.bare, J.base, J.hok, rv, q⟩
    | next =>
      obtain ⟨σ', H', J, q⟩ := hs
      exact ⟨V.non, H', J.os, J.bare, J.base, J.hok, rfl, q⟩
    | brk => obtain ⟨_, _, _, q⟩ := hs; exact q.elim
    | cont => obtain ⟨_, _, _, q⟩ := hs; exact q.elim
/-! calls -/
/-- a def that may be called by its name where no text is under way -/
def ClG (P : Program) (w : World) (K : PySem.W.Frag) (mg : Str → Option Value) (base : Heap) (k : Nat) (x : Str) (ds : List V) (sp : Sp) : Prop :=
  ∃ (f : Addr) (fd : FuncData) (ps : List Str) (dus : List Value), FnG P w K mg base k f fd ps sp ∧ mg x = some (.ref f) ∧ PySem.W.keepIn K (.ref f) = true ∧ Binds K fd ps dus ∧ Vals ds dus
theorem pe_clG {X : Cx} {k j : Nat} {x : Str} {ds : List V} {sp : Sp} {e : Expr} {es : List Expr} {t : TA} {p pos : Pos} (c : ClG X.prog X.w X.K X.mg X.base k x ds sp) (hr : Room j X.A) (gd : X.A.guards = some []) (hk : k ≤ j) (hg : Gl X x) (ha : PA X (e :: es) t)
    (hdb : (x == ("__debug__" : Str)) = false := by decide) (he : starEach (e :: es) X.env = (false, eval e X.env) :: starEach es X.env := by rfl) (hpl : (backTo pos (starEach es X.env)).any (·.1) = false := by rfl) :
    PE X (.Call (.Name x p) (e :: es) [] pos) (tCall sp ds E0 t) := by
  obtain ⟨f, fd, ps, dus, G, named, kept, binds, dv⟩ := c
  refine ⟨fun pins s σ H Q I h => wpAny_Call_Name_kw (ld_glob I hg named (PySem.W.callWith_K (h₀ := X.base) I.ok.mod.kin kept (thn (ha.run pos pins s σ H _ I h) fun us s1 hh => ?_) he hpl) hdb)⟩
  obtain ⟨vs, H1, I1, r, q⟩ := hh
  refine ⟨I1.kIn, ?_⟩
  have rel := r.append dv
  have n : (us ++ dus).length = ps.length := rel.length ▸ G.many _ _ _ _ q
  refine wpAny_call (codeAny_mono (G.does X.A X.stack s1 H1 ⟨us, []⟩ (us ++ dus) (vs ++ ds) Q gd (hr.mono hk) I1.env0 (binds s1 us I1.kIn n) rel q) fun res s' hq => ?_)
  rcases res with _ | fl
  case error => exact (show False from hq).elim
  cases fl <;> first | exact I1.after hq | exact (show False from hq).elim
/-! the law's own call -/
theorem law_callG {mb : Str → Option Value} {k : Nat} {fa a : Addr} {fd : FuncData} {x : Str} {sp : Sp} {s : Shared} {vs : List Value} {ns : List Int} (kin : K.In s.heap) (glob : s.heap.Ns mainGlobals mg) (blt : s.heap.Ns builtinsNs mb)
    (boot : ∀ y : Str, y ≠ "__name__" → mb y = bootBuiltins y) (lim : s.heap.NoLimit) (gens : s.gens = #[]) (obj : s.heap.get? a = some { cls := .type "list", data := .seq vs.toArray }) (whole : IntsAre vs ns) (small : ns.length ≤ sizeLine) (room : Room k callerA)
    (F : ∀ base : Heap, K.In base → base.Ns mainGlobals mg → FnG P w K mg base k fa fd [x] sp) (bind : ∀ (s : Shared) (u : Value), BindsTo s fd ⟨[u], []⟩ [(x, u)])
    (want : ∀ H : Hp, Only H → SqL K H a (ns.map V.int) → sp [.ref a] H (fun v _ => v = .bl true) E0) :
    codeAny (model P w) callerA (.call (.ref fa) ⟨[.ref a], []⟩) (fun r s' => r = .ok (.ret (.bool true)) ∧ OldK s.heap s'.heap ∧ s'.os = s.os ∧ AllBare s'.gens) s := by
  have rv := vals_ints whole
  have nv := whole.length
  -- which heap is told: the script, locked, where it isn't one of the written part
  obtain ⟨H, only, seq, fine, alone, apart⟩ : ∃ H : Hp, Only H ∧ SqL K H a (ns.map V.int) ∧ HOk P w H s.heap ∧ (∀ b u, H b = some u → b = a) ∧ (∀ u, H a = some u → K.lookup a = none) := by
    cases lk : K.lookup a with
    | some o =>
      have same := kin a o lk
      rw [obj] at same
      cases same
      exact ⟨fun _ => none, fun _ => .inl rfl, .inr ⟨_, vs.toArray, _, lk, rfl, rfl, rfl, by rw [List.size_toArray, nv]; exact small, by simpa using rv⟩, (fun b u z => nomatch (show (none : Option HO) = some u from z)), (fun b u z => nomatch (show (none : Option HO) = some u from z)), fun u z => nomatch (show (none : Option HO) = some u from z)⟩
    | none =>
      have hit : ∀ b u, (if b = a then some (HO.frz { cls := .type "list", data := .seq vs.toArray } (.lst (ns.map V.int))) else none) = some u → b = a ∧ u = .frz { cls := .type "list", data := .seq vs.toArray } (.lst (ns.map V.int)) := fun b u z => by
        split at z
        · cases z; exact ⟨‹_›, rfl⟩
        · cases z
      refine ⟨fun b => if b = a then some (.frz { cls := .type "list", data := .seq vs.toArray } (.lst (ns.map V.int))) else none, fun b => ?_, .inl (.inr ⟨_, if_pos rfl⟩), fun b u z => ?_, fun b u z => (hit b u z).1, fun _ _ => rfl⟩
      · by_cases hb : b = a
        · exact .inr ⟨_, _, if_pos hb⟩
        · exact .inl (if_neg hb)
      · obtain ⟨rfl, rfl⟩ := hit b u z
        exact ⟨obj, by rw [List.length_map]; exact small, vs, _, rv, obj⟩
  have hid : ∀ {b : Addr} {o : Obj}, s.heap.get? b = some o → (b = a → H a = none) → (hidT s.heap H).get? b = some o := fun {b o} e n => hidT_get e (by
    cases q : H b with
    | none => rfl
    | some u =>
      have e2 := alone b u q
      subst e2
      rw [n rfl] at q
      cases q)
  have kinB : K.In (hidT s.heap H) := fun b o e => hid (kin b o e) fun z => by
    subst z
    cases q : H b with
    | none => rfl
    | some u => rw [apart u q] at e; cases e
  have ns_ : ∀ {b : Addr} {m : Str → Option Value}, s.heap.Ns b m → (hidT s.heap H).Ns b m := fun {b m} h => by
    obtain ⟨o, es, ep, e, d, r⟩ := h
    refine ⟨o, es, ep, hid e fun z => ?_, d, r⟩
    subst z
    rw [obj] at e
    cases e
    exact nomatch (show Data.seq vs.toArray _ = Data.dict es ep from d)
  have md : Mod K mg (hidT s.heap H) := ⟨kinB, ns_ glob, ⟨mb, ns_ blt, boot⟩, by obtain ⟨mc, h1, h2⟩ := lim; exact ⟨mc, ns_ h1, h2⟩⟩
  have e0 : Env0 P w K mg (hidT s.heap H) callerA [] s H := ⟨rfl, md, fun b o e => of_hidT e, Nat.le_of_eq (hidT_size _ _), trivial, (fun b hb => nomatch (show b ∈ ([] : List Addr) from hb)), fine, .of_eq gens⟩
  refine codeAny_mono ((F _ kinB (ns_ glob)).does callerA [] s H ⟨[.ref a], []⟩ [.ref a] [.ref a] _ rfl room e0 (bind s (.ref a)) (.cons rfl .nil) (want H only seq)) fun res s' h => ?_
  rcases res with _ | fl
  case error => exact (show False from h).elim
  cases fl <;> first | exact (show False from h).elim | skip
  obtain ⟨v, H', os, bare, un, fine', rel, q⟩ := h
  cases (show v = .bl true from q)
  cases (show _ = Value.bool true from rel)
  refine ⟨rfl, OldK.of_keep fun b o e => ?_, os, bare⟩
  cases q : H b with
  | none => exact un.keep b o e q (fun z => nomatch (show b ∈ ([] : List Addr) from z)) (fun z => nomatch z)
  | some u =>
    rcases only b with z | ⟨ob, xs, z⟩
    · rw [q] at z; cases z
    · obtain ⟨e1, _⟩ := fine b _ z
      obtain ⟨e2, _⟩ := fine' b _ (un.frzs b ob _ z)
      rw [e] at e1; cases e1
      exact e2
end
theorem walkG {l : PySem.W.OpenLaw} {n k : Nat} {q : Program} {loose : List Str} {XP : (Str → Option Value) → Heap → Prop} {YP : World → Heap → Prop} {d : DefRec} {K : Params → PySem.W.Frag} {sp : World → Sp} {x : Str}
    (most : l.most = some n) (fits : n ≤ sizeLine) (plain : d.params.defaults = []) (room : Room k callerA) (part : ∀ (w : World) (h : Heap), YP w h → (K w.params).In h)
    (F : ∀ (w : World) (mg : Str → Option Value) (fa : Addr) (h : Heap), (K w.params).In h → h.Ns mainGlobals mg → mg d.name = some (.ref fa) →
      ∃ fd : FuncData, (∀ (s : Shared) (u : Value), BindsTo s fd ⟨[u], []⟩ [(x, u)]) ∧ ∀ base : Heap, (K w.params).In base → base.Ns mainGlobals mg → FnG l.prog w (K w.params) mg base k fa fd [x] (sp w))
    (want : ∀ (w : World) (H : Hp) (a : Addr) (ns : List Int), ns.length ≤ n → Only H → SqL (K w.params) H a (ns.map V.int) → sp w [.ref a] H (fun v _ => v = .bl true) E0) :
    PySem.W.WalkO q loose XP YP l.row.toRowW d [] (fun f vs => PySem.call f vs) := by
  refine Att.attach_call most plain fun w s₀ s₁ mg mb fa o pm cd doc a vs ns G Y _ _ _ named obj whole len gens => ?_
  obtain ⟨fd, bind, hF⟩ := F w mg fa _ (part w _ Y) G.T.g named
  exact law_callG (part w _ Y) G.T.g G.T.b G.T.builtins G.T.nolimit gens obj whole (Nat.le_trans len fits) room hF bind fun H only seq => want w H a ns len only seq
end Pot

namespace Pot
open PySem PySem.Spec PyProof.Rows L2
/-! ### repr of what is made of numbers, texts, truths, None, lists and tuples -/
section
variable {K : PySem.W.Frag}
mutual
theorem dp_noDict {H : Hp} : ∀ {v : V} {d : PyData}, Dp K H v d → d.hasDict = false
  | _, _, .non => rfl
  | _, _, .bl _ => rfl
  | _, _, .int _ => rfl
  | _, _, .str _ => rfl
  | _, _, .lst _ a => dpAll_noDict a
  | _, _, .tup _ a => dpAll_noDict a
theorem dpAll_noDict {H : Hp} : ∀ {vs : List V} {ds : List PyData}, DpAll K H vs ds → PyData.hasDictAll ds = false
  | _, _, .nil => rfl
  | _, _, .cons h t => by
    show (PyData.hasDict _ || PyData.hasDictAll _) = false
    rw [dp_noDict h, dpAll_noDict t]
    rfl
end
/-- how long its text may be, told roughly -/
def costAll : List PyData → Nat
  | [] => 0
  | x :: xs => cost x + 2 + costAll xs
where cost : PyData → Nat
  | .none => 4
  | .bool _ => 5
  | .int _ => 1921
  | .str x => 10 * x.length + 2
  | .list xs => costAll xs + 3
  | .tuple xs => costAll xs + 3
  | .dict _ => 0
/-- what repr is asked of here: its texts of plain signs -/
def fineAll : List PyData → Prop
  | [] => True
  | x :: xs => fine x ∧ fineAll xs
where fine : PyData → Prop
  | .none => True
  | .bool _ => True
  | .int i => i.natAbs.log2 < 1920
  | .str x => ∀ c ∈ x.cps.toList, c < 16 ^ 8
  | .list xs => fineAll xs
  | .tuple xs => fineAll xs
  | .dict _ => False
theorem from_len : ∀ (ts : List Str) (k : Nat) (acc : Str), (textFrom k acc ts).length ≤ acc.length + piled ts
  | [], k, acc => by rw [piled_nil]; exact Nat.le_refl _
  | t :: r, k, acc => by
    have ih := from_len r (k + 1)
    rw [piled_cons]
    unfold textFrom
    refine Nat.le_trans (ih _) ?_
    rw [strLen_append]
    split
    · rw [strLen_append]
      have e : (", " : Str).length = 2 := by decide +kernel
      omega
    · rw [strLen_append]
      have e : ("" : Str).length = 0 := by decide +kernel
      omega
theorem list_len (ts : List Str) : (listText ts).length ≤ piled ts + 2 := by
  unfold listText
  rw [strLen_append]
  have h := from_len ts 0 "["
  have e1 : ("[" : Str).length = 1 := by decide +kernel
  have e2 : ("]" : Str).length = 1 := by decide +kernel
  omega
mutual
theorem shown_len : ∀ d : PyData, fineAll.fine d → d.shown.length ≤ costAll.cost d
  | .none, _ => by decide +kernel
  | .bool b, _ => by cases b <;> decide +kernel
  | .int i, h => PyProof.Rows.int_text_len_1921 h
  | .str x, h => StrLaws.reprText_len x h
  | .list xs, h => Nat.le_trans (list_len _) (Nat.add_le_add (piled_len xs h) (by decide))
  | .tuple xs, h => Nat.le_trans (fmt_text _) (Nat.add_le_add (piled_len xs h) (by decide))
  | .dict _, h => h.elim
theorem piled_len : ∀ ds : List PyData, fineAll ds → piled (PyData.shownAll ds) ≤ costAll ds
  | [], _ => Nat.le_refl _
  | x :: xs, h => by
    have h1 := shown_len x h.1
    have h2 := piled_len xs h.2
    show piled (x.shown :: PyData.shownAll xs) ≤ costAll.cost x + 2 + costAll xs
    rw [piled_cons]
    omega
end
mutual
theorem fine_show : ∀ d : PyData, fineAll.fine d → d.showable = true
  | .none, _ => rfl
  | .bool _, _ => rfl
  | .int i, h => decide_eq_true h
  | .str _, _ => rfl
  | .list xs, h => fineAll_show xs h
  | .tuple xs, h => fineAll_show xs h
  | .dict _, h => h.elim
theorem fineAll_show : ∀ ds : List PyData, fineAll ds → PyData.showableAll ds = true
  | [], _ => rfl
  | x :: xs, h => by
    show (PyData.showable x && PyData.showableAll xs) = true
    rw [fine_show x h.1, fineAll_show xs h.2]
    rfl
end
end
section
variable {X : Cx}
def rRepr (K : PySem.W.Frag) : List V → Hp → VK → Prop := fun xs H Q => ∃ (a : Addr) (d : PyData), xs = [V.ref a] ∧ Dp K H (.ref a) d ∧ fineAll.fine d ∧ d.depth ≤ 60 ∧ costAll.cost d ≤ 16777216 ∧ Q (.str d.shown) H
theorem cr_repr (gd : X.A.guards = some []) (hu : X.A.units + 64 < cLine) : CallR X (.builtin "repr") (rRepr X.K) := by
  intro pins s σ H vs us Q I r h
  obtain ⟨a, d, rfl, dp, sh, dep, sz, q⟩ := h
  rw [Vals.ref1 r]
  obtain ⟨as, rd⟩ := Dp.reads I d (.ref a) (.ref a) dp rfl
  refine repr_of_reads' rd (fine_show d sh) (fun z => ?_) gd (by omega) (fun _ _ e => e) (fun h' u tk k => ⟨.str d.shown, H, I.kept k, ⟨u, rfl⟩, q⟩) (Nat.le_trans (shown_len d sh) (by rw [sizeLine_eq]; exact sz))
  rw [dp_noDict dp] at z
  cases z
end
end Pot

/-! The rules whose readings name the written part, with it as a letter of its own. -/
namespace Pot
open PySem PySem.Spec PyProof.Rows L2
section
variable {X : Cx} {K : PySem.W.Frag}
theorem kx_list (h : X.K = K := by rfl) : IxR X (rIxL K) := h ▸ ix_list
theorem kx_tup (h : X.K = K := by rfl) : IxR X (rIxT K) := h ▸ ix_tup
theorem kl_list (h : X.K = K := by rfl) : SlR X (rSlL K) := h ▸ sl_list
theorem kl_tup (h : X.K = K := by rfl) : SlR X (rSlA K) := h ▸ sl_tupA
theorem ko_in (h : X.K = K := by rfl) : OpR X (compareOp .In) (rIn K false) := h ▸ op_in_seq
theorem ko_eq (hu : X.A.units + 64 < cLine) (h : X.K = K := by rfl) : OpR X (compareOp .Eq) (rEqD K) := h ▸ op_eqD hu
theorem ko_ne (hu : X.A.units + 64 < cLine) (h : X.K = K := by rfl) : OpR X (compareOp .NotEq) (rNeD K) := h ▸ op_neD hu
def rLen (K : PySem.W.Frag) : List V → Hp → VK → Prop := fun xs H Q => ∃ x n, xs = [x] ∧ LenV K x H n ∧ Q (.int n) H
theorem kc_len (h : X.K = K := by rfl) : CallR X (.builtin "len") (rLen K) := by subst h; exact call_len
def rListOf (K : PySem.W.Frag) : List V → Hp → VK → Prop := fun xs H Q => ∃ p ys, xs = [.ref p] ∧ (SqL K H p ys ∨ SqT K H p ys) ∧ ∀ l, H l = none → Q (.ref l) (upd H l (.lst ys))
theorem kc_list (h : X.K = K := by rfl) : CallR X (.type "list") (rListOf K) := by subst h; exact call_list_of
def rTupleOf (K : PySem.W.Frag) : List V → Hp → VK → Prop := fun xs H Q => ∃ p ys, xs = [.ref p] ∧ ((SqL K H p ys ∧ ∀ l, H l = none → Q (.ref l) (upd H l (.tup ys))) ∨ (SqT K H p ys ∧ Q (.ref p) H))
theorem kc_tuple (h : X.K = K := by rfl) : CallR X (.type "tuple") (rTupleOf K) := by subst h; exact call_tuple_of
theorem kc_sum (hc : X.calm = true := by rfl) (h : X.K = K := by rfl) : CallR X (.builtin "sum") (rSum K) := h ▸ cr_sum hc
theorem kc_all (hc : X.calm = true := by rfl) (h : X.K = K := by rfl) : CallR X (.builtin "all") (rAll K) := h ▸ cr_all hc
theorem kc_any (hc : X.calm = true := by rfl) (h : X.K = K := by rfl) : CallR X (.builtin "any") (rAny K) := h ▸ cr_any hc
theorem kc_sorted (h : X.K = K := by rfl) : CallR X (.builtin "sorted") (rSorted K) := h ▸ cr_sorted
theorem kc_sortedS (h : X.K = K := by rfl) : CallR X (.builtin "sorted") (rSortedS K) := h ▸ cr_sortedS
theorem kc_isi (h : X.K = K := by rfl) : CallR X (.builtin "isinstance") (rIsi K) := h ▸ call_isi
theorem kc_isiT (h : X.K = K := by rfl) : CallR X (.builtin "isinstance") (rIsiT K) := h ▸ call_isiT
theorem kc_repr (gd : X.A.guards = some []) (hu : X.A.units + 64 < cLine) (h : X.K = K := by rfl) : CallR X (.builtin "repr") (rRepr K) := h ▸ cr_repr gd hu
theorem kc_setLi {w : World} (hc : X.calm = true := by rfl) (h : X.K = K := by rfl) (hw : X.w = w := by rfl) : CallR X (.type "set") (rSetLi K w) := by subst h; subst hw; exact cr_setLi hc
theorem kc_sortedSet {w : World} (hc : X.calm = true := by rfl) (hw : X.w = w := by rfl) : CallR X (.builtin "sorted") (rSortedSet w) := hw ▸ cr_sortedSet hc
theorem ki_list {tg l : Expr} {tl : TE} (hl : PE X l tl) (h : X.K = K := by rfl) : PI X tg l (iList K tl) := h ▸ pi_list hl
theorem ki_tup {tg l : Expr} {tl : TE} (hl : PE X l tl) (h : X.K = K := by rfl) : PI X tg l (iTup K tl) := h ▸ pi_tup hl
theorem ki_zip {e e2 : Expr} {ta : TA} {p pos tpos : Pos} {elts : List Expr} {kk : Nat} (hg : Gl X "zip") (hm : X.mg "zip" = none) (ha : PA X [e, e2] ta) (hs : starEach [e, e2] X.env = (false, eval e X.env) :: starEach [e2] X.env := by rfl)
    (hpl : (backTo pos (starEach [e2] X.env)).any (·.1) = false := by rfl) (h : X.K = K := by rfl) : PI X (.Tuple elts kk tpos) (.Call (.Name "zip" p) [e, e2] [] pos) (RZ.iZipA K ta) := h ▸ RZ.pi_zipA hg hm ha hs hpl
theorem ki_enum {e : Expr} {ta : TA} {p pos tpos : Pos} {elts : List Expr} {kk : Nat} (hg : Gl X "enumerate") (hm : X.mg "enumerate" = none) (ha : PA X [e] ta) (hs : starEach [e] X.env = [(false, eval e X.env)] := by rfl) (h : X.K = K := by rfl)
    : PI X (.Tuple elts kk tpos) (.Call (.Name "enumerate" p) [e] [] pos) (iEnum K ta) := h ▸ pi_enum hg hm ha hs
theorem kg_tup {pos : Pos} {es : List Expr} {k : Nat} {t : TGs} {n : Nat} (h : PGs X es t) (hc : X.calm = true := by rfl) (hn : (assignEach es X.env).length = n := by rfl) (hst : (assignEach es X.env).findIdx? (·.1) = none := by rfl) (hk : X.K = K := by rfl) : PG X (.Tuple es k pos) (gTup K n t) := hk ▸ pg_tup hc h hn hst
def tTru (K : PySem.W.Frag) (ta : TE) : TT := fun σ H Q => ta σ H fun x H' => ∃ k, TruV K x H' k ∧ Q k H'
theorem kt_truth {a : Expr} {ta : TE} (ha : PE X a ta) (he : ∀ whole, isTrue a X.env whole = (do let v ← whole; standAt a.pos; holding [v] (truthy v)) := by intro _; rfl) (h : X.K = K := by rfl) : PT X a (tTru K ta) := by subst h; exact pt_truth ha he
def rJoin (K : PySem.W.Frag) : V → List V → Hp → VK → Prop := fun x xs H Q => ∃ a p, ∃ ys : List Str, x = .str a ∧ xs = [.ref p] ∧ (SqL K H p (ys.map V.str) ∨ SqT K H p (ys.map V.str)) ∧ (ys.map (·.length)).sum + ys.length * a.length ≤ 16777216 ∧ Q (.str (Txt.join a ys)) H
theorem ke_join {o e : Expr} {to te : TE} {apos pos : Pos} (ho : PE X o to) (he : PE X e te) (hs : starEach [e] X.env = [(false, eval e X.env)] := by rfl) (hbase : attributeBase o "join" X.env (eval o X.env) = eval o X.env := by rfl) (hline : (apos.endLine == pos.line) = true := by rfl) (h : X.K = K := by rfl) :
    PE X (.Call (.Attribute o "join" apos) [e] [] pos) (tM1 (rJoin K) to te) := by subst h; exact pe_join ho he hs hbase hline
theorem pss_never {st : List Stmt} : PSs X st (fun _ _ _ => False) := ⟨fun _ _ _ _ _ _ h => h.elim⟩
theorem ps_never {st : Stmt} : PS X st (fun _ _ _ => False) := ⟨fun _ _ _ _ _ _ h => h.elim⟩
theorem pe_never {e : Expr} : PE X e (fun _ _ _ => False) := ⟨fun _ _ _ _ _ _ h => h.elim⟩
theorem tYes_at {σ : L2.St} {H : Hp} {Q : Bool → Hp → Prop} (h : Q true H) : tYes σ H Q := h
end
end Pot

namespace Pot
open PySem PySem.Spec PyProof.Rows L2
theorem nodup_le {α : Type} [BEq α] [LawfulBEq α] : ∀ {ks l : List α}, ks.Nodup → (∀ k ∈ ks, k ∈ l) → ks.length ≤ l.length
  | [], _, _, _ => Nat.zero_le _
  | k :: ks, l, h, s => by
    have hk := s k List.mem_cons_self
    have h2 := (List.nodup_cons.mp h)
    have := nodup_le (ks := ks) (l := l.erase k) h2.2 fun x hx => by
      have ne : x ≠ k := fun e => h2.1 (e ▸ hx)
      exact (List.mem_erase_of_ne ne).mpr (s x (List.mem_cons_of_mem _ hx))
    rw [List.length_erase_of_mem hk] at this
    have : 0 < l.length := List.length_pos_of_mem hk
    simp only [List.length_cons]
    omega
section
variable {X : Cx} {K : PySem.W.Frag}
theorem ko_notIn (h : X.K = K := by rfl) : OpR X (compareOp .NotIn) (rIn K true) := h ▸ op_notIn_seq
/-- set(xs) of ints: how many members it has -/
def rSetLj (K : PySem.W.Frag) (w : World) : List V → Hp → VK → Prop := fun xs H Q => ∃ (a : Addr) (ns : List Int), xs = [V.ref a] ∧ SqL K H a (ns.map V.int) ∧ ns.length ≤ 4000 ∧
  ∀ (p : Addr) (ks : List Int), H p = none → ks.Nodup → (∀ k, k ∈ ks ↔ k ∈ ns) → Q (.ref p) (upd H p (SetO w p (fun k => decide (k ∈ ns)) ks.length))
theorem cr_setLj (hc : X.calm = true) : CallR X (.type "set") (rSetLj X.K X.w) := by
  intro pins s σ H vs us Q I r h
  obtain ⟨a, ns, rfl, hS, hl, q⟩ := h
  rw [Vals.ref1 r]
  obtain ⟨its, rv, pl, hz⟩ := I.list hS
  refine call_set_li ns (I.ok.hd hc) pl.isList (by simpa using Vals.ints rv) (by unfold scanBound; omega) fun s' f => ?_
  obtain ⟨h', tk, c, rfl, R, hcn, k⟩ := f
  have hn : H s.heap.objs.size = none := I.hok.fresh (Nat.le_refl _)
  have J : Inv X pins σ (upd H s.heap.objs.size (SetO X.w s.heap.objs.size (fun k => decide (k ∈ ns)) c)) { s with heap := h', toks := tk } := I.laid (t' := tk) k (Nat.le_refl _) (setO_new R)
  obtain ⟨o, es, ep, t, _, _, _, _, nod, mem, _, _, size, _⟩ := R
  have q2 := q s.heap.objs.size (es.toList.map keyOf) hn nod fun k => by rw [← mem k, decide_eq_true_eq]
  rw [List.length_map, Array.length_toList, size] at q2
  exact ⟨.ref s.heap.objs.size, _, J, rfl, q2⟩
theorem kc_setLj {w : World} (hc : X.calm = true := by rfl) (h : X.K = K := by rfl) (hw : X.w = w := by rfl) : CallR X (.type "set") (rSetLj K w) := by subst h; subst hw; exact cr_setLj hc
end
end Pot

namespace Pot
open PySem PySem.Spec PyProof.Rows L2
section
variable {X : Cx} {K : PySem.W.Frag}
/-- len of a set of ints -/
def rLenSet (w : World) : List V → Hp → VK → Prop := fun xs H Q => ∃ (a : Addr) (S : Int → Bool) (n : Nat), xs = [V.ref a] ∧ H a = some (SetO w a S n) ∧ Q (.int n) H
theorem cr_lenSet : CallR X (.builtin "len") (rLenSet X.w) := by
  intro pins s σ H vs us Q I r h
  obtain ⟨a, S, n, rfl, ha, q⟩ := h
  rw [Vals.ref1 r]
  obtain ⟨o, es, ep, t, ho, hex, hd, _, _, _, hb, hf, rfl, _⟩ := setO_get I ha
  exact PySem.call_len_set ho hex hd hf (by unfold scanBound at hb; omega) ⟨.int _, H, I.tok _, ⟨_, rfl⟩, q⟩
theorem kc_lenSet {w : World} (hw : X.w = w := by rfl) : CallR X (.builtin "len") (rLenSet w) := by subst hw; exact cr_lenSet
/-- repr of any data -/
def rReprA (K : PySem.W.Frag) : List V → Hp → VK → Prop := fun xs H Q => ∃ (x : V) (d : PyData), xs = [x] ∧ Dp K H x d ∧ fineAll.fine d ∧ d.depth ≤ 60 ∧ costAll.cost d ≤ 16777216 ∧ Q (.str d.shown) H
theorem cr_reprA (gd : X.A.guards = some []) (hu : X.A.units + 64 < cLine) : CallR X (.builtin "repr") (rReprA X.K) := by
  intro pins s σ H vs us Q I r h
  obtain ⟨x, d, rfl, dp, sh, dep, sz, q⟩ := h
  obtain ⟨u, rfl, rx⟩ := vals1 r
  have sz2 := Nat.le_trans (shown_len d sh) (by rw [sizeLine_eq]; exact sz : costAll.cost d ≤ sizeLine)
  cases x with
  | ref a =>
    cases rx
    obtain ⟨as, rd⟩ := Dp.reads I d (.ref a) (.ref a) dp rfl
    refine repr_of_reads' rd (fine_show d sh) (fun z => ?_) gd (by omega) (fun _ _ e => e) (fun h' u tk k => ⟨.str d.shown, H, I.kept k, ⟨u, rfl⟩, q⟩) sz2
    rw [dp_noDict dp] at z
    cases z
  | int i =>
    cases dp
    obtain ⟨t, rfl⟩ := rx
    exact PySem.P.repr_of_int sh ⟨.str _, H, I.tok _, ⟨_, rfl⟩, q⟩
  | str z =>
    cases dp
    obtain ⟨t, rfl⟩ := rx
    exact PySem.P.repr_of_str ⟨.str _, H, I.tok _, ⟨_, rfl⟩, q⟩ sz2
  | bl b =>
    cases dp
    cases rx
    refine PySem.P.repr_of_bool ⟨.str _, H, I.tok _, ⟨_, rfl⟩, ?_⟩
    exact q
  | non =>
    cases dp
    cases rx
    exact PySem.P.repr_of_none ⟨.str _, H, I.tok _, ⟨_, rfl⟩, q⟩
  | _ => cases dp
theorem kc_reprA (gd : X.A.guards = some []) (hu : X.A.units + 64 < cLine) (h : X.K = K := by rfl) : CallR X (.builtin "repr") (rReprA K) := h ▸ cr_reprA gd hu
end
theorem short_of {α : Type} [DecidableEq α] : ∀ {ns : List α}, ¬ ns.Nodup → ∃ ns' : List α, ns'.length < ns.length ∧ ∀ k ∈ ns, k ∈ ns'
  | [], h => (h List.nodup_nil).elim
  | x :: ns, h => by
    by_cases hx : x ∈ ns
    · exact ⟨ns, by simp, fun k hk => by
        rcases List.mem_cons.mp hk with e | e
        · rw [e]; exact hx
        · exact e⟩
    · obtain ⟨ns', l, s⟩ := short_of (ns := ns) fun hn => h (List.nodup_cons.mpr ⟨hx, hn⟩)
      exact ⟨x :: ns', by simp only [List.length_cons]; omega, fun k hk => by
        rcases List.mem_cons.mp hk with e | e
        · rw [e]; exact List.mem_cons_self
        · exact List.mem_cons_of_mem _ (s k e)⟩
theorem set_count {ks ns : List Int} (hk : ks.Nodup) (h : ∀ k, k ∈ ks ↔ k ∈ ns) : ks.length ≤ ns.length ∧ (ks.length = ns.length ↔ ns.Nodup) := by
  have le := nodup_le hk fun k x => (h k).mp x
  refine ⟨le, fun e => ?_, fun hn => Nat.le_antisymm le (nodup_le hn fun k x => (h k).mpr x)⟩
  by_cases hn : ns.Nodup
  · exact hn
  · obtain ⟨ns', l, s⟩ := short_of hn
    have := nodup_le hk fun k x => s k ((h k).mp x)
    omega
end Pot

namespace Pot
open PySem PySem.Spec PyProof.Rows L2
section
variable {X : Cx} {K : PySem.W.Frag}
theorem ko_inD (hu : X.A.units + 65 < cLine) (h : X.K = K := by rfl) : OpR X (compareOp .In) (rInD K) := h ▸ op_inD hu
theorem ko_notInD (hu : X.A.units + 65 < cLine) (h : X.K = K := by rfl) : OpR X (compareOp .NotIn) (rNotInD K) := h ▸ op_notInD hu
/-- a text thrice -/
def rRep3 : R2 := fun x y H Q => ∃ z : Str, x = .str z ∧ y = .int 3 ∧ z.length ≤ 100000 ∧ ∀ z' : Str, z'.length ≤ 3 * z.length → (∀ c ∈ z'.cps.toList, c ∈ z.cps.toList) → Q (.str z') H
theorem mul3_len (z : Str) : (Txt.mul z 3).length ≤ 3 * z.length ∧ ∀ c ∈ (Txt.mul z 3).cps.toList, c ∈ z.cps.toList := by
  unfold Txt.mul
  rw [if_neg (show ¬ (3 : Int) < 1 by decide)]
  split
  · exact ⟨by omega, fun c h => h⟩
  · constructor
    · show Array.size _ ≤ _
      simp [List.replicate]
      show z.cps.size + (z.cps.size + z.cps.size) ≤ 3 * z.cps.size
      omega
    · intro c h
      simp [List.replicate] at h
      simpa using h
theorem op_rep3 : OpR X (binaryOp .Mult) rRep3 := by
  intro pins sh sg H xv yv v1 u1 Q I r1 r2 h
  obtain ⟨z, rfl, rfl, hz, q⟩ := h
  obtain ⟨tk1, rfl⟩ := r1
  obtain ⟨tk2, rfl⟩ := r2
  have m3 := mul3_len z
  refine SB.mul ⟨by decide, fun _ _ hh => ?_, fun _ _ => ?_⟩ (fun tt kk => ⟨.str (Txt.mul z 3), H, I.tok _, ⟨_, rfl⟩, q _ m3.1 m3.2⟩)
  · have : ((2 : Int) ^ 63 - 1) / 3 = 3074457345618258602 := by decide
    omega
  · have e : (3 : Int).toNat = 3 := rfl
    rw [e]
    show decide _ = false
    refine decide_eq_false ?_
    have := sizeLine_eq
    omega
end
end Pot

namespace Pot
open PySem PySem.Spec PyProof.Rows L2
open Sem (wp)
/-! ### enumerate of a list or a tuple -/
set_option maxHeartbeats 1000000 in
theorem en_new {v : Value} {ob : Obj} {Ok : Heap → Prop} (B : Begins v ob Ok) :
    Meets (Builtin.«enumerate.__new__» ⟨[.type "enumerate", v], []⟩) (fun _ R s => Ok s.heap ∧ R (.ok (.ret (.ref (s.heap.push ob).objs.size))) { s with heap := (s.heap.push ob).push { cls := .type "enumerate", data := .fields #[.none, .bool false, .ref s.heap.objs.size, rawInt 0, .none, .none] } }) :=
  .of_wp fun prog w A R st hst => by
    obtain ⟨hp, gl, dd, tt, oo⟩ := st; obtain ⟨ok1, fin⟩ := hst; have isub := sub_enumerate
    have go : ∀ {A1 : Around} {E1 : Value → Shared → Prop} {Q1 : Value → Shared → Prop}, Q1 (.ref hp.objs.size) ⟨hp.push ob, gl, dd, tt, oo⟩ → wpAny (model prog w) A1 (pyIter v) Q1 E1 ⟨hp, gl, dd, tt, oo⟩ := fun z => B.iter prog w _ _ ⟨hp, gl, dd, tt, oo⟩ _ ok1 z
    wp_walk using go
    refine wpAny_stack_any fun stk => wpAny_pure ?_
    split
    · rename_i cc _ _ _ _ _; cases (cc == Value.type "enumerate") <;> (wp_walk using go; exact ⟨_, rfl, fin⟩)
    · wp_walk using go; exact ⟨_, rfl, fin⟩
/-- some untracked cells written, nothing new -/
theorem inv_ch {X : Cx} {pins : List (Addr × Obj)} {σ : L2.St} {H : Hp} {s : Shared} {h2 : Heap} {tk : Nat} {ch : List Addr} (I : Inv X pins σ H s) (kp : ∀ b o, b ∉ ch → s.heap.get? b = some o → h2.get? b = some o) (fo : ∀ b ∈ ch, FpOk X pins H b) :
    Inv X pins σ H { s with heap := h2, toks := tk } := by
  have out : ∀ c u, H c = some u → c ∉ ch := fun c u e z => by have := (fo c z).1; rw [this] at e; cases e
  refine I.step (g' := s.gens) (d' := s.drawn) (ch := ch) (fun c hc => let ⟨_, a2, _, a4, a5, a6⟩ := fo c hc; ⟨a4, a2, a5, a6⟩) (fun c o _ _ n e _ => kp c o n e) (fun c o _ _ n e _ => ⟨o.slots, kp c o n e⟩) (fun _ _ _ _ z => z) (fun c o n e => ⟨o, kp c o n e⟩) (fun _ _ z => z) (fun _ _ _ z => z) (fun c ps e => ⟨#[], by rw [e]; simp⟩) (fun mm hm => ?_) (fun c u e => ?_) I.bare
  · obtain ⟨o, e1, e2, ho, rest⟩ := hm; exact ⟨o, e1, e2, kp _ o (fun z => (fo _ z).2.1 rfl) ho, rest⟩
  · refine (I.hok c u e).stay (fun c2 v hc q => kp c2 v ?_ q) (fun _ z => z) fun _ _ z => z
    rcases hc with z | z
    · rw [z]; exact out c u e
    · exact out c2 _ z
def ItT (K : PySem.W.Frag) (a : Addr) : It :=
  ⟨fun i H => ∃ (xs : List V) (x : V), SqT K H a xs ∧ xs[i]? = some x, fun i H v H' => ∃ T x, v = .ref T ∧ H T = none ∧ H' = upd H T (.tup [.int (i : Nat), x]) ∧ ∀ xs, SqT K H a xs → xs[i]? = some x, fun i H => ∃ xs : List V, SqT K H a xs ∧ xs.length ≤ i⟩
/-- an iterator of a tuple that has come to its end -/
theorem drawsEnd {prog : Program} {w : World} {A : Around} (hh : A.handled = none) (it t : Addr) (items : Array Value) (i : Nat) (hi : items[i]? = none) :
    Draws prog w A it [it, t] i (fun _ _ => False) (fun j h => j = i ∧ h.IsTupleIter it t j ∧ h.IsTuple t items) where
  live := fun _ _ st => let ⟨o, ho, _⟩ := st.2.1; ⟨o, ho⟩
  frame := fun _ _ _ st hk => ⟨st.1, st.2.1.at fun o e => hk it (by simp) o e, st.2.2.at fun o e => hk t (by simp) o e⟩
  item := fun j _ _ _ hj st _ => absurd st.1 (Nat.ne_of_lt hj)
  done := fun s Q E st hE => wpAny_nextOf_tuple_end hh st.2.1 st.2.2 hi hE
theorem turn_enT {P : Program} {w : World} {K : PySem.W.Frag} {elts : List Expr} {kk : Nat} {tpos : Pos} (a e it : Addr) (ne1 : e ≠ it) :
    Turn P w K (.Tuple elts kk tpos) (ItT K a) [e, it] e (fun i h => (∃ old, IsEnum h e it (0 + ((i : Nat) : Int)) old) ∧ h.IsTupleIter it a i) where
  mem := by simp
  obj := fun i h st b hb => by
    obtain ⟨⟨old, he⟩, ⟨o, ho, hc, hd⟩⟩ := st
    rcases List.mem_cons.mp hb with z | z
    · rw [z]; exact ⟨_, he, fun v q => nomatch q⟩
    · rw [List.mem_singleton.mp z]; exact ⟨o, ho, fun v q => by rw [hd] at q; cases q⟩
  keep := fun i h h' st k => let ⟨⟨old, he⟩, hi⟩ := st; ⟨⟨old, k e (by simp) _ he⟩, hi.at fun o q => k it (by simp) o q⟩
  item := by
    intro X q1 q2 q3 hc i pins s σ H E I hf st hg; subst q1 q2 q3
    obtain ⟨⟨old, he⟩, hit⟩ := st
    obtain ⟨xs, x, hq, hx⟩ := hg
    obtain ⟨its, vals_, p, _⟩ := I.tuple hq
    obtain ⟨u, hu, ru⟩ := vals_.get hx
    have at_ : its.toArray[i]? = some u := by simpa using hu
    have hlt : i < its.toArray.size := (Array.getElem?_eq_some_iff.mp at_).1
    have nt : ∀ b ∈ [e, it], a ≠ b := fun b hb z => by
      obtain ⟨o, ho, cl, _⟩ := p
      rcases List.mem_cons.mp hb with y | y
      · rw [z, y] at ho
        rw [show s.heap.get? e = _ from he] at ho; cases ho; injection cl with cl; exact absurd cl (by decide)
      · rw [z, List.mem_singleton.mp y] at ho
        obtain ⟨o2, ho2, cl2, _⟩ := hit
        rw [ho2] at ho; cases ho
        rw [cl2] at cl; injection cl with cl; exact absurd cl (by decide)
    have G := GoesN.enumFrom (elts := elts) (x1 := kk) (pos := tpos) 0 (Draws.tuple (prog := X.prog) (w := X.w) (A := X.A.in1) (I.ok.hd hc) it a (nt it (by simp)) its.toArray) e ne1 (by simp [ne1, (nt e (by simp)).symm]) (by simp)
    refine G.goes i s _ _ hlt ⟨⟨old, he⟩, hit, p⟩ fun v h2 tk hY st2 hk _ => ?_
    obtain ⟨T, t, u2, rfl, hn, hu2, hT⟩ := hY
    have eu : u2 = u := Option.some.inj (hu2.symm.trans at_)
    subst eu
    rw [Int.zero_add] at hT
    have new : ObjOk X.prog X.w (upd H T (.tup [.int (i : Nat), x])) h2 T (.tup [.int (i : Nat), x]) := ⟨by show 2 ≤ sizeLine; decide, [.int i t, u2], .cons ⟨_, rfl⟩ (.cons ru .nil), hT⟩
    have I1 : Inv X pins σ (upd H T (.tup [.int (i : Nat), x])) { s with heap := h2, toks := tk } := I.turnedNew (ch := [e, it]) (fun b ob hb q => hk b ob hb q) hf hn new
    refine ⟨.ref T, _, I1, rfl, ⟨T, x, rfl, I.hok.fresh hn, rfl, fun ys hy => by rw [I.tuple_inj hy hq]; exact hx⟩, ⟨st2.1, st2.2.1⟩, fun b hb => ?_⟩
    have hb0 := (hf b hb).1
    have hbT : b ≠ T := by
      rcases List.mem_cons.mp hb with y | y
      · rw [y]; exact Nat.ne_of_lt (Nat.lt_of_lt_of_le (Heap.lt_size he) hn)
      · rw [List.mem_singleton.mp y]
        obtain ⟨o2, ho2, _⟩ := hit
        exact Nat.ne_of_lt (Nat.lt_of_lt_of_le (Heap.lt_size ho2) hn)
    rw [upd_ne hbT]; exact hb0
  done := by
    intro X q1 q2 q3 hc i pins s σ H E I hf st hg; subst q1 q2 q3
    obtain ⟨⟨old, he⟩, hit⟩ := st
    obtain ⟨xs, hq, hx⟩ := hg
    obtain ⟨its, vals_, p, _⟩ := I.tuple hq
    have hl := vals_.length
    have nt : ∀ b ∈ [e, it], a ≠ b := fun b hb z => by
      obtain ⟨o, ho, cl, _⟩ := p
      rcases List.mem_cons.mp hb with y | y
      · rw [z, y] at ho
        rw [show s.heap.get? e = _ from he] at ho; cases ho; injection cl with cl; exact absurd cl (by decide)
      · rw [z, List.mem_singleton.mp y] at ho
        obtain ⟨o2, ho2, cl2, _⟩ := hit
        rw [ho2] at ho; cases ho
        rw [cl2] at cl; injection cl with cl; exact absurd cl (by decide)
    have G := GoesN.enumFrom (elts := elts) (x1 := kk) (pos := tpos) 0 (drawsEnd (prog := X.prog) (w := X.w) (A := X.A.in1) (I.ok.hd hc) it a its.toArray i (by simp; omega)) e ne1 (by simp [ne1, (nt e (by simp)).symm]) (by simp)
    exact G.stops s _ _ ⟨⟨old, he⟩, rfl, hit, p⟩ fun h2 tk hk _ => inv_ch I hk hf
  self := fun _ _ _ _ _ st fin => let ⟨⟨_, he⟩, _⟩ := st; wpAny_pyIter_enum he fin
/-- enumerate(v), v a list or a tuple -/
def iEnA (K : PySem.W.Frag) (ta : TA) : TI := fun σ H R => ta σ H fun vs H1 => ∃ a xs, vs = [.ref a] ∧ ((SqL K H1 a xs ∧ R (Ite K a) H1) ∨ (SqT K H1 a xs ∧ R (ItT K a) H1))
theorem pi_enA {X : Cx} {e : Expr} {ta : TA} {p pos tpos : Pos} {elts : List Expr} {kk : Nat} (hg : Gl X "enumerate") (hm : X.mg "enumerate" = none) (ha : PA X [e] ta) (hs : starEach [e] X.env = [(false, eval e X.env)] := by rfl) :
    PI X (.Tuple elts kk tpos) (.Call (.Name "enumerate" p) [e] [] pos) (iEnA X.K ta) := by
  refine ⟨fun pins s σ H R I hi => ?_⟩
  refine Call_ (ld_blt I hg hm boot_enumerate (PyProof.Rows.callWith_type1 (thn (ha.run pos pins s σ H _ I hi) fun us s1 ⟨vs, H1, I1, r1, q1⟩ => ?_) hs rfl))
  obtain ⟨a, xs, ex, q⟩ := q1
  subst ex
  cases r1 with
  | cons r rr =>
    cases rr; cases r
    rcases q with ⟨hq, q⟩ | ⟨hq, q⟩
    · obtain ⟨its, rv, p2, hz⟩ := I1.list hq
      refine call_enumerate_list p2.isList fun h2 he hit hsz hk => wpAny_pyIter_enum he ?_
      refine ⟨s1.heap.objs.size + 1, [s1.heap.objs.size + 1, s1.heap.objs.size], _, _, H1, rfl, I1.kept (t' := s1.toks) hk, turn_enum a (s1.heap.objs.size + 1) s1.heap.objs.size, ⟨⟨.none, he⟩, hit, Nat.succ_ne_self _⟩, fun b hb => ?_, q⟩
      have hge : s1.heap.objs.size ≤ b := by
        rcases List.mem_cons.mp hb with z | z
        · rw [z]; exact Nat.le_add_right _ _
        · rw [List.mem_singleton.mp z]; exact Nat.le_refl _
      exact I1.fpOk hge (I1.hok.fresh hge)
    · obtain ⟨its, rv, p2, hz⟩ := I1.tuple hq
      refine callType_new F.called_enumerate (by decide) (F.typeCall_enumerate_1 _) (F.newCall_enumerate_1 _) (fun obj => F.args_object_init_2 obj _) F.entry_enumerate_new (en_new (begins_tuple a its.toArray)) ⟨p2, ?_⟩
      have sz : (s1.heap.push { cls := .type "tuple_iterator", data := .fields #[.ref a, .int 0 0] }).objs.size = s1.heap.objs.size + 1 := Heap.size_push ..
      show _ ∧ _
      rw [sz]
      have he : IsEnum ((s1.heap.push { cls := .type "tuple_iterator", data := .fields #[.ref a, .int 0 0] }).push { cls := .type "enumerate", data := .fields #[.none, .bool false, .ref s1.heap.objs.size, rawInt 0, .none, .none] }) (s1.heap.objs.size + 1) s1.heap.objs.size (0 + ((0 : Nat) : Int)) .none := by
        have g := Heap.get?_push_size (s1.heap.push { cls := .type "tuple_iterator", data := .fields #[.ref a, .int 0 0] }) (o := { cls := .type "enumerate", data := .fields #[.none, .bool false, .ref s1.heap.objs.size, rawInt 0, .none, .none] }) rfl
        rw [sz] at g; exact g
      refine ⟨⟨_, he, rfl⟩, wpAny_pyIter_enum he ⟨s1.heap.objs.size + 1, [s1.heap.objs.size + 1, s1.heap.objs.size], _, _, H1, rfl, I1.kept (t' := s1.toks) (fun b o z => Heap.get?_push_of_some _ (Heap.get?_push_of_some _ z)), turn_enT a (s1.heap.objs.size + 1) s1.heap.objs.size (Nat.succ_ne_self _), ⟨⟨.none, he⟩, ⟨_, Heap.get?_push_of_some _ (Heap.get?_push_size _ rfl), rfl, rfl⟩⟩, fun b hb => ?_, q⟩⟩
      have hge : s1.heap.objs.size ≤ b := by
        rcases List.mem_cons.mp hb with z | z
        · rw [z]; exact Nat.le_add_right _ _
        · rw [List.mem_singleton.mp z]; exact Nat.le_refl _
      exact I1.fpOk hge (I1.hok.fresh hge)
theorem walk_enT {K : PySem.W.Frag} {a : Addr} {xs : List V} : Walk (ItT K a) xs.length (fun H => SqT K H a xs) (YPair (fun i => some (.int (i : Nat))) (fun i => xs[i]?)) := by
  refine ⟨fun i _ hi hs => ⟨xs, xs[i], hs, by simp [hi]⟩, fun _ hs => ⟨xs, hs, Nat.le_refl _⟩, fun i H v H2 _ hs y => ?_⟩
  obtain ⟨T, x, e1, e2, e3, e4⟩ := y
  exact ⟨T, .int (i : Nat), x, e1, e2, e3, rfl, e4 xs hs⟩
theorem ko_catA {X : Cx} {K : PySem.W.Frag} (h : X.K = K := by rfl) : OpR X (binaryOp .Add) (rCatA K) := h ▸ op_catA
theorem ki_enA {X : Cx} {K : PySem.W.Frag} {e : Expr} {ta : TA} {p pos tpos : Pos} {elts : List Expr} {kk : Nat} (hg : Gl X "enumerate") (hm : X.mg "enumerate" = none) (ha : PA X [e] ta) (hs : starEach [e] X.env = [(false, eval e X.env)] := by rfl) (h : X.K = K := by rfl)
    : PI X (.Tuple elts kk tpos) (.Call (.Name "enumerate" p) [e] [] pos) (iEnA K ta) := h ▸ pi_enA hg hm ha hs
end Pot

namespace Pot
open PySem PySem.Spec PyProof.Rows L2
/-- built-in names that the module gives no other meaning -/
structure Txt (mg : Str → Option Value) : Prop where
  len : mg "len" = none
  divmod : mg "divmod" = none
  range : mg "range" = none
  sum : mg "sum" = none
  all : mg "all" = none
  any : mg "any" = none
  isinstance : mg "isinstance" = none
  str : mg "str" = none
  int : mg "int" = none
  list : mg "list" = none
  tuple : mg "tuple" = none
  bool : mg "bool" = none
  zip : mg "zip" = none
  set : mg "set" = none
  sorted : mg "sorted" = none
  enumerate : mg "enumerate" = none
  repr : mg "repr" = none
  min : mg "min" = none
  max : mg "max" = none
  abs : mg "abs" = none
/-- a def that may be called by its name: what it keeps, at which level -/
def Cl (P : Program) (w : World) (K : PySem.W.Frag) (mg : Str → Option Value) (base : Heap) (k : Nat) (x : Str) (sp : Sp) : Prop :=
  ∃ (f : Addr) (fd : FuncData) (ps : List Str), FnOk P w K mg base CX0 k f fd ps sp ∧ mg x = some (.ref f) ∧ PySem.W.keepIn K (.ref f) = true ∧ Binds K fd ps []
theorem pe_cl {X : Cx} {k j : Nat} {x : Str} {sp : Sp} {e : Expr} {es : List Expr} {t : TA} {p pos : Pos} (c : Cl X.prog X.w X.K X.mg X.base k x sp) (hr : Room j X.A) (hk : k ≤ j) (hg : Gl X x) (ha : PA X (e :: es) t) (hdb : (x == ("__debug__" : Str)) = false := by decide)
    (he : starEach (e :: es) X.env = (false, eval e X.env) :: starEach es X.env := by rfl) (hpl : (backTo pos (starEach es X.env)).any (·.1) = false := by rfl) : PE X (.Call (.Name x p) (e :: es) [] pos) (tCall sp [] E0 t) := by
  obtain ⟨f, fd, ps, G, hm, kp, b⟩ := c
  exact pe_call G (hr.mono hk) hg hm kp b .nil pass0 ha hdb he hpl
/-! ### the drawing state -/
def dS (c : Addr) (t : Int) : List (Key × V) := [(Sum.inr "cells", .ref c), (Sum.inr "turn", .int t)]
/-- at d stands a state of the law: its cells at c, its turn at most n -/
def StAt (H : Hp) (d c : Addr) (n : Nat) : Prop := d ≠ c ∧ ∃ (xs : List Int) (t : Int),
  H d = some (.dK (dS c t)) ∧ H c = some (.lst (xs.map V.int)) ∧ xs ≠ [] ∧ xs.length ≤ 63 ∧ 0 ≤ t ∧ t ≤ n
/-- all that was tracked stands, but d and c -/
def Kp (d c : Addr) (H H' : Hp) : Prop := ∀ b o, b ≠ d → b ≠ c → H b = some o → H' b = some o
theorem Kp.refl (d c : Addr) (H : Hp) : Kp d c H H := fun _ _ _ _ e => e
theorem Kp.trans {d c : Addr} {H H1 H2 : Hp} (a : Kp d c H H1) (b : Kp d c H1 H2) : Kp d c H H2 := fun x o h1 h2 e => b x o h1 h2 (a x o h1 h2 e)
theorem Kp.of {d c : Addr} {H H' : Hp} (s : Same H H') : Kp d c H H' := fun x o _ _ e => s x o e
theorem same_upd {H : Hp} {p : Addr} {o : HO} (h : H p = none) : Same H (upd H p o) := fun b x e => by
  rw [upd_ne (ne_of_none e h)]
  exact e
theorem same_put {H H' : Hp} {p : Addr} {o : HO} (s : Same H H') (h : H p = none) : Same H (upd H' p o) := fun b x e => by
  rw [upd_ne (ne_of_none e h)]
  exact s b x e
theorem kp_put {d c : Addr} {H H' : Hp} {p : Addr} {o : HO} (s : Kp d c H H') (h : H p = none) : Kp d c H (upd H' p o) := fun b x h1 h2 e => by
  rw [upd_ne (ne_of_none e h)]
  exact s b x h1 h2 e
theorem StAt.mono {H : Hp} {d c : Addr} {n m : Nat} (h : StAt H d c n) (k : n ≤ m) : StAt H d c m := by
  obtain ⟨h0, xs, t, h1, h2, h3, h4, h5, h6⟩ := h
  exact ⟨h0, xs, t, h1, h2, h3, h4, h5, by omega⟩
theorem StAt.same {H H' : Hp} {d c : Addr} {n : Nat} (h : StAt H d c n) (s : Same H H') : StAt H' d c n := by
  obtain ⟨h0, xs, t, h1, h2, h3, h4, h5, h6⟩ := h
  exact ⟨h0, xs, t, s _ _ h1, s _ _ h2, h3, h4, h5, h6⟩
theorem Kp.free {d c : Addr} {H H' : Hp} {n : Nat} {l : Addr} (k : Kp d c H H') (s : StAt H' d c n) (h : H' l = none) : H l = none := by
  obtain ⟨_, xs, t, h1, h2, _⟩ := s
  have n1 : l ≠ d := (ne_of_none h1 h).symm
  have n2 : l ≠ c := (ne_of_none h2 h).symm
  cases e : H l with
  | none => rfl
  | some o =>
    rw [k l o n1 n2 e] at h
    cases h
theorem StAt.ne1 {H : Hp} {d c : Addr} {n : Nat} {l : Addr} (s : StAt H d c n) (h : H l = none) : d ≠ l := by
  obtain ⟨_, xs, t, h1, h2, _⟩ := s
  exact ne_of_none h1 h
theorem StAt.ne2 {H : Hp} {d c : Addr} {n : Nat} {l : Addr} (s : StAt H d c n) (h : H l = none) : c ≠ l := by
  obtain ⟨_, xs, t, h1, h2, _⟩ := s
  exact ne_of_none h2 h
theorem StAt.put {H : Hp} {d c : Addr} {n : Nat} {l : Addr} {o : HO} (s : StAt H d c n) (n1 : d ≠ l) (n2 : c ≠ l) : StAt (upd H l o) d c n := by
  obtain ⟨h0, xs, t, h1, h2, h3, h4, h5, h6⟩ := s
  exact ⟨h0, xs, t, by rw [upd_ne n1]; exact h1, by rw [upd_ne n2]; exact h2, h3, h4, h5, h6⟩
theorem val_turn (c : Addr) (t : Int) : valV (dS c t) (Sum.inr "turn") = some (.int t) := by
  have e : ¬ ((Sum.inr (Str.ofString "cells") : Key) = Sum.inr (Str.ofString "turn")) := by decide +kernel
  unfold dS; rw [valV_neg e, valV_pos rfl]
theorem val_cells (c : Addr) (t : Int) : valV (dS c t) (Sum.inr "cells") = some (.ref c) := by
  unfold dS; rw [valV_pos rfl]
theorem put_turn (c : Addr) (t u : Int) : putK (dS c t) (Sum.inr "turn") (.int u) = dS c u := by
  have e : ¬ ((Sum.inr (Str.ofString "cells") : Key) = Sum.inr (Str.ofString "turn")) := by decide +kernel
  unfold putK dS
  simp [e]

theorem dget_turn {H : Hp} {d c : Addr} {t : Int} (h : H d = some (.dK (dS c t))) : DGet H d (.str "turn") (some (.int t)) := by
  rw [← val_turn c t]; exact DGet.k (k := Sum.inr "turn") h
theorem dget_cells {H : Hp} {d c : Addr} {t : Int} (h : H d = some (.dK (dS c t))) : DGet H d (.str "cells") (some (.ref c)) := by
  rw [← val_cells c t]; exact DGet.k (k := Sum.inr "cells") h
theorem dput_turn {H : Hp} {d c : Addr} {t : Int} (u : Int) (h : H d = some (.dK (dS c t))) : DPut H d (.str "turn") (.int u) (upd H d (.dK (dS c u))) := by
  rw [← put_turn c t u]; exact DPut.k (k := Sum.inr "turn") h (by show 2 < sizeLine; decide)
theorem ge18 (x : Int) : (decide ((10 : Int) ^ (18 : Int).toNat ≤ x) = true) ↔ 1000000000000000000 ≤ x := by
  have e : (10 : Int) ^ (18 : Int).toNat = 1000000000000000000 := by decide
  rw [e, decide_eq_true_eq]
theorem cmul_mod (a b : Int) {m : Int} (h0 : 0 < m) (h1 : m < 2 ^ 64) : CMul (a % m) b := by
  have p := Int.emod_nonneg a (show m ≠ 0 by omega)
  have q := Int.emod_lt_of_pos a h0
  exact .inl ⟨by omega, by omega⟩
theorem mod_at {xs : List Int} {u : Int} (hx : xs ≠ []) : ∃ (j : Nat) (y : Int), u % ((xs.map V.int).length : Int) = (j : Int) ∧ j < xs.length ∧ xs[j]? = some y := by
  have h0 : 0 < xs.length := List.length_pos_iff.mpr hx
  rw [List.length_map]
  have a := Int.emod_nonneg u (show (xs.length : Int) ≠ 0 by omega)
  have b := Int.emod_lt_of_pos u (show (0 : Int) < (xs.length : Int) by omega)
  refine ⟨(u % (xs.length : Int)).toNat, xs[(u % (xs.length : Int)).toNat]'(by omega), by omega, by omega, ?_⟩
  exact List.getElem?_eq_getElem _

section
variable {K : PySem.W.Frag}
theorem cut63 {xs : List V} (h : xs.length ≤ 63) : cutV xs none (some 63) = xs := by
  unfold cutV
  rw [HT.sIx_none, show HT.sIx xs.length xs.length (some 63) = min 63 xs.length from HT.sIx_nat xs.length xs.length 63, Nat.min_eq_right h]
  simp
theorem dp_ints {H : Hp} (ns : List Int) : DpAll K H (ns.map V.int) (ns.map PyData.int) := by
  induction ns with
  | nil => exact .nil
  | cons n r ih => exact .cons (.int n) ih
theorem same_tup {H H' : Hp} {a : Addr} {xs : List V} (e : Same H H') (h : SqT K H a xs) : SqT K H' a xs := by
  rcases h with (h | ⟨o, h⟩) | h
  · exact .inl (.inl (e _ _ h))
  · exact .inl (.inr ⟨o, e _ _ h⟩)
  · exact .inr h
mutual
theorem dp_same {H H' : Hp} (s : Same H H') : ∀ {v : V} {d : PyData}, Dp K H v d → Dp K H' v d
  | _, _, .non => .non
  | _, _, .bl b => .bl b
  | _, _, .int i => .int i
  | _, _, .str x => .str x
  | _, _, .lst h a => .lst (s.seq h) (dpAll_same s a)
  | _, _, .tup h a => .tup (same_tup s h) (dpAll_same s a)
theorem dpAll_same {H H' : Hp} (s : Same H H') : ∀ {vs : List V} {ds : List PyData}, DpAll K H vs ds → DpAll K H' vs ds
  | _, _, .nil => .nil
  | _, _, .cons h t => .cons (dp_same s h) (dpAll_same s t)
end
theorem dpAll_len {H : Hp} : ∀ {vs : List V} {ds : List PyData}, DpAll K H vs ds → vs.length = ds.length
  | _, _, .nil => rfl
  | _, _, .cons _ t => by rw [List.length_cons, List.length_cons, dpAll_len t]
theorem dpAll_at {H : Hp} : ∀ {vs : List V} {ds : List PyData} {i : Nat} {v : V}, DpAll K H vs ds → vs[i]? = some v → ∃ d, ds[i]? = some d ∧ Dp K H v d
  | _, _, _, _, .nil, h => by simp at h
  | _, _, 0, _, .cons h _, e => ⟨_, rfl, by cases e; exact h⟩
  | _, _, i + 1, _, .cons _ t, e => dpAll_at (i := i) t e
theorem depth_at : ∀ {ds : List PyData} {i : Nat} {d : PyData}, ds[i]? = some d → d.depth ≤ PyData.depthAll ds
  | [], _, _, h => by simp at h
  | x :: r, 0, d, h => by cases h; unfold PyData.depthAll; exact Nat.le_max_left ..
  | x :: r, i + 1, d, h => by
    have := depth_at (ds := r) (i := i) (d := d) h
    unfold PyData.depthAll
    exact Nat.le_trans this (Nat.le_max_right ..)
theorem tyx_list {H : Hp} {a : Addr} {xs : List V} (h : SqL K H a xs) : TyX K H (.ref a) (.type "list") := by
  rcases h with (h | ⟨o, h⟩) | ⟨o, its, n, h1, h2, _⟩
  · exact .base (.lst h)
  · exact .base (.frz h)
  · exact .kList h1 h2
theorem tyx_tup {H : Hp} {a : Addr} {xs : List V} (h : SqT K H a xs) : TyX K H (.ref a) (.type "tuple") := by
  rcases h with (h | ⟨o, h⟩) | ⟨o, its, n, h1, h2, _⟩
  · exact .base (.tup h)
  · exact .fTuple h
  · exact .kTuple h1 h2
theorem walk_zipT {a b : Addr} {xs ys : List V} {n : Nat} (hn : n = min xs.length ys.length) : Walk (RZ.ItzT K a b) n (fun H => SqT K H a xs ∧ SqT K H b ys) (YPair (fun i => xs[i]?) (fun i => ys[i]?)) := by
  subst hn
  refine ⟨fun i _ hi q => ?_, fun _ q => ⟨xs, ys, q.1, q.2, by omega⟩, fun i H v H' _ q y => ?_⟩
  · exact ⟨xs, ys, xs[i]'(by omega), ys[i]'(by omega), q.1, q.2, List.getElem?_eq_getElem _, List.getElem?_eq_getElem _⟩
  · obtain ⟨T, x, z, e1, e2, e3, e4, e5⟩ := y
    exact ⟨T, x, z, e1, e2, e3, e4 xs q.1, e5 ys q.2⟩
/-- the longest list within -/
def widAll : List PyData → Nat
  | [] => 0
  | x :: xs => max (wid x) (widAll xs)
where wid : PyData → Nat
  | .list xs => max xs.length (widAll xs)
  | .tuple xs => max xs.length (widAll xs)
  | _ => 0
theorem wid_at : ∀ {ds : List PyData} {i : Nat} {d : PyData}, ds[i]? = some d → widAll.wid d ≤ widAll ds
  | [], _, _, h => by simp at h
  | x :: r, 0, d, h => by cases h; unfold widAll; exact Nat.le_max_left ..
  | x :: r, i + 1, d, h => by
    have := wid_at (ds := r) (i := i) (d := d) h
    unfold widAll
    exact Nat.le_trans this (Nat.le_max_right ..)
theorem depth_ints (ns : List Int) : (PyData.list (ns.map PyData.int)).depth = 1 := by
  have h : ∀ l : List Int, PyData.depthAll (l.map PyData.int) = 0 := by
    intro l
    induction l with
    | nil => rfl
    | cons x r ih =>
      show max 0 (PyData.depthAll (r.map PyData.int)) = 0
      rw [ih]
      rfl
  show PyData.depthAll (ns.map PyData.int) + 1 = 1
  rw [h]
theorem wid_ints (ns : List Int) : widAll.wid (PyData.list (ns.map PyData.int)) = ns.length := by
  have h : ∀ l : List Int, widAll (l.map PyData.int) = 0 := by
    intro l
    induction l with
    | nil => rfl
    | cons x r ih =>
      show max 0 (widAll (r.map PyData.int)) = 0
      rw [ih]
      rfl
  show max (ns.map PyData.int).length (widAll (ns.map PyData.int)) = ns.length
  rw [h, List.length_map, Nat.max_zero]
theorem flat_ints (ns : List Int) : (ns.map V.int).all flatV = true := by
  rw [List.all_eq_true]
  intro x hx
  obtain ⟨k, _, rfl⟩ := List.mem_map.mp hx
  rfl
end
section
variable {P : Program} {w : World} {K : PySem.W.Frag} {mg : Str → Option Value} {base : Heap}
/-- a def with values that may be left out -/
abbrev FunV (K : PySem.W.Frag) (x : Str) (st : Stmt) (dvs : List V) (f : Addr) (fd : FuncData) : Prop := FunD K x x (defArgs st) (defBody st) (defScope st) dvs [] f fd
theorem okD {x : Str} {st : Stmt} {dvs : List V} {f : Addr} {fd : FuncData} {N ps : List Str} {k : Nat} {sp : Sp} (F : FunV K x st dvs f fd) (S : FnScope N ps (defScope st)) (len : ∀ vs H Q E, sp vs H Q E → vs.length = ps.length)
    (body : ∀ (cdv : Value) (A : Around) (outer : List Env) (s : Shared) (H : Hp) (vs : List V) (Q : VK) (E : XK), Room k (A.deeper (envOfC x (defScope st) s.heap.objs.size f cdv)) → sp vs H Q E →
      ∃ t, PSs (cxOf CX0 P w K mg base N x (defScope st) f cdv A outer s H E).nox (defBody st) t ∧ t { nx := fun _ H' => Q .non H', rt := Q } (start N vs) H) : FnOk P w K mg base CX0 (k + 1) f fd ps sp :=
  FunD.ok F S len fun cdv A outer s H vs Q E hr h => by
    obtain ⟨t, ht, hq⟩ := body cdv A outer s H vs Q E hr h
    exact ⟨t, ht.nox, hq⟩
/-- a def that may be called by its name, the values ds being left out -/
def ClD (P : Program) (w : World) (K : PySem.W.Frag) (mg : Str → Option Value) (base : Heap) (k : Nat) (x : Str) (ds : List V) (sp : Sp) : Prop :=
  ∃ (f : Addr) (fd : FuncData) (ps : List Str) (dus : List Value), FnOk P w K mg base CX0 k f fd ps sp ∧ mg x = some (.ref f) ∧ PySem.W.keepIn K (.ref f) = true ∧ Binds K fd ps dus ∧ Vals ds dus
theorem pe_cd {X : Cx} {k j : Nat} {x : Str} {ds : List V} {sp : Sp} {e : Expr} {es : List Expr} {t : TA} {p pos : Pos} (c : ClD X.prog X.w X.K X.mg X.base k x ds sp) (hr : Room j X.A) (hk : k ≤ j) (hg : Gl X x) (ha : PA X (e :: es) t) (hdb : (x == ("__debug__" : Str)) = false := by decide)
    (he : starEach (e :: es) X.env = (false, eval e X.env) :: starEach es X.env := by rfl) (hpl : (backTo pos (starEach es X.env)).any (·.1) = false := by rfl) : PE X (.Call (.Name x p) (e :: es) [] pos) (tCall sp ds E0 t) := by
  obtain ⟨f, fd, ps, dus, G, hm, kp, b, dv⟩ := c
  exact pe_call G (hr.mono hk) hg hm kp b dv pass0 ha hdb he hpl
theorem Cl.mono {k j : Nat} {x : Str} {sp : Sp} (c : Cl P w K mg base k x sp) (h : k ≤ j) : Cl P w K mg base j x sp := by
  obtain ⟨f, fd, ps, G, r⟩ := c
  exact ⟨f, fd, ps, G.mono h, r⟩
end
end Pot

namespace Pot
open PySem PySem.Spec PyProof.Rows L2
/-! ### a box of three numbers from which is drawn, and all that stands beside it -/
def Bx (H : Hp) (b : Addr) : Prop := ∃ x y z : Int, H b = some (.lst [.int x, .int y, .int z])
/-- the heap without some -/
def off (H : Hp) (S : List Addr) : Hp := fun x => if x ∈ S then none else H x
theorem off_in {H : Hp} {S : List Addr} {x : Addr} (h : x ∈ S) : off H S x = none := if_pos h
theorem off_out {H : Hp} {S : List Addr} {x : Addr} (h : x ∉ S) : off H S x = H x := if_neg h
theorem off_mem {H : Hp} {S : List Addr} {x : Addr} {o : HO} (h : off H S x = some o) : x ∉ S := fun e => by rw [off_in e] at h; cases h
theorem off_sub {H : Hp} {S : List Addr} : Same (off H S) H := fun x o h => by
  have n := off_mem h
  rw [off_out n] at h; exact h
theorem off_mono {H : Hp} {S T : List Addr} (h : ∀ x ∈ T, x ∈ S) : Same (off H S) (off H T) := fun x o e => by
  have n := off_mem e
  rw [off_out n] at e
  rw [off_out fun z => n (h x z)]; exact e
/-- what stands beside S stands -/
abbrev Sm (S : List Addr) (H H' : Hp) : Prop := Same (off H S) (off H' S)
theorem sm_mono {H H' : Hp} {S T : List Addr} (h : ∀ x ∈ T, x ∈ S) (s : Sm T H H') : Sm S H H' := fun x o e => by
  have n := off_mem e
  rw [off_out n] at e ⊢
  have n2 : x ∉ T := fun z => n (h x z)
  have := s x o (by rw [off_out n2]; exact e)
  rw [off_out n2] at this; exact this
theorem sm_one {H H' : Hp} {S : List Addr} {b : Addr} (h : b ∈ S) (s : Sm [b] H H') : Sm S H H' := sm_mono (fun x hx => by rw [List.mem_singleton.mp hx]; exact h) s
theorem sm_of {H H' : Hp} {S : List Addr} (s : Same H H') : Sm S H H' := fun x o h => by
  have n := off_mem h
  rw [off_out n] at h ⊢; exact s x o h
theorem sm_put {H : Hp} {S : List Addr} {p : Addr} {o : HO} (h : H p = none) : Sm S H (upd H p o) := sm_of (same_upd h)
theorem sm_wr {H : Hp} {S : List Addr} {p : Addr} {o : HO} (h : p ∈ S) : Sm S H (upd H p o) := fun x u e => by
  have n := off_mem e
  rw [off_out n] at e ⊢
  have ne : x ≠ p := fun z => n (by rw [z]; exact h)
  rw [upd_ne ne]; exact e
theorem at_off {H : Hp} {S : List Addr} {x : Addr} {o : HO} (h : off H S x = some o) : H x = some o := off_sub x o h
theorem Bx.bx {H : Hp} {b : Addr} (B : Bx H b) : Bx H b := B
theorem Bx.ne {H : Hp} {b p : Addr} (B : Bx H b) (h : H p = none) : p ≠ b := fun e => by
  obtain ⟨x, y, z, B⟩ := B
  rw [e, B] at h; cases h
theorem Bx.same {H H' : Hp} {b : Addr} (B : Bx H b) (s : Same H H') : Bx H' b := by
  obtain ⟨x, y, z, B⟩ := B
  exact ⟨x, y, z, s _ _ B⟩
theorem Bx.put {H : Hp} {b p : Addr} {o : HO} (B : Bx H b) (h : H p = none) : Bx (upd H p o) b := B.same (same_upd h)
theorem Bx.wr {H : Hp} {b p : Addr} {o : HO} (B : Bx H b) (h : p ≠ b) : Bx (upd H p o) b := by
  obtain ⟨x, y, z, B⟩ := B
  exact ⟨x, y, z, by rw [upd_ne h.symm]; exact B⟩
/-- all of S are there -/
def Live (S : List Addr) (H : Hp) : Prop := ∀ s ∈ S, H s ≠ none
theorem Live.same {S : List Addr} {H H' : Hp} (L : Live S H) (s : Same H H') : Live S H' := fun x hx e => by
  cases h : H x with
  | none => exact L x hx h
  | some o => rw [s x o h] at e; cases e
theorem Live.box {S : List Addr} {H H' : Hp} {b : Addr} (L : Live S H) (B : Bx H' b) (s : Sm [b] H H') : Live S H' := fun x hx e => by
  by_cases hb : x = b
  · obtain ⟨_, _, _, B⟩ := B
    rw [hb, B] at e; cases e
  · have n : x ∉ [b] := fun z => hb (List.mem_singleton.mp z)
    cases h : H x with
    | none => exact L x hx h
    | some o =>
      have := s x o (by rw [off_out n]; exact h)
      rw [off_out n, e] at this; cases this
theorem Live.put {S : List Addr} {H : Hp} {p : Addr} {o : HO} (L : Live S H) (h : H p = none) : Live S (upd H p o) := L.same (same_upd h)
theorem Live.wr {S : List Addr} {H : Hp} {p : Addr} {o : HO} (L : Live S H) : Live S (upd H p o) := fun x hx e => by
  by_cases hp : x = p
  · rw [hp, upd_same] at e; cases e
  · rw [upd_ne hp] at e; exact L x hx e
theorem Live.one {H : Hp} {b : Addr} (B : Bx H b) : Live [b] H := fun x hx e => by
  obtain ⟨_, _, _, B⟩ := B
  rw [List.mem_singleton.mp hx, B] at e; cases e
theorem Live.out {S : List Addr} {H : Hp} {p : Addr} (L : Live S H) (h : H p = none) : p ∉ S := fun z => L p z h
theorem Live.cons {S : List Addr} {H : Hp} {p : Addr} {o : HO} (L : Live S H) (h : H p = some o) : Live (p :: S) H := fun x hx e => by
  rcases List.mem_cons.mp hx with z | z
  · rw [z, h] at e; cases e
  · exact L x z e
theorem off_new {H : Hp} {S : List Addr} {p : Addr} {o : HO} (L : Live S H) (h : H p = none) : off (upd H p o) S p = some o := by
  rw [off_out (L.out h)]; exact upd_same
theorem off_upd {H : Hp} {S : List Addr} {p : Addr} {o : HO} (h : p ∉ S) : off (upd H p o) S p = some o := by
  rw [off_out h]; exact upd_same
section
variable {K : PySem.W.Frag}
theorem sq_off {H : Hp} {S : List Addr} {a : Addr} {xs : List V} (h : SqL K (off H S) a xs) : SqL K H a xs := off_sub.seq h
theorem sqt_off {H : Hp} {S : List Addr} {a : Addr} {xs : List V} (h : SqT K (off H S) a xs) : SqT K H a xs := same_tup off_sub h
theorem dp_off {H : Hp} {S : List Addr} {v : V} {d : PyData} (h : Dp K (off H S) v d) : Dp K H v d := dp_same off_sub h
/-- a new list is none of S, beside which the rest stands as it was -/
theorem off_fresh {H : Hp} {S : List Addr} {p : Addr} {o : HO} (h : H p = none) : off (upd H p o) (p :: S) = off H S := by
  funext x; unfold off
  by_cases e : x = p
  · subst e
    rw [if_pos List.mem_cons_self, h]
    split <;> rfl
  · have : (x ∈ p :: S) ↔ x ∈ S := by rw [List.mem_cons]; exact ⟨fun z => z.resolve_left e, .inr⟩
    by_cases m : x ∈ S
    · rw [if_pos m, if_pos (this.mpr m)]
    · rw [if_neg m, if_neg fun z => m (this.mp z), upd_ne e]
end
/-! ### what is made of numbers, texts, truths, None, lists and tuples -/
/-- numbers within m, texts of at most 2000 signs -/
def gdAll (m : Nat) : List PyData → Prop
  | [] => True
  | x :: xs => gd m x ∧ gdAll m xs
where gd (m : Nat) : PyData → Prop
  | .none => True
  | .bool _ => True
  | .int i => i.natAbs ≤ m
  | .str x => x.length ≤ 2000 ∧ ∀ c ∈ x.cps.toList, c < 1114112
  | .list xs => gdAll m xs
  | .tuple xs => gdAll m xs
  | .dict _ => False
abbrev gd (m : Nat) (d : PyData) : Prop := gdAll.gd m d
theorem gdAll_iff {m : Nat} : ∀ {ds : List PyData}, gdAll m ds ↔ ∀ d ∈ ds, gd m d
  | [] => ⟨fun _ _ h => (List.not_mem_nil h).elim, fun _ => trivial⟩
  | x :: xs => by
    constructor
    · intro h d hd
      rcases List.mem_cons.mp hd with e | e
      · rw [e]; exact h.1
      · exact gdAll_iff.mp h.2 d e
    · intro h
      exact ⟨h x List.mem_cons_self, gdAll_iff.mpr fun d hd => h d (List.mem_cons_of_mem _ hd)⟩
mutual
theorem gd_mono {m n : Nat} (h : m ≤ n) : ∀ d : PyData, gd m d → gd n d
  | .none, _ => trivial
  | .bool _, _ => trivial
  | .int i, g => Nat.le_trans g h
  | .str _, g => g
  | .list xs, g => gdAll_mono h xs g
  | .tuple xs, g => gdAll_mono h xs g
  | .dict _, g => g.elim
theorem gdAll_mono {m n : Nat} (h : m ≤ n) : ∀ ds : List PyData, gdAll m ds → gdAll n ds
  | [], _ => trivial
  | x :: xs, g => ⟨gd_mono h x g.1, gdAll_mono h xs g.2⟩
end
theorem log_small' {i : Int} (h : i.natAbs ≤ 2000000) : i.natAbs.log2 < 1920 := by
  by_cases z : i.natAbs = 0
  · rw [z]; decide
  · have := (Nat.log2_lt z).mpr (show i.natAbs < 2 ^ 21 from Nat.lt_of_le_of_lt h (by decide))
    omega
mutual
theorem gd_fine {m : Nat} (h : m ≤ 2000000) : ∀ d : PyData, gd m d → fineAll.fine d
  | .none, _ => trivial
  | .bool _, _ => trivial
  | .int i, g => log_small' (Nat.le_trans g h)
  | .str _, g => fun c hc => Nat.lt_trans (g.2 c hc) (by decide)
  | .list xs, g => gdAll_fine h xs g
  | .tuple xs, g => gdAll_fine h xs g
  | .dict _, g => g.elim
theorem gdAll_fine {m : Nat} (h : m ≤ 2000000) : ∀ ds : List PyData, gdAll m ds → fineAll ds
  | [], _ => trivial
  | x :: xs, g => ⟨gd_fine h x g.1, gdAll_fine h xs g.2⟩
end
theorem costAll_app (xs ys : List PyData) : costAll (xs ++ ys) = costAll xs + costAll ys := by
  induction xs with
  | nil => simp [costAll]
  | cons x xs ih => simp only [List.cons_append, costAll, ih]; omega
theorem cost_mem {ds : List PyData} {d : PyData} (h : d ∈ ds) : costAll.cost d + 2 ≤ costAll ds := by
  induction ds with
  | nil => exact (List.not_mem_nil h).elim
  | cons x xs ih =>
    show _ ≤ costAll.cost x + 2 + costAll xs
    rcases List.mem_cons.mp h with e | e
    · rw [e]; omega
    · have := ih e; omega
theorem len_cost : ∀ ds : List PyData, 2 * ds.length ≤ costAll ds
  | [] => Nat.le_refl _
  | x :: xs => by
    have := len_cost xs
    show 2 * (xs.length + 1) ≤ costAll.cost x + 2 + costAll xs
    omega
theorem depthAll_iff {D : Nat} : ∀ {ds : List PyData}, PyData.depthAll ds ≤ D ↔ ∀ d ∈ ds, d.depth ≤ D
  | [] => ⟨fun _ _ h => (List.not_mem_nil h).elim, fun _ => Nat.zero_le _⟩
  | x :: xs => by
    show max x.depth (PyData.depthAll xs) ≤ D ↔ _
    rw [Nat.max_le, depthAll_iff (ds := xs)]
    constructor
    · rintro ⟨h1, h2⟩ d hd
      rcases List.mem_cons.mp hd with e | e
      · rw [e]; exact h1
      · exact h2 d e
    · intro h
      exact ⟨h x List.mem_cons_self, fun d hd => h d (List.mem_cons_of_mem _ hd)⟩
/-- rows of parts: of numbers within m, their cost, how deep and how wide each -/
structure Ths (m C D W : Nat) (ds : List PyData) : Prop where
  g : ∀ d ∈ ds, gd m d
  c : costAll ds ≤ C
  d : ∀ d ∈ ds, d.depth ≤ D
  w : ∀ d ∈ ds, widAll.wid d ≤ W
/-- a thing: of numbers within m, its cost, how deep, how wide -/
structure Th (m C D W : Nat) (dd : PyData) : Prop where
  g : gd m dd
  c : costAll.cost dd ≤ C
  d : dd.depth ≤ D
  w : widAll.wid dd ≤ W
theorem widAll_iff {D : Nat} : ∀ {ds : List PyData}, widAll ds ≤ D ↔ ∀ d ∈ ds, widAll.wid d ≤ D
  | [] => ⟨fun _ _ h => (List.not_mem_nil h).elim, fun _ => Nat.zero_le _⟩
  | x :: xs => by
    show max (widAll.wid x) (widAll xs) ≤ D ↔ _
    rw [Nat.max_le, widAll_iff (ds := xs)]
    constructor
    · rintro ⟨h1, h2⟩ d hd
      rcases List.mem_cons.mp hd with e | e
      · rw [e]; exact h1
      · exact h2 d e
    · intro h
      exact ⟨h x List.mem_cons_self, fun d hd => h d (List.mem_cons_of_mem _ hd)⟩
section
variable {m n C E D F W U : Nat} {d x : PyData} {ds xs ys : List PyData}
theorem Th.mono (h : Th m C D W d) (a : m ≤ n) (b : C ≤ E) (c : D ≤ F) (e : W ≤ U) : Th n E F U d := ⟨gd_mono a d h.g, Nat.le_trans h.c b, Nat.le_trans h.d c, Nat.le_trans h.w e⟩
theorem Ths.mono (h : Ths m C D W ds) (a : m ≤ n) (b : C ≤ E) (c : D ≤ F) (e : W ≤ U) : Ths n E F U ds := ⟨fun x hx => gd_mono a x (h.g x hx), Nat.le_trans h.c b, fun x hx => Nat.le_trans (h.d x hx) c, fun x hx => Nat.le_trans (h.w x hx) e⟩
theorem Ths.app (h : Ths m C D W xs) (k : Ths m E D W ys) : Ths m (C + E) D W (xs ++ ys) :=
  ⟨fun d hd => (List.mem_append.mp hd).elim (h.g d) (k.g d), by rw [costAll_app]; exact Nat.add_le_add h.c k.c, fun d hd => (List.mem_append.mp hd).elim (h.d d) (k.d d), fun d hd => (List.mem_append.mp hd).elim (h.w d) (k.w d)⟩
theorem Ths.nil : Ths m 0 D W [] := ⟨fun _ h => (List.not_mem_nil h).elim, Nat.le_refl _, fun _ h => (List.not_mem_nil h).elim, fun _ h => (List.not_mem_nil h).elim⟩
theorem Ths.one (h : Th m C D W x) : Ths m (C + 2) D W [x] :=
  ⟨fun d hd => by rw [List.mem_singleton.mp hd]; exact h.g, by show costAll.cost x + 2 + 0 ≤ _; have := h.c; omega, fun d hd => by rw [List.mem_singleton.mp hd]; exact h.d, fun d hd => by rw [List.mem_singleton.mp hd]; exact h.w⟩
theorem Ths.mem (h : Ths m C D W ds) (e : d ∈ ds) : Th m C D W d := ⟨h.g d e, by have := cost_mem e; have := h.c; omega, h.d d e, h.w d e⟩
theorem Ths.len (h : Ths m C D W ds) : 2 * ds.length ≤ C := Nat.le_trans (len_cost ds) h.c
theorem Ths.list (h : Ths m C D W ds) (l : ds.length ≤ W) : Th m (C + 3) (D + 1) W (.list ds) :=
  ⟨gdAll_iff.mpr h.g, by show costAll ds + 3 ≤ _; have := h.c; omega, by show PyData.depthAll ds + 1 ≤ _; have := depthAll_iff.mpr h.d; omega, by show max ds.length (widAll ds) ≤ W; exact Nat.max_le.mpr ⟨l, widAll_iff.mpr h.w⟩⟩
theorem Ths.tuple (h : Ths m C D W ds) (l : ds.length ≤ W) : Th m (C + 3) (D + 1) W (.tuple ds) :=
  ⟨gdAll_iff.mpr h.g, by show costAll ds + 3 ≤ _; have := h.c; omega, by show PyData.depthAll ds + 1 ≤ _; have := depthAll_iff.mpr h.d; omega, by show max ds.length (widAll ds) ≤ W; exact Nat.max_le.mpr ⟨l, widAll_iff.mpr h.w⟩⟩
theorem Th.ofList (h : Th m C D W (.list ds)) : Ths m (C - 3) (D - 1) W ds ∧ ds.length ≤ W ∧ 3 ≤ C ∧ 1 ≤ D := by
  have h1 : costAll ds + 3 ≤ C := h.c
  have h2 : PyData.depthAll ds + 1 ≤ D := h.d
  have h3 : max ds.length (widAll ds) ≤ W := h.w
  exact ⟨⟨gdAll_iff.mp h.g, by omega, depthAll_iff.mp (by omega), widAll_iff.mp (Nat.le_trans (Nat.le_max_right ..) h3)⟩, Nat.le_trans (Nat.le_max_left ..) h3, by omega, by omega⟩
theorem Th.ofTuple (h : Th m C D W (.tuple ds)) : Ths m (C - 3) (D - 1) W ds ∧ ds.length ≤ W ∧ 3 ≤ C ∧ 1 ≤ D := by
  have h1 : costAll ds + 3 ≤ C := h.c
  have h2 : PyData.depthAll ds + 1 ≤ D := h.d
  have h3 : max ds.length (widAll ds) ≤ W := h.w
  exact ⟨⟨gdAll_iff.mp h.g, by omega, depthAll_iff.mp (by omega), widAll_iff.mp (Nat.le_trans (Nat.le_max_right ..) h3)⟩, Nat.le_trans (Nat.le_max_left ..) h3, by omega, by omega⟩
theorem costAll_take (n : Nat) (ds : List PyData) : costAll (ds.take n) ≤ costAll ds := by
  have := costAll_app (ds.take n) (ds.drop n)
  rw [List.take_append_drop] at this; omega
theorem costAll_drop (n : Nat) (ds : List PyData) : costAll (ds.drop n) ≤ costAll ds := by
  have := costAll_app (ds.take n) (ds.drop n)
  rw [List.take_append_drop] at this; omega
theorem costAll_rev : ∀ ds : List PyData, costAll ds.reverse = costAll ds
  | [] => rfl
  | x :: xs => by rw [List.reverse_cons, costAll_app, costAll_rev xs]; show _ + (costAll.cost x + 2 + 0) = costAll.cost x + 2 + costAll xs; omega
theorem Ths.sub (h : Ths m C D W ds) (s : ∀ x ∈ xs, x ∈ ds) (c : costAll xs ≤ C) : Ths m C D W xs := ⟨fun d hd => h.g d (s d hd), c, fun d hd => h.d d (s d hd), fun d hd => h.w d (s d hd)⟩
theorem Ths.take (h : Ths m C D W ds) (n : Nat) : Ths m C D W (ds.take n) := h.sub (fun d hd => List.mem_of_mem_take hd) (Nat.le_trans (costAll_take n ds) h.c)
theorem Ths.drop (h : Ths m C D W ds) (n : Nat) : Ths m C D W (ds.drop n) := h.sub (fun d hd => List.mem_of_mem_drop hd) (Nat.le_trans (costAll_drop n ds) h.c)
theorem Ths.rev (h : Ths m C D W ds) : Ths m C D W ds.reverse := h.sub (fun d hd => List.mem_reverse.mp hd) (by rw [costAll_rev]; exact h.c)
theorem costAll_set : ∀ (ds : List PyData) (i : Nat) (x : PyData), costAll (ds.set i x) ≤ costAll ds + (costAll.cost x + 2)
  | [], _, _ => Nat.zero_le _
  | y :: ys, 0, x => by show costAll.cost x + 2 + costAll ys ≤ costAll.cost y + 2 + costAll ys + _; omega
  | y :: ys, i + 1, x => by
    have := costAll_set ys i x
    show costAll.cost y + 2 + costAll (ys.set i x) ≤ costAll.cost y + 2 + costAll ys + _
    omega
theorem Ths.set {i : Nat} (h : Ths m C D W ds) (k : Th m E D W x) : Ths m (C + E + 2) D W (ds.set i x) :=
  ⟨fun d hd => (List.mem_or_eq_of_mem_set hd).elim (h.g d) fun e => by rw [e]; exact k.g, Nat.le_trans (costAll_set ds i x) (by have := h.c; have := k.c; omega), fun d hd => (List.mem_or_eq_of_mem_set hd).elim (h.d d) fun e => by rw [e]; exact k.d, fun d hd => (List.mem_or_eq_of_mem_set hd).elim (h.w d) fun e => by rw [e]; exact k.w⟩
end
section
variable {K : PySem.W.Frag} {H : Hp}
theorem dpAll_app' : ∀ {xs ys : List V} {ds es : List PyData}, DpAll K H xs ds → DpAll K H ys es → DpAll K H (xs ++ ys) (ds ++ es)
  | _, _, _, _, .nil, h => h
  | _, _, _, _, .cons h t, h2 => .cons h (dpAll_app' t h2)
theorem dpAll_take : ∀ {xs : List V} {ds : List PyData} (n : Nat), DpAll K H xs ds → DpAll K H (xs.take n) (ds.take n)
  | _, _, 0, _ => .nil
  | _, _, _ + 1, .nil => .nil
  | _, _, n + 1, .cons h t => .cons h (dpAll_take n t)
theorem dpAll_drop : ∀ {xs : List V} {ds : List PyData} (n : Nat), DpAll K H xs ds → DpAll K H (xs.drop n) (ds.drop n)
  | _, _, 0, h => h
  | _, _, _ + 1, .nil => .nil
  | _, _, n + 1, .cons _ t => dpAll_drop n t
theorem dpAll_rev : ∀ {xs : List V} {ds : List PyData}, DpAll K H xs ds → DpAll K H xs.reverse ds.reverse
  | _, _, .nil => .nil
  | _, _, .cons h t => by rw [List.reverse_cons, List.reverse_cons]; exact dpAll_app' (dpAll_rev t) (.cons h .nil)
theorem dpAll_set : ∀ {xs : List V} {ds : List PyData} {i : Nat} {v : V} {d : PyData}, DpAll K H xs ds → Dp K H v d → DpAll K H (xs.set i v) (ds.set i d)
  | _, _, _, _, _, .nil, _ => .nil
  | _, _, 0, _, _, .cons _ t, k => .cons k t
  | _, _, _ + 1, _, _, .cons h t, k => .cons h (dpAll_set t k)
/-- a slice of a row of parts -/
theorem dp_cut {xs : List V} {ds : List PyData} {lo hi : Option Int} {m C D W : Nat} (h : DpAll K H xs ds) (t : Ths m C D W ds) : ∃ es, DpAll K H (cutV xs lo hi) es ∧ Ths m C D W es ∧ es.length ≤ ds.length := by
  unfold cutV
  exact ⟨_, dpAll_take _ (dpAll_drop _ h), (t.drop _).take _, by rw [List.length_take, List.length_drop]; omega⟩
theorem dp_lst' {v : V} {ds : List PyData} (h : Dp K H v (.list ds)) : ∃ a xs, v = .ref a ∧ SqL K H a xs ∧ DpAll K H xs ds := by
  cases h with
  | lst h a => exact ⟨_, _, rfl, h, a⟩
end
end Pot
namespace Pot
open PySem PySem.Spec PyProof.Rows L2
theorem sm_at {H H' : Hp} {S : List Addr} {x : Addr} {o : HO} (s : Sm S H H') (n : x ∉ S) (h : H x = some o) : H' x = some o := by
  have := s x o (by rw [off_out n]; exact h)
  rw [off_out n] at this; exact this
theorem sm1_at {H H' : Hp} {b x : Addr} {o : HO} (s : Sm [b] H H') (n : x ≠ b) (h : H x = some o) : H' x = some o := sm_at s (fun z => n (List.mem_singleton.mp z)) h
theorem smp {H H' : Hp} {S : List Addr} {p : Addr} {o : HO} (s : Sm S H H') (h : H p = none) : Sm S H (upd H' p o) := fun x u e => by
  have n := off_mem e
  have ne : x ≠ p := fun z => by
    rw [off_out n, z, h] at e; cases e
  have := s x u e
  rw [off_out n] at this ⊢
  rw [upd_ne ne]; exact this
theorem sm_free {H H' : Hp} {b l : Addr} (s : Sm [b] H H') (B : Bx H' b) (h : H' l = none) : H l = none := by
  have nb := B.ne h
  have n : l ∉ [b] := fun z => nb (List.mem_singleton.mp z)
  cases e : H l with
  | none => rfl
  | some o => rw [sm_at s n e] at h; cases h
theorem cut_map {α : Type} (f : α → V) (ns : List α) (lo hi : Option Int) : cutV (ns.map f) lo hi = ((ns.drop (HT.sIx ns.length 0 lo)).take (HT.sIx ns.length ns.length hi - HT.sIx ns.length 0 lo)).map f := by
  unfold cutV
  rw [List.length_map, List.map_take, List.map_drop]
theorem cut_head {xs : List V} {k : Nat} : cutV xs none (some (k : Int)) = xs.take k := by
  unfold cutV
  rw [HT.sIx_none, HT.sIx_nat, List.drop_zero, Nat.sub_zero]
  by_cases h : k ≤ xs.length
  · rw [Nat.min_eq_left h]
  · rw [Nat.min_eq_right (by omega), List.take_length, List.take_of_length_le (by omega)]
theorem cut_tail {xs : List V} {k : Nat} : cutV xs (some (k : Int)) none = xs.drop k := by
  unfold cutV
  rw [HT.sIx_none, HT.sIx_nat]
  by_cases h : k ≤ xs.length
  · rw [Nat.min_eq_left h, List.take_of_length_le (by rw [List.length_drop]; exact Nat.le_refl _)]
  · rw [Nat.min_eq_right (by omega), Nat.sub_self, List.take_zero, List.drop_of_length_le (by omega)]
end Pot
namespace Pot
open PySem PySem.Spec PyProof.Rows L2
section
variable {K : PySem.W.Frag} {H : Hp} {t : Addr} {d : PyData} {ds : List PyData}
theorem seq_dp {x : V} (h : Dp K H x d) (e : d = .list ds ∨ d = .tuple ds) : ∃ t zs, x = .ref t ∧ (SqL K H t zs ∨ SqT K H t zs) ∧ DpAll K H zs ds := by
  rcases e with rfl | rfl
  · cases h with
    | lst h a => exact ⟨_, _, rfl, .inl h, a⟩
  · cases h with
    | tup h a => exact ⟨_, _, rfl, .inr h, a⟩
theorem len_dp (h : Dp K H (.ref t) d) (e : d = .list ds ∨ d = .tuple ds) : LenV K (.ref t) H ds.length := by
  rcases e with rfl | rfl
  · cases h with
    | lst h a => exact .inl ⟨_, h, (dpAll_len a).symm⟩
  · cases h with
    | tup h a => exact .inr ⟨_, h, (dpAll_len a).symm⟩
theorem Th.parts {m C D W : Nat} (h : Th m C D W d) (e : d = .list ds ∨ d = .tuple ds) : Ths m (C - 3) (D - 1) W ds ∧ ds.length ≤ W ∧ 3 ≤ C ∧ 1 ≤ D := by
  rcases e with rfl | rfl
  · exact h.ofList
  · exact h.ofTuple
end
theorem sm_in {H H' : Hp} {S : List Addr} {x : Addr} {o : HO} (s : Sm S H H') (h : off H S x = some o) : off H' S x = some o := s x o h
end Pot
namespace Pot
open PySem PySem.Spec PyProof.Rows L2
theorem costAll_set_eq : ∀ {ds : List PyData} {i : Nat} {x y : PyData}, ds[i]? = some y → costAll (ds.set i x) + costAll.cost y = costAll ds + costAll.cost x
  | [], _, _, _, h => by simp at h
  | z :: zs, 0, x, y, h => by
    have e : z = y := by simpa using h
    subst e
    show costAll.cost x + 2 + costAll zs + costAll.cost z = costAll.cost z + 2 + costAll zs + costAll.cost x
    omega
  | z :: zs, i + 1, x, y, h => by
    have := costAll_set_eq (ds := zs) (i := i) (x := x) (y := y) (by simpa using h)
    show costAll.cost z + 2 + costAll (zs.set i x) + costAll.cost y = costAll.cost z + 2 + costAll zs + costAll.cost x
    omega
theorem codes_ofString (s : String) : ∀ c ∈ (Str.ofString s).cps.toList, c < 1114112 := by
  intro c hc
  rw [Str.ofString_eq_toList] at hc
  have : c ∈ s.toList.map Char.toNat := by simpa using hc
  obtain ⟨ch, _, rfl⟩ := List.mem_map.mp this
  have v := ch.valid
  have e : ch.toNat = ch.val.toNat := rfl
  rcases v with v | ⟨_, v⟩
  · have : ch.val.toNat < 0xD800 := v
    omega
  · have : ch.val.toNat < 0x110000 := v
    omega
theorem th_text {i : Int} (h : i.natAbs ≤ 2000000) {m : Nat} : Th m 19212 0 0 (.str (toString i)) := by
  have l : (Str.ofString (toString i)).length ≤ 1921 := PyProof.Rows.int_text_len_1921 (log_small' h)
  exact ⟨⟨by omega, codes_ofString _⟩, by show 10 * (Str.ofString (toString i)).length + 2 ≤ 19212; omega, Nat.le_refl _, Nat.le_refl _⟩
end Pot

namespace Pot
open PySem PySem.Spec PyProof.Rows L2
/-! ### kinds of data -/
def tyD : PyData → String
  | .none => "NoneType"
  | .bool _ => "bool"
  | .int _ => "int"
  | .str _ => "str"
  | .list _ => "list"
  | .tuple _ => "tuple"
  | .dict _ => "dict"
def isIntD : PyData → Bool
  | .int _ => true
  | .bool _ => true
  | _ => false
def isBoolD : PyData → Bool
  | .bool _ => true
  | _ => false
def isStrD : PyData → Bool
  | .str _ => true
  | _ => false
def isListD : PyData → Bool
  | .list _ => true
  | _ => false
def isTupD : PyData → Bool
  | .tuple _ => true
  | _ => false
section
variable {K : PySem.W.Frag} {H : Hp} {x : V} {d : PyData} {Q : VK}
theorem tyx_dp (h : Dp K H x d) : TyX K H x (.type (tyD d)) := by
  cases h with
  | non => exact .base .non
  | bl b => exact .base (.bl b)
  | int i => exact .base (.int i)
  | str z => exact .base (.str z)
  | lst h _ => exact tyx_list h
  | tup h _ => exact tyx_tup h
theorem kit_int (h : Dp K H x d) : PySem.W.kitOne K (.type (tyD d)) (.type "int") = some (isIntD d) := by
  cases h with
  | non => exact kit_ty (show kitB "NoneType" "int" = some false by decide +kernel)
  | bl _ => exact kit_ty (show kitB "bool" "int" = some true by decide +kernel)
  | int _ => exact kit_ty (show kitB "int" "int" = some true by decide +kernel)
  | str _ => exact kit_ty (show kitB "str" "int" = some false by decide +kernel)
  | lst _ _ => exact kit_ty (show kitB "list" "int" = some false by decide +kernel)
  | tup _ _ => exact kit_ty (show kitB "tuple" "int" = some false by decide +kernel)
theorem kit_bool (h : Dp K H x d) : PySem.W.kitOne K (.type (tyD d)) (.type "bool") = some (isBoolD d) := by
  cases h with
  | non => exact kit_ty (show kitB "NoneType" "bool" = some false by decide +kernel)
  | bl _ => exact kit_ty (show kitB "bool" "bool" = some true by decide +kernel)
  | int _ => exact kit_ty (show kitB "int" "bool" = some false by decide +kernel)
  | str _ => exact kit_ty (show kitB "str" "bool" = some false by decide +kernel)
  | lst _ _ => exact kit_ty (show kitB "list" "bool" = some false by decide +kernel)
  | tup _ _ => exact kit_ty (show kitB "tuple" "bool" = some false by decide +kernel)
theorem kit_str (h : Dp K H x d) : PySem.W.kitOne K (.type (tyD d)) (.type "str") = some (isStrD d) := by
  cases h with
  | non => exact kit_ty (show kitB "NoneType" "str" = some false by decide +kernel)
  | bl _ => exact kit_ty (show kitB "bool" "str" = some false by decide +kernel)
  | int _ => exact kit_ty (show kitB "int" "str" = some false by decide +kernel)
  | str _ => exact kit_ty (show kitB "str" "str" = some true by decide +kernel)
  | lst _ _ => exact kit_ty (show kitB "list" "str" = some false by decide +kernel)
  | tup _ _ => exact kit_ty (show kitB "tuple" "str" = some false by decide +kernel)
theorem kit_list (h : Dp K H x d) : PySem.W.kitOne K (.type (tyD d)) (.type "list") = some (isListD d) := by
  cases h with
  | non => exact kit_ty (show kitB "NoneType" "list" = some false by decide +kernel)
  | bl _ => exact kit_ty (show kitB "bool" "list" = some false by decide +kernel)
  | int _ => exact kit_ty (show kitB "int" "list" = some false by decide +kernel)
  | str _ => exact kit_ty (show kitB "str" "list" = some false by decide +kernel)
  | lst _ _ => exact kit_ty (show kitB "list" "list" = some true by decide +kernel)
  | tup _ _ => exact kit_ty (show kitB "tuple" "list" = some false by decide +kernel)
theorem kit_tup (h : Dp K H x d) : PySem.W.kitOne K (.type (tyD d)) (.type "tuple") = some (isTupD d) := by
  cases h with
  | non => exact kit_ty (show kitB "NoneType" "tuple" = some false by decide +kernel)
  | bl _ => exact kit_ty (show kitB "bool" "tuple" = some false by decide +kernel)
  | int _ => exact kit_ty (show kitB "int" "tuple" = some false by decide +kernel)
  | str _ => exact kit_ty (show kitB "str" "tuple" = some false by decide +kernel)
  | lst _ _ => exact kit_ty (show kitB "list" "tuple" = some false by decide +kernel)
  | tup _ _ => exact kit_ty (show kitB "tuple" "tuple" = some true by decide +kernel)
theorem kit_lt (h : Dp K H x d) : PySem.W.kitAny K (.type (tyD d)) [.type "list", .type "tuple"] = some (isListD d || isTupD d) := by
  cases h <;> rfl
end
/-! ### numbers within bounds -/
def numD (lo hi : Int) : PyData → Bool
  | .int i => decide (lo ≤ i) && decide (i ≤ hi)
  | _ => false
def toI : PyData → Int
  | .int i => i
  | _ => 0
theorem numD_int {lo hi : Int} : ∀ {d : PyData}, numD lo hi d = true → d = .int (toI d) ∧ lo ≤ toI d ∧ toI d ≤ hi
  | .int i, h => by
    obtain ⟨h1, h2⟩ := Bool.and_eq_true_iff.mp (show (decide (lo ≤ i) && decide (i ≤ hi)) = true from h)
    exact ⟨rfl, of_decide_eq_true h1, of_decide_eq_true h2⟩
/-- rising -/
def risI : List Int → Bool
  | a :: b :: r => decide (a < b) && risI (b :: r)
  | _ => true
def risD (lo hi : Int) : PyData → Bool
  | .list ds => ds.all (numD lo hi) && risI (ds.map toI)
  | _ => false
theorem risI_pair : ∀ {ns : List Int}, risI ns = true ↔ ns.Pairwise (· < ·)
  | [] => by simp [risI]
  | [a] => by simp [risI]
  | a :: b :: r => by
    have ih := risI_pair (ns := b :: r)
    show (decide (a < b) && risI (b :: r)) = true ↔ _
    rw [Bool.and_eq_true_iff, decide_eq_true_eq, ih]
    constructor
    · rintro ⟨h1, h2⟩
      refine List.pairwise_cons.mpr ⟨fun x hx => ?_, h2⟩
      rcases List.mem_cons.mp hx with e | e
      · rw [e]; exact h1
      · exact Int.lt_trans h1 ((List.pairwise_cons.mp h2).1 x e)
    · intro h
      obtain ⟨h1, h2⟩ := List.pairwise_cons.mp h
      exact ⟨h1 b List.mem_cons_self, h2⟩
theorem nums_of {lo hi : Int} {ds : List PyData} (h : ds.all (numD lo hi) = true) : ds = (ds.map toI).map PyData.int ∧ ∀ k ∈ ds.map toI, lo ≤ k ∧ k ≤ hi := by
  rw [List.all_eq_true] at h
  constructor
  · rw [List.map_map]
    conv => lhs; rw [← List.map_id ds]
    exact List.map_congr_left fun d hd => (numD_int (h d hd)).1
  · intro k hk
    obtain ⟨d, hd, rfl⟩ := List.mem_map.mp hk
    exact (numD_int (h d hd)).2
section
variable {K : PySem.W.Frag} {H : Hp}
theorem dp_intsV : ∀ {xs : List V} {ns : List Int}, DpAll K H xs (ns.map PyData.int) → xs = ns.map V.int
  | [], [], _ => rfl
  | [], _ :: _, h => by cases h
  | _ :: _, [], h => by cases h
  | x :: xs, n :: ns, h => by
    cases h with
    | cons h t => cases h; rw [dp_intsV t]; rfl
end
/-- of a row that rises just the same: a row in which all stand in order, none twice -/
theorem sorted_uniq : ∀ {xs ys : List Int}, xs.Pairwise (· < ·) → ys.Pairwise (· < ·) → (∀ k, k ∈ xs ↔ k ∈ ys) → xs = ys
  | [], [], _, _, _ => rfl
  | [], y :: ys, _, _, h => by have := (h y).mpr List.mem_cons_self; simp at this
  | x :: xs, [], _, _, h => by have := (h x).mp List.mem_cons_self; simp at this
  | x :: xs, y :: ys, h1, h2, h => by
    rw [List.pairwise_cons] at h1 h2
    have e : x = y := by
      rcases List.mem_cons.mp ((h x).mp List.mem_cons_self) with e | e
      · exact e
      · rcases List.mem_cons.mp ((h y).mpr List.mem_cons_self) with e2 | e2
        · exact e2.symm
        · have := h2.1 x e; have := h1.1 y e2; omega
    subst e
    have : xs = ys := sorted_uniq h1.2 h2.2 fun k => by
      constructor
      · intro hk
        rcases List.mem_cons.mp ((h k).mp (List.mem_cons_of_mem _ hk)) with e | e
        · have := h1.1 k hk; omega
        · exact e
      · intro hk
        rcases List.mem_cons.mp ((h k).mpr (List.mem_cons_of_mem _ hk)) with e | e
        · have := h2.1 k hk; omega
        · exact e
    rw [this]
theorem eqv_ints : ∀ xs ys : List Int, PyData.eqv (.list (xs.map PyData.int)) (.list (ys.map PyData.int)) = decide (xs = ys)
  | [], [] => rfl
  | [], _ :: _ => rfl
  | _ :: _, [] => rfl
  | x :: xs, y :: ys => by
    have ih := eqv_ints xs ys
    show (PyData.eqv (.int x) (.int y) && PyData.eqvAll (xs.map PyData.int) (ys.map PyData.int)) = _
    rw [show PyData.eqvAll (xs.map PyData.int) (ys.map PyData.int) = decide (xs = ys) from ih]
    show ((x == y) && _) = _
    by_cases h : x = y
    · subst h; simp
    · simp [h]
/-- thing == sorted(set(thing)): just where it rises -/
theorem eq_sorted {ns zs : List Int} (h : zs.Pairwise (· < ·)) (m : ∀ k, k ∈ zs ↔ k ∈ ns) : decide (ns = zs) = risI ns := by
  by_cases e : ns = zs
  · rw [decide_eq_true e, e]; exact (risI_pair.mpr h).symm
  · rw [decide_eq_false e]
    cases hr : risI ns with
    | false => rfl
    | true => exact absurd (sorted_uniq (risI_pair.mp hr) h fun k => (m k).symm) e
theorem nodup_60 {ks : List Int} (h : ks.Nodup) (b : ∀ k ∈ ks, 0 ≤ k ∧ k ≤ 60) : ks.length < 64 := by
  have := nodup_le (l := (List.range 61).map fun (i : Nat) => (i : Int)) h fun k hk => by
    obtain ⟨h0, h1⟩ := b k hk
    exact List.mem_map.mpr ⟨k.toNat, List.mem_range.mpr (by omega), by omega⟩
  rw [List.length_map, List.length_range] at this
  omega
end Pot
namespace Pot
open PySem PySem.Spec PyProof.Rows L2
/-! ### a comprehension that changes nothing that stood: out i is what is told up to turn i -/
def PvL (H1 : Hp) (D : Addr) (out : Nat → List V) (i : Nat) (H2 : Hp) : Prop := Same H1 H2 ∧ H2 D = some (.lst (out i))
section
variable {H1 H2 H3 : Hp} {D : Addr} {out : Nat → List V} {i : Nat} {y : V}
theorem pv_start (nD : H1 D = none) (e : out 0 = []) : PvL H1 D out 0 (upd H1 D (.lst [])) := ⟨same_upd nD, by rw [e]; exact upd_same⟩
theorem pv_put (nD : H1 D = none) (p : PvL H1 D out i H2) (s : Same H2 H3) (e : out (i + 1) = out i ++ [y]) (l : (out i).length < sizeLine) : ∃ acc, H3 D = some (.lst acc) ∧ acc.length < sizeLine ∧ PvL H1 D out (i + 1) (upd H3 D (.lst (acc ++ [y]))) :=
  ⟨out i, s _ _ p.2, l, same_put (p.1.trans s) nD, by rw [e]; exact upd_same⟩
theorem pv_skip (p : PvL H1 D out i H2) (s : Same H2 H3) (e : out (i + 1) = out i) : PvL H1 D out (i + 1) H3 := ⟨p.1.trans s, by rw [e]; exact s _ _ p.2⟩
end
theorem take_map {α : Type} (f : α → V) {l : List α} {i : Nat} {x : α} (h : l[i]? = some x) : (l.take (i + 1)).map f = (l.take i).map f ++ [f x] := by
  rw [List.take_add_one, h, List.map_append]; rfl
theorem take_len_lt {α : Type} {f : α → V} {l : List α} {i : Nat} (h : i < 100000) : ((l.take i).map f).length < sizeLine := by
  rw [List.length_map, List.length_take, sizeLine_eq]; omega
theorem take_len_le {α : Type} {f : α → V} {l : List α} {i : Nat} (h : l.length < 100000) : ((l.take i).map f).length < sizeLine := by
  rw [List.length_map, List.length_take, sizeLine_eq]; omega
/-- each below the next -/
def rb : List Int → List Bool
  | a :: b :: r => decide (a < b) :: rb (b :: r)
  | _ => []
theorem rb_all : ∀ ns : List Int, (rb ns).all id = risI ns
  | [] => rfl
  | [_] => rfl
  | a :: b :: r => by show (decide (a < b) && (rb (b :: r)).all id) = _; rw [rb_all (b :: r)]; rfl
theorem rb_len : ∀ ns : List Int, (rb ns).length = ns.length - 1
  | [] => rfl
  | [_] => rfl
  | a :: b :: r => by show (rb (b :: r)).length + 1 = _; rw [rb_len (b :: r)]; simp
theorem rb_at : ∀ {ns : List Int} {i : Nat} {x y : Int}, ns[i]? = some x → ns[i + 1]? = some y → (rb ns)[i]? = some (decide (x < y))
  | [], _, _, _, h, _ => by simp at h
  | [_], i, _, _, _, h => by simp at h
  | a :: b :: r, 0, x, y, h, k => by
    have e1 : a = x := by simpa using h
    have e2 : b = y := by simpa using k
    subst e1 e2; rfl
  | a :: b :: r, i + 1, x, y, h, k => rb_at (ns := b :: r) (i := i) (by simpa using h) (by simpa using k)
/-- what is told of each of some data -/
theorem all_map {ds : List PyData} {f : PyData → Bool} : (ds.map f).all id = ds.all f := by
  rw [List.all_map]; rfl
end Pot
namespace Pot
open PySem PySem.Spec PyProof.Rows L2
theorem pv_end {H1 H2 : Hp} {D : Addr} {out : Nat → List V} {n : Nat} {zs : List V} (p : PvL H1 D out n H2) (e : out n = zs) : Same H1 H2 ∧ H2 D = some (.lst zs) := ⟨p.1, by rw [← e]; exact p.2⟩
theorem take_all {α : Type} {f : α → V} {l : List α} {n : Nat} (h : l.length ≤ n) : (l.take n).map f = l.map f := by rw [List.take_of_length_le h]
end Pot

namespace Pot
open PySem PySem.Spec PyProof.Rows L2
/-! ### palettes as data -/
abbrev Col := Str × Int × Int × Int
abbrev Wsh := Str × Str × Option Int
def colD (c : Col) : PyData := .tuple [.str c.1, .int c.2.1, .int c.2.2.1, .int c.2.2.2]
def optD : Option Int → PyData
  | none => .none
  | some i => .int i
def washD (r : Wsh) : PyData := .tuple [.str r.1, .str r.2.1, optD r.2.2]
def palD (cs : List Col) (ws : List Wsh) : PyData := .tuple [.tuple (cs.map colD), .tuple (ws.map washD)]
def optV : Option Int → V
  | none => .non
  | some i => .int i
def namV : Option Str → V
  | none => .non
  | some z => .str z
/-- the washing between two: the first row that tells -/
def washF (ws : List Wsh) (a : Option Str) (b : Str) : Option Int := match ws with
  | [] => some 0
  | r :: ws => if some r.1 = a ∧ r.2.1 = b then r.2.2 else washF ws a b
/-- the washing of a row -/
def sumF (ws : List Wsh) : Option Str → List Str → Int → Option Int
  | _, [], h => some h
  | a, b :: r, h => match washF ws a b with
    | none => none
    | some k => sumF ws (some b) r (h + k)
section
variable {K : PySem.W.Frag} {H : Hp}
theorem dp_tup {v : V} {ds : List PyData} (h : Dp K H v (.tuple ds)) : ∃ a xs, v = .ref a ∧ SqT K H a xs ∧ DpAll K H xs ds := by
  cases h with
  | tup h a => exact ⟨_, _, rfl, h, a⟩
theorem dp_lst {v : V} {ds : List PyData} (h : Dp K H v (.list ds)) : ∃ a xs, v = .ref a ∧ SqL K H a xs ∧ DpAll K H xs ds := by
  cases h with
  | lst h a => exact ⟨_, _, rfl, h, a⟩
theorem dp_str {v : V} {z : Str} (h : Dp K H v (.str z)) : v = .str z := by cases h; rfl
theorem dp_int {v : V} {z : Int} (h : Dp K H v (.int z)) : v = .int z := by cases h; rfl
theorem dp_opt {v : V} : ∀ {z : Option Int}, Dp K H v (optD z) → v = optV z
  | none, h => by cases h; rfl
  | some i, h => by cases h; rfl
theorem opt_dp : ∀ (z : Option Int), Dp K H (optV z) (optD z)
  | none => .non
  | some i => .int i
theorem dp_two {xs : List V} {d e : PyData} (h : DpAll K H xs [d, e]) : ∃ x y, xs = [x, y] ∧ Dp K H x d ∧ Dp K H y e := by
  cases h with
  | cons h1 t => cases t with
    | cons h2 t => cases t; exact ⟨_, _, rfl, h1, h2⟩
theorem dp_three {xs : List V} {d e f : PyData} (h : DpAll K H xs [d, e, f]) : ∃ x y z, xs = [x, y, z] ∧ Dp K H x d ∧ Dp K H y e ∧ Dp K H z f := by
  cases h with
  | cons h1 t => obtain ⟨y, z, rfl, h2, h3⟩ := dp_two t; exact ⟨_, _, _, rfl, h1, h2, h3⟩
theorem dp_four {xs : List V} {d e f g : PyData} (h : DpAll K H xs [d, e, f, g]) : ∃ x y z u, xs = [x, y, z, u] ∧ Dp K H x d ∧ Dp K H y e ∧ Dp K H z f ∧ Dp K H u g := by
  cases h with
  | cons h1 t => obtain ⟨y, z, u, rfl, h2, h3, h4⟩ := dp_three t; exact ⟨_, _, _, _, rfl, h1, h2, h3, h4⟩
/-- a colour's tuple -/
theorem col_dp {v : V} {c : Col} (h : Dp K H v (colD c)) : ∃ a, v = .ref a ∧ SqT K H a [.str c.1, .int c.2.1, .int c.2.2.1, .int c.2.2.2] := by
  obtain ⟨a, xs, rfl, hs, ha⟩ := dp_tup h
  obtain ⟨x, y, z, u, rfl, h1, h2, h3, h4⟩ := dp_four ha
  rw [dp_str h1, dp_int h2, dp_int h3, dp_int h4] at hs
  exact ⟨a, rfl, hs⟩
theorem wash_dp {v : V} {r : Wsh} (h : Dp K H v (washD r)) : ∃ a, v = .ref a ∧ SqT K H a [.str r.1, .str r.2.1, optV r.2.2] := by
  obtain ⟨a, xs, rfl, hs, ha⟩ := dp_tup h
  obtain ⟨x, y, z, rfl, h1, h2, h3⟩ := dp_three ha
  rw [dp_str h1, dp_str h2, dp_opt h3] at hs
  exact ⟨a, rfl, hs⟩
/-- a palette in the heap -/
theorem pal_dp {v : V} {cs : List Col} {ws : List Wsh} (h : Dp K H v (palD cs ws)) :
    ∃ p c w xs ys, v = .ref p ∧ SqT K H p [.ref c, .ref w] ∧ SqT K H c xs ∧ DpAll K H xs (cs.map colD) ∧ SqT K H w ys ∧ DpAll K H ys (ws.map washD) := by
  obtain ⟨p, zs, rfl, hp, hz⟩ := dp_tup h
  obtain ⟨x, y, rfl, h1, h2⟩ := dp_two hz
  obtain ⟨c, xs, rfl, hc, hx⟩ := dp_tup h1
  obtain ⟨w, ys, rfl, hw, hy⟩ := dp_tup h2
  exact ⟨p, c, w, xs, ys, rfl, hp, hc, hx, hw, hy⟩
theorem dpAll_map_at {α : Type} {f : α → PyData} {xs : List V} {l : List α} {i : Nat} {x : V} (h : DpAll K H xs (l.map f)) (e : xs[i]? = some x) : ∃ y, l[i]? = some y ∧ Dp K H x (f y) := by
  obtain ⟨d, g, p⟩ := dpAll_at h e
  rw [List.getElem?_map] at g
  obtain ⟨y, hy, rfl⟩ := Option.map_eq_some_iff.mp g
  exact ⟨y, hy, p⟩
theorem dpAll_map_len {α : Type} {f : α → PyData} {xs : List V} {l : List α} (h : DpAll K H xs (l.map f)) : xs.length = l.length := by
  rw [dpAll_len h, List.length_map]
end
theorem decS {a b : Str} : decide (V.str a = V.str b) = decide (a = b) := by
  by_cases h : a = b
  · subst h; rw [decide_eq_true rfl, decide_eq_true rfl]
  · rw [decide_eq_false h, decide_eq_false fun z => h (V.str.inj z)]
/-- behind rows that don't tell -/
theorem washF_skip {a : Option Str} {b : Str} : ∀ {ws : List Wsh} {i : Nat}, (∀ j r, j < i → ws[j]? = some r → ¬ (some r.1 = a ∧ r.2.1 = b)) → washF ws a b = washF (ws.drop i) a b
  | ws, 0, _ => rfl
  | [], i + 1, _ => rfl
  | r :: ws, i + 1, h => by
    show (if some r.1 = a ∧ r.2.1 = b then r.2.2 else washF ws a b) = washF (ws.drop i) a b
    rw [if_neg (h 0 r (Nat.succ_pos _) rfl)]
    exact washF_skip (a := a) (b := b) (ws := ws) (i := i) fun j q hj e => h (j + 1) q (Nat.succ_lt_succ hj) e
theorem washF_at {a : Option Str} {b : Str} {ws : List Wsh} {i : Nat} {r : Wsh} (h : ∀ j r, j < i → ws[j]? = some r → ¬ (some r.1 = a ∧ r.2.1 = b)) (e : ws[i]? = some r) (hr : some r.1 = a ∧ r.2.1 = b) : washF ws a b = r.2.2 := by
  rw [washF_skip h, List.drop_eq_getElem_cons (List.getElem?_eq_some_iff.mp e).1, (List.getElem?_eq_some_iff.mp e).2]
  unfold washF
  rw [if_pos hr]
theorem washF_none {a : Option Str} {b : Str} {ws : List Wsh} (h : ∀ j r, j < ws.length → ws[j]? = some r → ¬ (some r.1 = a ∧ r.2.1 = b)) : washF ws a b = some 0 := by
  rw [washF_skip h, List.drop_length]
  rfl
/-! ### data without lists stays while the law draws -/
def noLAll : List PyData → Prop
  | [] => True
  | x :: xs => noL x ∧ noLAll xs
where noL : PyData → Prop
  | .list _ => False
  | .dict _ => False
  | .tuple xs => noLAll xs
  | _ => True
section
variable {K : PySem.W.Frag}
theorem kp_tup {d c : Addr} {H H' : Hp} {n : Nat} {a : Addr} {xs : List V} (st : StAt H d c n) (k : Kp d c H H') (h : SqT K H a xs) : SqT K H' a xs := by
  obtain ⟨_, ys, t, h1, h2, _⟩ := st
  have go : ∀ o, (H a = some (.tup xs) ∨ H a = some (.frz o (.tup xs))) → a ≠ d ∧ a ≠ c := fun o e => by
    constructor
    · intro z; subst z; rw [h1] at e; rcases e with e | e <;> cases e
    · intro z; subst z; rw [h2] at e; rcases e with e | e <;> cases e
  rcases h with (h | ⟨o, h⟩) | h
  · have g := go ⟨.none, none, .fields #[], #[]⟩ (.inl h); exact .inl (.inl (k _ _ g.1 g.2 h))
  · have g := go o (.inr h); exact .inl (.inr ⟨o, k _ _ g.1 g.2 h⟩)
  · exact .inr h
mutual
theorem dp_kp {d c : Addr} {H H' : Hp} {n : Nat} (st : StAt H d c n) (k : Kp d c H H') : ∀ {v : V} {e : PyData}, noLAll.noL e → Dp K H v e → Dp K H' v e
  | _, _, _, .non => .non
  | _, _, _, .bl b => .bl b
  | _, _, _, .int i => .int i
  | _, _, _, .str x => .str x
  | _, _, h, .lst _ _ => h.elim
  | _, _, h, .tup s a => .tup (kp_tup st k s) (dpAll_kp st k h a)
theorem dpAll_kp {d c : Addr} {H H' : Hp} {n : Nat} (st : StAt H d c n) (k : Kp d c H H') : ∀ {vs : List V} {es : List PyData}, noLAll es → DpAll K H vs es → DpAll K H' vs es
  | _, _, _, .nil => .nil
  | _, _, h, .cons x t => .cons (dp_kp st k h.1 x) (dpAll_kp st k h.2 t)
end
mutual
theorem dp_go {H H' : Hp} (go : ∀ a us, SqT K H a us → SqT K H' a us) : ∀ {v : V} {e : PyData}, noLAll.noL e → Dp K H v e → Dp K H' v e
  | _, _, _, .non => .non
  | _, _, _, .bl b => .bl b
  | _, _, _, .int i => .int i
  | _, _, _, .str x => .str x
  | _, _, h, .lst _ _ => h.elim
  | _, _, h, .tup s a => .tup (go _ _ s) (dpAll_go go h a)
theorem dpAll_go {H H' : Hp} (go : ∀ a us, SqT K H a us → SqT K H' a us) : ∀ {vs : List V} {es : List PyData}, noLAll es → DpAll K H vs es → DpAll K H' vs es
  | _, _, _, .nil => .nil
  | _, _, h, .cons x t => .cons (dp_go go h.1 x) (dpAll_go go h.2 t)
end
theorem noL_map {α : Type} {f : α → PyData} (h : ∀ x, noLAll.noL (f x)) : ∀ l : List α, noLAll (l.map f)
  | [] => trivial
  | x :: r => ⟨h x, noL_map h r⟩
theorem noL_col (c : Col) : noLAll.noL (colD c) := ⟨trivial, trivial, trivial, trivial, trivial⟩
theorem noL_wash (r : Wsh) : noLAll.noL (washD r) := ⟨trivial, trivial, by cases r.2.2 <;> trivial, trivial⟩
theorem noL_pal (cs : List Col) (ws : List Wsh) : noLAll.noL (palD cs ws) := ⟨noL_map noL_col cs, noL_map noL_wash ws, trivial⟩
theorem dpAll_app {H : Hp} : ∀ {xs ys : List V} {ds es : List PyData}, DpAll K H xs ds → DpAll K H ys es → DpAll K H (xs ++ ys) (ds ++ es)
  | _, _, _, _, .nil, h => h
  | _, _, _, _, .cons h t, h2 => .cons h (dpAll_app t h2)
end
/-! ### how long a palette's text may be -/
structure PalOk (cs : List Col) (ws : List Wsh) : Prop where
  nc : cs.length ≤ 20
  nw : ws.length ≤ 60
  cn : ∀ c ∈ cs, c.1.length ≤ 9 ∧ (∀ x ∈ c.1.cps.toList, x < 1114112) ∧ c.2.1.natAbs < 10000 ∧ c.2.2.1.natAbs < 10000 ∧ c.2.2.2.natAbs < 10000
  wn : ∀ r ∈ ws, (r.1.length ≤ 9 ∧ ∀ x ∈ r.1.cps.toList, x < 1114112) ∧ (r.2.1.length ≤ 9 ∧ ∀ x ∈ r.2.1.cps.toList, x < 1114112) ∧ ∀ i, r.2.2 = some i → i.natAbs < 10000
theorem PalOk.addC {cs : List Col} {ws : List Wsh} {c : Col} (h : PalOk cs ws) (n : cs.length < 20) (ok : c.1.length ≤ 9 ∧ (∀ x ∈ c.1.cps.toList, x < 1114112) ∧ c.2.1.natAbs < 10000 ∧ c.2.2.1.natAbs < 10000 ∧ c.2.2.2.natAbs < 10000) : PalOk (cs ++ [c]) ws :=
  ⟨by rw [List.length_append]; exact n, h.nw, fun x hx => (List.mem_append.mp hx).elim (h.cn x) fun z => by rw [List.mem_singleton.mp z]; exact ok, h.wn⟩
theorem PalOk.addW {cs : List Col} {ws : List Wsh} {r : Wsh} (h : PalOk cs ws) (n : ws.length < 60) (ok : (r.1.length ≤ 9 ∧ ∀ x ∈ r.1.cps.toList, x < 1114112) ∧ (r.2.1.length ≤ 9 ∧ ∀ x ∈ r.2.1.cps.toList, x < 1114112) ∧ ∀ i, r.2.2 = some i → i.natAbs < 10000) : PalOk cs (ws ++ [r]) :=
  ⟨h.nc, by rw [List.length_append]; exact n, h.cn, fun x hx => (List.mem_append.mp hx).elim (h.wn x) fun z => by rw [List.mem_singleton.mp z]; exact ok⟩
theorem log_small {i : Int} (h : i.natAbs < 10000) : i.natAbs.log2 < 1920 := by
  by_cases z : i.natAbs = 0
  · rw [z]; decide
  · have := (Nat.log2_lt z).mpr (show i.natAbs < 2 ^ 14 from Nat.lt_of_lt_of_le h (by decide))
    omega
theorem fineAll_map {α : Type} {f : α → PyData} : ∀ {l : List α}, (∀ x ∈ l, fineAll.fine (f x)) → fineAll (l.map f)
  | [], _ => trivial
  | x :: r, h => ⟨h x List.mem_cons_self, fineAll_map fun y hy => h y (List.mem_cons_of_mem _ hy)⟩
theorem costAll_map {α : Type} {f : α → PyData} {b : Nat} : ∀ {l : List α}, (∀ x ∈ l, costAll.cost (f x) ≤ b) → costAll (l.map f) ≤ l.length * (b + 2)
  | [], _ => Nat.zero_le _
  | x :: r, h => by
    have h1 := h x List.mem_cons_self
    have h2 := costAll_map (l := r) fun y hy => h y (List.mem_cons_of_mem _ hy)
    show costAll.cost (f x) + 2 + costAll (r.map f) ≤ (r.length + 1) * (b + 2)
    rw [Nat.succ_mul]
    omega
theorem depthAll_map {α : Type} {f : α → PyData} {b : Nat} : ∀ {l : List α}, (∀ x ∈ l, (f x).depth ≤ b) → PyData.depthAll (l.map f) ≤ b
  | [], _ => Nat.zero_le _
  | x :: r, h => by
    show max (f x).depth (PyData.depthAll (r.map f)) ≤ b
    exact Nat.max_le.mpr ⟨h x List.mem_cons_self, depthAll_map fun y hy => h y (List.mem_cons_of_mem _ hy)⟩
theorem fine_col {c : Col} (h : c.1.length ≤ 9 ∧ (∀ x ∈ c.1.cps.toList, x < 1114112) ∧ c.2.1.natAbs < 10000 ∧ c.2.2.1.natAbs < 10000 ∧ c.2.2.2.natAbs < 10000) : fineAll.fine (colD c) :=
  ⟨fun x hx => Nat.lt_trans (h.2.1 x hx) (by decide), log_small h.2.2.1, log_small h.2.2.2.1, log_small h.2.2.2.2, trivial⟩
theorem fine_opt {o : Option Int} (h : ∀ i, o = some i → i.natAbs < 10000) : fineAll.fine (optD o) := by
  cases o with
  | none => trivial
  | some i => exact log_small (h i rfl)
theorem pal_fine {cs : List Col} {ws : List Wsh} (h : PalOk cs ws) : fineAll.fine (palD cs ws) :=
  ⟨fineAll_map fun c hc => fine_col (h.cn c hc), fineAll_map fun r hr => ⟨fun x hx => Nat.lt_trans ((h.wn r hr).1.2 x hx) (by decide), fun x hx => Nat.lt_trans ((h.wn r hr).2.1.2 x hx) (by decide), fine_opt (h.wn r hr).2.2, trivial⟩, trivial⟩
theorem cost_opt (o : Option Int) : costAll.cost (optD o) ≤ 1921 := by
  cases o with
  | none => decide
  | some i => exact Nat.le_refl _
theorem pal_cost {cs : List Col} {ws : List Wsh} (h : PalOk cs ws) : costAll.cost (palD cs ws) ≤ 1000000 := by
  have h1 : costAll (cs.map colD) ≤ cs.length * (10000 + 2) := costAll_map fun c hc => by
    have := (h.cn c hc).1
    show (10 * c.1.length + 2) + 2 + (1921 + 2 + (1921 + 2 + (1921 + 2 + 0))) + 3 ≤ 10000
    omega
  have h2 : costAll (ws.map washD) ≤ ws.length * (10000 + 2) := costAll_map fun r hr => by
    have a := (h.wn r hr).1.1
    have b := (h.wn r hr).2.1.1
    have c := cost_opt r.2.2
    show (10 * r.1.length + 2) + 2 + ((10 * r.2.1.length + 2) + 2 + (costAll.cost (optD r.2.2) + 2 + 0)) + 3 ≤ 10000
    omega
  have h3 := Nat.mul_le_mul_right 10002 h.nc
  have h4 := Nat.mul_le_mul_right 10002 h.nw
  show (costAll (cs.map colD) + 3) + 2 + ((costAll (ws.map washD) + 3) + 2 + 0) + 3 ≤ 1000000
  omega
theorem depth_opt (o : Option Int) : (optD o).depth = 0 := by cases o <;> rfl
theorem pal_depth (cs : List Col) (ws : List Wsh) : (palD cs ws).depth ≤ 3 := by
  have h1 : PyData.depthAll (cs.map colD) ≤ 1 := depthAll_map fun c _ => by show 1 ≤ 1; decide
  have h2 : PyData.depthAll (ws.map washD) ≤ 1 := depthAll_map fun r _ => by
    show max 0 (max 0 (max (optD r.2.2).depth 0)) + 1 ≤ 1
    rw [depth_opt]
    decide
  show max (PyData.depthAll (cs.map colD) + 1) (max (PyData.depthAll (ws.map washD) + 1) 0) + 1 ≤ 3
  omega
end Pot

namespace Pot
open PySem PySem.Spec PyProof.Rows L2
theorem Ths.parts2 {m C E D W a b : Nat} {ds es : List PyData} (h : Ths m C D W ds) (hab : a ≤ b) (k : Ths m E D W es) : Ths m (C + E) D W (ds.take a ++ es ++ ds.drop b) := by
  have mem : ∀ d, d ∈ ds.take a ++ es ++ ds.drop b → d ∈ ds ∨ d ∈ es := fun d hd => by
    rcases List.mem_append.mp hd with z | z
    · rcases List.mem_append.mp z with y | y
      · exact .inl (List.mem_of_mem_take y)
      · exact .inr y
    · exact .inl (List.mem_of_mem_drop z)
  refine ⟨fun d hd => (mem d hd).elim (h.g d) (k.g d), ?_, fun d hd => (mem d hd).elim (h.d d) (k.d d), fun d hd => (mem d hd).elim (h.w d) (k.w d)⟩
  rw [costAll_app, costAll_app]
  have e := costAll_app (ds.take a) (ds.drop a)
  rw [List.take_append_drop] at e
  have e2 : ds.drop b = (ds.drop a).drop (b - a) := by rw [List.drop_drop]; congr 1; omega
  have e3 := costAll_drop (b - a) (ds.drop a)
  rw [← e2] at e3
  have := h.c
  have := k.c
  omega
end Pot

namespace Pot
open PySem PySem.Spec PyProof.Rows L2
/-! ### words of letters -/
/-- at most n letters a to z -/
def Wd (n : Nat) (z : Str) : Prop := z.length ≤ n ∧ ∀ c ∈ z.cps.toList, 97 ≤ c ∧ c ≤ 122
theorem Wd.mono {n m : Nat} {z : Str} (h : Wd n z) (k : n ≤ m) : Wd m z := ⟨Nat.le_trans h.1 k, h.2⟩
theorem wd_add {n m : Nat} {a b : Str} (h : Wd n a) (k : Wd m b) : Wd (n + m) (a ++ b) := by
  refine ⟨by rw [strLen_append]; exact Nat.add_le_add h.1 k.1, fun c hc => ?_⟩
  have e : (a ++ b).cps.toList = a.cps.toList ++ b.cps.toList := by
    show (a.cps ++ b.cps).toList = _
    simp
  rw [e] at hc
  exact (List.mem_append.mp hc).elim (h.2 c) (k.2 c)
def az : List Nat := [97, 98, 99, 100, 101, 102, 103, 104, 105, 106, 107, 108, 109, 110, 111, 112, 113, 114, 115, 116, 117, 118, 119, 120, 121, 122]
theorem az_cps : (Str.ofString "abcdefghijklmnopqrstuvwxyz").cps.toList = az := by decide +kernel
theorem az_at : ∀ k : Nat, k < 26 → atI az ((k : Nat) : Int) = some (97 + k) := by unfold az; decide
theorem az_ix {i : Int} (h0 : 0 ≤ i) (h1 : i < 26) : atI (Str.ofString "abcdefghijklmnopqrstuvwxyz").cps.toList i = some (97 + i.toNat) := by
  rw [az_cps]
  have h := az_at i.toNat (by omega)
  rw [show ((i.toNat : Nat) : Int) = i by omega] at h
  exact h
theorem wd_sign {c : Nat} (h0 : 97 ≤ c) (h1 : c ≤ 122) : Wd 1 ⟨#[c]⟩ := ⟨Nat.le_refl _, fun d hd => by
  have e : d = c := by simpa using hd
  subst e; exact ⟨h0, h1⟩⟩
theorem wd_letter {i : Int} (h0 : 0 ≤ i) (h1 : i < 26) : Wd 1 ⟨#[97 + i.toNat]⟩ := wd_sign (by omega) (by omega)
theorem wd_nil : Wd 0 Str.empty := ⟨Nat.le_refl _, fun c hc => by have : c ∈ ([] : List Nat) := hc; simp at this⟩
theorem wd_join : ∀ {ys : List Str}, (∀ y ∈ ys, Wd 1 y) → Wd ys.length (Str.join Str.empty ys)
  | [], _ => wd_nil
  | [x], h => h x List.mem_cons_self
  | x :: y :: r, h => by
    have ih := wd_join (ys := y :: r) fun z hz => h z (List.mem_cons_of_mem _ hz)
    show Wd _ (x ++ Str.empty ++ Str.join Str.empty (y :: r))
    have h1 := wd_add (wd_add (h x List.mem_cons_self) wd_nil) ih
    exact h1.mono (by simp only [List.length_cons]; omega)
theorem cut_mem {z : Str} {lo hi : Option Int} {c : Nat} (h : c ∈ (cutS z lo hi).cps.toList) : c ∈ z.cps.toList := by
  unfold cutS at h
  have h2 : c ∈ (z.cps.toList.drop (HT.sIx z.length 0 lo)).take (HT.sIx z.length z.length hi - HT.sIx z.length 0 lo) := by simpa using h
  exact List.mem_of_mem_drop (List.mem_of_mem_take h2)
theorem cut_len (z : Str) (lo hi : Option Int) : (cutS z lo hi).length ≤ HT.sIx z.length z.length hi - HT.sIx z.length 0 lo := by
  unfold cutS
  show (List.toArray _).size ≤ _
  rw [List.size_toArray]
  exact List.length_take_le ..
theorem wd_head {n k : Nat} {z : Str} (h : Wd n z) : Wd k (cutS z none (some (k : Int))) := by
  refine ⟨Nat.le_trans (cut_len z none (some (k : Int))) ?_, fun c hc => h.2 c (cut_mem hc)⟩
  rw [HT.sIx_nat]
  omega
theorem wd_tail {n k : Nat} {z : Str} (h : Wd n z) : Wd (z.length - k) (cutS z (some (k : Int)) none) := by
  refine ⟨Nat.le_trans (cut_len z (some (k : Int)) none) ?_, fun c hc => h.2 c (cut_mem hc)⟩
  rw [HT.sIx_nat, HT.sIx_none]
  omega
theorem wd_cut {n : Nat} {z : Str} {lo hi : Option Int} (h : Wd n z) : Wd n (cutS z lo hi) := by
  refine ⟨Nat.le_trans (cut_len z lo hi) ?_, fun c hc => h.2 c (cut_mem hc)⟩
  have := HT.sIx_le z.length z.length (Nat.le_refl _) hi
  have := h.1
  omega
theorem wd_small {n : Nat} {z : Str} (h : Wd n z) (k : n ≤ 1000) : z.length ≤ sizeLine := Nat.le_trans h.1 (Nat.le_trans k (by decide))
theorem wd_codes {n : Nat} {z : Str} (h : Wd n z) : ∀ x ∈ z.cps.toList, x < 1114112 := fun x hx => by have := (h.2 x hx).2; omega
section
variable {K : PySem.W.Frag}
theorem kp_seq {d c l : Addr} {H H' : Hp} {xs : List V} (k : Kp d c H H') (n1 : l ≠ d) (n2 : l ≠ c) (h : SqL K H l xs) : SqL K H' l xs := by
  rcases h with (h | ⟨o, h⟩) | h
  · exact .inl (.inl (k _ _ n1 n2 h))
  · exact .inl (.inr ⟨o, k _ _ n1 n2 h⟩)
  · exact .inr h
end
end Pot

namespace Pot
open PySem PySem.Spec PyProof.Rows L2
/-! ### the drawing state of two objects, told by what stands beside it -/
section
variable {H H' : Hp} {d c : Addr} {n m : Nat} {S : List Addr} {x : Addr} {o : HO}
theorem kp_sm (k : Kp d c H H') : Sm [d, c] H H' := fun x o e => by
  have nm := off_mem e
  rw [off_out nm] at e ⊢
  exact k x o (fun z => nm (by rw [z]; simp)) (fun z => nm (by rw [z]; simp)) e
theorem sm_kp (s : Sm [d, c] H H') : Kp d c H H' := fun x o h1 h2 e => sm_at s (by simp [h1, h2]) e
theorem sm_two (h1 : d ∈ S) (h2 : c ∈ S) (s : Sm [d, c] H H') : Sm S H H' := sm_mono (fun x hx => by
  rcases List.mem_cons.mp hx with e | e
  · rw [e]; exact h1
  · rw [List.mem_singleton.mp e]; exact h2) s
theorem sm2_at (s : Sm [d, c] H H') (h1 : x ≠ d) (h2 : x ≠ c) (h : H x = some o) : H' x = some o := sm_at s (by simp [h1, h2]) h
theorem st_free (s : Sm [d, c] H H') (B : StAt H' d c n) (h : H' x = none) : H x = none := (sm_kp s).free B h
theorem StAt.here (B : StAt H d c n) : H d ≠ none ∧ H c ≠ none := by
  obtain ⟨_, xs, t, h1, h2, _⟩ := B
  constructor
  · intro z; rw [h1] at z; cases z
  · intro z; rw [h2] at z; cases z
theorem Live.st (L : Live S H) (B : StAt H' d c n) (s : Sm [d, c] H H') : Live S H' := fun x hx e => by
  by_cases h1 : x = d
  · rw [h1] at e; exact B.here.1 e
  by_cases h2 : x = c
  · rw [h2] at e; exact B.here.2 e
  cases h : H x with
  | none => exact L x hx h
  | some o => rw [sm2_at s h1 h2 h] at e; cases e
theorem Live.two (B : StAt H d c n) : Live [d, c] H := fun x hx e => by
  rcases List.mem_cons.mp hx with z | z
  · rw [z] at e; exact B.here.1 e
  · rw [List.mem_singleton.mp z] at e; exact B.here.2 e
theorem StAt.nd (B : StAt H d c n) (h : H x = none) : x ≠ d := (B.ne1 h).symm
theorem StAt.nc (B : StAt H d c n) (h : H x = none) : x ≠ c := (B.ne2 h).symm
end
end Pot

namespace Pot
open PySem PySem.Spec PyProof.Rows L2
/-! ### a box of three numbers whose last is at most n -/
def Bq (H : Hp) (b : Addr) (n : Nat) : Prop := ∃ x y z : Int, H b = some (.lst [.int x, .int y, .int z]) ∧ 0 ≤ z ∧ z ≤ n
section
variable {H H' : Hp} {b p : Addr} {n m : Nat} {o : HO}
theorem Bq.bx (B : Bq H b n) : Bx H b := by
  obtain ⟨x, y, z, h, _⟩ := B
  exact ⟨x, y, z, h⟩
theorem Bq.same (B : Bq H b n) (s : Same H H') : Bq H' b n := by
  obtain ⟨x, y, z, h, h2⟩ := B
  exact ⟨x, y, z, s _ _ h, h2⟩
theorem Bq.put (B : Bq H b n) (h : H p = none) : Bq (upd H p o) b n := B.same (same_upd h)
theorem Bq.wr (B : Bq H b n) (h : p ≠ b) : Bq (upd H p o) b n := by
  obtain ⟨x, y, z, e, h2⟩ := B
  exact ⟨x, y, z, by rw [upd_ne h.symm]; exact e, h2⟩
theorem Bq.mono (B : Bq H b n) (h : n ≤ m) : Bq H b m := by
  obtain ⟨x, y, z, e, h1, h2⟩ := B
  exact ⟨x, y, z, e, h1, by omega⟩
theorem Bq.ne (B : Bq H b n) (h : H p = none) : p ≠ b := B.bx.ne h
theorem Live.q (B : Bq H b n) : Live [b] H := Live.one B.bx
end
theorem b01 (k : Bool) : -(2 ^ 64 : Int) < (if k = true then 1 else 0) ∧ (if k = true then 1 else 0) < (2 ^ 64 : Int) := by cases k <;> decide
theorem CDivW.of {i j : Int} (h0 : 0 < j) (h1 : j < 2 ^ 64) : CDivW i j := by
  refine ⟨h0, ?_⟩
  have z : j.natAbs ≠ 0 := by omega
  have := (Nat.log2_lt z).mpr (show j.natAbs < 2 ^ 64 by omega)
  omega
mutual
theorem gd_lay {m : Nat} : ∀ d : PyData, gd m d → d.canLay0 = true
  | .none, _ => rfl
  | .bool _, _ => rfl
  | .int _, _ => rfl
  | .str x, g => by
    show x.cps.all (fun c => decide (c < 0x110000)) = true
    rw [← Array.all_toList, List.all_eq_true]
    exact fun c hc => decide_eq_true (g.2 c hc)
  | .list xs, g => gdAll_lay xs g
  | .tuple xs, g => gdAll_lay xs g
  | .dict _, g => g.elim
theorem gdAll_lay {m : Nat} : ∀ ds : List PyData, gdAll m ds → PyData.canLayAll0 ds = true
  | [], _ => rfl
  | x :: xs, g => by
    show (x.canLay0 && PyData.canLayAll0 xs) = true
    rw [gd_lay x g.1, gdAll_lay xs g.2]; rfl
end
theorem Th.shaped {m C D W : Nat} {d : PyData} (h : Th m C D W d) (hD : D ≤ 64) : SeqAt.shaped d = true := by
  unfold SeqAt.shaped
  rw [gd_lay d h.g, decide_eq_true (Nat.le_trans h.d hD)]; rfl
theorem gd_shaped {m : Nat} {d : PyData} (h : gd m d) (hD : d.depth ≤ 64) : SeqAt.shaped d = true := by
  unfold SeqAt.shaped
  rw [gd_lay d h, decide_eq_true hD]; rfl
end Pot

namespace Pot
open PySem PySem.Spec PyProof.Rows L2
def topS (i : Nat) : Stmt := PySem.Challenge.pw_potround_k18_rows_of_a_round.main.body.getD i (.Pass ⟨0, 0, 0, 0⟩)
section
variable {P : Program} {w : World} {K : PySem.W.Frag} {mg : Str → Option Value} {base : Heap}
abbrev s__law_take : Stmt := topS 12
def n__law_take : List Str := ["_law_state", "_law_many", "_law_turn", "_law_place", "_law_cell", "_law_digit", "_law_mixed"]
theorem sc__law_take : FnScope n__law_take ["_law_state", "_law_many"] (defScope s__law_take) := ⟨rfl, rfl, rfl, by decide +kernel, rfl, by decide +kernel, by decide +kernel⟩
/-! ### _law_take -/
def spTake : Sp := fun vs H Q _ => ∃ (d c : Addr) (m : Int) (n : Nat), vs = [.ref d, .int m] ∧ 0 < m ∧ m < 1073741824 ∧ StAt H d c n ∧ n < 2 ^ 40 ∧
  ∀ H' r, 0 ≤ r → r < m → StAt H' d c (n + 1) → Sm [d, c] H H' → Q (.int r) H'
theorem ok_take {f : Addr} {fd : FuncData} {k : Nat} (F : Fun K "_law_take" "_law_take" s__law_take f fd) (T : Txt mg) :
    FnOk P w K mg base CX0 (k + 1) f fd ["_law_state", "_law_many"] spTake := by
  refine F.ok sc__law_take (fun vs H Q E h => ?_) (fun cdv A outer s H vs Q E hr h => ?_)
  · obtain ⟨d, c, m, n, rfl, _⟩ := h
    rfl
  · obtain ⟨d, c, m, n, rfl, hm0, hm1, ⟨ndc, xs, t, hd, hc, hx, hx63, ht0, htn⟩, hn, q0⟩ := h
    have q : ∀ H' r, 0 ≤ r → r < m → StAt H' d c (n + 1) → Kp d c H H' → Q (.int r) H' := fun H' r a b e k => q0 H' r a b e (kp_sm k)
    have hu := hu_of hr
    have nd := sc__law_take.nd
    refine ⟨_, (pss_cons (ps_set (i := 2) nd rfl (.inl rfl) (pe_op op_add (pe_dget hu (pv 0) pe_str (fun _ _ => rfl)) pe_int))
      (pss_cons (ps_dput hu (pv 0) pe_str (pv 2) rfl)
      (pss_cons (ps_set (i := 3) nd rfl (.inl rfl) (pe_op op_mod (pv 2) (pe_callB (kc_len (K := K)) (by rfl) T.len PySem.boot_len (pa_cons (pe_dget hu (pv 0) pe_str (fun _ _ => rfl)) pa_nil))))
      (pss_cons (ps_set (i := 4) nd rfl (.inl rfl) (pe_ix (kx_list (K := K)) (pe_dget hu (pv 0) pe_str (fun _ _ => rfl)) (pv 3) (fun _ _ => rfl)))
      (pss_cons (ps_if (pt_cmpR op_ge (pv 4) (pe_op op_pow pe_int pe_int) (nomark _))
          (pss_cons (ps_asg (pe_callB call_divmod (by rfl) T.divmod (by decide +kernel) (pa_cons (pv 4) (pa_cons (pv 1) pa_nil))) (kg_tup (K := K) (n := 2) (pgs_cons (pg_sub (pe_dget hu (pv 0) pe_str (fun _ _ => rfl)) (pv 3) set_list) (pgs_cons (pg_name (i := 5) nd rfl (.inl rfl)) pgs_nil))))
          (pss_one (ps_ret (pv 5))))
          pss_nil)
      (pss_cons (ps_set (i := 6) nd rfl (.inl rfl) (pe_op op_mod (pe_op op_mul (pe_op op_add (pe_op op_add (pe_op op_mod (pv 4) pe_int) (pe_op op_mul (pe_op op_mul (pv 2) (pv 2)) pe_int)) pe_int) pe_int) pe_int))
      (pss_cons (ps_set (i := 6) nd rfl (.inl rfl) (pe_op op_mod (pe_op op_mul (pv 6) (pv 6)) pe_int))
      (pss_one (ps_ret (pe_op op_mod (pe_op op_fdiv (pe_op op_mod (pe_op op_mul (pe_op op_add (pv 6) (pe_op op_mul (pv 2) pe_int)) pe_int) pe_int) pe_int) (pv 1))))))))))), ?_⟩
    -- turn = state['turn'] + 1
    refine ⟨_, rfl, d, _, rfl, dget_turn hd, _, _, rfl, rfl, ?_⟩
    -- state['turn'] = turn
    refine ⟨_, rfl, _, rfl, d, _, rfl, dput_turn (t + 1) hd, ?_⟩
    have hd1 : (upd H d (.dK (dS c (t + 1)))) d = some (.dK (dS c (t + 1))) := upd_same
    have hc1 : (upd H d (.dK (dS c (t + 1)))) c = some (.lst (xs.map V.int)) := by rw [upd_ne ndc.symm]; exact hc
    generalize hH1 : upd H d (.dK (dS c (t + 1))) = H1 at hd1 hc1 ⊢
    have kp1 : Kp d c H H1 := fun b o h1 h2 e => by rw [← hH1, upd_ne h1]; exact e
    obtain ⟨j, y, ej, hj, gj⟩ := mod_at (u := t + 1) hx
    have gj' : (xs.map V.int)[j]? = some (.int y) := by rw [List.getElem?_map, gj]; rfl
    -- place = turn % len(state['cells'])
    refine ⟨_, rfl, _, rfl, d, _, rfl, dget_cells hd1, _, _, rfl, .inl ⟨_, SqL.of hc1, rfl⟩, _, _, rfl, rfl, ?_, ?_⟩
    · show (0 : Int) < ((xs.map V.int).length : Int)
      rw [List.length_map]
      have h0 : 0 < xs.length := List.length_pos_iff.mpr hx
      omega
    -- cell = state['cells'][place]
    refine ⟨_, rfl, d, _, rfl, dget_cells hd1, _, rfl, c, _, _, _, rfl, rfl, SqL.of hc1, (by show atI (xs.map V.int) ((t + 1) % ((xs.map V.int).length : Int)) = some (.int y); rw [ej]; exact atI_nat gj'), ?_⟩
    -- if cell >= 10 ** 18
    refine ⟨_, rfl, _, _, rfl, rfl, ⟨by decide, by decide, by decide⟩, _, _, rfl, rfl, _, rfl, ?_⟩
    refine ite2 (fun hb => ?_) (fun hb => ?_)
    · -- cells[place], digit = divmod(cell, many)
      refine ⟨_, rfl, _, rfl, _, _, rfl, ⟨hm0, hm1⟩, fun p hp => ?_⟩
      have npd : d ≠ p := ne_of_none hd1 hp
      have npc : c ≠ p := ne_of_none hc1 hp
      refine ⟨p, _, rfl, .inl (.inl upd_same), rfl, _, _, rfl, _, rfl, d, _, rfl, dget_cells (t := t + 1) (by rw [upd_ne npd]; exact hd1), _, rfl, ?_⟩
      refine ⟨c, _, _, j, rfl, rfl, (by rw [upd_ne npc]; exact hc1), (by show ixN (xs.map V.int).length ((t + 1) % ((xs.map V.int).length : Int)) = some j; rw [ej]; exact Evl.ixN_nat (by rw [List.length_map]; exact hj)), ?_⟩
      refine ⟨_, _, rfl, rfl, _, rfl, ?_⟩
      refine q _ _ (Int.emod_nonneg _ (by omega)) (Int.emod_lt_of_pos _ hm0) ⟨ndc, xs.set j (y / m), t + 1, ?_, ?_, ?_, ?_, by omega, by omega⟩ (kp1.trans fun b o h1 h2 e => ?_)
      · rw [upd_ne ndc, upd_ne npd]; exact hd1
      · rw [upd_same, List.map_set]
      · intro z
        have z2 := congrArg List.length z
        rw [List.length_set] at z2
        exact hx (List.length_eq_zero_iff.mp z2)
      · rw [List.length_set]; exact hx63
      · rw [upd_ne h2, upd_ne (ne_of_none e hp)]; exact e
    · -- the mixed way
      have t2 : t + 1 < 2 ^ 41 := by omega
      have tt : (t + 1) * (t + 1) < 2 ^ 82 := Int.lt_of_lt_of_le (Int.mul_lt_mul t2 (Int.le_of_lt t2) (by omega) (by decide)) (by decide)
      refine ⟨_, rfl, _, _, rfl, rfl, (by show (0 : Int) < 2147483629; decide), _, rfl, _, rfl, _, _, rfl, rfl, .inl ⟨by omega, by omega⟩, _, _, rfl, rfl, .inr ⟨by decide, by decide⟩, _, _, rfl, rfl, _, _, rfl, rfl, _, _, rfl, rfl, .inr ⟨by decide, by decide⟩, _, _, rfl, rfl, (by show (0 : Int) < 2147483647; decide), ?_⟩
      refine ⟨_, rfl, _, rfl, _, _, rfl, rfl, cmul_mod _ _ (by decide) (by decide), _, _, rfl, rfl, (by show (0 : Int) < 2147483587; decide), ?_⟩
      refine ⟨_, rfl, _, rfl, _, _, rfl, rfl, .inr ⟨by decide, by decide⟩, _, _, rfl, rfl, _, _, rfl, rfl, .inr ⟨by decide, by decide⟩, _, _, rfl, rfl, (by show (0 : Int) < 2147483629; decide), _, _, rfl, rfl, ⟨by decide, by decide⟩, _, rfl, _, _, rfl, rfl, hm0, ?_⟩
      exact q _ _ (Int.emod_nonneg _ (by omega)) (Int.emod_lt_of_pos _ hm0) ⟨ndc, xs, t + 1, hd1, hc1, hx, hx63, by omega, by omega⟩ kp1

abbrev s__law_begin : Stmt := topS 11
def n__law_begin : List Str := ["_law_script", "_law_cells"]
theorem sc__law_begin : FnScope n__law_begin ["_law_script"] (defScope s__law_begin) := ⟨rfl, rfl, rfl, by decide +kernel, rfl, by decide +kernel, by decide +kernel⟩
/-! ### _law_begin -/
def spBegin (K : PySem.W.Frag) : Sp := fun vs H Q _ => ∃ (a : Addr) (ns : List Int), vs = [.ref a] ∧ SqL K H a (ns.map V.int) ∧ ns.length ≤ 63 ∧ ∀ H' d c, Same H H' → StAt H' d c 0 → H d = none → H c = none → Q (.ref d) H'
theorem ok_begin {f : Addr} {fd : FuncData} {k : Nat} (F : Fun K "_law_begin" "_law_begin" s__law_begin f fd) (T : Txt mg) : FnOk P w K mg base CX0 (k + 1) f fd ["_law_script"] (spBegin K) := by
  refine F.ok sc__law_begin (fun vs H Q E h => ?_) (fun cdv A outer s H vs Q E hr h => ?_)
  · obtain ⟨a, ns, rfl, _⟩ := h
    rfl
  · obtain ⟨a, ns, rfl, hS, h63, q⟩ := h
    refine ⟨_, pss_cons (ps_set (i := 1) sc__law_begin.nd rfl (.inl rfl) (pe_callTy call_list_of (by rfl) T.list (by decide +kernel) (pa_cons (pe_slice sl_list (pv 0) po_none (po_some pe_int)) pa_nil)))
      (pss_cons (ps_if (pt_cmpR (op_eqD hr.units) (pv 1) (pe_lst pa_nil) (nomark _)) (pss_one (ps_set (i := 1) sc__law_begin.nd rfl (.inl rfl) (pe_lst (pa_cons pe_int pa_nil)))) pss_nil)
      (pss_one (ps_ret (pe_disp (pps_cons pe_str (pv 1) (pps_cons pe_str pe_int pps_nil)) (by rfl) (by rfl) (fun z => by cases z) (by decide))))), ?_⟩
    refine ⟨_, rfl, 63, rfl, a, _, rfl, hS, fun p hp => ?_⟩
    rw [cut63 (by rw [List.length_map]; exact h63)]
    refine ⟨p, _, rfl, .inl (SqL.of upd_same), fun c hc => ?_⟩
    have npc : p ≠ c := ne_of_none (upd_same (H := H) (o := .lst (ns.map V.int))) hc
    have sm1 : Same H (upd (upd H p (.lst (ns.map V.int))) c (.lst (ns.map V.int))) := (same_upd hp).trans (same_upd hc)
    have hc0 : H c = none := (same_upd hp).free hc
    have hcl : (upd (upd H p (.lst (ns.map V.int))) c (.lst (ns.map V.int))) c = some (.lst (ns.map V.int)) := upd_same
    generalize upd (upd H p (.lst (ns.map V.int))) c (.lst (ns.map V.int)) = H1 at sm1 hcl ⊢
    refine ⟨_, rfl, Nat.zero_le _, fun e he => ?_⟩
    have nce : c ≠ e := ne_of_none hcl he
    refine ⟨_, _, .lst (SqL.of (by rw [upd_ne nce]; exact hcl)) (dp_ints ns), .lst (SqL.of upd_same) .nil, PySem.W.ke_shaped_ints ns, PySem.W.ke_shaped_ints [], _, rfl, ?_⟩
    have fin : ∀ (H2 : Hp) (c2 : Addr) (xs : List Int), Same H H2 → H c2 = none → H2 c2 = some (.lst (xs.map V.int)) → xs ≠ [] → xs.length ≤ 63 →
        tRet (tDisp [(tC (V.str "cells"), tVar 1), (tC (V.str "turn"), tC (V.int 0))]) { nx := fun x H' => Q V.non H', rt := Q } [some (.ref a), some (.ref c2)] H2 := by
      intro H2 c2 xs s2 n2 h2 x0 x63 d hd
      refine ⟨_, rfl, upd_same, [(Sum.inr "cells", .ref c2), (Sum.inr "turn", .int 0)], rfl, (by show 2 ≤ 15; decide), ?_⟩
      have em : mergeK [] [((Sum.inr "cells" : Key), V.ref c2), (Sum.inr "turn", .int 0)] = dS c2 0 := by
        have e : ¬ ((Sum.inr (Str.ofString "cells") : Key) = Sum.inr (Str.ofString "turn")) := by decide +kernel
        unfold mergeK dS
        simp [putK, e]
      rw [em]
      have ncd : c2 ≠ d := ne_of_none h2 hd
      refine q _ d c2 (same_put (same_put s2 (s2.free hd)) (s2.free hd)) ⟨ncd.symm, xs, 0, upd_same, ?_, x0, x63, by decide, by decide⟩ (s2.free hd) n2
      rw [upd_ne ncd, upd_ne ncd]
      exact h2
    cases ns with
    | nil =>
      show if PyData.eqv (PyData.list []) (PyData.list []) = true then _ else _
      rw [if_pos (by rfl)]
      refine ⟨(by show 1 ≤ sizeLine; decide), fun g hg => ?_⟩
      have hg1 : H1 g = none := (same_upd he).free hg
      exact fin _ g [7] (same_put (same_put sm1 (sm1.free he)) (sm1.free hg1)) (sm1.free hg1) upd_same (by intro z; cases z) (by decide)
    | cons n r =>
      show if PyData.eqv (PyData.list (PyData.int n :: r.map PyData.int)) (PyData.list []) = true then _ else _
      rw [if_neg (by intro z; cases z)]
      refine fin _ c (n :: r) (same_put sm1 (sm1.free he)) hc0 (by rw [upd_ne nce]; exact hcl) (by intro z; cases z) h63

end
end Pot

namespace Pot
open PySem PySem.Spec PyProof.Rows L2
section
variable {P : Program} {w : World} {K : PySem.W.Frag} {mg : Str → Option Value} {base : Heap}
/-! ### _law_names -/
def Nm (z : Str) : Prop := Wd 8 z ∧ 0 < z.length
abbrev s__law_names : Stmt := topS 13
def n__law_names : List Str := ["_law_state", "_law_many", "_law_letters", "_law_found", "_law_k", "_law_stem", "_law_at", "_law_first", "_law_step", "_law_longer", "_law_name"]
theorem sc__law_names : FnScope n__law_names ["_law_state", "_law_many"] (defScope s__law_names) := ⟨rfl, rfl, rfl, by decide +kernel, rfl, by decide +kernel, by decide +kernel⟩
def spNames : Sp := fun vs H Q _ => ∃ (d c : Addr) (n m : Nat), vs = [.ref d, .int (m : Nat)] ∧ StAt H d c n ∧ n + 2000 < 2 ^ 40 ∧ m ≤ 100 ∧
  ∀ (H' : Hp) (L : Addr) (ys : List Str), StAt H' d c (n + 20) → Sm [d, c] H H' → H L = none → H' L = some (.lst (ys.map V.str)) → ys.length = m → (∀ y ∈ ys, Nm y) → Q (.ref L) H'
theorem ok_names {f : Addr} {fd : FuncData} {k : Nat} (F : Fun K "_law_names" "_law_names" s__law_names f fd) (T : Txt mg) (c__law_take : Cl P w K mg base (k + 1) "_law_take" spTake) : FnOk P w K mg base CX0 (k + 2) f fd ["_law_state", "_law_many"] spNames := by
  refine F.ok sc__law_names (fun vs H Q E h => ?_) (fun cdv A outer s H vs Q E hr h => ?_)
  · obtain ⟨d, c, n, m, rfl, _⟩ := h
    rfl
  · obtain ⟨d, c, n, m, rfl, B, hn, hm, q⟩ := h
    have nd := sc__law_names.nd
    refine ⟨_, (pss_cons (ps_asg (pe_tup (pa_cons pe_str (pa_cons (pe_lst pa_nil) pa_nil))) (kg_tup (K := K) (n := 2) (pgs_cons (pg_name (i := 2) nd rfl (.inr rfl)) (pgs_cons (pg_name (i := 3) nd rfl (.inl rfl)) pgs_nil))))
      (pss_cons (ps_set (i := 5) nd rfl (.inl rfl) (ke_join (K := K) pe_str (pe_lc (own := [("_law_k", 4)]) rfl nd (pi_range1 (by rfl) T.range (pa_cons (pe_cl c__law_take hr (by omega) (by rfl) (pa_cons (pv 0) (pa_cons pe_int pa_nil))) pa_nil)) (blkOk_by (N := n__law_names) (sc := defScope s__law_names) (by decide +kernel)) (fun _ _ _ _ _ => (pg_name (i := 4) nd rfl (.inl rfl))) (fun _ _ _ _ _ => pts_nil) (fun _ _ _ _ _ => (pe_ix ix_str (pv 2) (pe_cl c__law_take hr (by omega) (by rfl) (pa_cons (pv 0) (pa_cons pe_int pa_nil))) (fun _ _ => rfl))))))
      (pss_cons (ps_par (i := 6) (j := 7) rfl nd rfl rfl (by decide) rfl rfl (pa_cons (pe_cl c__law_take hr (by omega) (by rfl) (pa_cons (pv 0) (pa_cons (pe_op op_add (pe_callB (kc_len (K := K)) (by rfl) T.len PySem.boot_len (pa_cons (pv 5) pa_nil)) pe_int) pa_nil))) (pa_cons (pe_cl c__law_take hr (by omega) (by rfl) (pa_cons (pv 0) (pa_cons pe_int pa_nil))) pa_nil)) rfl)
      (pss_cons (ps_par (i := 8) (j := 9) rfl nd rfl rfl (by decide) rfl rfl (pa_cons (pe_ix (kx_list (K := K)) (pe_lst (pa_cons pe_int (pa_cons pe_int (pa_cons pe_int (pa_cons pe_int (pa_cons pe_int (pa_cons pe_int pa_nil))))))) (pe_cl c__law_take hr (by omega) (by rfl) (pa_cons (pv 0) (pa_cons pe_int pa_nil))) (fun _ _ => rfl)) (pa_cons (pe_cl c__law_take hr (by omega) (by rfl) (pa_cons (pv 0) (pa_cons pe_int pa_nil))) pa_nil)) rfl)
      (pss_cons (ps_for PassesOwn.never rfl (pi_range1 (by rfl) T.range (pa_cons (pv 1) pa_nil)) (pg_name (i := 4) nd rfl (.inl rfl))
          (pss_cons (ps_set (i := 10) nd rfl (.inl rfl) (pe_op op_add_str (pe_op op_add_str (pe_slice sl_str (pv 5) po_none (po_some (pv 6))) (pe_ix ix_str (pv 2) (pe_op op_mod (pe_op op_add (pv 7) (pe_op op_mul (pv 8) (pv 4))) pe_int) (fun _ _ => rfl))) (pe_slice sl_str (pv 5) (po_some (pv 6)) po_none)))
          (pss_cons (ps_if ((pw_and (pt_cmpR op_eq (pv 9) pe_int (nomark _)) (pw_and1 (pt_cmpR op_eq (pe_op op_mod (pv 4) pe_int) pe_int (nomark _))))).pt
              (pss_one (ps_set (i := 10) nd rfl (.inl rfl) (pe_op op_add_str (pe_ix (kx_list (K := K)) (pv 3) (pe_un un_neg pe_int) (fun _ _ => rfl)) (pe_ix ix_str (pv 2) (pe_op op_mod (pe_op op_add (pv 7) (pv 4)) pe_int) (fun _ _ => rfl)))))
              pss_nil)
          (pss_one (ps_expr (pe_bm PySem.F.plainAttrs_list PySem.F.slot_list_append PySem.F.type_list_append mt_append (pv 3) (pa_cons (pv 10) pa_nil)))))))
      (pss_one (ps_ret (pv 3)))))))), ?_⟩
    have lv := Live.two B
    have sc : Sm [d, c] H H := Same.refl _
    obtain ⟨S, eS⟩ : ∃ S, S = [d, c] := ⟨_, rfl⟩
    have hd : d ∈ S := by rw [eS]; simp
    have hc : c ∈ S := by rw [eS]; simp
    rw [← eS] at lv
    -- letters, found
    refine ⟨Nat.zero_le _, fun L nL => ?_⟩
    have nLd := B.nd nL
    have nLc := B.nc nL
    have fL := off_new (o := .lst []) lv nL
    have lv := lv.put (o := .lst []) nL
    have B := B.same (same_upd (o := .lst []) nL)
    have sc := sc.trans (sm_put (S := [d, c]) (o := .lst []) nL)
    generalize upd H L (.lst []) = H1 at fL lv B sc  ⊢
    refine ⟨(by show 2 ≤ sizeLine; decide), fun t nt => ?_⟩
    have ft := off_new (o := .tup [.str "abcdefghijklmnopqrstuvwxyz", .ref L]) lv nt
    have lv := lv.put (o := .tup [.str "abcdefghijklmnopqrstuvwxyz", .ref L]) nt
    have B := B.same (same_upd (o := .tup [.str "abcdefghijklmnopqrstuvwxyz", .ref L]) nt)
    have sc := sc.trans (sm_put (S := [d, c]) (o := .tup [.str "abcdefghijklmnopqrstuvwxyz", .ref L]) nt)
    have fL := (sm_put (S := S) (o := .tup [.str "abcdefghijklmnopqrstuvwxyz", .ref L]) nt) _ _ fL
    generalize upd H1 t (.tup [.str "abcdefghijklmnopqrstuvwxyz", .ref L]) = H2 at ft lv B sc fL ⊢
    refine ⟨t, _, rfl, .inl (.inl (at_off ft)), rfl, _, _, rfl, _, _, rfl, rfl, ?_⟩
    -- stem
    refine ⟨⟨_, rfl⟩, _, rfl, d, c, 7, n, rfl, (by decide), (by decide), B, by omega, fun H4 sn s0 s1 B4 s4 => ⟨_, rfl, (by omega), (by omega), fun D nD => ?_⟩⟩
    have lv := lv.st B4 s4
    have sc := sc.trans s4
    have B := B4
    have fL := (sm_two hd hc s4) _ _ fL
    have nDd := B.nd nD
    have nDc := B.nc nD
    refine lc_it walk_range (fun i H5 => StAt H5 d c (n + 1 + i) ∧ Sm [d, c] H4 H5 ∧ ∃ ys : List Str, H5 D = some (.lst (ys.map V.str)) ∧ ys.length = i ∧ ∀ y ∈ ys, Wd 1 y) ⟨B.same (same_upd nD), sm_put nD, [], upd_same, rfl, fun _ h => (List.not_mem_nil h).elim⟩ (fun _ _ _ _ => trivial) ?_ ?_
    · rintro i x H5 H6 hi ⟨B5, s5, ys, hL, hy, hw⟩ ⟨rfl, rfl⟩
      refine ⟨rfl, tYes_at ?_⟩
      rw [if_pos rfl]
      refine ⟨_, rfl, _, rfl, d, c, 26, n + 1 + i, rfl, (by decide), (by decide), B5, by omega, fun H7 r r0 r1 B7 s7 => ?_⟩
      refine ⟨_, r, 97 + r.toNat, rfl, rfl, (by decide +kernel), az_ix r0 r1, _, sm2_at s7 nDd nDc hL, ?_, (B7.put nDd.symm nDc.symm).mono (by omega), smp (s5.trans s7) nD, ys ++ [⟨#[97 + r.toNat]⟩], ?_, ?_, ?_⟩
      · rw [List.length_map, hy]; exact Nat.lt_of_lt_of_le (show i < 8 by omega) (by decide)
      · rw [upd_same, List.map_append]; rfl
      · rw [List.length_append, hy]; rfl
      · intro y h
        rcases List.mem_append.mp h with h | h
        · exact hw y h
        · rw [List.mem_singleton.mp h]; exact wd_letter r0 r1
    rintro H5 ⟨B5, s5, ys, hD, hy, hw⟩
    have lv := lv.st B5 s5
    have sc := sc.trans s5
    have B := B5
    have fL := (sm_two hd hc s5) _ _ fL
    have hy7 : ys.length ≤ 6 := by omega
    refine ⟨_, D, ys, rfl, rfl, .inl (SqL.of hD), ?_, ?_⟩
    · have h : ∀ {l : List Str}, (∀ y ∈ l, Wd 1 y) → (l.map (·.length)).sum ≤ l.length := by
        intro l
        induction l with
        | nil => intro _; exact Nat.le_refl _
        | cons a r ih =>
          intro h
          have h1 := (h a List.mem_cons_self).1
          have h2 := ih fun y hy => h y (List.mem_cons_of_mem _ hy)
          simp only [List.map_cons, List.sum_cons, List.length_cons]
          omega
      have := h hw
      show _ + ys.length * 0 ≤ _
      omega
    have hst : Wd 6 (Txt.join (Str.ofString "") ys) := by rw [TL.join_eq]; exact (wd_join hw).mono hy7
    have B := B.mono (show _ ≤ n + 7 by omega)
    generalize Txt.join (Str.ofString "") ys = stem at hst ⊢
    -- at, first
    refine ⟨_, rfl, _, rfl, _, _, rfl, ⟨wd_small hst (by decide), rfl⟩, _, _, rfl, rfl, d, c, _, n + 7, rfl, (by omega), (by have := hst.1; omega), B, by omega, fun H6 at_ a0 a1 B6 s6 => ?_⟩
    have lv := lv.st B6 s6
    have sc := sc.trans s6
    have B := B6
    have fL := (sm_two hd hc s6) _ _ fL
    refine ⟨_, rfl, d, c, 26, _, rfl, (by decide), (by decide), B, by omega, fun H7 fi f0 f1 B7 s7 => ⟨_, _, rfl, ?_⟩⟩
    have lv := lv.st B7 s7
    have sc := sc.trans s7
    have B := B7
    have fL := (sm_two hd hc s7) _ _ fL
    -- step, longer
    refine ⟨(by show 6 ≤ sizeLine; decide), fun z nz => ?_⟩
    have fz := off_new (o := .lst [.int 1, .int 3, .int 5, .int 7, .int 11, .int 25]) lv nz
    have lv := lv.put (o := .lst [.int 1, .int 3, .int 5, .int 7, .int 11, .int 25]) nz
    have B := B.same (same_upd (o := .lst [.int 1, .int 3, .int 5, .int 7, .int 11, .int 25]) nz)
    have sc := sc.trans (sm_put (S := [d, c]) (o := .lst [.int 1, .int 3, .int 5, .int 7, .int 11, .int 25]) nz)
    have fL := (sm_put (S := S) (o := .lst [.int 1, .int 3, .int 5, .int 7, .int 11, .int 25]) nz) _ _ fL
    generalize upd H7 z (.lst [.int 1, .int 3, .int 5, .int 7, .int 11, .int 25]) = H8 at fz lv B sc fL ⊢
    refine ⟨_, rfl, d, c, 6, _, rfl, (by decide), (by decide), B, by omega, fun H9 r6 b0 b1 B9 s9 => ?_⟩
    have lv := lv.st B9 s9
    have sc := sc.trans s9
    have B := B9
    have fL := (sm_two hd hc s9) _ _ fL
    have fz := (sm_two hd hc s9) _ _ fz
    obtain ⟨stp, es⟩ : ∃ stp : Int, atI [V.int 1, .int 3, .int 5, .int 7, .int 11, .int 25] r6 = some (.int stp) ∧ -100 ≤ stp ∧ stp ≤ 100 := by
      have h : r6 = 0 ∨ r6 = 1 ∨ r6 = 2 ∨ r6 = 3 ∨ r6 = 4 ∨ r6 = 5 := by omega
      rcases h with rfl | rfl | rfl | rfl | rfl | rfl
      · exact ⟨1, rfl, by decide, by decide⟩
      · exact ⟨3, rfl, by decide, by decide⟩
      · exact ⟨5, rfl, by decide, by decide⟩
      · exact ⟨7, rfl, by decide, by decide⟩
      · exact ⟨11, rfl, by decide, by decide⟩
      · exact ⟨25, rfl, by decide, by decide⟩
    refine ⟨z, _, r6, .int stp, rfl, rfl, SqL.of (at_off fz), es.1, ?_⟩
    refine ⟨_, rfl, d, c, 2, _, rfl, (by decide), (by decide), B, by omega, fun H10 lo c0 c1 B10 s10 => ⟨_, _, rfl, ?_⟩⟩
    have lv := lv.st B10 s10
    have sc := sc.trans s10
    have B := B10
    have fL := (sm_two hd hc s10) _ _ fL
    obtain ⟨a2, rfl⟩ : ∃ a2 : Nat, at_ = (a2 : Int) := ⟨at_.toNat, by omega⟩
    have ha2 : a2 ≤ stem.length := by omega
    have hL := at_off fL
    refine ⟨_, rfl, _, rfl, (by omega), (by omega), ?_⟩
    refine for_it walk_range (fun i σ H11 => ∃ v4 v10, σ = [some (.ref d), some (.int (m : Nat)), some (.str "abcdefghijklmnopqrstuvwxyz"), some (.ref L), v4, some (.str stem), some (.int (a2 : Nat)), some (.int fi), some (.int stp), some (.int lo), v10] ∧
        StAt H11 d c (n + 20) ∧ Sm [d, c] H H11 ∧ ∃ ys : List Str, H11 L = some (.lst (ys.map V.str)) ∧ ys.length = i ∧ (∀ y ∈ ys, Nm y) ∧ (i % 2 = 1 → ∃ hd y0, ys = hd ++ [y0] ∧ Wd 7 y0))
      ⟨_, _, rfl, B.mono (by omega), sc, [], hL, rfl, (fun _ h => (List.not_mem_nil h).elim), fun h => by simp at h⟩ (fun _ _ _ _ _ => trivial) ?_ ?_
    · rintro i x σ H11 H12 hi ⟨v4, v10, rfl, B11, s11, ys2, hL2, hy2, hw2, last⟩ ⟨rfl, rfl⟩
      have hi2 : i < m := by omega
      have x0 : 0 ≤ (fi + stp * (0 + (i : Int))) % 26 := Int.emod_nonneg _ (by decide)
      have x1 : (fi + stp * (0 + (i : Int))) % 26 < 26 := Int.emod_lt_of_pos _ (by decide)
      have w1 := wd_head (k := a2) hst
      have w3 := wd_tail (k := a2) hst
      refine ⟨_, rfl, _, rfl, _, rfl, _, rfl, wd_small hst (by decide), ?_⟩
      refine ⟨_, rfl, _, rfl, _, rfl, _, rfl, _, _, rfl, rfl, .inl ⟨by omega, by omega⟩, _, _, rfl, rfl, _, _, rfl, rfl, (by show (0 : Int) < 26; decide), ?_⟩
      refine ⟨_, _, _, rfl, rfl, (by decide +kernel), az_ix x0 x1, _, _, rfl, rfl, ?_, ?_⟩
      · have := w1.1
        show _ + 1 ≤ sizeLine
        rw [sizeLine_eq]
        have := hst.1
        omega
      have w2 := wd_add w1 (wd_letter x0 x1)
      have ln : 0 < (cutS stem none (some ((a2 : Nat) : Int)) ++ (⟨#[97 + ((fi + stp * (0 + (i : Int))) % 26).toNat]⟩ : Str)).length := by rw [strLen_append]; show 0 < _ + 1; omega
      generalize cutS stem none (some ((a2 : Nat) : Int)) ++ ⟨#[97 + ((fi + stp * (0 + (i : Int))) % 26).toNat]⟩ = nam at w2 ln ⊢
      refine ⟨_, rfl, _, rfl, _, rfl, _, rfl, wd_small hst (by decide), _, _, rfl, rfl, ?_, ?_⟩
      · have h1 := w2.1
        have h2 := w3.1
        have h3 := hst.1
        rw [sizeLine_eq]
        omega
      have w7 : Wd 7 (nam ++ cutS stem (some ((a2 : Nat) : Int)) none) := (wd_add w2 w3).mono (by have := hst.1; omega)
      have l7 : 0 < (nam ++ cutS stem (some ((a2 : Nat) : Int)) none).length := by rw [strLen_append]; omega
      generalize nam ++ cutS stem (some ((a2 : Nat) : Int)) none = nam2 at w7 l7 ⊢
      have fin : ∀ (nm : Str), Nm nm → ((i + 1) % 2 = 1 → Wd 7 nm) →
          ∃ v4 v10, [some (V.ref d), some (.int (m : Nat)), some (.str "abcdefghijklmnopqrstuvwxyz"), some (.ref L), some (.int (0 + (i : Int))), some (.str stem), some (.int (a2 : Nat)), some (.int fi), some (.int stp), some (.int lo), some (.str nm)] = [some (V.ref d), some (.int (m : Nat)), some (.str "abcdefghijklmnopqrstuvwxyz"), some (.ref L), v4, some (.str stem), some (.int (a2 : Nat)), some (.int fi), some (.int stp), some (.int lo), v10] ∧
          StAt (upd H12 L (.lst (ys2.map V.str ++ [.str nm]))) d c (n + 20) ∧ Sm [d, c] H (upd H12 L (.lst (ys2.map V.str ++ [.str nm]))) ∧ ∃ ys : List Str, upd H12 L (.lst (ys2.map V.str ++ [.str nm])) L = some (.lst (ys.map V.str)) ∧ ys.length = i + 1 ∧ (∀ y ∈ ys, Nm y) ∧ ((i + 1) % 2 = 1 → ∃ hd y0, ys = hd ++ [y0] ∧ Wd 7 y0) := by
        intro nm wn wl
        refine ⟨_, _, rfl, B11.put nLd.symm nLc.symm, smp s11 nL, ys2 ++ [nm], by rw [upd_same, List.map_append]; rfl, by rw [List.length_append, hy2]; rfl, fun y hy => ?_, fun h => ⟨ys2, nm, rfl, wl h⟩⟩
        rcases List.mem_append.mp hy with h | h
        · exact hw2 y h
        · rw [List.mem_singleton.mp h]; exact wn
      have small : (ys2.map V.str).length < sizeLine := by rw [List.length_map, hy2, sizeLine_eq]; omega
      refine ⟨_, rfl, rfl, _, rfl, ite2 (fun h1 => ?_) (fun h1 => iteF ?_)⟩
      · refine ⟨_, rfl, _, _, rfl, rfl, (by show (0 : Int) < 2; decide), rfl, _, rfl, ite2 (fun h2 => ?_) (fun h2 => ?_)⟩
        · have ei : (0 + (i : Int)) % 2 = 1 := V.int.inj (of_decide_eq_true h2)
          have i2 : i % 2 = 1 := by omega
          obtain ⟨hd0, y0, e0, wy0⟩ := last i2
          have el : atI (ys2.map V.str) (-1) = some (.str y0) := by
            rw [e0, List.map_append]; exact atI_last _ _
          have z0 : 0 ≤ (fi + (0 + (i : Int))) % 26 := Int.emod_nonneg _ (by decide)
          have z1 : (fi + (0 + (i : Int))) % 26 < 26 := Int.emod_lt_of_pos _ (by decide)
          refine ⟨_, rfl, 1, rfl, L, _, -1, _, rfl, rfl, SqL.of hL2, el, _, rfl, _, rfl, _, rfl, _, _, rfl, rfl, _, _, rfl, rfl, (by show (0 : Int) < 26; decide), ?_⟩
          refine ⟨_, _, _, rfl, rfl, (by decide +kernel), az_ix z0 z1, _, _, rfl, rfl, ?_, ?_⟩
          · have := wy0.1
            show _ + 1 ≤ sizeLine
            rw [sizeLine_eq]
            omega
          have wz := wd_add wy0 (wd_letter z0 z1)
          refine ⟨_, rfl, .inl ⟨rfl, _, SqL.of hL2⟩, _, rfl, L, _, _, rfl, rfl, hL2, small, fin _ ⟨wz, by rw [strLen_append]; show 0 < _ + 1; omega⟩ (fun h => by omega)⟩
        ·
          refine ⟨_, rfl, .inl ⟨rfl, _, SqL.of hL2⟩, _, rfl, L, _, _, rfl, rfl, hL2, small, fin _ ⟨w7.mono (by decide), l7⟩ (fun _ => w7)⟩
      refine ⟨_, rfl, .inl ⟨rfl, _, SqL.of hL2⟩, _, rfl, L, _, _, rfl, rfl, hL2, small, fin _ ⟨w7.mono (by decide), l7⟩ (fun _ => w7)⟩
    · rintro σ H11 ⟨v4, v10, rfl, B11, s11, ys2, hL2, hy2, hw2, last⟩
      exact ⟨_, rfl, q _ L ys2 B11 s11 nL hL2 (by rw [hy2, Int.toNat_natCast]) hw2⟩

end
end Pot

namespace Pot
open PySem PySem.Spec PyProof.Rows L2
section
variable {P : Program} {w : World} {K : PySem.W.Frag} {mg : Str → Option Value} {base : Heap}
/-- what stands while a palette is made: colours at C, washes at W, the names in order at Z -/
structure PMk (K : PySem.W.Frag) (H0 : Hp) (d c C W Z : Addr) (zs : List Str) (n : Nat) (xs us : List V) (cs : List Col) (ws : List Wsh) (H : Hp) : Prop where
  st : StAt H d c n
  kp : Kp d c H0 H
  hZ : H Z = some (.lst (zs.map V.str))
  hC : H C = some (.lst xs)
  dC : DpAll K H xs (cs.map colD)
  hW : H W = some (.lst us)
  dW : DpAll K H us (ws.map washD)
structure PAp (H0 : Hp) (d c C W Z : Addr) : Prop where
  Cd : C ≠ d
  Cc : C ≠ c
  Wd : W ≠ d
  Wc : W ≠ c
  Zd : Z ≠ d
  Zc : Z ≠ c
  CW : C ≠ W
  CZ : C ≠ Z
  WZ : W ≠ Z
  nC : H0 C = none
  nW : H0 W = none
  nZ : H0 Z = none
section
variable {H0 H H' : Hp} {d c C W Z p : Addr} {zs : List Str} {n m : Nat} {xs us : List V} {cs : List Col} {ws : List Wsh} {o : HO}
theorem PMk.drawn (P : PMk K H0 d c C W Z zs n xs us cs ws H) (a : PAp H0 d c C W Z) (st : StAt H' d c m) (k : Kp d c H H') : PMk K H0 d c C W Z zs m xs us cs ws H' :=
  ⟨st, P.kp.trans k, k _ _ a.Zd a.Zc P.hZ, k _ _ a.Cd a.Cc P.hC, dpAll_kp P.st k (noL_map noL_col _) P.dC, k _ _ a.Wd a.Wc P.hW, dpAll_kp P.st k (noL_map noL_wash _) P.dW⟩
theorem PMk.put (P : PMk K H0 d c C W Z zs n xs us cs ws H) (h : H p = none) : PMk K H0 d c C W Z zs n xs us cs ws (upd H p o) :=
  ⟨P.st.put (P.st.ne1 h) (P.st.ne2 h), kp_put P.kp (P.kp.free P.st h), same_upd h _ _ P.hZ, same_upd h _ _ P.hC, dpAll_same (same_upd h) P.dC, same_upd h _ _ P.hW, dpAll_same (same_upd h) P.dW⟩
theorem PMk.mono (P : PMk K H0 d c C W Z zs n xs us cs ws H) (h : n ≤ m) : PMk K H0 d c C W Z zs m xs us cs ws H := ⟨P.st.mono h, P.kp, P.hZ, P.hC, P.dC, P.hW, P.dW⟩
theorem dpAll_lst {l : Addr} {ys zs : List V} {es : List PyData} (he : H l = some (.lst ys)) (hn : noLAll es) (h : DpAll K H xs es) : DpAll K (upd H l (.lst zs)) xs es := by
  have go : ∀ {a : Addr} {us : List V}, SqT K H a us → SqT K (upd H l (.lst zs)) a us := fun {a us} h => by
    rcases h with (h | ⟨o, h⟩) | h
    · exact .inl (.inl (by rw [upd_ne (ne_of h he (by intro z; cases z))]; exact h))
    · exact .inl (.inr ⟨o, by rw [upd_ne (ne_of h he (by intro z; cases z))]; exact h⟩)
    · exact .inr h
  exact dpAll_go (fun a us h => go h) hn h
theorem PMk.colour (P : PMk K H0 d c C W Z zs n xs us cs ws H) (a : PAp H0 d c C W Z) {v : V} {r : Col} (hv : Dp K H v (colD r)) : PMk K H0 d c C W Z zs n (xs ++ [v]) us (cs ++ [r]) ws (upd H C (.lst (xs ++ [v]))) :=
  ⟨P.st.put a.Cd.symm a.Cc.symm, kp_put P.kp a.nC, by rw [upd_ne a.CZ.symm]; exact P.hZ, upd_same, by rw [List.map_append]; exact dpAll_app (dpAll_lst P.hC (noL_map noL_col _) P.dC) (dpAll_lst P.hC ⟨noL_col r, trivial⟩ (.cons hv .nil)),
    by rw [upd_ne a.CW.symm]; exact P.hW, dpAll_lst P.hC (noL_map noL_wash _) P.dW⟩
theorem PMk.wash (P : PMk K H0 d c C W Z zs n xs us cs ws H) (a : PAp H0 d c C W Z) {v : V} {r : Wsh} (hv : Dp K H v (washD r)) : PMk K H0 d c C W Z zs n xs (us ++ [v]) cs (ws ++ [r]) (upd H W (.lst (us ++ [v]))) :=
  ⟨P.st.put a.Wd.symm a.Wc.symm, kp_put P.kp a.nW, by rw [upd_ne a.WZ.symm]; exact P.hZ, by rw [upd_ne a.CW]; exact P.hC, dpAll_lst P.hW (noL_map noL_col _) P.dC, upd_same,
    by rw [List.map_append]; exact dpAll_app (dpAll_lst P.hW (noL_map noL_wash _) P.dW) (dpAll_lst P.hW ⟨noL_wash r, trivial⟩ (.cons hv .nil))⟩
end

structure PalB (cs : List Col) (ws : List Wsh) : Prop where
  ok : PalOk cs ws
  ne : 0 < cs.length
  ch : ∀ c ∈ cs, 1 ≤ c.2.1 ∧ 0 ≤ c.2.2.1
  wa : ∀ r ∈ ws, ∃ i, r.2.2 = some i ∧ 0 ≤ i ∧ i ≤ 99
  wd : ∀ c ∈ cs, Nm c.1
theorem dp_offT {H : Hp} {d c : Addr} {n : Nat} {v : V} {e : PyData} (B : StAt H d c n) (h : noLAll.noL e) (p : Dp K H v e) : Dp K (off H [d, c]) v e := by
  obtain ⟨_, xs, t, h1, h2, _⟩ := B
  refine dp_go (fun a us h => ?_) h p
  have go : ∀ o, (H a = some (.tup us) ∨ H a = some (.frz o (.tup us))) → a ∉ [d, c] := fun o e z => by
    rcases List.mem_cons.mp z with z | z
    · subst z; rw [h1] at e; rcases e with e | e <;> cases e
    · rw [List.mem_singleton] at z; subst z; rw [h2] at e; rcases e with e | e <;> cases e
  rcases h with (h | ⟨o, h⟩) | h
  · exact .inl (.inl (by rw [off_out (go ⟨.none, none, .fields #[], #[]⟩ (.inl h))]; exact h))
  · exact .inl (.inr ⟨o, by rw [off_out (go o (.inr h))]; exact h⟩)
  · exact .inr h
abbrev s__law_palette : Stmt := topS 14
def n__law_palette : List Str := ["_law_state", "_law_most", "_law_never", "_law_names_here", "_law_colours", "_law_washes", "_law_name", "_law_charge", "_law_melt", "_law_other", "_law_hours", "_law_one"]
theorem sc__law_palette : FnScope n__law_palette ["_law_state", "_law_most", "_law_never"] (defScope s__law_palette) := ⟨rfl, rfl, rfl, by decide +kernel, rfl, by decide +kernel, by decide +kernel⟩
def spPalette (K : PySem.W.Frag) : Sp := fun vs H Q _ => ∃ (d c : Addr) (n : Nat) (most : Int), vs = [.ref d, .int most, .int 0] ∧ 1 ≤ most ∧ most ≤ 12 ∧ StAt H d c n ∧ n + 5000 < 2 ^ 40 ∧
  ∀ (H' : Hp) (v : V) (cs : List Col) (ws : List Wsh), StAt H' d c (n + 1500) → Sm [d, c] H H' → Dp K (off H' [d, c]) v (palD cs ws) → PalB cs ws → Q v H'
theorem ok_palette {f : Addr} {fd : FuncData} {k : Nat} (F : Fun K "_law_palette" "_law_palette" s__law_palette f fd) (T : Txt mg) (c__law_take : Cl P w K mg base (k + 1) "_law_take" spTake) (c__law_names : Cl P w K mg base (k + 2) "_law_names" spNames) : FnOk P w K mg base CX0 (k + 3) f fd ["_law_state", "_law_most", "_law_never"] (spPalette K) := by
  refine F.ok sc__law_palette (fun vs H Q E h => ?_) (fun cdv A outer s H vs Q E hr h => ?_)
  · obtain ⟨d, c, n, most, rfl, _⟩ := h
    rfl
  · obtain ⟨d, c, n, most, rfl, m0, m1, hS, hn, q⟩ := h
    have nd := sc__law_palette.nd
    refine ⟨_, (pss_cons (ps_par3 (i := 3) (j := 4) (l := 5) rfl nd rfl rfl rfl (by decide) (by decide) (by decide) rfl rfl rfl (pa_cons (pe_callB (kc_sortedS (K := K)) (by rfl) T.sorted (by decide +kernel) (pa_cons (pe_cl c__law_names hr (by omega) (by rfl) (pa_cons (pv 0) (pa_cons (pe_op op_add pe_int (pe_cl c__law_take hr (by omega) (by rfl) (pa_cons (pv 0) (pa_cons (pv 1) pa_nil)))) pa_nil))) pa_nil)) (pa_cons (pe_lst pa_nil) (pa_cons (pe_lst pa_nil) pa_nil))) rfl)
      (pss_cons (ps_for PassesOwn.never rfl (ki_list (K := K) (pv 3)) (pg_name (i := 6) nd rfl (.inr rfl))
          (pss_cons (ps_set (i := 7) nd rfl (.inl rfl) (pe_op op_add pe_int (pe_cl c__law_take hr (by omega) (by rfl) (pa_cons (pv 0) (pa_cons (pe_ix (kx_list (K := K)) (pe_lst (pa_cons pe_int (pa_cons pe_int pa_nil))) (pe_cl c__law_take hr (by omega) (by rfl) (pa_cons (pv 0) (pa_cons pe_int pa_nil))) (fun _ _ => rfl)) pa_nil)))))
          (pss_cons (ps_set (i := 8) nd rfl (.inl rfl) (pe_cl c__law_take hr (by omega) (by rfl) (pa_cons (pv 0) (pa_cons (pe_ix (kx_list (K := K)) (pe_lst (pa_cons pe_int (pa_cons pe_int (pa_cons pe_int pa_nil)))) (pe_cl c__law_take hr (by omega) (by rfl) (pa_cons (pv 0) (pa_cons pe_int pa_nil))) (fun _ _ => rfl)) pa_nil))))
          (pss_one (ps_expr (pe_bm PySem.F.plainAttrs_list PySem.F.slot_list_append PySem.F.type_list_append mt_append (pv 4) (pa_cons (pe_tup (pa_cons (pv 6) (pa_cons (pv 7) (pa_cons (pv 8) (pa_cons (pe_op op_add pe_int (pe_cl c__law_take hr (by omega) (by rfl) (pa_cons (pv 0) (pa_cons pe_int pa_nil)))) pa_nil))))) pa_nil)))))))
      (pss_cons (ps_for PassesOwn.never rfl (ki_list (K := K) (pv 3)) (pg_name (i := 6) nd rfl (.inr rfl))
          (pss_one (ps_for PassesOwn.never rfl (ki_list (K := K) (pe_lc (own := [("_law_one", 11)]) rfl nd (ki_list (K := K) (pv 3)) (blkOk_by (N := n__law_palette) (sc := defScope s__law_palette) (by decide +kernel)) (fun _ _ _ _ _ => (pg_name (i := 11) nd rfl (.inl rfl))) (fun _ _ _ _ _ => (pts_one ((pw_and (pt_cmpR op_ne (pv 11) (pv 6) (nomark _)) (pw_and1 (pt_cmpR op_eq (pe_cl c__law_take hr (by omega) (by rfl) (pa_cons (pv 0) (pa_cons pe_int pa_nil))) pe_int (nomark _))))).pt)) (fun _ _ _ _ _ => (pv 11)))) (pg_name (i := 9) nd rfl (.inl rfl))
              (pss_cons (ps_set (i := 10) nd rfl (.inl rfl) (pe_cl c__law_take hr (by omega) (by rfl) (pa_cons (pv 0) (pa_cons (pe_ix (kx_list (K := K)) (pe_lst (pa_cons pe_int (pa_cons pe_int pa_nil))) (pe_cl c__law_take hr (by omega) (by rfl) (pa_cons (pv 0) (pa_cons pe_int pa_nil))) (fun _ _ => rfl)) pa_nil))))
              (pss_one (ps_expr (pe_bm PySem.F.plainAttrs_list PySem.F.slot_list_append PySem.F.type_list_append mt_append (pv 5) (pa_cons (pe_tup (pa_cons (pv 6) (pa_cons (pv 9) (pa_cons (pe_ifExp ((pw_and (pt_cmpR op_gt (pv 2) pe_int (nomark _)) (pw_and1 (pt_cmpR op_eq (pe_cl c__law_take hr (by omega) (by rfl) (pa_cons (pv 0) (pa_cons (pv 2) pa_nil))) pe_int (nomark _))))).pt pe_non (pv 10)) pa_nil)))) pa_nil))))))))
      (pss_one (ps_ret (pe_tup (pa_cons (pe_callTy (kc_tuple (K := K)) (by rfl) T.tuple (by decide +kernel) (pa_cons (pv 4) pa_nil)) (pa_cons (pe_callTy (kc_tuple (K := K)) (by rfl) T.tuple (by decide +kernel) (pa_cons (pe_slice (kl_list (K := K)) (pv 5) po_none (po_some pe_int)) pa_nil)) pa_nil)))))))), ?_⟩
    -- names, sorted
    refine ⟨_, rfl, _, rfl, _, rfl, d, c, most, n, rfl, (by omega), (by omega), hS, by omega, fun H1 r1 r10 r11 B1 s1 => ⟨_, _, rfl, rfl, ?_⟩⟩
    obtain ⟨m, em⟩ : ∃ m : Nat, (1 : Int) + r1 = (m : Int) := ⟨(1 + r1).toNat, by omega⟩
    refine ⟨d, c, n + 1, m, (by show [V.ref d, V.int (1 + r1)] = _; rw [em]), B1, by omega, by omega, fun H2 N ys B2 s2 nN hN ly wy => ?_⟩
    have k2 : Kp d c H H2 := (sm_kp s1).trans (sm_kp s2)
    refine ⟨N, ys, rfl, SqL.of hN, (by omega), fun zs Z hz hsort nZ => ?_⟩
    have lz : zs.length ≤ 12 := by rw [hz.length_eq]; omega
    have lz1 : 1 ≤ zs.length := by rw [hz.length_eq]; omega
    have nz : ∀ y ∈ zs, Nm y := fun y hy => wy y (hz.mem_iff.mp hy)
    have wz : ∀ y ∈ zs, Wd 9 y := fun y hy => (nz y hy).1.mono (by decide)
    have nZ0 := k2.free B2 nZ
    have B3 := B2.same (same_upd (o := .lst (zs.map V.str)) nZ)
    have k3 := k2.trans (Kp.of (d := d) (c := c) (same_upd (o := .lst (zs.map V.str)) nZ))
    have hZ : upd H2 Z (.lst (zs.map V.str)) Z = some (.lst (zs.map V.str)) := upd_same
    generalize upd H2 Z (.lst (zs.map V.str)) = H3 at B3 k3 hZ ⊢
    refine ⟨Nat.zero_le _, fun C nC => ?_⟩
    have nC0 := k3.free B3 nC
    have B4 := B3.same (same_upd (o := .lst []) nC)
    have k4 := k3.trans (Kp.of (d := d) (c := c) (same_upd (o := .lst []) nC))
    have CZ : C ≠ Z := (ne_of_none hZ nC).symm
    have hZ := same_upd (o := .lst []) nC _ _ hZ
    have hC : upd H3 C (.lst []) C = some (.lst []) := upd_same
    generalize upd H3 C (.lst []) = H4 at B4 k4 hZ hC ⊢
    refine ⟨Nat.zero_le _, fun W nW => ⟨_, _, _, rfl, ?_⟩⟩
    have nW0 := k4.free B4 nW
    have WZ : W ≠ Z := (ne_of_none hZ nW).symm
    have CW : C ≠ W := ne_of_none hC nW
    have ap : PAp H d c C W Z := ⟨B3.nd nC, B3.nc nC, B4.nd nW, B4.nc nW, B2.nd nZ, B2.nc nZ, CW, CZ, WZ, nC0, nW0, nZ0⟩
    have start : PMk K H d c C W Z zs (n + 21) [] [] [] [] (upd H4 W (.lst [])) :=
      ⟨B4.same (same_upd nW), k4.trans (Kp.of (same_upd nW)), same_upd nW _ _ hZ, same_upd nW _ _ hC, .nil, upd_same, .nil⟩
    generalize upd H4 W (.lst []) = H5 at start ⊢
    -- colours
    refine ⟨_, rfl, Z, rfl, ⟨_, SqL.of start.hZ⟩, ?_⟩
    refine for_it (walk_list (xs := zs.map V.str)) (fun i σ H6 => ∃ v6 v7 v8 xs cs, σ = [some (.ref d), some (.int most), some (.int 0), some (.ref Z), some (.ref C), some (.ref W), v6, v7, v8, none, none, none] ∧ PMk K H d c C W Z zs (n + 21 + 5 * i) xs [] cs [] H6 ∧ PalOk cs [] ∧ cs.length = i ∧ ∀ x ∈ cs, (1 ≤ x.2.1 ∧ 0 ≤ x.2.2.1) ∧ Nm x.1)
      ⟨_, _, _, [], [], rfl, start, ⟨by decide, by decide, fun _ h => (List.not_mem_nil h).elim, fun _ h => (List.not_mem_nil h).elim⟩, rfl, fun _ h => (List.not_mem_nil h).elim⟩ (fun i σ H6 _ h => by obtain ⟨_, _, _, _, _, _, h, _⟩ := h; exact SqL.of h.hZ) ?_ ?_
    · rintro i x σ H6 H7 hi ⟨v6, v7, v8, xs, cs, rfl, M, ok, lcs, ch⟩ ⟨rfl, gx⟩
      rw [List.getElem?_map] at gx
      obtain ⟨z, gz, rfl⟩ := Option.map_eq_some_iff.mp gx
      have wz1 := wz z (List.mem_of_getElem? gz)
      rw [List.length_map] at hi
      -- charge
      refine ⟨_, rfl, (by show 2 ≤ sizeLine; decide), fun a1 na1 => ?_⟩
      have q1 := M.st.ne1 na1
      have q2 := M.st.ne2 na1
      have M := M.put (o := .lst [.int 3, .int 20]) na1
      have h1 : upd H7 a1 (.lst [.int 3, .int 20]) a1 = _ := upd_same
      generalize upd H7 a1 (.lst [.int 3, .int 20]) = H8 at M h1 ⊢
      refine ⟨_, rfl, d, c, 2, _, rfl, (by decide), (by decide), M.st, by omega, fun H9 r1 r10 r11 st9 s9 => ?_⟩
      obtain ⟨b1, e1, b10, b11⟩ : ∃ b1 : Int, atI [V.int 3, .int 20] r1 = some (.int b1) ∧ 0 < b1 ∧ b1 ≤ 20 := by
        have h : r1 = 0 ∨ r1 = 1 := by omega
        rcases h with rfl | rfl
        · exact ⟨3, rfl, by decide, by decide⟩
        · exact ⟨20, rfl, by decide, by decide⟩
      refine ⟨a1, _, r1, .int b1, rfl, rfl, SqL.of (sm2_at s9 q1.symm q2.symm h1), e1, ?_⟩
      have M := M.drawn ap st9 (sm_kp s9)
      refine ⟨d, c, b1, _, rfl, b10, by omega, M.st, by omega, fun H10 ch_ c0 c1 st10 s10 => ⟨_, _, rfl, rfl, ?_⟩⟩
      have M := M.drawn ap st10 (sm_kp s10)
      -- melt
      refine ⟨_, rfl, (by show 3 ≤ sizeLine; decide), fun a2 na2 => ?_⟩
      have q3 := M.st.ne1 na2
      have q4 := M.st.ne2 na2
      have M := M.put (o := .lst [.int 1, .int 5, .int 100]) na2
      have h2 : upd H10 a2 (.lst [.int 1, .int 5, .int 100]) a2 = _ := upd_same
      generalize upd H10 a2 (.lst [.int 1, .int 5, .int 100]) = H11 at M h2 ⊢
      refine ⟨_, rfl, d, c, 3, _, rfl, (by decide), (by decide), M.st, by omega, fun H12 r2 r20 r21 st12 s12 => ?_⟩
      obtain ⟨b2, e2, b20, b21⟩ : ∃ b2 : Int, atI [V.int 1, .int 5, .int 100] r2 = some (.int b2) ∧ 0 < b2 ∧ b2 ≤ 100 := by
        have h : r2 = 0 ∨ r2 = 1 ∨ r2 = 2 := by omega
        rcases h with rfl | rfl | rfl
        · exact ⟨1, rfl, by decide, by decide⟩
        · exact ⟨5, rfl, by decide, by decide⟩
        · exact ⟨100, rfl, by decide, by decide⟩
      refine ⟨a2, _, r2, .int b2, rfl, rfl, SqL.of (sm2_at s12 q3.symm q4.symm h2), e2, ?_⟩
      have M := M.drawn ap st12 (sm_kp s12)
      refine ⟨d, c, b2, _, rfl, b20, by omega, M.st, by omega, fun H13 me d0 d1 st13 s13 => ?_⟩
      have M := M.drawn ap st13 (sm_kp s13)
      -- append
      refine ⟨_, rfl, .inl ⟨rfl, _, SqL.of M.hC⟩, _, rfl, _, rfl, _, rfl, _, rfl, d, c, 999, _, rfl, (by decide), (by decide), M.st, by omega, fun H14 ga g0 g1 st14 s14 => ⟨_, _, rfl, rfl, (by show 4 ≤ sizeLine; decide), fun t nt => ?_⟩⟩
      have M := M.drawn ap st14 (sm_kp s14)
      have M := M.put (o := .tup [.str z, .int (1 + ch_), .int me, .int (1 + ga)]) nt
      have ht : upd H14 t (.tup [.str z, .int (1 + ch_), .int me, .int (1 + ga)]) t = _ := upd_same
      generalize upd H14 t (.tup [.str z, .int (1 + ch_), .int me, .int (1 + ga)]) = H15 at M ht ⊢
      have hv : Dp K H15 (.ref t) (colD (z, 1 + ch_, me, 1 + ga)) := .tup (.inl (.inl ht)) (.cons (.str _) (.cons (.int _) (.cons (.int _) (.cons (.int _) .nil))))
      have lxs : xs.length = i := by rw [dpAll_map_len M.dC]; exact lcs
      refine ⟨C, _, _, rfl, rfl, M.hC, (by rw [lxs]; exact Nat.lt_of_lt_of_le (show i < 12 by omega) (by decide)), ?_⟩
      have M := M.colour ap hv
      refine ⟨_, _, _, _, cs ++ [((z, 1 + ch_, me, 1 + ga) : Col)], rfl, M.mono (by omega), ok.addC (c := (z, 1 + ch_, me, 1 + ga)) (by omega) ⟨wz1.1, wd_codes wz1, by show (1 + ch_).natAbs < 10000; omega, by show me.natAbs < 10000; omega, by show (1 + ga).natAbs < 10000; omega⟩, by rw [List.length_append, lcs]; rfl, fun x hx => ?_⟩
      rcases List.mem_append.mp hx with h | h
      · exact ch x h
      · rw [List.mem_singleton.mp h]; exact ⟨⟨by show 1 ≤ 1 + ch_; omega, d0⟩, nz z (List.mem_of_getElem? gz)⟩
    · rintro σ H6 ⟨v6, v7, v8, xs, cs, rfl, M, ok, lcs, ch⟩
      rw [List.length_map] at lcs
      have M := M.mono (show _ ≤ n + 100 by rw [List.length_map]; omega)
      -- washes
      refine ⟨_, rfl, Z, rfl, ⟨_, SqL.of M.hZ⟩, ?_⟩
      refine for_it (walk_list (xs := zs.map V.str)) (fun i σ H7 => ∃ v6 v9 v10 us ws, σ = [some (.ref d), some (.int most), some (.int 0), some (.ref Z), some (.ref C), some (.ref W), v6, v7, v8, v9, v10, none] ∧ PMk K H d c C W Z zs (n + 100 + 40 * i) xs us cs ws H7 ∧ ws.length ≤ 12 * i ∧ ∀ r ∈ ws, Wd 9 r.1 ∧ Wd 9 r.2.1 ∧ ∃ h : Int, r.2.2 = some h ∧ 0 ≤ h ∧ h ≤ 99)
        ⟨_, _, _, [], [], rfl, M, Nat.le_refl _, fun _ h => (List.not_mem_nil h).elim⟩ (fun i σ H7 _ h => by obtain ⟨_, _, _, _, _, _, h, _⟩ := h; exact SqL.of h.hZ) ?_ ?_
      · rintro i x σ H7 H8 hi ⟨v6, v9, v10, us, ws, rfl, M, lws, bws⟩ ⟨rfl, gx⟩
        rw [List.getElem?_map] at gx
        obtain ⟨z, gz, rfl⟩ := Option.map_eq_some_iff.mp gx
        have wz1 := wz z (List.mem_of_getElem? gz)
        rw [List.length_map] at hi
        refine ⟨_, rfl, Z, rfl, ⟨_, SqL.of M.hZ⟩, fun D nD => ?_⟩
        have Dd := M.st.nd nD
        have Dc := M.st.nc nD
        have DW : W ≠ D := ne_of_none M.hW nD
        have DC : C ≠ D := ne_of_none M.hC nD
        have DZ : Z ≠ D := ne_of_none M.hZ nD
        have nD0 := M.kp.free M.st nD
        have wr : ∀ {Hc : Hp} {m2 : Nat} {l1 l2 : List V}, PMk K H d c C W Z zs m2 xs us cs ws Hc → Hc D = some (.lst l1) → PMk K H d c C W Z zs m2 xs us cs ws (upd Hc D (.lst l2)) := fun {Hc m2 l1 l2} P hD =>
          ⟨P.st.put Dd.symm Dc.symm, kp_put P.kp nD0, by rw [upd_ne DZ]; exact P.hZ, by rw [upd_ne DC]; exact P.hC, dpAll_lst hD (noL_map noL_col _) P.dC, by rw [upd_ne DW]; exact P.hW, dpAll_lst hD (noL_map noL_wash _) P.dW⟩
        refine lc_it (walk_list (xs := zs.map V.str)) (fun j H9 => PMk K H d c C W Z zs (n + 100 + 40 * i + j) xs us cs ws H9 ∧ ∃ os : List Str, H9 D = some (.lst (os.map V.str)) ∧ os.length ≤ j ∧ ∀ y ∈ os, Wd 9 y) ⟨M.put nD, [], upd_same, Nat.le_refl _, fun _ h => (List.not_mem_nil h).elim⟩ (fun j H9 _ h => SqL.of h.1.hZ) ?_ ?_
        · rintro j y H9 H10 hj ⟨M, os, hD, lo, wo⟩ ⟨rfl, gy⟩
          rw [List.getElem?_map] at gy
          obtain ⟨y0, gy0, rfl⟩ := Option.map_eq_some_iff.mp gy
          have wy0 := wz y0 (List.mem_of_getElem? gy0)
          rw [List.length_map] at hj
          refine ⟨rfl, _, rfl, _, rfl, rfl, _, rfl, ite2 (fun c1 => ?_) (fun c1 => iteF ⟨M.mono (by omega), os, hD, by omega, wo⟩)⟩
          refine ⟨_, rfl, d, c, 3, _, rfl, (by decide), (by decide), M.st, by omega, fun H11 r3 _ _ st11 s11 => ⟨rfl, _, rfl, ?_⟩⟩
          have M := M.drawn ap st11 (sm_kp s11)
          have hD := sm2_at s11 Dd Dc hD
          refine ite2 (fun c2 => ?_) (fun c2 => ⟨M.mono (by omega), os, hD, by omega, wo⟩)
          refine ⟨_, rfl, _, hD, (by rw [List.length_map, sizeLine_eq]; omega), (wr M hD).mono (by omega), os ++ [y0], (by rw [upd_same, List.map_append]; rfl), by rw [List.length_append]; simp only [List.length_cons, List.length_nil]; omega, fun y hy => ?_⟩
          rcases List.mem_append.mp hy with h | h
          · exact wo y h
          · rw [List.mem_singleton.mp h]; exact wy0
        rintro H9 ⟨M, os, hD, lo, wo⟩
        rw [List.length_map] at M lo
        have M := M.mono (show _ ≤ n + 100 + 40 * i + 12 by omega)
        refine ⟨D, rfl, ⟨_, SqL.of hD⟩, ?_⟩
        refine for_it (walk_list (xs := os.map V.str)) (fun j σ H10 => ∃ v9 v10 us ws, σ = [some (.ref d), some (.int most), some (.int 0), some (.ref Z), some (.ref C), some (.ref W), some (.str z), v7, v8, v9, v10, none] ∧ PMk K H d c C W Z zs (n + 100 + 40 * i + 12 + 2 * j) xs us cs ws H10 ∧ H10 D = some (.lst (os.map V.str)) ∧ ws.length ≤ 12 * i + j ∧ ∀ r ∈ ws, Wd 9 r.1 ∧ Wd 9 r.2.1 ∧ ∃ h : Int, r.2.2 = some h ∧ 0 ≤ h ∧ h ≤ 99)
          ⟨_, _, us, ws, rfl, M, hD, lws, bws⟩ (fun j σ H10 _ h => by obtain ⟨_, _, _, _, _, _, h, _⟩ := h; exact SqL.of h) ?_ ?_
        · rintro j y σ H10 H11 hj ⟨v9, v10, us, ws, rfl, M, hD, lws, bws⟩ ⟨rfl, gy⟩
          rw [List.getElem?_map] at gy
          obtain ⟨y0, gy0, rfl⟩ := Option.map_eq_some_iff.mp gy
          have wy0 := wo y0 (List.mem_of_getElem? gy0)
          rw [List.length_map] at hj
          refine ⟨_, rfl, (by show 2 ≤ sizeLine; decide), fun a1 na1 => ?_⟩
          have q1 := M.st.ne1 na1
          have q2 := M.st.ne2 na1
          have M := M.put (o := .lst [.int 4, .int 100]) na1
          have hD := same_upd (o := .lst [.int 4, .int 100]) na1 _ _ hD
          have h1 : upd H11 a1 (.lst [.int 4, .int 100]) a1 = _ := upd_same
          generalize upd H11 a1 (.lst [.int 4, .int 100]) = H12 at M h1 hD ⊢
          refine ⟨_, rfl, d, c, 2, _, rfl, (by decide), (by decide), M.st, by omega, fun H13 r1 r10 r11 st13 s13 => ?_⟩
          obtain ⟨b1, e1, b10, b11⟩ : ∃ b1 : Int, atI [V.int 4, .int 100] r1 = some (.int b1) ∧ 0 < b1 ∧ b1 ≤ 100 := by
            have h : r1 = 0 ∨ r1 = 1 := by omega
            rcases h with rfl | rfl
            · exact ⟨4, rfl, by decide, by decide⟩
            · exact ⟨100, rfl, by decide, by decide⟩
          refine ⟨a1, _, r1, .int b1, rfl, rfl, SqL.of (sm2_at s13 q1.symm q2.symm h1), e1, ?_⟩
          have M := M.drawn ap st13 (sm_kp s13)
          have hD := sm2_at s13 Dd Dc hD
          refine ⟨d, c, b1, _, rfl, b10, by omega, M.st, by omega, fun H14 ho c0 c1 st14 s14 => ?_⟩
          have M := M.drawn ap st14 (sm_kp s14)
          have hD := sm2_at s14 Dd Dc hD
          refine ⟨_, rfl, .inl ⟨rfl, _, SqL.of M.hW⟩, _, rfl, _, rfl, _, rfl, _, _, rfl, rfl, _, rfl, iteF (iteF ⟨_, rfl, (by show 3 ≤ sizeLine; decide), fun g ng => ?_⟩)⟩
          have hD := same_upd (o := .tup [.str z, .str y0, .int ho]) ng _ _ hD
          have M := M.put (o := .tup [.str z, .str y0, .int ho]) ng
          have hg : upd H14 g (.tup [.str z, .str y0, .int ho]) g = _ := upd_same
          generalize upd H14 g (.tup [.str z, .str y0, .int ho]) = H15 at M hg hD ⊢
          have hv2 : Dp K H15 (.ref g) (washD (z, y0, some ho)) := .tup (.inl (.inl hg)) (.cons (.str _) (.cons (.str _) (.cons (.int _) .nil)))
          refine ⟨W, _, _, rfl, rfl, M.hW, (by rw [dpAll_map_len M.dW, sizeLine_eq]; omega), ?_⟩
          refine ⟨_, _, _, ws ++ [((z, y0, some ho) : Wsh)], rfl, (M.wash ap hv2).mono (by omega), by rw [upd_ne DW.symm]; exact hD, by rw [List.length_append]; simp only [List.length_cons, List.length_nil]; omega, fun r hr => ?_⟩
          rcases List.mem_append.mp hr with h | h
          · exact bws r h
          · rw [List.mem_singleton.mp h]; exact ⟨wz1, wy0, ho, rfl, c0, by omega⟩
        · rintro σ H10 ⟨v9, v10, us, ws, rfl, M, hD, lws, bws⟩
          rw [List.length_map] at M lws
          exact ⟨_, _, _, us, ws, rfl, M.mono (by omega), by omega, bws⟩
      · rintro σ H7 ⟨v6, v9, v10, us, ws, rfl, M, lws, bws⟩
        rw [List.length_map] at M lws
        refine ⟨_, rfl, C, _, rfl, .inl ⟨SqL.of M.hC, fun t1 n1 => ?_⟩⟩
        have M := M.put (o := .tup xs) n1
        have h1 : upd H7 t1 (.tup xs) t1 = _ := upd_same
        generalize upd H7 t1 (.tup xs) = H8 at M h1 ⊢
        refine ⟨_, rfl, 60, rfl, W, _, rfl, SqL.of M.hW, fun e ne => ?_⟩
        have ec : cutV us none (some 60) = us.take 60 := by rw [show (60 : Int) = ((60 : Nat) : Int) from rfl, cut_head]
        rw [ec]
        have M := M.put (o := .lst (us.take 60)) ne
        have h1 := same_upd (o := .lst (us.take 60)) ne _ _ h1
        have he : upd H8 e (.lst (us.take 60)) e = _ := upd_same
        generalize upd H8 e (.lst (us.take 60)) = H9 at M h1 he ⊢
        refine ⟨e, _, rfl, .inl ⟨SqL.of he, fun t2 n2 => ⟨(by show 2 ≤ sizeLine; decide), fun t3 n3 => ?_⟩⟩⟩
        have h1 := same_upd (o := .tup (us.take 60)) n2 _ _ h1
        have M := M.put (o := .tup (us.take 60)) n2
        have h2 : upd H9 t2 (.tup (us.take 60)) t2 = _ := upd_same
        generalize upd H9 t2 (.tup (us.take 60)) = H10 at M h1 h2 n3 ⊢
        have h1 := same_upd (o := .tup [.ref t1, .ref t2]) n3 _ _ h1
        have h2 := same_upd (o := .tup [.ref t1, .ref t2]) n3 _ _ h2
        have M := M.put (o := .tup [.ref t1, .ref t2]) n3
        have h3 : upd H10 t3 (.tup [.ref t1, .ref t2]) t3 = _ := upd_same
        generalize upd H10 t3 (.tup [.ref t1, .ref t2]) = H11 at M h1 h2 h3 ⊢
        have dW : DpAll K H11 (us.take 60) ((ws.take 60).map washD) := by rw [List.map_take]; exact dpAll_take _ M.dW
        have dp : Dp K H11 (.ref t3) (palD cs (ws.take 60)) := .tup (.inl (.inl h3)) (.cons (.tup (.inl (.inl h1)) M.dC) (.cons (.tup (.inl (.inl h2)) dW) .nil))
        have pb : PalB cs (ws.take 60) := by
          refine ⟨⟨ok.nc, List.length_take_le .., ok.cn, fun r hr => ?_⟩, by omega, (fun c h => (ch c h).1), (fun r hr => ?_), fun c h => (ch c h).2⟩
          · obtain ⟨w1, w2, h, e, h0, h9⟩ := bws r (List.mem_of_mem_take hr)
            exact ⟨⟨w1.1, wd_codes w1⟩, ⟨w2.1, wd_codes w2⟩, fun i ei => by rw [e] at ei; cases ei; omega⟩
          · obtain ⟨w1, w2, h, e, h0, h9⟩ := bws r (List.mem_of_mem_take hr)
            exact ⟨h, e, h0, h9⟩
        exact q _ _ cs (ws.take 60) (M.st.mono (by omega)) (kp_sm M.kp) (dp_offT M.st (noL_pal _ _) dp) pb

end
end Pot

namespace Pot
open PySem PySem.Spec PyProof.Rows L2
section
variable {P : Program} {w : World} {K : PySem.W.Frag} {mg : Str → Option Value} {base : Heap}
abbrev Row := Str × Str × Str × Int
def rowD (r : Row) : PyData := .tuple [.str r.1, .str r.2.1, .str r.2.2.1, .int r.2.2.2]
theorem noL_row (r : Row) : noLAll.noL (rowD r) := ⟨trivial, trivial, trivial, trivial, trivial⟩
structure RowsOk (cs : List Col) (rows : List Row) : Prop where
  one : 1 ≤ rows.length
  most : rows.length ≤ 12
  each : ∀ r ∈ rows, Nm r.1 ∧ Nm r.2.1 ∧ Nm r.2.2.1 ∧ (∃ c ∈ cs, c.1 = r.2.2.1) ∧ 1 ≤ r.2.2.2 ∧ r.2.2.2 ≤ 99
theorem row_dp {H : Hp} {v : V} {r : Row} (h : Dp K H v (rowD r)) : ∃ a, v = .ref a ∧ SqT K H a [.str r.1, .str r.2.1, .str r.2.2.1, .int r.2.2.2] := by
  obtain ⟨a, xs, rfl, hs, ha⟩ := dp_tup h
  obtain ⟨x, y, z, u, rfl, h1, h2, h3, h4⟩ := dp_four ha
  rw [dp_str h1, dp_str h2, dp_str h3, dp_int h4] at hs
  exact ⟨a, rfl, hs⟩
abbrev s__law_rows : Stmt := topS 15
def n__law_rows : List Str := ["_law_state", "_law_palette_here", "_law_names_here", "_law_rows_here", "_law_pots", "_law_teams", "_law_k", "_law_colour", "_law_hours", "_law_row"]
theorem sc__law_rows : FnScope n__law_rows ["_law_state", "_law_palette_here"] (defScope s__law_rows) := ⟨rfl, rfl, rfl, by decide +kernel, rfl, by decide +kernel, by decide +kernel⟩
def spRows (K : PySem.W.Frag) : Sp := fun vs H Q _ => ∃ (d c : Addr) (n : Nat) (v : V) (cs : List Col) (ws : List Wsh), vs = [.ref d, v] ∧ StAt H d c n ∧ n + 5000 < 2 ^ 40 ∧ Dp K (off H [d, c]) v (palD cs ws) ∧ PalB cs ws ∧ (∀ x ∈ cs, Nm x.1) ∧
  ∀ (H' : Hp) (R : Addr) (xs : List V) (rows : List Row), StAt H' d c (n + 300) → Sm [d, c] H H' → H R = none → H' R = some (.lst xs) → DpAll K (off H' [R, d, c]) xs (rows.map rowD) → RowsOk cs rows → Q (.ref R) H'
theorem ok_rows {f : Addr} {fd : FuncData} {k : Nat} (F : Fun K "_law_rows" "_law_rows" s__law_rows f fd) (T : Txt mg) (c__law_take : Cl P w K mg base (k + 1) "_law_take" spTake) (c__law_names : Cl P w K mg base (k + 2) "_law_names" spNames) : FnOk P w K mg base CX0 (k + 3) f fd ["_law_state", "_law_palette_here"] (spRows K) := by
  refine F.ok sc__law_rows (fun vs H Q E h => ?_) (fun cdv A outer s H vs Q E hr h => ?_)
  · obtain ⟨d, c, n, v, cs, ws, rfl, _⟩ := h
    rfl
  · obtain ⟨d, c, n, v, cs, ws, rfl, B, hn, dp, pb, wcs, q⟩ := h
    have nd := sc__law_rows.nd
    refine ⟨_, (pss_cons (ps_par (i := 2) (j := 3) rfl nd rfl rfl (by decide) rfl rfl (pa_cons (pe_lc (own := [("_law_row", 9)]) rfl nd (ki_tup (K := K) (pe_ix (kx_tup (K := K)) (pv 1) pe_int (fun _ _ => rfl))) (blkOk_by (N := n__law_rows) (sc := defScope s__law_rows) (by decide +kernel)) (fun _ _ _ _ _ => (pg_name (i := 9) nd rfl (.inl rfl))) (fun _ _ _ _ _ => pts_nil) (fun _ _ _ _ _ => (pe_ix (kx_tup (K := K)) (pv 9) pe_int (fun _ _ => rfl)))) (pa_cons (pe_lst pa_nil) pa_nil)) rfl)
      (pss_cons (ps_par (i := 4) (j := 5) rfl nd rfl rfl (by decide) rfl rfl (pa_cons (pe_cl c__law_names hr (by omega) (by rfl) (pa_cons (pv 0) (pa_cons (pe_op op_add pe_int (pe_cl c__law_take hr (by omega) (by rfl) (pa_cons (pv 0) (pa_cons pe_int pa_nil)))) pa_nil))) (pa_cons (pe_cl c__law_names hr (by omega) (by rfl) (pa_cons (pv 0) (pa_cons (pe_op op_add pe_int (pe_cl c__law_take hr (by omega) (by rfl) (pa_cons (pv 0) (pa_cons pe_int pa_nil)))) pa_nil))) pa_nil)) rfl)
      (pss_cons (ps_for PassesOwn.never rfl (pi_range1 (by rfl) T.range (pa_cons (pe_op op_add pe_int (pe_cl c__law_take hr (by omega) (by rfl) (pa_cons (pv 0) (pa_cons (pe_ix (kx_list (K := K)) (pe_lst (pa_cons pe_int (pa_cons pe_int pa_nil))) (pe_cl c__law_take hr (by omega) (by rfl) (pa_cons (pv 0) (pa_cons pe_int pa_nil))) (fun _ _ => rfl)) pa_nil)))) pa_nil)) (pg_name (i := 6) nd rfl (.inl rfl))
          (pss_cons (ps_par (i := 7) (j := 8) rfl nd rfl rfl (by decide) rfl rfl (pa_cons (pe_ix (kx_list (K := K)) (pv 2) (pe_cl c__law_take hr (by omega) (by rfl) (pa_cons (pv 0) (pa_cons (pe_callB (kc_len (K := K)) (by rfl) T.len PySem.boot_len (pa_cons (pv 2) pa_nil)) pa_nil))) (fun _ _ => rfl)) (pa_cons (pe_op op_add pe_int (pe_cl c__law_take hr (by omega) (by rfl) (pa_cons (pv 0) (pa_cons (pe_ix (kx_list (K := K)) (pe_lst (pa_cons pe_int (pa_cons pe_int pa_nil))) (pe_cl c__law_take hr (by omega) (by rfl) (pa_cons (pv 0) (pa_cons pe_int pa_nil))) (fun _ _ => rfl)) pa_nil)))) pa_nil)) rfl)
          (pss_one (ps_expr (pe_bm PySem.F.plainAttrs_list PySem.F.slot_list_append PySem.F.type_list_append mt_append (pv 3) (pa_cons (pe_tup (pa_cons (pe_ix (kx_list (K := K)) (pv 4) (pe_cl c__law_take hr (by omega) (by rfl) (pa_cons (pv 0) (pa_cons (pe_callB (kc_len (K := K)) (by rfl) T.len PySem.boot_len (pa_cons (pv 4) pa_nil)) pa_nil))) (fun _ _ => rfl)) (pa_cons (pe_ix (kx_list (K := K)) (pv 5) (pe_cl c__law_take hr (by omega) (by rfl) (pa_cons (pv 0) (pa_cons (pe_callB (kc_len (K := K)) (by rfl) T.len PySem.boot_len (pa_cons (pv 5) pa_nil)) pa_nil))) (fun _ _ => rfl)) (pa_cons (pv 7) (pa_cons (pv 8) pa_nil))))) pa_nil))))))
      (pss_one (ps_ret (pv 3)))))), ?_⟩
    have lv := Live.two B
    have sc : Sm [d, c] H H := Same.refl _
    obtain ⟨S, eS⟩ : ∃ S, S = [d, c] := ⟨_, rfl⟩
    have hd : d ∈ S := by rw [eS]; simp
    have hc : c ∈ S := by rw [eS]; simp
    rw [← eS] at lv dp
    obtain ⟨p, ca, w2, xs, ys, rfl, hp, hca, hx, hw, hy⟩ := pal_dp (dp_off dp)
    have lx : xs.length = cs.length := dpAll_map_len hx
    have l20 := pb.ok.nc
    -- names
    refine ⟨_, rfl, p, _, 0, .ref ca, rfl, rfl, hp, rfl, ca, rfl, ⟨_, hca⟩, fun D nD => ?_⟩
    refine lc_it (walk_tup (xs := xs)) (PvL H D fun i => ((cs.map (·.1)).take i).map V.str) (pv_start nD rfl) (fun i H2 _ h => same_tup h.1 hca) ?_ ?_
    · rintro i x H2 H3 hi pv ⟨rfl, gx⟩
      obtain ⟨e, ge, de⟩ := dpAll_map_at hx gx
      obtain ⟨r, rfl, hr2⟩ := col_dp de
      refine ⟨rfl, tYes_at ?_⟩
      rw [if_pos rfl]
      refine ⟨_, rfl, r, _, 0, _, rfl, rfl, same_tup pv.1 hr2, rfl, ?_⟩
      exact pv_put nD pv (Same.refl _) (take_map V.str (by rw [List.getElem?_map, ge]; rfl)) (take_len_le (by rw [List.length_map]; omega))
    intro H2 pv
    obtain ⟨s2, hD⟩ := pv_end pv (take_all (by rw [List.length_map, lx]; exact Nat.le_refl _))
    have Dn := lv.out nD
    have lv := lv.same s2
    have sc := sc.trans (sm_of (S := [d, c]) s2)
    have B := B.same s2
    have fD : off H2 S D = some (.lst ((cs.map (·.1)).map V.str)) := by rw [off_out Dn]; exact hD
    refine ⟨Nat.zero_le _, fun R nR => ⟨_, _, rfl, ?_⟩⟩
    have nR0 := st_free sc B nR
    have DR : D ≠ R := ne_of_none hD nR
    have Rd := B.nd nR
    have Rc := B.nc nR
    have fR := off_new (o := .lst []) lv nR
    have lv := lv.put (o := .lst []) nR
    have B := B.same (same_upd (o := .lst []) nR)
    have sc := sc.trans (sm_put (S := [d, c]) (o := .lst []) nR)
    have fD := (sm_put (S := S) (o := .lst []) nR) _ _ fD
    generalize upd H2 R (.lst []) = H3 at fR lv B sc fD ⊢
    -- pots, teams
    refine ⟨_, rfl, _, rfl, d, c, 6, n, rfl, (by decide), (by decide), B, by omega, fun H4 r4 c40 c41 B4 s4 => ⟨_, _, rfl, rfl, ?_⟩⟩
    have lv := lv.st B4 s4
    have sc := sc.trans s4
    have B := B4
    have fD := (sm_two hd hc s4) _ _ fD
    have fR := (sm_two hd hc s4) _ _ fR
    obtain ⟨m4, em4⟩ : ∃ m4 : Nat, (1 : Int) + r4 = (m4 : Int) := ⟨(1 + r4).toNat, by omega⟩
    refine ⟨d, c, n + 1, m4, (by show [V.ref d, V.int (1 + r4)] = _; rw [em4]), B, by omega, by omega, fun H5 P1 ps B5 s5 nP1 hP1 lps wps => ?_⟩
    have P1n : P1 ∉ S := lv.out nP1
    have PR : P1 ≠ R := (ne_of_none (at_off fR) nP1).symm
    have lv := lv.st B5 s5
    have sc := sc.trans s5
    have B := B5
    have fD := (sm_two hd hc s5) _ _ fD
    have fR := (sm_two hd hc s5) _ _ fR
    have fP : off H5 S P1 = some (.lst (ps.map V.str)) := by rw [off_out P1n]; exact hP1
    refine ⟨_, rfl, _, rfl, d, c, 5, _, rfl, (by decide), (by decide), B, by omega, fun H6 r6 c60 c61 B6 s6 => ⟨_, _, rfl, rfl, ?_⟩⟩
    have lv := lv.st B6 s6
    have sc := sc.trans s6
    have B := B6
    have fD := (sm_two hd hc s6) _ _ fD
    have fR := (sm_two hd hc s6) _ _ fR
    have fP := (sm_two hd hc s6) _ _ fP
    obtain ⟨m6, em6⟩ : ∃ m6 : Nat, (1 : Int) + r6 = (m6 : Int) := ⟨(1 + r6).toNat, by omega⟩
    refine ⟨d, c, _, m6, (by show [V.ref d, V.int (1 + r6)] = _; rw [em6]), B, by omega, by omega, fun H7 T1 ts B7 s7 nT1 hT1 lts wts => ⟨_, _, rfl, ?_⟩⟩
    have T1n : T1 ∉ S := lv.out nT1
    have TR : T1 ≠ R := (ne_of_none (at_off fR) nT1).symm
    have lv := lv.st B7 s7
    have sc := sc.trans s7
    have B := B7
    have fD := (sm_two hd hc s7) _ _ fD
    have fR := (sm_two hd hc s7) _ _ fR
    have fP := (sm_two hd hc s7) _ _ fP
    have fT : off H7 S T1 = some (.lst (ts.map V.str)) := by rw [off_out T1n]; exact hT1
    -- how many
    refine ⟨_, rfl, (by show 2 ≤ sizeLine; decide), fun a1 na1 => ?_⟩
    have fa1 := off_new (o := .lst [.int 4, .int 12]) lv na1
    have lv := lv.put (o := .lst [.int 4, .int 12]) na1
    have B := B.same (same_upd (o := .lst [.int 4, .int 12]) na1)
    have sc := sc.trans (sm_put (S := [d, c]) (o := .lst [.int 4, .int 12]) na1)
    have fD := (sm_put (S := S) (o := .lst [.int 4, .int 12]) na1) _ _ fD
    have fR := (sm_put (S := S) (o := .lst [.int 4, .int 12]) na1) _ _ fR
    have fP := (sm_put (S := S) (o := .lst [.int 4, .int 12]) na1) _ _ fP
    have fT := (sm_put (S := S) (o := .lst [.int 4, .int 12]) na1) _ _ fT
    generalize upd H7 a1 (.lst [.int 4, .int 12]) = H8 at fa1 lv B sc fD fR fP fT ⊢
    refine ⟨_, rfl, d, c, 2, _, rfl, (by decide), (by decide), B, by omega, fun H9 r9 c90 c91 B9 s9 => ?_⟩
    have lv := lv.st B9 s9
    have sc := sc.trans s9
    have B := B9
    have fD := (sm_two hd hc s9) _ _ fD
    have fR := (sm_two hd hc s9) _ _ fR
    have fP := (sm_two hd hc s9) _ _ fP
    have fT := (sm_two hd hc s9) _ _ fT
    have fa1 := (sm_two hd hc s9) _ _ fa1
    obtain ⟨b1, e1, b10, b11⟩ : ∃ b1 : Int, atI [V.int 4, .int 12] r9 = some (.int b1) ∧ 0 < b1 ∧ b1 ≤ 12 := by
      have h : r9 = 0 ∨ r9 = 1 := by omega
      rcases h with rfl | rfl
      · exact ⟨4, rfl, by decide, by decide⟩
      · exact ⟨12, rfl, by decide, by decide⟩
    refine ⟨a1, _, r9, .int b1, rfl, rfl, SqL.of (at_off fa1), e1, ?_⟩
    refine ⟨d, c, b1, _, rfl, b10, by omega, B, by omega, fun H10 r10 c100 c101 B10 s10 => ⟨_, _, rfl, rfl, _, rfl, (by omega), (by omega), ?_⟩⟩
    have lv := lv.st B10 s10
    have sc := sc.trans s10
    have B := B10
    have fD := (sm_two hd hc s10) _ _ fD
    have fR := (sm_two hd hc s10) _ _ fR
    have fP := (sm_two hd hc s10) _ _ fP
    have fT := (sm_two hd hc s10) _ _ fT
    have ne : ∀ {z : Addr} {o : HO}, off H10 S z = some o → z ≠ R → off H10 [R, d, c] z = some o := fun {z o} h h2 => by
      have h3 := off_mem h
      rw [eS] at h3
      rw [off_out (by simp at h3 ⊢; exact ⟨h2, h3⟩)]
      exact at_off h
    have fD := ne fD DR
    have fP := ne fP PR
    have fT := ne fT TR
    have hR := at_off fR
    have hd' : d ∈ [R, d, c] := by simp
    have hc' : c ∈ [R, d, c] := by simp
    refine for_it walk_range (fun i σ H11 => ∃ v6 v7 v8 us rows, σ = [some (.ref d), some (.ref p), some (.ref D), some (.ref R), some (.ref P1), some (.ref T1), v6, v7, v8, none] ∧ StAt H11 d c (n + 100 + 10 * i) ∧ Sm [d, c] H H11 ∧ off H11 [R, d, c] D = some (.lst ((cs.map (·.1)).map V.str)) ∧ off H11 [R, d, c] P1 = some (.lst (ps.map V.str)) ∧ off H11 [R, d, c] T1 = some (.lst (ts.map V.str)) ∧ H11 R = some (.lst us) ∧ DpAll K (off H11 [R, d, c]) us (rows.map rowD) ∧ rows.length = i ∧ ∀ r ∈ rows, Nm r.1 ∧ Nm r.2.1 ∧ Nm r.2.2.1 ∧ (∃ c ∈ cs, c.1 = r.2.2.1) ∧ 1 ≤ r.2.2.2 ∧ r.2.2.2 ≤ 99)
      ⟨_, _, _, [], [], rfl, B.mono (by omega), sc, fD, fP, fT, hR, .nil, rfl, fun _ h => (List.not_mem_nil h).elim⟩ (fun _ _ _ _ _ => trivial) ?_ ?_
    · rintro i x σ H11 H12 hi ⟨v6, v7, v8, us, rows, rfl, B, sc, fD, fP, fT, hR, dr, lr, br⟩ ⟨rfl, rfl⟩
      -- colour
      refine ⟨_, rfl, _, rfl, _, rfl, _, _, rfl, .inl ⟨_, SqL.of (at_off fD), rfl⟩, d, c, _, _, rfl, (by rw [List.length_map, List.length_map]; have := pb.ne; omega), (by rw [List.length_map, List.length_map]; omega), B, by omega, fun H13 rc c130 c131 B13 s13 => ?_⟩
      rw [List.length_map, List.length_map] at c131
      obtain ⟨ci, rfl⟩ : ∃ ci : Nat, rc = (ci : Int) := ⟨rc.toNat, by omega⟩
      have hci : ci < cs.length := by omega
      have s13' := sm_two hd' hc' s13
      have fD := s13' _ _ fD
      have fP := s13' _ _ fP
      have fT := s13' _ _ fT
      have dr := dpAll_same s13' dr
      have hR := sm2_at s13 Rd Rc hR
      have sc := sc.trans s13
      have gD : ((cs.map (·.1)).map V.str)[ci]? = some (.str cs[ci].1) := by rw [List.getElem?_map, List.getElem?_map, List.getElem?_eq_getElem hci]; rfl
      refine ⟨D, _, _, _, rfl, rfl, SqL.of (at_off fD), atI_nat gD, ?_⟩
      -- hours
      refine ⟨_, rfl, (by show 2 ≤ sizeLine; decide), fun a2 na2 => ?_⟩
      have a2d := B13.nd na2
      have a2c := B13.nc na2
      have p14 := sm_put (S := [R, d, c]) (o := .lst [.int 6, .int 99]) na2
      have fD := p14 _ _ fD
      have fP := p14 _ _ fP
      have fT := p14 _ _ fT
      have dr := dpAll_same p14 dr
      have hR := same_upd (o := .lst [.int 6, .int 99]) na2 _ _ hR
      have sc := sc.trans (sm_put (S := [d, c]) (o := .lst [.int 6, .int 99]) na2)
      have B14 := B13.same (same_upd (o := .lst [.int 6, .int 99]) na2)
      have h2 : upd H13 a2 (.lst [.int 6, .int 99]) a2 = some (.lst [.int 6, .int 99]) := upd_same
      generalize upd H13 a2 (.lst [.int 6, .int 99]) = H14 at fD fP fT dr hR sc B14 h2 ⊢
      refine ⟨_, rfl, d, c, 2, _, rfl, (by decide), (by decide), B14, by omega, fun H15 r15 c150 c151 B15 s15 => ?_⟩
      have s15' := sm_two hd' hc' s15
      have fD := s15' _ _ fD
      have fP := s15' _ _ fP
      have fT := s15' _ _ fT
      have dr := dpAll_same s15' dr
      have hR := sm2_at s15 Rd Rc hR
      have h2 := sm2_at s15 a2d a2c h2
      have sc := sc.trans s15
      obtain ⟨b2, e2, b20, b21⟩ : ∃ b2 : Int, atI [V.int 6, .int 99] r15 = some (.int b2) ∧ 0 < b2 ∧ b2 ≤ 99 := by
        have h : r15 = 0 ∨ r15 = 1 := by omega
        rcases h with rfl | rfl
        · exact ⟨6, rfl, by decide, by decide⟩
        · exact ⟨99, rfl, by decide, by decide⟩
      refine ⟨a2, _, r15, .int b2, rfl, rfl, SqL.of h2, e2, d, c, b2, _, rfl, b20, by omega, B15, by omega, fun H16 ho h0 h1 B16 s16 => ⟨_, _, rfl, rfl, _, _, rfl, ?_⟩⟩
      have s16' := sm_two hd' hc' s16
      have fP := s16' _ _ fP
      have fT := s16' _ _ fT
      have fD := s16' _ _ fD
      have dr := dpAll_same s16' dr
      have hR := sm2_at s16 Rd Rc hR
      have sc := sc.trans s16
      -- append
      refine ⟨_, rfl, .inl ⟨rfl, _, SqL.of hR⟩, _, rfl, _, rfl, _, rfl, _, _, rfl, .inl ⟨_, SqL.of (at_off fP), rfl⟩, d, c, _, _, rfl, (by rw [List.length_map]; omega), (by rw [List.length_map]; omega), B16, by omega, fun H17 rp c170 c171 B17 s17 => ?_⟩
      rw [List.length_map] at c171
      obtain ⟨pi_, rfl⟩ : ∃ pi_ : Nat, rp = (pi_ : Int) := ⟨rp.toNat, by omega⟩
      have hpi : pi_ < ps.length := by omega
      have s17' := sm_two hd' hc' s17
      have fP := s17' _ _ fP
      have fT := s17' _ _ fT
      have fD := s17' _ _ fD
      have dr := dpAll_same s17' dr
      have hR := sm2_at s17 Rd Rc hR
      have sc := sc.trans s17
      have gP : (ps.map V.str)[pi_]? = some (.str ps[pi_]) := by rw [List.getElem?_map, List.getElem?_eq_getElem hpi]; rfl
      refine ⟨P1, _, _, _, rfl, rfl, SqL.of (at_off fP), atI_nat gP, ?_⟩
      refine ⟨_, rfl, _, rfl, _, rfl, _, _, rfl, .inl ⟨_, SqL.of (at_off fT), rfl⟩, d, c, _, _, rfl, (by rw [List.length_map]; omega), (by rw [List.length_map]; omega), B17, by omega, fun H18 rt c180 c181 B18 s18 => ?_⟩
      rw [List.length_map] at c181
      obtain ⟨ti, rfl⟩ : ∃ ti : Nat, rt = (ti : Int) := ⟨rt.toNat, by omega⟩
      have hti : ti < ts.length := by omega
      have s18' := sm_two hd' hc' s18
      have fP := s18' _ _ fP
      have fT := s18' _ _ fT
      have fD := s18' _ _ fD
      have dr := dpAll_same s18' dr
      have hR := sm2_at s18 Rd Rc hR
      have sc := sc.trans s18
      have gT : (ts.map V.str)[ti]? = some (.str ts[ti]) := by rw [List.getElem?_map, List.getElem?_eq_getElem hti]; rfl
      refine ⟨T1, _, _, _, rfl, rfl, SqL.of (at_off fT), atI_nat gT, _, rfl, _, rfl, (by show 4 ≤ sizeLine; decide), fun t nt => ?_⟩
      have lv3 : Live [R, d, c] H18 := (Live.two B18).cons hR
      have p19 := sm_put (S := [R, d, c]) (o := .tup [.str ps[pi_], .str ts[ti], .str cs[ci].1, .int (1 + ho)]) nt
      have ft := off_new (o := .tup [.str ps[pi_], .str ts[ti], .str cs[ci].1, .int (1 + ho)]) lv3 nt
      have fD := p19 _ _ fD
      have fP := p19 _ _ fP
      have fT := p19 _ _ fT
      have dr := dpAll_same p19 dr
      have hR := same_upd (o := .tup [.str ps[pi_], .str ts[ti], .str cs[ci].1, .int (1 + ho)]) nt _ _ hR
      have sc := sc.trans (sm_put (S := [d, c]) (o := .tup [.str ps[pi_], .str ts[ti], .str cs[ci].1, .int (1 + ho)]) nt)
      have B19 := B18.same (same_upd (o := .tup [.str ps[pi_], .str ts[ti], .str cs[ci].1, .int (1 + ho)]) nt)
      generalize upd H18 t (.tup [.str ps[pi_], .str ts[ti], .str cs[ci].1, .int (1 + ho)]) = H19 at ft fD fP fT dr hR sc B19 ⊢
      refine ⟨R, _, _, rfl, rfl, hR, (by rw [dpAll_len dr, List.length_map, lr, sizeLine_eq]; omega), ?_⟩
      have sw : Sm [R, d, c] H19 (upd H19 R (.lst (us ++ [.ref t]))) := sm_wr (by simp)
      refine ⟨_, _, _, _, rows ++ [((ps[pi_], ts[ti], cs[ci].1, 1 + ho) : Row)], rfl, (B19.put Rd.symm Rc.symm).mono (by omega), smp sc nR0, sw _ _ fD, sw _ _ fP, sw _ _ fT, upd_same, ?_, by rw [List.length_append, lr]; rfl, fun r hr => ?_⟩
      · rw [List.map_append]
        exact dpAll_same sw (dpAll_app' dr (.cons (.tup (.inl (.inl ft)) (.cons (.str _) (.cons (.str _) (.cons (.str _) (.cons (.int _) .nil))))) .nil))
      · rcases List.mem_append.mp hr with h | h
        · exact br r h
        · rw [List.mem_singleton.mp h]
          exact ⟨wps _ (List.getElem_mem hpi), wts _ (List.getElem_mem hti), wcs _ (List.getElem_mem hci), ⟨cs[ci], List.getElem_mem hci, rfl⟩, by show 1 ≤ 1 + ho; omega, by show 1 + ho ≤ 99; omega⟩
    · rintro σ H11 ⟨v6, v7, v8, us, rows, rfl, B, sc, fD, fP, fT, hR, dr, lr, br⟩
      exact ⟨_, rfl, q _ R us rows (B.mono (by omega)) sc nR0 hR dr ⟨by omega, by omega, br⟩⟩

end
end Pot

namespace Pot
open PySem PySem.Spec PyProof.Rows L2
section
variable {P : Program} {w : World} {K : PySem.W.Frag} {mg : Str → Option Value} {base : Heap}
def abc : Str := "abcdefghijklmnopqrstuvwxyz"
def Let (mg : Str → Option Value) : Prop := ∃ t, mg "LETTERS" = some (.str abc t)
def nameD : PyData → Bool
  | .str z => decide ((1 : Int) ≤ (z.length : Nat)) && (decide (((z.length : Nat) : Int) ≤ 8) && z.cps.toList.all fun c => decide (c ∈ abc.cps.toList))
  | _ => false
def spNum (K : PySem.W.Frag) : Sp := fun vs H Q _ => ∃ (x : V) (d : PyData) (lo hi : Int), vs = [x, .int lo, .int hi] ∧ Dp K H x d ∧ Q (.bl (numD lo hi d)) H
/-! ### is_number: whether it's a number within bounds -/
abbrev s_is_number : Stmt := topS 2
def n_is_number : List Str := ["thing", "low", "high"]
theorem sc_is_number : FnScope n_is_number ["thing", "low", "high"] (defScope s_is_number) := ⟨rfl, rfl, rfl, by decide +kernel, rfl, by decide +kernel, by decide +kernel⟩
theorem ok_num {f : Addr} {fd : FuncData} {k : Nat} (F : Fun K "is_number" "is_number" s_is_number f fd) (T : Txt mg) : FnOk P w K mg base CX0 (k + 1) f fd ["thing", "low", "high"] (spNum K) := by
  refine F.ok sc_is_number (fun vs H Q E h => ?_) (fun cdv A outer s H vs Q E hr h => ?_)
  · obtain ⟨x, d, lo, hi, rfl, _⟩ := h
    rfl
  · obtain ⟨x, d, lo, hi, rfl, dp, q⟩ := h
    have nd := sc_is_number.nd
    refine ⟨_, (pss_one (ps_ret (pe_and (pe_callB (kc_isi (K := K)) (by rfl) T.isinstance (by decide +kernel) (pa_cons (pv 0) (pa_cons (pe_bltn (v := .ty "int") (by rfl) T.int (by decide +kernel) rfl) pa_nil))) (pe_and (pe_not (pe_callB (kc_isi (K := K)) (by rfl) T.isinstance (by decide +kernel) (pa_cons (pv 0) (pa_cons (pe_bltn (v := .ty "bool") (by rfl) T.bool (by decide +kernel) rfl) pa_nil)))) (pe_one (pe_chain op_le op_le (pv 1) (pv 0) (pv 2))))))), ?_⟩
    refine ⟨_, rfl, _, .ty _, _, _, isIntD _, rfl, .ty _, tyx_dp dp, kit_int dp, _, rfl, ?_⟩
    have dp2 := dp
    cases dp with
    | int i =>
      refine iteT ⟨_, rfl, _, .ty _, _, _, isBoolD _, rfl, .ty _, tyx_dp dp2, kit_bool dp2, _, rfl, _, rfl, iteT ?_⟩
      refine ⟨_, rfl, _, rfl, _, _, rfl, rfl, _, rfl, ite2 (fun h1 => ⟨_, rfl, _, _, rfl, rfl, ?_⟩) (fun h1 => ?_)⟩
      · have e : numD lo hi (.int i) = decide (i ≤ hi) := by show (decide (lo ≤ i) && _) = _; rw [h1]; rfl
        rw [e] at q; exact q
      · have e : numD lo hi (.int i) = false := by show (decide (lo ≤ i) && _) = _; rw [Bool.not_eq_true _ |>.mp h1]; rfl
        rw [e] at q; exact q
    | bl b =>
      refine iteT ⟨_, rfl, _, .ty _, _, _, isBoolD _, rfl, .ty _, tyx_dp dp2, kit_bool dp2, _, rfl, _, rfl, iteF q⟩
    | non => exact iteF q
    | str _ => exact iteF q
    | lst _ _ => exact iteF q
    | tup _ _ => exact iteF q

abbrev s_is_name : Stmt := topS 3
def n_is_name : List Str := ["thing", "sign"]
theorem sc_is_name : FnScope n_is_name ["thing"] (defScope s_is_name) := ⟨rfl, rfl, rfl, by decide +kernel, rfl, by decide +kernel, by decide +kernel⟩
def spName (K : PySem.W.Frag) : Sp := fun vs H Q _ => ∃ (x : V) (d : PyData) (m : Nat), vs = [x] ∧ Dp K H x d ∧ gd m d ∧ ∀ H', Same H H' → Q (.bl (nameD d)) H'
theorem ok_name {f : Addr} {fd : FuncData} {k : Nat} (F : Fun K "is_name" "is_name" s_is_name f fd) (T : Txt mg) (L : Let mg) : FnOk P w K mg base CX0 (k + 1) f fd ["thing"] (spName K) := by
  refine F.ok sc_is_name (fun vs H Q E h => ?_) (fun cdv A outer s H vs Q E hr h => ?_)
  · obtain ⟨x, d, m, rfl, _⟩ := h
    rfl
  · obtain ⟨x, d, m, rfl, dp, hg, q⟩ := h
    obtain ⟨tL, hL⟩ := L
    have nd := sc_is_name.nd
    refine ⟨_, (pss_one (ps_ret (pe_and (pe_callB (kc_isi (K := K)) (by rfl) T.isinstance (by decide +kernel) (pa_cons (pv 0) (pa_cons (pe_bltn (v := .ty "str") (by rfl) T.str (by decide +kernel) rfl) pa_nil))) (pe_and (pe_chain op_le op_le pe_int (pe_callB (kc_len (K := K)) (by rfl) T.len PySem.boot_len (pa_cons (pv 0) pa_nil)) pe_int) (pe_one (pe_callB (kc_all (K := K)) (by rfl) T.all (by decide +kernel) (pa_cons (pe_lc (own := [("sign", 1)]) rfl nd (pi_str (pv 0)) (blkOk_by (N := n_is_name) (sc := defScope s_is_name) (by decide +kernel)) (fun _ _ _ _ _ => (pg_name (i := 1) nd rfl (.inl rfl))) (fun _ _ _ _ _ => pts_nil) (fun _ _ _ _ _ => (pe_cmpR op_in_sign (pv 1) (pe_glob (v := .str abc) (by rfl) hL ⟨tL, rfl⟩) rfl))) pa_nil))))))), ?_⟩
    refine ⟨_, rfl, _, .ty _, _, _, isStrD _, rfl, .ty _, tyx_dp dp, kit_str dp, _, rfl, ?_⟩
    cases dp with
    | str z =>
      refine iteT ?_
      have hz : z.length ≤ 2000 := hg.1
      have hcs : z.cps.toList.length = z.cps.size := Array.length_toList
      have lz : z.cps.size ≤ 2000 := hz
      refine ⟨_, rfl, _, _, rfl, ⟨by rw [sizeLine_eq]; omega, rfl⟩, _, _, rfl, rfl, _, rfl, ite2 (fun h1 => ?_) (fun h1 => ?_)⟩
      · refine ⟨_, _, rfl, rfl, _, rfl, ite2 (fun h2 => ?_) (fun h2 => ?_)⟩
        · have e0 : nameD (.str z) = z.cps.toList.all fun c => decide (c ∈ abc.cps.toList) := by
            show (decide _ && (decide _ && _)) = _
            rw [h1, h2]; rfl
          refine ⟨_, rfl, z, rfl, fun D nD => ?_⟩
          refine lc_it (walk_str (z := z)) (PvL H D fun i => ((z.cps.toList.map fun c => decide (c ∈ abc.cps.toList)).take i).map V.bl) (pv_start nD rfl) (fun _ _ _ _ => trivial) ?_ ?_
          · rintro i x H4 H5 hi p ⟨rfl, c, gc, rfl⟩
            refine ⟨rfl, tYes_at ?_⟩
            rw [if_pos rfl]
            refine ⟨_, rfl, c, _, rfl, rfl, ?_⟩
            exact pv_put nD p (Same.refl _) (take_map V.bl (by rw [List.getElem?_map, Array.getElem?_toList, gc]; rfl)) (take_len_le (by rw [List.length_map, hcs]; omega))
          · intro H4 p
            obtain ⟨s4, hD⟩ := pv_end p (take_all (by rw [List.length_map, hcs]; exact Nat.le_refl _))
            refine ⟨D, _, rfl, SqL.of hD, ?_⟩
            have ea : (z.cps.toList.map fun c => decide (c ∈ abc.cps.toList)).all id = z.cps.toList.all fun c => decide (c ∈ abc.cps.toList) := by rw [List.all_map]; rfl
            rw [ea]
            rw [e0] at q
            exact q _ s4
        · have e0 : nameD (.str z) = false := by
            show (decide _ && (decide _ && _)) = _
            rw [h1, Bool.not_eq_true _ |>.mp h2]; rfl
          rw [e0] at q
          exact q _ (Same.refl _)
      · have e0 : nameD (.str z) = false := by
          show (decide _ && (decide _ && _)) = _
          rw [Bool.not_eq_true _ |>.mp h1]; rfl
        rw [e0] at q
        exact ⟨_, rfl, iteF (q _ (Same.refl _))⟩
    | int _ => exact iteF (q _ (Same.refl _))
    | bl b => exact iteF (q _ (Same.refl _))
    | non => exact iteF (q _ (Same.refl _))
    | lst _ _ => exact iteF (q _ (Same.refl _))
    | tup _ _ => exact iteF (q _ (Same.refl _))
abbrev s_is_row : Stmt := topS 4
def n_is_row : List Str := ["thing", "size"]
theorem sc_is_row : FnScope n_is_row ["thing", "size"] (defScope s_is_row) := ⟨rfl, rfl, rfl, by decide +kernel, rfl, by decide +kernel, by decide +kernel⟩
def rowB (n : Int) : PyData → Bool
  | .tuple ds => decide (((ds.length : Nat) : Int) = n)
  | _ => false
def spRow (K : PySem.W.Frag) : Sp := fun vs H Q _ => ∃ (x : V) (d : PyData) (n : Int), vs = [x, .int n] ∧ Dp K H x d ∧ Q (.bl (rowB n d)) H
theorem ok_row {f : Addr} {fd : FuncData} {k : Nat} (F : Fun K "is_row" "is_row" s_is_row f fd) (T : Txt mg) : FnOk P w K mg base CX0 (k + 1) f fd ["thing", "size"] (spRow K) := by
  refine F.ok sc_is_row (fun vs H Q E h => ?_) (fun cdv A outer s H vs Q E hr h => ?_)
  · obtain ⟨x, d, n, rfl, _⟩ := h
    rfl
  · obtain ⟨x, d, n, rfl, dp, q⟩ := h
    have nd := sc_is_row.nd
    refine ⟨_, (pss_one (ps_ret (pe_and (pe_callB (kc_isi (K := K)) (by rfl) T.isinstance (by decide +kernel) (pa_cons (pv 0) (pa_cons (pe_bltn (v := .ty "tuple") (by rfl) T.tuple (by decide +kernel) rfl) pa_nil))) (pe_one (pe_cmpR op_eq (pe_callB (kc_len (K := K)) (by rfl) T.len PySem.boot_len (pa_cons (pv 0) pa_nil)) (pv 1) (nomark _)))))), ?_⟩
    refine ⟨_, rfl, _, .ty _, _, _, isTupD _, rfl, .ty _, tyx_dp dp, kit_tup dp, _, rfl, ?_⟩
    cases dp with
    | @tup a xs ds hS hx =>
      refine iteT ⟨_, rfl, _, _, rfl, .inr ⟨_, hS, rfl⟩, _, rfl, rfl, ?_⟩
      have lx := dpAll_len hx
      have e : rowB n (.tuple ds) = decide (V.int (xs.length : Nat) = V.int n) := by
        show decide _ = _
        rw [lx]
        exact decide_eq_decide.mpr ⟨fun h => by rw [h], V.int.inj⟩
      rw [e] at q; exact q
    | str z => exact iteF q
    | int _ => exact iteF q
    | bl b => exact iteF q
    | non => exact iteF q
    | lst _ _ => exact iteF q
abbrev s_colour_names : Stmt := topS 6
def n_colour_names : List Str := ["palette", "row"]
theorem sc_colour_names : FnScope n_colour_names ["palette"] (defScope s_colour_names) := ⟨rfl, rfl, rfl, by decide +kernel, rfl, by decide +kernel, by decide +kernel⟩
def spCn (K : PySem.W.Frag) : Sp := fun vs H Q _ => ∃ (v : V) (cs : List Col) (ws : List Wsh), vs = [v] ∧ Dp K H v (palD cs ws) ∧ PalB cs ws ∧ ∀ H' L, Same H H' → H L = none → H' L = some (.lst ((cs.map (·.1)).map V.str)) → Q (.ref L) H'
theorem ok_cn {f : Addr} {fd : FuncData} {k : Nat} (F : Fun K "colour_names" "colour_names" s_colour_names f fd) (T : Txt mg) : FnOk P w K mg base CX0 (k + 1) f fd ["palette"] (spCn K) := by
  refine F.ok sc_colour_names (fun vs H Q E h => ?_) (fun cdv A outer s H vs Q E hr h => ?_)
  · obtain ⟨v, cs, ws, rfl, _⟩ := h
    rfl
  · obtain ⟨v, cs, ws, rfl, dp, pb, q⟩ := h
    have nd := sc_colour_names.nd
    obtain ⟨p, c, w2, xs, ys, rfl, hp, hc, hx, hw, hy⟩ := pal_dp dp
    have lx : xs.length = cs.length := dpAll_map_len hx
    have l20 := pb.ok.nc
    refine ⟨_, (pss_one (ps_ret (pe_lc (own := [("row", 1)]) rfl nd (ki_tup (K := K) (pe_ix (kx_tup (K := K)) (pv 0) pe_int (fun _ _ => rfl))) (blkOk_by (N := n_colour_names) (sc := defScope s_colour_names) (by decide +kernel)) (fun _ _ _ _ _ => (pg_name (i := 1) nd rfl (.inl rfl))) (fun _ _ _ _ _ => pts_nil) (fun _ _ _ _ _ => (pe_ix (kx_tup (K := K)) (pv 1) pe_int (fun _ _ => rfl)))))), ?_⟩
    refine ⟨_, rfl, p, _, 0, .ref c, rfl, rfl, hp, rfl, c, rfl, ⟨_, hc⟩, fun D nD => ?_⟩
    refine lc_it (walk_tup (xs := xs)) (PvL H D fun i => ((cs.map (·.1)).take i).map V.str) (pv_start nD rfl) (fun i H4 _ h => same_tup h.1 hc) ?_ ?_
    · rintro i y H4 H5 hi p2 ⟨rfl, gx⟩
      obtain ⟨d, gd, dp⟩ := dpAll_map_at hx gx
      obtain ⟨r, rfl, hr2⟩ := col_dp dp
      refine ⟨rfl, tYes_at ?_⟩
      rw [if_pos rfl]
      refine ⟨_, rfl, r, _, 0, _, rfl, rfl, same_tup p2.1 hr2, rfl, ?_⟩
      exact pv_put nD p2 (Same.refl _) (take_map V.str (by rw [List.getElem?_map, gd]; rfl)) (take_len_le (by rw [List.length_map]; omega))
    · intro H4 p2
      obtain ⟨s4, hD⟩ := pv_end p2 (take_all (by rw [List.length_map, lx]; exact Nat.le_refl _))
      exact q _ _ s4 nD hD
def inC (cs : List Col) (d : PyData) : Bool := (cs.map fun c => PyData.str c.1).any fun z => PyData.eqv z d
def rrowD (cs : List Col) : PyData → Bool
  | .tuple [a, b, c, e] => nameD a && (nameD b && (inC cs c && numD 1 99 e))
  | _ => false
theorem rrow_not {cs : List Col} {d : PyData} (h : rowB 4 d = false) : rrowD cs d = false := by
  unfold rrowD
  split
  · exact absurd h (by show ¬ decide (((4 : Nat) : Int) = 4) = false; decide)
  · rfl
theorem row_four {d : PyData} (h : rowB 4 d = true) : ∃ a b c e, d = .tuple [a, b, c, e] := by
  cases d with
  | tuple ds =>
    have l : ds.length = 4 := by have := of_decide_eq_true h; omega
    match ds, l with
    | [a, b, c, e], _ => exact ⟨a, b, c, e, rfl⟩
  | _ => cases h
theorem strs_shaped {zs : List Str} (h : ∀ z ∈ zs, Nm z) : SeqAt.shaped (.list (zs.map PyData.str)) = true := by
  have g : gd 0 (.list (zs.map PyData.str)) := gdAll_iff.mpr fun d hd => by
    obtain ⟨z, hz, rfl⟩ := List.mem_map.mp hd
    have := (h z hz).1
    exact ⟨Nat.le_trans this.1 (by decide), wd_codes this⟩
  refine gd_shaped g ?_
  show PyData.depthAll (zs.map PyData.str) + 1 ≤ 64
  have : PyData.depthAll (zs.map PyData.str) ≤ 1 := depthAll_iff.mpr fun d hd => by
    obtain ⟨z, hz, rfl⟩ := List.mem_map.mp hd
    simp [PyData.depth]
  omega
theorem dp_strs {H : Hp} : ∀ (zs : List Str), DpAll K H (zs.map V.str) (zs.map PyData.str)
  | [] => .nil
  | z :: zs => .cons (.str z) (dp_strs zs)
abbrev s_is_round_row : Stmt := topS 9
def n_is_round_row : List Str := ["palette", "thing"]
theorem sc_is_round_row : FnScope n_is_round_row ["palette", "thing"] (defScope s_is_round_row) := ⟨rfl, rfl, rfl, by decide +kernel, rfl, by decide +kernel, by decide +kernel⟩
def spRrow (K : PySem.W.Frag) : Sp := fun vs H Q _ => ∃ (v : V) (cs : List Col) (ws : List Wsh) (x : V) (d : PyData) (m : Nat), vs = [v, x] ∧ Dp K H v (palD cs ws) ∧ PalB cs ws ∧ Dp K H x d ∧ gd m d ∧ d.depth ≤ 60 ∧ ∀ H', Same H H' → Q (.bl (rrowD cs d)) H'
theorem ok_rrow {f : Addr} {fd : FuncData} {k : Nat} (F : Fun K "is_round_row" "is_round_row" s_is_round_row f fd) (T : Txt mg) (c_is_row : Cl P w K mg base (k + 1) "is_row" (spRow K)) (c_is_name : Cl P w K mg base (k + 1) "is_name" (spName K)) (c_colour_names : Cl P w K mg base (k + 1) "colour_names" (spCn K)) (c_is_number : Cl P w K mg base (k + 1) "is_number" (spNum K)) : FnOk P w K mg base CX0 (k + 2) f fd ["palette", "thing"] (spRrow K) := by
  refine F.ok sc_is_round_row (fun vs H Q E h => ?_) (fun cdv A outer s H vs Q E hr h => ?_)
  · obtain ⟨v, cs, ws, x, d, m, rfl, _⟩ := h
    rfl
  · obtain ⟨v, cs, ws, x, d, m, rfl, dpP, pb, dp, hg, hd, q⟩ := h
    have nd := sc_is_round_row.nd
    have hu65 : (A.deeper (envOfC (Str.ofString "is_round_row") (defScope s_is_round_row) s.heap.objs.size f cdv)).units + 65 < cLine := by have := hr.un; omega
    refine ⟨_, (pss_one (ps_ret (pe_and (pe_cl c_is_row hr (by omega) (by rfl) (pa_cons (pv 1) (pa_cons pe_int pa_nil))) (pe_and (pe_cl c_is_name hr (by omega) (by rfl) (pa_cons (pe_ix (kx_tup (K := K)) (pv 1) pe_int (fun _ _ => rfl)) pa_nil)) (pe_and (pe_cl c_is_name hr (by omega) (by rfl) (pa_cons (pe_ix (kx_tup (K := K)) (pv 1) pe_int (fun _ _ => rfl)) pa_nil)) (pe_and (pe_cmpR (ko_inD (K := K) hu65) (pe_ix (kx_tup (K := K)) (pv 1) pe_int (fun _ _ => rfl)) (pe_cl c_colour_names hr (by omega) (by rfl) (pa_cons (pv 0) pa_nil)) rfl) (pe_one (pe_cl c_is_number hr (by omega) (by rfl) (pa_cons (pe_ix (kx_tup (K := K)) (pv 1) pe_int (fun _ _ => rfl)) (pa_cons pe_int (pa_cons pe_int pa_nil))))))))))), ?_⟩
    refine ⟨_, rfl, x, d, 4, rfl, dp, _, rfl, ?_⟩
    cases hb : rowB 4 d with
    | false =>
      rw [rrow_not hb] at q
      exact iteF (q _ (Same.refl _))
    | true =>
      obtain ⟨a, b, c, e, rfl⟩ := row_four hb
      obtain ⟨p, xs, rfl, hS, hx⟩ := dp_tup dp
      obtain ⟨xa, xb, xc, xe, rfl, pa, pb2, pc, pe⟩ := dp_four hx
      obtain ⟨ga, gb, gc, ge, _⟩ := hg
      refine iteT ⟨_, rfl, p, _, 0, _, rfl, rfl, hS, rfl, xa, a, m, rfl, pa, ga, fun H1 s1 => ⟨_, rfl, ?_⟩⟩
      have hdc : c.depth ≤ 64 := by
        have h1 := depth_at (ds := [a, b, c, e]) (i := 2) rfl
        have h2 : PyData.depthAll [a, b, c, e] + 1 ≤ 60 := hd
        omega
      have rr : rrowD cs (.tuple [a, b, c, e]) = (nameD a && (nameD b && (inC cs c && numD 1 99 e))) := rfl
      rw [rr] at q
      cases ha : nameD a with
      | false => rw [ha] at q; exact iteF (q _ s1)
      | true =>
        rw [ha, Bool.true_and] at q
        refine iteT ⟨_, rfl, p, _, 1, _, rfl, rfl, same_tup s1 hS, rfl, xb, b, m, rfl, dp_same s1 pb2, gb, fun H2 s2 => ⟨_, rfl, ?_⟩⟩
        cases hbn : nameD b with
        | false => rw [hbn] at q; exact iteF (q _ (s1.trans s2))
        | true =>
          rw [hbn, Bool.true_and] at q
          have sa := s1.trans s2
          refine iteT ⟨_, rfl, p, _, 2, _, rfl, rfl, same_tup sa hS, rfl, _, rfl, v, cs, ws, rfl, dp_same sa dpP, pb, fun H3 L s3 nL hL => ?_⟩
          have sb := sa.trans s3
          refine ⟨c, _, dp_same sb pc, .lst (SqL.of hL) (dp_strs _), gd_shaped gc hdc, strs_shaped (fun z hz => ?_), _, rfl, ?_⟩
          · obtain ⟨cc, hcc, rfl⟩ := List.mem_map.mp hz
            exact pb.wd cc hcc
          have ei : ((cs.map (·.1)).map PyData.str).any (fun z => PyData.eqv z c) = inC cs c := by unfold inC; rw [List.map_map]; rfl
          rw [ei]
          cases hic : inC cs c with
          | false => rw [hic] at q; exact iteF (q _ sb)
          | true =>
            rw [hic, Bool.true_and] at q
            exact iteT ⟨_, rfl, p, _, 3, _, rfl, rfl, same_tup sb hS, rfl, xe, e, 1, 99, rfl, dp_same sb pe, q _ sb⟩
def rowsD (cs : List Col) : PyData → Bool
  | .list ds => decide ((1 : Int) ≤ (ds.length : Nat)) && (decide (((ds.length : Nat) : Int) ≤ 12) && ds.all (rrowD cs))
  | _ => false
abbrev s_is_rows : Stmt := topS 8
def n_is_rows : List Str := ["palette", "thing", "row"]
theorem sc_is_rows : FnScope n_is_rows ["palette", "thing"] (defScope s_is_rows) := ⟨rfl, rfl, rfl, by decide +kernel, rfl, by decide +kernel, by decide +kernel⟩
def spIsRows (K : PySem.W.Frag) : Sp := fun vs H Q _ => ∃ (v : V) (cs : List Col) (ws : List Wsh) (x : V) (d : PyData) (m : Nat), vs = [v, x] ∧ Dp K H v (palD cs ws) ∧ PalB cs ws ∧ Dp K H x d ∧ gd m d ∧ d.depth ≤ 60 ∧ widAll.wid d ≤ 4000 ∧ ∀ H', Same H H' → Q (.bl (rowsD cs d)) H'
theorem ok_rows2 {f : Addr} {fd : FuncData} {k : Nat} (F : Fun K "is_rows" "is_rows" s_is_rows f fd) (T : Txt mg) (c_is_round_row : Cl P w K mg base (k + 2) "is_round_row" (spRrow K)) : FnOk P w K mg base CX0 (k + 3) f fd ["palette", "thing"] (spIsRows K) := by
  refine F.ok sc_is_rows (fun vs H Q E h => ?_) (fun cdv A outer s H vs Q E hr h => ?_)
  · obtain ⟨v, cs, ws, x, d, m, rfl, _⟩ := h
    rfl
  · obtain ⟨v, cs, ws, x, d, m, rfl, dpP, pb, dp, hg, hd, hw, q⟩ := h
    have nd := sc_is_rows.nd
    refine ⟨_, (pss_one (ps_ret (pe_and (pe_callB (kc_isi (K := K)) (by rfl) T.isinstance (by decide +kernel) (pa_cons (pv 1) (pa_cons (pe_bltn (v := .ty "list") (by rfl) T.list (by decide +kernel) rfl) pa_nil))) (pe_and (pe_chain op_le op_le pe_int (pe_callB (kc_len (K := K)) (by rfl) T.len PySem.boot_len (pa_cons (pv 1) pa_nil)) pe_int) (pe_one (pe_callB (kc_all (K := K)) (by rfl) T.all (by decide +kernel) (pa_cons (pe_lc (own := [("row", 2)]) rfl nd (ki_list (K := K) (pv 1)) (blkOk_by (N := n_is_rows) (sc := defScope s_is_rows) (by decide +kernel)) (fun _ _ _ _ _ => (pg_name (i := 2) nd rfl (.inl rfl))) (fun _ _ _ _ _ => pts_nil) (fun _ _ _ _ _ => (pe_cl c_is_round_row hr (by omega) (by rfl) (pa_cons (pv 0) (pa_cons (pv 2) pa_nil))))) pa_nil))))))), ?_⟩
    refine ⟨_, rfl, _, .ty _, _, _, isListD _, rfl, .ty _, tyx_dp dp, kit_list dp, _, rfl, ?_⟩
    cases dp with
    | @lst a xs ds hS hx =>
      have lx := dpAll_len hx
      have l4 : ds.length ≤ 4000 := Nat.le_trans (Nat.le_max_left ..) hw
      have rr : rowsD cs (.list ds) = (decide ((1 : Int) ≤ (ds.length : Nat)) && (decide (((ds.length : Nat) : Int) ≤ 12) && ds.all (rrowD cs))) := rfl
      rw [rr, ← lx] at q
      refine iteT ⟨_, rfl, _, _, rfl, .inl ⟨_, hS, rfl⟩, _, _, rfl, rfl, _, rfl, ite2 (fun h1 => ?_) (fun h1 => ?_)⟩
      · rw [h1, Bool.true_and] at q
        refine ⟨_, _, rfl, rfl, _, rfl, ite2 (fun h2 => ?_) (fun h2 => ?_)⟩
        · rw [h2, Bool.true_and] at q
          refine ⟨_, rfl, a, rfl, ⟨_, hS⟩, fun D nD => ?_⟩
          refine lc_it (walk_list (xs := xs)) (PvL H D fun i => ((ds.map (rrowD cs)).take i).map V.bl) (pv_start nD rfl) (fun i H2 _ h => h.1.seq hS) ?_ ?_
          · rintro i y H4 H5 hi p ⟨rfl, gx⟩
            obtain ⟨e, ge, pe⟩ := dpAll_at hx gx
            refine ⟨rfl, tYes_at ?_⟩
            rw [if_pos rfl]
            have hde : e.depth ≤ 60 := by
              have h1 := depth_at ge
              have h2 : PyData.depthAll ds + 1 ≤ 60 := hd
              omega
            refine ⟨_, rfl, _, rfl, v, cs, ws, y, e, m, rfl, dp_same p.1 dpP, pb, dp_same p.1 pe, gdAll_iff.mp hg e (List.mem_of_getElem? ge), hde, fun H6 s6 => ?_⟩
            exact pv_put nD p s6 (take_map V.bl (by rw [List.getElem?_map, ge]; rfl)) (take_len_le (by rw [List.length_map]; omega))
          · intro H4 p
            obtain ⟨s4, hD⟩ := pv_end p (take_all (by rw [List.length_map, lx]; exact Nat.le_refl _))
            refine ⟨D, _, rfl, SqL.of hD, ?_⟩
            rw [all_map]
            exact q _ s4
        · rw [Bool.not_eq_true _ |>.mp h2] at q
          exact q _ (Same.refl _)
      · rw [Bool.not_eq_true _ |>.mp h1] at q
        exact ⟨_, rfl, iteF (q _ (Same.refl _))⟩
    | str z => exact iteF (q _ (Same.refl _))
    | int _ => exact iteF (q _ (Same.refl _))
    | bl b => exact iteF (q _ (Same.refl _))
    | non => exact iteF (q _ (Same.refl _))
    | tup _ _ => exact iteF (q _ (Same.refl _))

end
end Pot



namespace Pot
open PySem PySem.Spec PyProof.Rows L2
section
variable {P : Program} {w : World} {K : PySem.W.Frag} {mg : Str → Option Value} {base : Heap}
abbrev s__law_is_name : Stmt := topS 16
def n__law_is_name : List Str := ["_law_thing", "_law_sign"]
theorem sc__law_is_name : FnScope n__law_is_name ["_law_thing"] (defScope s__law_is_name) := ⟨rfl, rfl, rfl, by decide +kernel, rfl, by decide +kernel, by decide +kernel⟩
theorem ok_lname {f : Addr} {fd : FuncData} {k : Nat} (F : Fun K "_law_is_name" "_law_is_name" s__law_is_name f fd) (T : Txt mg) : FnOk P w K mg base CX0 (k + 1) f fd ["_law_thing"] (spName K) := by
  refine F.ok sc__law_is_name (fun vs H Q E h => ?_) (fun cdv A outer s H vs Q E hr h => ?_)
  · obtain ⟨x, d, m, rfl, _⟩ := h
    rfl
  · obtain ⟨x, d, m, rfl, dp, hg, q⟩ := h
    have nd := sc__law_is_name.nd
    refine ⟨_, (pss_cons (ps_if ((pw_or (pt_not (pt_val (pe_callB (kc_isi (K := K)) (by rfl) T.isinstance (by decide +kernel) (pa_cons (pv 0) (pa_cons (pe_bltn (v := .ty "str") (by rfl) T.str (by decide +kernel) rfl) pa_nil))))) (pw_or1 (pt_not (pt_chain op_le op_le pe_int (pe_callB (kc_len (K := K)) (by rfl) T.len PySem.boot_len (pa_cons (pv 0) pa_nil)) pe_int))))).pt
          (pss_one (ps_ret pe_bl))
          pss_nil)
      (pss_one (ps_ret (pe_callB (kc_all (K := K)) (by rfl) T.all (by decide +kernel) (pa_cons (pe_lc (own := [("_law_sign", 1)]) rfl nd (pi_str (pv 0)) (blkOk_by (N := n__law_is_name) (sc := defScope s__law_is_name) (by decide +kernel)) (fun _ _ _ _ _ => (pg_name (i := 1) nd rfl (.inl rfl))) (fun _ _ _ _ _ => pts_nil) (fun _ _ _ _ _ => (pe_cmpR op_in_sign (pv 1) pe_str rfl))) pa_nil))))), ?_⟩
    refine ⟨_, rfl, _, .ty _, _, _, isStrD _, rfl, .ty _, tyx_dp dp, kit_str dp, _, rfl, ?_⟩
    cases dp with
    | str z =>
      have hz : z.length ≤ 2000 := hg.1
      have hcs : z.cps.toList.length = z.cps.size := Array.length_toList
      have lz : z.cps.size ≤ 2000 := hz
      refine ⟨_, rfl, _, _, rfl, ⟨by rw [sizeLine_eq]; omega, rfl⟩, _, _, rfl, rfl, _, rfl, ?_⟩
      have eabc : (Str.ofString "abcdefghijklmnopqrstuvwxyz") = abc := rfl
      refine ite2 (fun h1 => ?_) (fun h1 => ?_)
      · refine ⟨_, _, rfl, rfl, _, rfl, ?_⟩
        cases h2 : decide (((z.length : Nat) : Int) ≤ 8) with
        | true =>
          have e0 : nameD (.str z) = z.cps.toList.all fun c => decide (c ∈ abc.cps.toList) := by
            show (decide _ && (decide _ && _)) = _
            rw [h1, h2]; rfl
          refine iteF ?_
          refine ⟨_, rfl, z, rfl, fun D nD => ?_⟩
          refine lc_it (walk_str (z := z)) (PvL H D fun i => ((z.cps.toList.map fun c => decide (c ∈ abc.cps.toList)).take i).map V.bl) (pv_start nD rfl) (fun _ _ _ _ => trivial) ?_ ?_
          · rintro i x H4 H5 hi p ⟨rfl, c, gc, rfl⟩
            refine ⟨rfl, tYes_at ?_⟩
            rw [if_pos rfl]
            refine ⟨_, rfl, c, _, rfl, rfl, ?_⟩
            exact pv_put nD p (Same.refl _) (take_map V.bl (by rw [List.getElem?_map, Array.getElem?_toList, gc]; rfl)) (take_len_le (by rw [List.length_map, hcs]; omega))
          · intro H4 p
            obtain ⟨s4, hD⟩ := pv_end p (take_all (by rw [List.length_map, hcs]; exact Nat.le_refl _))
            refine ⟨D, _, rfl, SqL.of hD, ?_⟩
            have ea : (z.cps.toList.map fun c => decide (c ∈ abc.cps.toList)).all id = z.cps.toList.all fun c => decide (c ∈ abc.cps.toList) := by rw [List.all_map]; rfl
            rw [ea]
            rw [e0] at q
            exact q _ s4
        | false =>
          have e0 : nameD (.str z) = false := by
            show (decide _ && (decide _ && _)) = _
            rw [h1, h2]; rfl
          rw [e0] at q
          exact iteT (q _ (Same.refl _))
      · have e0 : nameD (.str z) = false := by
          show (decide _ && (decide _ && _)) = _
          rw [Bool.not_eq_true _ |>.mp h1]; rfl
        rw [e0] at q
        exact ⟨_, rfl, iteT (q _ (Same.refl _))⟩
    | int _ => exact iteT (q _ (Same.refl _))
    | bl b => exact iteT (q _ (Same.refl _))
    | non => exact iteT (q _ (Same.refl _))
    | lst _ _ => exact iteT (q _ (Same.refl _))
    | tup _ _ => exact iteT (q _ (Same.refl _))
theorem nm_name {z : Str} (h : Nm z) : nameD (.str z) = true := by
  show (decide _ && (decide _ && _)) = true
  have h1 := h.1.1
  have h2 := h.2
  rw [decide_eq_true (by omega), decide_eq_true (by omega), Bool.true_and, Bool.true_and, List.all_eq_true]
  intro c hc
  have ec : abc.cps.toList = (List.range 26).map (97 + ·) := by decide +kernel
  have := h.1.2 c hc
  refine decide_eq_true ?_
  rw [ec]
  exact List.mem_map.mpr ⟨c - 97, List.mem_range.mpr (by omega), by omega⟩
theorem inC_name {cs : List Col} {ws : List Wsh} (pb : PalB cs ws) {c : PyData} (h : inC cs c = true) : nameD c = true := by
  unfold inC at h
  obtain ⟨z, hz, e⟩ := List.any_eq_true.mp h
  obtain ⟨cc, hcc, rfl⟩ := List.mem_map.mp hz
  cases c with
  | str y =>
    have : cc.1 = y := by simpa [PyData.eqv] using e
    rw [← this]
    exact nm_name (pb.wd cc hcc)
  | _ => simp [PyData.eqv] at e
theorem all_no {α : Type} {f : α → Bool} {l : List α} {i : Nat} {x : α} (g : l[i]? = some x) (h : f x = false) : l.all f = false := by
  rw [List.all_eq_false]
  exact ⟨x, List.mem_of_getElem? g, by rw [h]; exact Bool.false_ne_true⟩
abbrev s__law_is_rows : Stmt := topS 17
def n__law_is_rows : List Str := ["_law_palette_here", "_law_thing", "_law_row", "_law_colour", "_law_word"]
theorem sc__law_is_rows : FnScope n__law_is_rows ["_law_palette_here", "_law_thing"] (defScope s__law_is_rows) := ⟨rfl, rfl, rfl, by decide +kernel, rfl, by decide +kernel, by decide +kernel⟩
theorem ok_lrows {f : Addr} {fd : FuncData} {k : Nat} (F : Fun K "_law_is_rows" "_law_is_rows" s__law_is_rows f fd) (T : Txt mg) (c__law_is_name : Cl P w K mg base (k + 1) "_law_is_name" (spName K)) : FnOk P w K mg base CX0 (k + 2) f fd ["_law_palette_here", "_law_thing"] (spIsRows K) := by
  refine F.ok sc__law_is_rows (fun vs H Q E h => ?_) (fun cdv A outer s H vs Q E hr h => ?_)
  · obtain ⟨v, cs, ws, x, d, m, rfl, _⟩ := h
    rfl
  · obtain ⟨v, cs, ws, x, d, m, rfl, dpP, pb, dp, hg, hd, hw, q⟩ := h
    have nd := sc__law_is_rows.nd
    obtain ⟨pp, cc, w2, cxs, wys, rfl, hpp, hcc, hcx, hww, hwy⟩ := pal_dp dpP
    have lcx : cxs.length = cs.length := dpAll_map_len hcx
    have l20 := pb.ok.nc
    have hu65 : (A.deeper (envOfC (Str.ofString "_law_is_rows") (defScope s__law_is_rows) s.heap.objs.size f cdv)).units + 65 < cLine := by have := hr.un; omega
    refine ⟨_, (pss_cons (ps_if ((pw_or (pt_not (pt_val (pe_callB (kc_isi (K := K)) (by rfl) T.isinstance (by decide +kernel) (pa_cons (pv 1) (pa_cons (pe_bltn (v := .ty "list") (by rfl) T.list (by decide +kernel) rfl) pa_nil))))) (pw_or1 (pt_not (pt_chain op_le op_le pe_int (pe_callB (kc_len (K := K)) (by rfl) T.len PySem.boot_len (pa_cons (pv 1) pa_nil)) pe_int))))).pt
          (pss_one (ps_ret pe_bl))
          pss_nil)
      (pss_cons (ps_for PassesOwn.never rfl (ki_list (K := K) (pv 1)) (pg_name (i := 2) nd rfl (.inl rfl))
          (pss_cons (ps_if ((pw_or (pt_not (pt_val (pe_callB (kc_isi (K := K)) (by rfl) T.isinstance (by decide +kernel) (pa_cons (pv 2) (pa_cons (pe_bltn (v := .ty "tuple") (by rfl) T.tuple (by decide +kernel) rfl) pa_nil))))) (pw_or (pt_cmpR op_ne (pe_callB (kc_len (K := K)) (by rfl) T.len PySem.boot_len (pa_cons (pv 2) pa_nil)) pe_int (nomark _)) (pw_or1 (pt_not (pt_val (pe_callB (kc_all (K := K)) (by rfl) T.all (by decide +kernel) (pa_cons (pe_lc (own := [("_law_word", 4)]) rfl nd (ki_tup (K := K) (pe_slice (kl_tup (K := K)) (pv 2) po_none (po_some pe_int))) (blkOk_by (N := n__law_is_rows) (sc := defScope s__law_is_rows) (by decide +kernel)) (fun _ _ _ _ _ => (pg_name (i := 4) nd rfl (.inl rfl))) (fun _ _ _ _ _ => pts_nil) (fun _ _ _ _ _ => (pe_cl c__law_is_name hr (by omega) (by rfl) (pa_cons (pv 4) pa_nil)))) pa_nil)))))))).pt
              (pss_one (ps_ret pe_bl))
              pss_nil)
          (pss_cons (ps_if (pt_cmpR (ko_notInD (K := K) hu65) (pe_ix (kx_tup (K := K)) (pv 2) pe_int (fun _ _ => rfl)) (pe_lc (own := [("_law_colour", 3)]) rfl nd (ki_tup (K := K) (pe_ix (kx_tup (K := K)) (pv 0) pe_int (fun _ _ => rfl))) (blkOk_by (N := n__law_is_rows) (sc := defScope s__law_is_rows) (by decide +kernel)) (fun _ _ _ _ _ => (pg_name (i := 3) nd rfl (.inl rfl))) (fun _ _ _ _ _ => pts_nil) (fun _ _ _ _ _ => (pe_ix (kx_tup (K := K)) (pv 3) pe_int (fun _ _ => rfl)))) rfl)
              (pss_one (ps_ret pe_bl))
              pss_nil)
          (pss_one (ps_if ((pw_or (pt_not (pt_val (pe_callB (kc_isi (K := K)) (by rfl) T.isinstance (by decide +kernel) (pa_cons (pe_ix (kx_tup (K := K)) (pv 2) pe_int (fun _ _ => rfl)) (pa_cons (pe_bltn (v := .ty "int") (by rfl) T.int (by decide +kernel) rfl) pa_nil))))) (pw_or (pt_val (pe_callB (kc_isi (K := K)) (by rfl) T.isinstance (by decide +kernel) (pa_cons (pe_ix (kx_tup (K := K)) (pv 2) pe_int (fun _ _ => rfl)) (pa_cons (pe_bltn (v := .ty "bool") (by rfl) T.bool (by decide +kernel) rfl) pa_nil)))) (pw_or1 (pt_not (pt_chain op_le op_le pe_int (pe_ix (kx_tup (K := K)) (pv 2) pe_int (fun _ _ => rfl)) pe_int)))))).pt
              (pss_one (ps_ret pe_bl))
              pss_nil)))))
      (pss_one (ps_ret pe_bl)))), ?_⟩
    refine ⟨_, rfl, _, .ty _, _, _, isListD _, rfl, .ty _, tyx_dp dp, kit_list dp, _, rfl, ?_⟩
    cases dp with
    | @lst a xs ds hS hx =>
      have lx := dpAll_len hx
      have l4 : ds.length ≤ 4000 := Nat.le_trans (Nat.le_max_left ..) hw
      have rr : rowsD cs (.list ds) = (decide ((1 : Int) ≤ (ds.length : Nat)) && (decide (((ds.length : Nat) : Int) ≤ 12) && ds.all (rrowD cs))) := rfl
      rw [rr, ← lx] at q
      refine ⟨_, rfl, _, _, rfl, .inl ⟨_, hS, rfl⟩, _, _, rfl, rfl, _, rfl, ite2 (fun h1 => ?_) (fun h1 => ?_)⟩
      · rw [h1, Bool.true_and] at q
        refine ⟨_, _, rfl, rfl, _, rfl, ?_⟩
        cases h2 : decide (((xs.length : Nat) : Int) ≤ 12) with
        | true =>
          rw [h2, Bool.true_and] at q
          refine iteF ⟨_, rfl, a, rfl, ⟨_, hS⟩, ?_⟩
          refine for_it (walk_list (xs := xs)) (fun i σ H2 => ∃ v2, σ = [some (.ref pp), some (.ref a), v2, none, none] ∧ Same H H2 ∧ (ds.take i).all (rrowD cs) = true) ⟨_, rfl, Same.refl _, rfl⟩ (fun i σ H2 _ h => by obtain ⟨_, _, h, _⟩ := h; exact h.seq hS) ?_ ?_
          · rintro i y σ H4 H5 hi ⟨v2, rfl, s5, old⟩ ⟨rfl, gx⟩
            obtain ⟨e, ge, pe⟩ := dpAll_at hx gx
            have pe := dp_same s5 pe
            have no : rrowD cs e = false → ∀ H', Same H H' → Q (.bl false) H' := fun h => by rw [all_no ge h] at q; exact q
            have yes : rrowD cs e = true → (ds.take (i + 1)).all (rrowD cs) = true := fun h => by
              rw [List.take_add_one, ge, List.all_append, old]
              show (true && (rrowD cs e && true)) = true
              rw [h]; rfl
            have hge := gdAll_iff.mp hg e (List.mem_of_getElem? ge)
            have hde : e.depth ≤ 60 := by
              have h1 := depth_at ge
              have h2 : PyData.depthAll ds + 1 ≤ 60 := hd
              omega
            clear q old hx hg
            refine ⟨_, rfl, _, .ty _, _, _, isTupD _, rfl, .ty _, tyx_dp pe, kit_tup pe, _, rfl, ?_⟩
            cases pe with
            | @tup p us es hS2 hx2 =>
              have lu := dpAll_len hx2
              refine ⟨_, rfl, _, _, rfl, .inr ⟨_, hS2, rfl⟩, rfl, _, rfl, ?_⟩
              by_cases h4 : us.length = 4
              · obtain ⟨da, db, dc, df, rfl⟩ : ∃ a b c e, es = [a, b, c, e] := by
                  match es, (show es.length = 4 by omega) with
                  | [a, b, c, e], _ => exact ⟨a, b, c, e, rfl⟩
                obtain ⟨xa, xb, xc, xf, rfl, pa, pb2, pc, pf⟩ := dp_four hx2
                obtain ⟨ga, gb, gc, gf, _⟩ := hge
                have rr : rrowD cs (.tuple [da, db, dc, df]) = (nameD da && (nameD db && (inC cs dc && numD 1 99 df))) := rfl
                have e4 : (!decide (V.int (([xa, xb, xc, xf].length : Nat) : Int) = V.int 4)) = false := by
                  show (!decide (V.int 4 = V.int 4)) = false
                  rw [decide_eq_true rfl]; rfl
                rw [e4]
                refine iteF ⟨_, rfl, 3, rfl, p, _, rfl, hS2, (fun h => absurd h.2 (by show ¬ HT.sIx 4 4 (some 3) = 4; decide)), fun h t nt => ?_⟩
                have ec : cutV [xa, xb, xc, xf] none (some 3) = [xa, xb, xc] := by rw [show (3 : Int) = ((3 : Nat) : Int) from rfl, cut_head]; rfl
                rw [ec]
                have s6 := same_upd (o := .tup [xa, xb, xc]) nt
                have ht : upd H5 t (.tup [xa, xb, xc]) t = _ := upd_same
                generalize upd H5 t (.tup [xa, xb, xc]) = H6 at s6 ht ⊢
                refine ⟨t, rfl, ⟨_, .inl (.inl ht)⟩, fun D nD => ?_⟩
                have h3 : DpAll K H6 [xa, xb, xc] [da, db, dc] := .cons (dp_same s6 pa) (.cons (dp_same s6 pb2) (.cons (dp_same s6 pc) .nil))
                refine lc_it (walk_tup (xs := [xa, xb, xc])) (PvL H6 D fun i => (([da, db, dc].map nameD).take i).map V.bl) (pv_start nD rfl) (fun i H2 _ h => .inl (.inl (h.1 _ _ ht))) ?_ ?_
                · rintro i y H7 H8 hi p2 ⟨rfl, gy⟩
                  obtain ⟨d1, g1, p1⟩ := dpAll_at h3 gy
                  have hg1 : gd m d1 := by
                    have := List.mem_of_getElem? g1
                    simp only [List.mem_cons, List.not_mem_nil, or_false] at this
                    rcases this with rfl | rfl | rfl
                    · exact ga
                    · exact gb
                    · exact gc
                  refine ⟨rfl, tYes_at ?_⟩
                  rw [if_pos rfl]
                  refine ⟨_, rfl, y, d1, m, rfl, dp_same p2.1 p1, hg1, fun H9 s9 => ?_⟩
                  exact pv_put nD p2 s9 (take_map V.bl (by rw [List.getElem?_map, g1]; rfl)) (take_len_le (by show 3 < 100000; decide))
                intro H7 p2
                obtain ⟨s7, hD⟩ := pv_end p2 (take_all (by show 3 ≤ 3; decide))
                refine ⟨D, _, rfl, SqL.of hD, _, rfl, ?_⟩
                rw [all_map]
                have s57 := (s5.trans s6).trans s7
                have sl := s6.trans s7
                have eall : [da, db, dc].all nameD = (nameD da && (nameD db && (nameD dc && true))) := rfl
                cases hall : [da, db, dc].all nameD with
                | false =>
                  refine iteT (no ?_ _ s57)
                  rw [rr]
                  rw [eall] at hall
                  cases h5 : nameD da with
                  | false => rfl
                  | true =>
                    cases h6 : nameD db with
                    | false => rfl
                    | true =>
                      cases h7 : inC cs dc with
                      | false => rfl
                      | true => rw [h5, h6, inC_name pb h7] at hall; cases hall
                | true =>
                  rw [eall] at hall
                  obtain ⟨h5, hall⟩ := Bool.and_eq_true_iff.mp hall
                  obtain ⟨h6, hall⟩ := Bool.and_eq_true_iff.mp hall
                  rw [h5, h6, Bool.true_and, Bool.true_and] at rr
                  refine iteF ⟨_, rfl, p, _, 2, _, rfl, rfl, same_tup sl hS2, rfl, ?_⟩
                  refine ⟨_, rfl, pp, _, 0, .ref cc, rfl, rfl, same_tup s57 hpp, rfl, cc, rfl, ⟨_, same_tup s57 hcc⟩, fun D2 nD2 => ?_⟩
                  refine lc_it (walk_tup (xs := cxs)) (PvL H7 D2 fun i => ((cs.map (·.1)).take i).map V.str) (pv_start nD2 rfl) (fun i H2 _ h => same_tup (s57.trans h.1) hcc) ?_ ?_
                  · rintro i y H8 H9 hi p3 ⟨rfl, gy⟩
                    obtain ⟨c1, g1, dp1⟩ := dpAll_map_at hcx gy
                    obtain ⟨r, rfl, hr2⟩ := col_dp dp1
                    refine ⟨rfl, tYes_at ?_⟩
                    rw [if_pos rfl]
                    refine ⟨_, rfl, r, _, 0, _, rfl, rfl, same_tup (s57.trans p3.1) hr2, rfl, ?_⟩
                    exact pv_put nD2 p3 (Same.refl _) (take_map V.str (by rw [List.getElem?_map, g1]; rfl)) (take_len_le (by rw [List.length_map]; omega))
                  intro H8 p3
                  obtain ⟨s8, hD2⟩ := pv_end p3 (take_all (by rw [List.length_map, lcx]; exact Nat.le_refl _))
                  have s58 := s57.trans s8
                  have sl8 := sl.trans s8
                  have hdc : dc.depth ≤ 64 := by
                    have h1 := depth_at (ds := [da, db, dc, df]) (i := 2) rfl
                    have h2 : PyData.depthAll [da, db, dc, df] + 1 ≤ 60 := hde
                    omega
                  refine ⟨dc, _, dp_same sl8 pc, .lst (SqL.of hD2) (dp_strs _), gd_shaped gc hdc, strs_shaped (fun z hz => ?_), _, rfl, ?_⟩
                  · obtain ⟨c1, hc1, rfl⟩ := List.mem_map.mp hz
                    exact pb.wd c1 hc1
                  have ei : ((cs.map (·.1)).map PyData.str).any (fun z => PyData.eqv z dc) = inC cs dc := by unfold inC; rw [List.map_map]; rfl
                  rw [ei]
                  cases hic : inC cs dc with
                  | false =>
                    rw [hic] at rr
                    exact iteT (no rr _ s58)
                  | true =>
                    rw [hic, Bool.true_and] at rr
                    have pf := dp_same sl8 pf
                    have hS8 := same_tup sl8 hS2
                    refine iteF ⟨_, rfl, p, _, 3, _, rfl, rfl, hS8, rfl, _, .ty _, _, _, isIntD _, rfl, .ty _, tyx_dp pf, kit_int pf, _, rfl, ?_⟩
                    have pf2 := pf
                    cases pf with
                    | int n =>
                      refine ⟨_, rfl, p, _, 3, _, rfl, rfl, hS8, rfl, _, .ty _, _, _, isBoolD _, rfl, .ty _, tyx_dp pf2, kit_bool pf2, _, rfl, ?_⟩
                      have en : numD 1 99 (.int n) = (decide (1 ≤ n) && decide (n ≤ 99)) := rfl
                      rw [en] at rr
                      refine iteF ⟨_, rfl, p, _, 3, _, rfl, rfl, hS8, rfl, _, _, rfl, rfl, _, rfl, ite2 (fun h8 => ?_) (fun h8 => ?_)⟩
                      · rw [h8, Bool.true_and] at rr
                        refine ⟨_, _, rfl, rfl, _, rfl, ?_⟩
                        cases h9 : decide (n ≤ 99) with
                        | true =>
                          rw [h9] at rr
                          exact iteF ⟨_, rfl, s58, yes rr⟩
                        | false =>
                          rw [h9] at rr
                          exact iteT (no rr _ s58)
                      · rw [Bool.not_eq_true _ |>.mp h8] at rr
                        exact ⟨_, rfl, iteT (no rr _ s58)⟩
                    | bl b =>
                      refine ⟨_, rfl, p, _, 3, _, rfl, rfl, hS8, rfl, _, .ty _, _, _, isBoolD _, rfl, .ty _, tyx_dp pf2, kit_bool pf2, _, rfl, ?_⟩
                      exact iteT (no rr _ s58)
                    | non => exact iteT (no rr _ s58)
                    | str _ => exact iteT (no rr _ s58)
                    | lst _ _ => exact iteT (no rr _ s58)
                    | tup _ _ => exact iteT (no rr _ s58)
              · have e4 : (!decide (V.int ((us.length : Nat) : Int) = V.int 4)) = true := by
                  rw [decide_eq_false (fun z => h4 (by have := V.int.inj z; omega))]; rfl
                rw [e4]
                exact iteT (no (rrow_not (by show decide _ = false; exact decide_eq_false (by omega))) _ s5)
            | str z => exact iteT (no rfl _ s5)
            | int _ => exact iteT (no rfl _ s5)
            | bl b => exact iteT (no rfl _ s5)
            | non => exact iteT (no rfl _ s5)
            | lst _ _ => exact iteT (no rfl _ s5)
          · rintro σ H4 ⟨v2, rfl, s5, old⟩
            rw [lx, List.take_length] at old
            rw [old] at q
            exact q _ s5
        | false =>
          rw [h2] at q
          exact iteT (q _ (Same.refl _))
      · rw [Bool.not_eq_true _ |>.mp h1] at q
        exact ⟨_, rfl, iteT (q _ (Same.refl _))⟩
    | str z => exact iteT (q _ (Same.refl _))
    | int _ => exact iteT (q _ (Same.refl _))
    | bl b => exact iteT (q _ (Same.refl _))
    | non => exact iteT (q _ (Same.refl _))
    | tup _ _ => exact iteT (q _ (Same.refl _))

end
end Pot

namespace Pot
open PySem PySem.Spec PyProof.Rows L2
section
variable {P : Program} {w : World} {K : PySem.W.Frag} {mg : Str → Option Value} {base : Heap}
/-! ### bounds of drawn data, its texts too -/
def txAll (n : Nat) : List PyData → Prop
  | [] => True
  | x :: xs => tx n x ∧ txAll n xs
where tx (n : Nat) : PyData → Prop
  | .str x => x.length ≤ n
  | .list xs => txAll n xs
  | .tuple xs => txAll n xs
  | _ => True
abbrev tx (n : Nat) (d : PyData) : Prop := txAll.tx n d
theorem txAll_iff {n : Nat} : ∀ {ds : List PyData}, txAll n ds ↔ ∀ d ∈ ds, tx n d
  | [] => ⟨fun _ _ h => (List.not_mem_nil h).elim, fun _ => trivial⟩
  | x :: xs => ⟨fun h d hd => (List.mem_cons.mp hd).elim (fun e => by rw [e]; exact h.1) fun e => txAll_iff.mp h.2 d e, fun h => ⟨h x List.mem_cons_self, txAll_iff.mpr fun d hd => h d (List.mem_cons_of_mem _ hd)⟩⟩
mutual
theorem tx_mono {n k : Nat} (h : n ≤ k) : ∀ d : PyData, tx n d → tx k d
  | .none, _ => trivial
  | .bool _, _ => trivial
  | .int _, _ => trivial
  | .str x, g => Nat.le_trans g h
  | .list xs, g => txAll_mono h xs g
  | .tuple xs, g => txAll_mono h xs g
  | .dict _, _ => trivial
theorem txAll_mono {n k : Nat} (h : n ≤ k) : ∀ ds : List PyData, txAll n ds → txAll k ds
  | [], _ => trivial
  | x :: xs, g => ⟨tx_mono h x g.1, txAll_mono h xs g.2⟩
end
structure Bd (n m C D W : Nat) (d : PyData) : Prop where
  t : Th m C D W d
  x : tx n d
structure Bds (n m C D W : Nat) (ds : List PyData) : Prop where
  t : Ths m C D W ds
  x : ∀ d ∈ ds, tx n d
section
variable {n m C D W n' m' C' D' W' : Nat} {d x : PyData} {ds es xs ys : List PyData}
theorem Bd.mono (h : Bd n m C D W d) (a : n ≤ n') (b : m ≤ m') (c : C ≤ C') (e : D ≤ D') (f : W ≤ W') : Bd n' m' C' D' W' d := ⟨h.t.mono b c e f, tx_mono a d h.x⟩
theorem Bds.mono (h : Bds n m C D W ds) (a : n ≤ n') (b : m ≤ m') (c : C ≤ C') (e : D ≤ D') (f : W ≤ W') : Bds n' m' C' D' W' ds := ⟨h.t.mono b c e f, fun d hd => tx_mono a d (h.x d hd)⟩
theorem Bds.nil : Bds n m 0 D W [] := ⟨Ths.nil, fun _ h => (List.not_mem_nil h).elim⟩
theorem Bds.app (h : Bds n m C D W xs) (k : Bds n m C' D W ys) : Bds n m (C + C') D W (xs ++ ys) := ⟨h.t.app k.t, fun d hd => (List.mem_append.mp hd).elim (h.x d) (k.x d)⟩
theorem Bds.one (h : Bd n m C D W x) : Bds n m (C + 2) D W [x] := ⟨Ths.one h.t, fun d hd => by rw [List.mem_singleton.mp hd]; exact h.x⟩
theorem Bds.list (h : Bds n m C D W ds) (l : ds.length ≤ W) : Bd n m (C + 3) (D + 1) W (.list ds) := ⟨h.t.list l, txAll_iff.mpr h.x⟩
theorem Bds.tuple (h : Bds n m C D W ds) (l : ds.length ≤ W) : Bd n m (C + 3) (D + 1) W (.tuple ds) := ⟨h.t.tuple l, txAll_iff.mpr h.x⟩
theorem Bd.parts (h : Bd n m C D W d) (e : d = .list ds ∨ d = .tuple ds) : Bds n m (C - 3) (D - 1) W ds ∧ ds.length ≤ W ∧ 3 ≤ C ∧ 1 ≤ D := by
  obtain ⟨a, b⟩ := h.t.parts e
  refine ⟨⟨a, ?_⟩, b⟩
  rcases e with rfl | rfl
  · exact txAll_iff.mp h.x
  · exact txAll_iff.mp h.x
theorem Bds.take (h : Bds n m C D W ds) (k : Nat) : Bds n m C D W (ds.take k) := ⟨h.t.take k, fun d hd => h.x d (List.mem_of_mem_take hd)⟩
theorem Bds.drop (h : Bds n m C D W ds) (k : Nat) : Bds n m C D W (ds.drop k) := ⟨h.t.drop k, fun d hd => h.x d (List.mem_of_mem_drop hd)⟩
theorem Bds.rev (h : Bds n m C D W ds) : Bds n m C D W ds.reverse := ⟨h.t.rev, fun d hd => h.x d (List.mem_reverse.mp hd)⟩
theorem Bds.set {i : Nat} (h : Bds n m C D W ds) (k : Bd n m C' D W x) : Bds n m (C + C' + 2) D W (ds.set i x) := ⟨h.t.set k.t, fun d hd => (List.mem_or_eq_of_mem_set hd).elim (h.x d) fun e => by rw [e]; exact k.x⟩
theorem Bds.mem (h : Bds n m C D W ds) (e : d ∈ ds) : Bd n m C D W d := ⟨h.t.mem e, h.x d e⟩
theorem bd_int {i : Int} (h : i.natAbs ≤ m) : Bd n m 1921 0 0 (.int i) := ⟨⟨h, Nat.le_refl _, Nat.le_refl _, Nat.le_refl _⟩, trivial⟩
theorem bd_bool (b : Bool) : Bd n m 5 0 0 (.bool b) := ⟨⟨trivial, Nat.le_refl _, Nat.le_refl _, Nat.le_refl _⟩, trivial⟩
theorem bd_none : Bd n m 4 0 0 .none := ⟨⟨trivial, Nat.le_refl _, Nat.le_refl _, Nat.le_refl _⟩, trivial⟩
theorem bd_str {z : Str} (h : z.length ≤ n) (h2 : n ≤ 2000) (c : ∀ x ∈ z.cps.toList, x < 1114112) : Bd n m (10 * n + 2) 0 0 (.str z) := ⟨⟨⟨Nat.le_trans h h2, c⟩, by show 10 * z.length + 2 ≤ _; omega, Nat.le_refl _, Nat.le_refl _⟩, h⟩
end
theorem text_small {i : Int} (h : i.natAbs ≤ 400) : (Str.ofString (toString i)).length ≤ 4 := by
  have a : ∀ k, k < 401 → (Str.ofString (toString (Int.ofNat k))).length ≤ 4 := by decide +kernel
  have b : ∀ k, k < 401 → (Str.ofString (toString (-(Int.ofNat k)))).length ≤ 4 := by decide +kernel
  by_cases s : 0 ≤ i
  · have := a i.natAbs (by omega)
    have e : Int.ofNat i.natAbs = i := by show ((i.natAbs : Nat) : Int) = i; omega
    rw [e] at this; exact this
  · have := b i.natAbs (by omega)
    have e : -(Int.ofNat i.natAbs) = i := by show -((i.natAbs : Nat) : Int) = i; omega
    rw [e] at this; exact this
theorem cut_small (z : Str) (lo hi : Option Int) : (cutS z lo hi).length ≤ z.length := by
  have := cut_len z lo hi
  have h1 : HT.sIx z.length z.length hi ≤ z.length := HT.sIx_le _ _ (Nat.le_refl _) _
  omega

theorem cut_dp {H : Hp} {xs : List V} {ds : List PyData} {n m C D W : Nat} (da : DpAll K H xs ds) (b : Bds n m C D W ds) (lo hi : Option Int) : ∃ ys es, cutV xs lo hi = ys ∧ DpAll K H ys es ∧ Bds n m C D W es ∧ es.length ≤ ds.length ∧ ys.length = es.length := by
  refine ⟨_, (ds.drop (HT.sIx xs.length 0 lo)).take (HT.sIx xs.length xs.length hi - HT.sIx xs.length 0 lo), rfl, ?_, (b.drop _).take _, ?_, ?_⟩
  · exact dpAll_take _ (dpAll_drop _ da)
  · rw [List.length_take, List.length_drop]; omega
  · exact dpAll_len (dpAll_take _ (dpAll_drop _ da))
theorem cut_one (xs : List V) (a : Nat) : (cutV xs (some (a : Int)) (some ((a : Int) + 1))).length ≤ 1 := by
  unfold cutV
  rw [List.length_take, List.length_drop]
  rw [show ((a : Int) + 1) = ((a + 1 : Nat) : Int) by omega, HT.sIx_nat, HT.sIx_nat]
  omega
theorem str_mem_app {a b : Str} {x : Nat} (h : x ∈ (a ++ b).cps.toList) : x ∈ a.cps.toList ∨ x ∈ b.cps.toList := by
  have e : (a ++ b).cps.toList = a.cps.toList ++ b.cps.toList := Array.toList_append
  rw [e] at h
  exact List.mem_append.mp h
abbrev SqA (K : PySem.W.Frag) (H : Hp) (a : Addr) (xs : List V) : Prop := SqL K H a xs ∨ SqT K H a xs
theorem sq_same {H H' : Hp} {a : Addr} {xs : List V} (s : Same H H') (h : SqA K H a xs) : SqA K H' a xs := h.imp s.seq (same_tup s)
theorem sqa_off {H : Hp} {S : List Addr} {a : Addr} {xs : List V} (h : SqA K (off H S) a xs) : SqA K H a xs := sq_same off_sub h
theorem sqa_len {H : Hp} {a : Addr} {xs : List V} (h : SqA K H a xs) : LenV K (.ref a) H xs.length := h.elim (fun h => .inl ⟨_, h, rfl⟩) (fun h => .inr ⟨_, h, rfl⟩)
def spOdd (K : PySem.W.Frag) : Sp := fun vs H Q _ => ∃ (d c : Addr) (S : List Addr) (cnt : Nat) (x : V) (e : PyData) (n m C D W : Nat), vs = [.ref d, x] ∧ StAt H d c cnt ∧ cnt < 2 ^ 39 ∧ d ∈ S ∧ c ∈ S ∧ Live S H ∧ Dp K (off H S) x e ∧ Bd n m C D W e ∧ n ≤ 500 ∧ 9 ≤ n ∧ m ≤ 300 ∧ 1 ≤ W ∧ W ≤ 1000 ∧ C ≤ 1000000 ∧
  ∀ (H' : Hp) (y : V) (e' : PyData), StAt H' d c (cnt + 3) → Sm [d, c] H H' → Dp K (off H' S) y e' → Bd (3 * n + 1) (m + 100) (3 * C + 20000) (D + 2) (W + 1) e' → Q y H'
abbrev s__law_odd : Stmt := topS 18
def n__law_odd : List Str := ["_law_state", "_law_thing", "_law_way", "_law_at", "_law_sign", "_law_inner", "_law_some"]
theorem sc__law_odd : FnScope n__law_odd ["_law_state", "_law_thing"] (defScope s__law_odd) := ⟨rfl, rfl, rfl, by decide +kernel, rfl, by decide +kernel, by decide +kernel⟩
set_option maxHeartbeats 4000000 in
theorem ok_odd {f : Addr} {fd : FuncData} {k : Nat} (F : Fun K "_law_odd" "_law_odd" s__law_odd f fd) (T : Txt mg) (c__law_take : Cl P w K mg base (k + 1) "_law_take" spTake) : FnOk P w K mg base CX0 (k + 2) f fd ["_law_state", "_law_thing"] (spOdd K) := by
  refine F.ok sc__law_odd (fun vs H Q E h => ?_) (fun cdv A outer s H vs Q E hr h => ?_)
  · obtain ⟨d, c, S, cnt, x, e, n, m, C, D, W, rfl, _⟩ := h
    rfl
  · obtain ⟨d, c, S, cnt, x, e, n, m, C, D, W, rfl, B, hn, hd, hc, lv, dp, bd, n5, n9, m3, W1, W9, hC, q⟩ := h
    have nd := sc__law_odd.nd
    refine ⟨_, (pss_cons (ps_set (i := 2) nd rfl (.inl rfl) (pe_cl c__law_take hr (by omega) (by rfl) (pa_cons (pv 0) (pa_cons pe_int pa_nil))))
      (pss_cons (ps_if ((pw_and (pt_val (pe_callB (kc_isi (K := K)) (by rfl) T.isinstance (by decide +kernel) (pa_cons (pv 1) (pa_cons (pe_bltn (v := .ty "int") (by rfl) T.int (by decide +kernel) rfl) pa_nil)))) (pw_and (pt_not (pt_val (pe_callB (kc_isi (K := K)) (by rfl) T.isinstance (by decide +kernel) (pa_cons (pv 1) (pa_cons (pe_bltn (v := .ty "bool") (by rfl) T.bool (by decide +kernel) rfl) pa_nil))))) (pw_and1 (pt_cmpR op_lt (pv 2) pe_int (nomark _)))))).pt
          (pss_one (ps_ret (pe_ix (kx_list (K := K)) (pe_lst (pa_cons (pe_op op_add (pv 1) pe_int) (pa_cons (pe_op op_sub (pv 1) pe_int) (pa_cons (pe_op op_sub pe_int (pv 1)) (pa_cons pe_int (pa_cons pe_int (pa_cons pe_bl (pa_cons (pe_callTy call_str_int (by rfl) T.str (by decide +kernel) (pa_cons (pv 1) pa_nil)) pa_nil)))))))) (pv 2) (fun _ _ => rfl))))
          pss_nil)
      (pss_cons (ps_if ((pw_and (pt_val (pe_callB (kc_isi (K := K)) (by rfl) T.isinstance (by decide +kernel) (pa_cons (pv 1) (pa_cons (pe_bltn (v := .ty "str") (by rfl) T.str (by decide +kernel) rfl) pa_nil)))) (pw_and1 (pt_cmpR op_lt (pv 2) pe_int (nomark _))))).pt
          (pss_cons (ps_set (i := 3) nd rfl (.inl rfl) (pe_cl c__law_take hr (by omega) (by rfl) (pa_cons (pv 0) (pa_cons (pe_op op_add (pe_callB (kc_len (K := K)) (by rfl) T.len PySem.boot_len (pa_cons (pv 1) pa_nil)) pe_int) pa_nil))))
          (pss_cons (ps_set (i := 4) nd rfl (.inl rfl) (pe_ix (kx_list (K := K)) (pe_lst (pa_cons pe_str (pa_cons pe_str (pa_cons pe_str (pa_cons pe_str (pa_cons pe_str (pa_cons pe_str (pa_cons pe_str pa_nil)))))))) (pv 2) (fun _ _ => rfl)))
          (pss_one (ps_ret (pe_ix (kx_list (K := K)) (pe_lst (pa_cons (pe_op op_add_str (pe_op op_add_str (pe_slice sl_str (pv 1) po_none (po_some (pv 3))) (pv 4)) (pe_slice sl_str (pv 1) (po_some (pv 3)) po_none)) (pa_cons (pe_op op_add_str (pe_slice sl_str (pv 1) po_none (po_some (pv 3))) (pe_slice sl_str (pv 1) (po_some (pe_op op_add (pv 3) pe_int)) po_none)) (pa_cons (pe_op op_rep3 (pv 1) pe_int) pa_nil)))) (pe_cl c__law_take hr (by omega) (by rfl) (pa_cons (pv 0) (pa_cons pe_int pa_nil))) (fun _ _ => rfl))))))
          pss_nil)
      (pss_cons (ps_if ((pw_and (pt_val (pe_callB (kc_isiT (K := K)) (by rfl) T.isinstance (by decide +kernel) (pa_cons (pv 1) (pa_cons (pe_tup (pa_cons (pe_bltn (v := .ty "list") (by rfl) T.list (by decide +kernel) rfl) (pa_cons (pe_bltn (v := .ty "tuple") (by rfl) T.tuple (by decide +kernel) rfl) pa_nil))) pa_nil)))) (pw_and1 (pt_cmpR op_lt (pv 2) pe_int (nomark _))))).pt
          (pss_cons (ps_par (i := 3) (j := 5) rfl nd rfl rfl (by decide) rfl rfl (pa_cons (pe_cl c__law_take hr (by omega) (by rfl) (pa_cons (pv 0) (pa_cons (pe_op op_add (pe_callB (kc_len (K := K)) (by rfl) T.len PySem.boot_len (pa_cons (pv 1) pa_nil)) pe_int) pa_nil))) (pa_cons (pe_callTy (kc_list (K := K)) (by rfl) T.list (by decide +kernel) (pa_cons (pv 1) pa_nil)) pa_nil)) rfl)
          (pss_cons (ps_set (i := 6) nd rfl (.inl rfl) (pe_lst (pa_cons (pe_op op_cat (pe_slice (kl_list (K := K)) (pv 5) po_none (po_some (pv 3))) (pe_slice (kl_list (K := K)) (pv 5) (po_some (pe_op op_add (pv 3) pe_int)) po_none)) (pa_cons (pe_op op_cat (pe_op op_cat (pe_slice (kl_list (K := K)) (pv 5) po_none (po_some (pv 3))) (pe_slice (kl_list (K := K)) (pv 5) (po_some (pv 3)) (po_some (pe_op op_add (pv 3) pe_int)))) (pe_slice (kl_list (K := K)) (pv 5) (po_some (pv 3)) po_none)) (pa_cons (pe_revL (pv 5)) (pa_cons (pe_op op_cat (pv 5) (pe_lst (pa_cons pe_int pa_nil))) pa_nil))))))
          (pss_cons (ps_if (pt_cmpR op_lt (pv 2) pe_int (nomark _))
              (pss_one (ps_ret (pe_ifExp (pt_val (pe_callB (kc_isi (K := K)) (by rfl) T.isinstance (by decide +kernel) (pa_cons (pv 1) (pa_cons (pe_bltn (v := .ty "list") (by rfl) T.list (by decide +kernel) rfl) pa_nil)))) (pe_ix (kx_list (K := K)) (pv 6) (pv 2) (fun _ _ => rfl)) (pe_callTy (kc_tuple (K := K)) (by rfl) T.tuple (by decide +kernel) (pa_cons (pe_ix (kx_list (K := K)) (pv 6) (pv 2) (fun _ _ => rfl)) pa_nil)))))
              pss_nil)
          (pss_one (ps_ret (pe_ix (kx_list (K := K)) (pe_lst (pa_cons (pe_ifExp (pt_val (pe_callB (kc_isi (K := K)) (by rfl) T.isinstance (by decide +kernel) (pa_cons (pv 1) (pa_cons (pe_bltn (v := .ty "tuple") (by rfl) T.tuple (by decide +kernel) rfl) pa_nil)))) (pv 5) (pe_callTy (kc_tuple (K := K)) (by rfl) T.tuple (by decide +kernel) (pa_cons (pv 5) pa_nil))) (pa_cons (pe_lst (pa_cons (pv 5) pa_nil)) (pa_cons (pe_tup (pa_cons (pv 1) pa_nil)) pa_nil)))) (pe_op op_sub (pv 2) pe_int) (fun _ _ => rfl)))))))
          pss_nil)
      (pss_one (ps_ret (pe_ix (kx_list (K := K)) (pe_lst (pa_cons pe_non (pa_cons pe_bl (pa_cons pe_int (pa_cons pe_str (pa_cons (pe_tup pa_nil) (pa_cons (pe_lst pa_nil) (pa_cons pe_str (pa_cons (pe_un un_neg pe_int) (pa_cons (pe_lst (pa_cons (pe_tup pa_nil) pa_nil)) (pa_cons (pe_tup (pa_cons (pe_tup pa_nil) pa_nil)) (pa_cons pe_int (pa_cons pe_bl pa_nil))))))))))))) (pv 2) (fun _ _ => rfl)))))))), ?_⟩
    have sc : Sm [d, c] H H := Same.refl _
    refine ⟨_, rfl, d, c, 12, _, rfl, (by decide), (by decide), B, by omega, fun H1 way w0 w1 B1 s1 => ?_⟩
    have lv := lv.st B1 s1
    have sc := sc.trans s1
    have B := B1
    have dp := dp_same ((sm_two hd hc s1)) dp
    have dH := dp_off dp
    have dp0 := dp
    refine ⟨_, rfl, _, .ty _, _, _, isIntD _, rfl, .ty _, tyx_dp dH, kit_int dH, _, rfl, ?_⟩
    cases dp with
    | int i =>
      refine iteT ⟨_, rfl, _, .ty _, _, _, isBoolD _, rfl, .ty _, tyx_dp dH, kit_bool dH, _, rfl, ?_⟩
      refine iteT ⟨_, rfl, _, _, rfl, rfl, _, rfl, ite2 (fun h7 => ?_) (fun h7 => ?_)⟩
      · have hi : i.natAbs ≤ m := bd.t.g
        have h7 := of_decide_eq_true h7
        refine ⟨_, rfl, _, _, rfl, rfl, _, rfl, _, _, rfl, rfl, _, rfl, _, _, rfl, rfl, _, rfl, _, rfl, log_small' (by omega), (by show 7 ≤ sizeLine; decide), fun p1 np1 => ?_⟩
        have fp1 := off_new (o := .lst [.int (i + 1), .int (i - 1), .int (0 - i), .int 0, .int 100, .bl true, .str (Str.ofString (toString i))]) lv np1
        have lv := lv.put (o := .lst [.int (i + 1), .int (i - 1), .int (0 - i), .int 0, .int 100, .bl true, .str (Str.ofString (toString i))]) np1
        have B := B.same (same_upd (o := .lst [.int (i + 1), .int (i - 1), .int (0 - i), .int 0, .int 100, .bl true, .str (Str.ofString (toString i))]) np1)
        have sc := sc.trans (sm_put (S := [d, c]) (o := .lst [.int (i + 1), .int (i - 1), .int (0 - i), .int 0, .int 100, .bl true, .str (Str.ofString (toString i))]) np1)
        generalize upd H1 p1 (.lst [.int (i + 1), .int (i - 1), .int (0 - i), .int 0, .int 100, .bl true, .str (Str.ofString (toString i))]) = H2 at fp1 lv B sc  ⊢
        obtain ⟨v, ed, ev, dv, tv⟩ : ∃ v ed, atI [V.int (i + 1), .int (i - 1), .int (0 - i), .int 0, .int 100, .bl true, .str (Str.ofString (toString i))] way = some v ∧ Dp K (off H2 S) v ed ∧ Bd (3 * n + 1) (m + 100) (3 * C + 20000) (D + 2) (W + 1) ed := by
          have h : way = 0 ∨ way = 1 ∨ way = 2 ∨ way = 3 ∨ way = 4 ∨ way = 5 ∨ way = 6 := by omega
          have up : ∀ {C' : Nat} {dd : PyData}, Bd 4 (m + 100) C' 0 0 dd → C' ≤ 20000 → Bd (3 * n + 1) (m + 100) (3 * C + 20000) (D + 2) (W + 1) dd := fun h a => h.mono (by omega) (by omega) (by omega) (by omega) (by omega)
          rcases h with rfl | rfl | rfl | rfl | rfl | rfl | rfl
          · exact ⟨_, _, rfl, .int _, up (bd_int (by omega)) (by decide)⟩
          · exact ⟨_, _, rfl, .int _, up (bd_int (by omega)) (by decide)⟩
          · exact ⟨_, _, rfl, .int _, up (bd_int (by omega)) (by decide)⟩
          · exact ⟨_, _, rfl, .int _, up (bd_int (by show 0 ≤ _; omega)) (by decide)⟩
          · exact ⟨_, _, rfl, .int _, up (bd_int (by show 100 ≤ _; omega)) (by decide)⟩
          · exact ⟨_, _, rfl, .bl _, up (bd_bool _) (by decide)⟩
          · exact ⟨_, _, rfl, .str _, up (bd_str (text_small (by omega)) (by decide) (codes_ofString _)) (by decide)⟩
        refine ⟨_, rfl, p1, _, way, v, rfl, rfl, SqL.of (at_off fp1), ev, ?_⟩
        exact q _ _ _ (B.mono (by omega)) sc dv tv
      · refine ⟨_, rfl, _, .ty _, _, _, isStrD _, rfl, .ty _, tyx_dp dH, kit_str dH, _, rfl, iteF ?_⟩
        refine ⟨_, rfl, (by show 2 ≤ sizeLine; decide), fun t nt => ?_⟩
        have ft := off_new (o := .tup [.ty "list", .ty "tuple"]) lv nt
        have lv := lv.put (o := .tup [.ty "list", .ty "tuple"]) nt
        have B := B.same (same_upd (o := .tup [.ty "list", .ty "tuple"]) nt)
        have sc := sc.trans (sm_put (S := [d, c]) (o := .tup [.ty "list", .ty "tuple"]) nt)
        have dp0 := dp_same ((sm_put (S := S) (o := .tup [.ty "list", .ty "tuple"]) nt)) dp0
        generalize upd H1 t (.tup [.ty "list", .ty "tuple"]) = H2 at ft lv B sc dp0 ⊢
        have dH2 := dp_off dp0
        refine ⟨_, t, _, _, _, _, rfl, at_off ft, .cons (.ty _) (.cons (.ty _) .nil), tyx_dp dH2, kit_lt dH2, _, rfl, ?_⟩
        refine iteF ?_
        refine ⟨Nat.zero_le _, fun p1 np1 => ?_⟩
        have fp1 := off_new (o := .tup []) lv np1
        have lv := lv.put (o := .tup []) np1
        have B := B.same (same_upd (o := .tup []) np1)
        have sc := sc.trans (sm_put (S := [d, c]) (o := .tup []) np1)
        generalize upd H2 p1 (.tup []) = T1 at fp1 lv B sc  ⊢
        refine ⟨Nat.zero_le _, fun p2 np2 => ?_⟩
        have fp2 := off_new (o := .lst []) lv np2
        have lv := lv.put (o := .lst []) np2
        have B := B.same (same_upd (o := .lst []) np2)
        have sc := sc.trans (sm_put (S := [d, c]) (o := .lst []) np2)
        have fp1 := (sm_put (S := S) (o := .lst []) np2) _ _ fp1
        generalize upd T1 p2 (.lst []) = T2 at fp2 lv B sc fp1 ⊢
        refine ⟨1, rfl, Nat.zero_le _, fun p3 np3 => ?_⟩
        have fp3 := off_new (o := .tup []) lv np3
        have lv := lv.put (o := .tup []) np3
        have B := B.same (same_upd (o := .tup []) np3)
        have sc := sc.trans (sm_put (S := [d, c]) (o := .tup []) np3)
        have fp1 := (sm_put (S := S) (o := .tup []) np3) _ _ fp1
        have fp2 := (sm_put (S := S) (o := .tup []) np3) _ _ fp2
        generalize upd T2 p3 (.tup []) = T3 at fp3 lv B sc fp1 fp2 ⊢
        refine ⟨(by show 1 ≤ sizeLine; decide), fun p4 np4 => ?_⟩
        have fp4 := off_new (o := .lst [.ref p3]) lv np4
        have lv := lv.put (o := .lst [.ref p3]) np4
        have B := B.same (same_upd (o := .lst [.ref p3]) np4)
        have sc := sc.trans (sm_put (S := [d, c]) (o := .lst [.ref p3]) np4)
        have fp1 := (sm_put (S := S) (o := .lst [.ref p3]) np4) _ _ fp1
        have fp2 := (sm_put (S := S) (o := .lst [.ref p3]) np4) _ _ fp2
        have fp3 := (sm_put (S := S) (o := .lst [.ref p3]) np4) _ _ fp3
        generalize upd T3 p4 (.lst [.ref p3]) = T4 at fp4 lv B sc fp1 fp2 fp3 ⊢
        refine ⟨Nat.zero_le _, fun p5 np5 => ?_⟩
        have fp5 := off_new (o := .tup []) lv np5
        have lv := lv.put (o := .tup []) np5
        have B := B.same (same_upd (o := .tup []) np5)
        have sc := sc.trans (sm_put (S := [d, c]) (o := .tup []) np5)
        have fp1 := (sm_put (S := S) (o := .tup []) np5) _ _ fp1
        have fp2 := (sm_put (S := S) (o := .tup []) np5) _ _ fp2
        have fp3 := (sm_put (S := S) (o := .tup []) np5) _ _ fp3
        have fp4 := (sm_put (S := S) (o := .tup []) np5) _ _ fp4
        generalize upd T4 p5 (.tup []) = T5 at fp5 lv B sc fp1 fp2 fp3 fp4 ⊢
        refine ⟨(by show 1 ≤ sizeLine; decide), fun p6 np6 => ?_⟩
        have fp6 := off_new (o := .tup [.ref p5]) lv np6
        have lv := lv.put (o := .tup [.ref p5]) np6
        have B := B.same (same_upd (o := .tup [.ref p5]) np6)
        have sc := sc.trans (sm_put (S := [d, c]) (o := .tup [.ref p5]) np6)
        have fp1 := (sm_put (S := S) (o := .tup [.ref p5]) np6) _ _ fp1
        have fp2 := (sm_put (S := S) (o := .tup [.ref p5]) np6) _ _ fp2
        have fp3 := (sm_put (S := S) (o := .tup [.ref p5]) np6) _ _ fp3
        have fp4 := (sm_put (S := S) (o := .tup [.ref p5]) np6) _ _ fp4
        have fp5 := (sm_put (S := S) (o := .tup [.ref p5]) np6) _ _ fp5
        generalize upd T5 p6 (.tup [.ref p5]) = T6 at fp6 lv B sc fp1 fp2 fp3 fp4 fp5 ⊢
        refine ⟨(by show 12 ≤ sizeLine; decide), fun p7 np7 => ?_⟩
        have fp7 := off_new (o := .lst [.non, .bl true, .int 0, .str "", .ref p1, .ref p2, .str "a", .int (-1), .ref p4, .ref p6, .int 1, .bl false]) lv np7
        have lv := lv.put (o := .lst [.non, .bl true, .int 0, .str "", .ref p1, .ref p2, .str "a", .int (-1), .ref p4, .ref p6, .int 1, .bl false]) np7
        have B := B.same (same_upd (o := .lst [.non, .bl true, .int 0, .str "", .ref p1, .ref p2, .str "a", .int (-1), .ref p4, .ref p6, .int 1, .bl false]) np7)
        have sc := sc.trans (sm_put (S := [d, c]) (o := .lst [.non, .bl true, .int 0, .str "", .ref p1, .ref p2, .str "a", .int (-1), .ref p4, .ref p6, .int 1, .bl false]) np7)
        have fp1 := (sm_put (S := S) (o := .lst [.non, .bl true, .int 0, .str "", .ref p1, .ref p2, .str "a", .int (-1), .ref p4, .ref p6, .int 1, .bl false]) np7) _ _ fp1
        have fp2 := (sm_put (S := S) (o := .lst [.non, .bl true, .int 0, .str "", .ref p1, .ref p2, .str "a", .int (-1), .ref p4, .ref p6, .int 1, .bl false]) np7) _ _ fp2
        have fp3 := (sm_put (S := S) (o := .lst [.non, .bl true, .int 0, .str "", .ref p1, .ref p2, .str "a", .int (-1), .ref p4, .ref p6, .int 1, .bl false]) np7) _ _ fp3
        have fp4 := (sm_put (S := S) (o := .lst [.non, .bl true, .int 0, .str "", .ref p1, .ref p2, .str "a", .int (-1), .ref p4, .ref p6, .int 1, .bl false]) np7) _ _ fp4
        have fp5 := (sm_put (S := S) (o := .lst [.non, .bl true, .int 0, .str "", .ref p1, .ref p2, .str "a", .int (-1), .ref p4, .ref p6, .int 1, .bl false]) np7) _ _ fp5
        have fp6 := (sm_put (S := S) (o := .lst [.non, .bl true, .int 0, .str "", .ref p1, .ref p2, .str "a", .int (-1), .ref p4, .ref p6, .int 1, .bl false]) np7) _ _ fp6
        generalize upd T6 p7 (.lst [.non, .bl true, .int 0, .str "", .ref p1, .ref p2, .str "a", .int (-1), .ref p4, .ref p6, .int 1, .bl false]) = T7 at fp7 lv B sc fp1 fp2 fp3 fp4 fp5 fp6 ⊢
        obtain ⟨lv_, ld_, lev, ldv, lbd⟩ : ∃ v ed, atI [V.non, .bl true, .int 0, .str "", .ref p1, .ref p2, .str "a", .int (-1), .ref p4, .ref p6, .int 1, .bl false] way = some v ∧ Dp K (off T7 S) v ed ∧ Bd (3 * n + 1) (m + 100) (3 * C + 20000) (D + 2) (W + 1) ed := by
          have h : way = 0 ∨ way = 1 ∨ way = 2 ∨ way = 3 ∨ way = 4 ∨ way = 5 ∨ way = 6 ∨ way = 7 ∨ way = 8 ∨ way = 9 ∨ way = 10 ∨ way = 11 := by omega
          have up : ∀ {C' D' W' : Nat} {dd : PyData}, Bd 1 100 C' D' W' dd → C' ≤ 20000 → D' ≤ 2 → W' ≤ 1 → Bd (3 * n + 1) (m + 100) (3 * C + 20000) (D + 2) (W + 1) dd := fun h a b c => h.mono (by omega) (by omega) (by omega) (by omega) (by omega)
          have b0 : Bd 1 100 3 1 1 (.tuple []) := (Bds.nil (D := 0)).tuple (Nat.zero_le 1)
          rcases h with rfl | rfl | rfl | rfl | rfl | rfl | rfl | rfl | rfl | rfl | rfl | rfl
          · exact ⟨_, .none, rfl, .non, up bd_none (by decide) (by decide) (by decide)⟩
          · exact ⟨_, .bool true, rfl, .bl _, up (bd_bool _) (by decide) (by decide) (by decide)⟩
          · exact ⟨_, .int 0, rfl, .int _, up (bd_int (by decide)) (by decide) (by decide) (by decide)⟩
          · exact ⟨_, .str "", rfl, .str _, up (bd_str (by decide +kernel) (by decide) (by decide +kernel)) (by decide) (by decide) (by decide)⟩
          · exact ⟨_, .tuple [], rfl, .tup (.inl (.inl fp1)) .nil, up b0 (by decide) (by decide) (by decide)⟩
          · exact ⟨_, .list [], rfl, .lst (SqL.of fp2) .nil, up ((Bds.nil (D := 0) (W := 1)).list (Nat.zero_le 1)) (by decide) (by decide) (by decide)⟩
          · exact ⟨_, .str "a", rfl, .str _, up (bd_str (by decide +kernel) (by decide) (by decide +kernel)) (by decide) (by decide) (by decide)⟩
          · exact ⟨_, .int (-1), rfl, .int _, up (bd_int (by decide)) (by decide) (by decide) (by decide)⟩
          · exact ⟨_, .list [.tuple []], rfl, .lst (SqL.of fp4) (.cons (.tup (.inl (.inl fp3)) .nil) .nil), up ((Bds.one b0).list (by decide)) (by decide) (by decide) (by decide)⟩
          · exact ⟨_, .tuple [.tuple []], rfl, .tup (.inl (.inl fp6)) (.cons (.tup (.inl (.inl fp5)) .nil) .nil), up ((Bds.one b0).tuple (by decide)) (by decide) (by decide) (by decide)⟩
          · exact ⟨_, .int 1, rfl, .int _, up (bd_int (by decide)) (by decide) (by decide) (by decide)⟩
          · exact ⟨_, .bool false, rfl, .bl _, up (bd_bool _) (by decide) (by decide) (by decide)⟩
        refine ⟨_, rfl, p7, _, way, lv_, rfl, rfl, SqL.of (at_off fp7), lev, ?_⟩
        exact q _ _ _ (B.mono (by omega)) sc ldv lbd
    | bl b =>
      refine iteT ⟨_, rfl, _, .ty _, _, _, isBoolD _, rfl, .ty _, tyx_dp dH, kit_bool dH, _, rfl, ?_⟩
      refine iteF ?_
      refine ⟨_, rfl, _, .ty _, _, _, isStrD _, rfl, .ty _, tyx_dp dH, kit_str dH, _, rfl, iteF ?_⟩
      refine ⟨_, rfl, (by show 2 ≤ sizeLine; decide), fun t nt => ?_⟩
      have ft := off_new (o := .tup [.ty "list", .ty "tuple"]) lv nt
      have lv := lv.put (o := .tup [.ty "list", .ty "tuple"]) nt
      have B := B.same (same_upd (o := .tup [.ty "list", .ty "tuple"]) nt)
      have sc := sc.trans (sm_put (S := [d, c]) (o := .tup [.ty "list", .ty "tuple"]) nt)
      have dp0 := dp_same ((sm_put (S := S) (o := .tup [.ty "list", .ty "tuple"]) nt)) dp0
      generalize upd H1 t (.tup [.ty "list", .ty "tuple"]) = H2 at ft lv B sc dp0 ⊢
      have dH2 := dp_off dp0
      refine ⟨_, t, _, _, _, _, rfl, at_off ft, .cons (.ty _) (.cons (.ty _) .nil), tyx_dp dH2, kit_lt dH2, _, rfl, ?_⟩
      refine iteF ?_
      refine ⟨Nat.zero_le _, fun p1 np1 => ?_⟩
      have fp1 := off_new (o := .tup []) lv np1
      have lv := lv.put (o := .tup []) np1
      have B := B.same (same_upd (o := .tup []) np1)
      have sc := sc.trans (sm_put (S := [d, c]) (o := .tup []) np1)
      generalize upd H2 p1 (.tup []) = T1 at fp1 lv B sc  ⊢
      refine ⟨Nat.zero_le _, fun p2 np2 => ?_⟩
      have fp2 := off_new (o := .lst []) lv np2
      have lv := lv.put (o := .lst []) np2
      have B := B.same (same_upd (o := .lst []) np2)
      have sc := sc.trans (sm_put (S := [d, c]) (o := .lst []) np2)
      have fp1 := (sm_put (S := S) (o := .lst []) np2) _ _ fp1
      generalize upd T1 p2 (.lst []) = T2 at fp2 lv B sc fp1 ⊢
      refine ⟨1, rfl, Nat.zero_le _, fun p3 np3 => ?_⟩
      have fp3 := off_new (o := .tup []) lv np3
      have lv := lv.put (o := .tup []) np3
      have B := B.same (same_upd (o := .tup []) np3)
      have sc := sc.trans (sm_put (S := [d, c]) (o := .tup []) np3)
      have fp1 := (sm_put (S := S) (o := .tup []) np3) _ _ fp1
      have fp2 := (sm_put (S := S) (o := .tup []) np3) _ _ fp2
      generalize upd T2 p3 (.tup []) = T3 at fp3 lv B sc fp1 fp2 ⊢
      refine ⟨(by show 1 ≤ sizeLine; decide), fun p4 np4 => ?_⟩
      have fp4 := off_new (o := .lst [.ref p3]) lv np4
      have lv := lv.put (o := .lst [.ref p3]) np4
      have B := B.same (same_upd (o := .lst [.ref p3]) np4)
      have sc := sc.trans (sm_put (S := [d, c]) (o := .lst [.ref p3]) np4)
      have fp1 := (sm_put (S := S) (o := .lst [.ref p3]) np4) _ _ fp1
      have fp2 := (sm_put (S := S) (o := .lst [.ref p3]) np4) _ _ fp2
      have fp3 := (sm_put (S := S) (o := .lst [.ref p3]) np4) _ _ fp3
      generalize upd T3 p4 (.lst [.ref p3]) = T4 at fp4 lv B sc fp1 fp2 fp3 ⊢
      refine ⟨Nat.zero_le _, fun p5 np5 => ?_⟩
      have fp5 := off_new (o := .tup []) lv np5
      have lv := lv.put (o := .tup []) np5
      have B := B.same (same_upd (o := .tup []) np5)
      have sc := sc.trans (sm_put (S := [d, c]) (o := .tup []) np5)
      have fp1 := (sm_put (S := S) (o := .tup []) np5) _ _ fp1
      have fp2 := (sm_put (S := S) (o := .tup []) np5) _ _ fp2
      have fp3 := (sm_put (S := S) (o := .tup []) np5) _ _ fp3
      have fp4 := (sm_put (S := S) (o := .tup []) np5) _ _ fp4
      generalize upd T4 p5 (.tup []) = T5 at fp5 lv B sc fp1 fp2 fp3 fp4 ⊢
      refine ⟨(by show 1 ≤ sizeLine; decide), fun p6 np6 => ?_⟩
      have fp6 := off_new (o := .tup [.ref p5]) lv np6
      have lv := lv.put (o := .tup [.ref p5]) np6
      have B := B.same (same_upd (o := .tup [.ref p5]) np6)
      have sc := sc.trans (sm_put (S := [d, c]) (o := .tup [.ref p5]) np6)
      have fp1 := (sm_put (S := S) (o := .tup [.ref p5]) np6) _ _ fp1
      have fp2 := (sm_put (S := S) (o := .tup [.ref p5]) np6) _ _ fp2
      have fp3 := (sm_put (S := S) (o := .tup [.ref p5]) np6) _ _ fp3
      have fp4 := (sm_put (S := S) (o := .tup [.ref p5]) np6) _ _ fp4
      have fp5 := (sm_put (S := S) (o := .tup [.ref p5]) np6) _ _ fp5
      generalize upd T5 p6 (.tup [.ref p5]) = T6 at fp6 lv B sc fp1 fp2 fp3 fp4 fp5 ⊢
      refine ⟨(by show 12 ≤ sizeLine; decide), fun p7 np7 => ?_⟩
      have fp7 := off_new (o := .lst [.non, .bl true, .int 0, .str "", .ref p1, .ref p2, .str "a", .int (-1), .ref p4, .ref p6, .int 1, .bl false]) lv np7
      have lv := lv.put (o := .lst [.non, .bl true, .int 0, .str "", .ref p1, .ref p2, .str "a", .int (-1), .ref p4, .ref p6, .int 1, .bl false]) np7
      have B := B.same (same_upd (o := .lst [.non, .bl true, .int 0, .str "", .ref p1, .ref p2, .str "a", .int (-1), .ref p4, .ref p6, .int 1, .bl false]) np7)
      have sc := sc.trans (sm_put (S := [d, c]) (o := .lst [.non, .bl true, .int 0, .str "", .ref p1, .ref p2, .str "a", .int (-1), .ref p4, .ref p6, .int 1, .bl false]) np7)
      have fp1 := (sm_put (S := S) (o := .lst [.non, .bl true, .int 0, .str "", .ref p1, .ref p2, .str "a", .int (-1), .ref p4, .ref p6, .int 1, .bl false]) np7) _ _ fp1
      have fp2 := (sm_put (S := S) (o := .lst [.non, .bl true, .int 0, .str "", .ref p1, .ref p2, .str "a", .int (-1), .ref p4, .ref p6, .int 1, .bl false]) np7) _ _ fp2
      have fp3 := (sm_put (S := S) (o := .lst [.non, .bl true, .int 0, .str "", .ref p1, .ref p2, .str "a", .int (-1), .ref p4, .ref p6, .int 1, .bl false]) np7) _ _ fp3
      have fp4 := (sm_put (S := S) (o := .lst [.non, .bl true, .int 0, .str "", .ref p1, .ref p2, .str "a", .int (-1), .ref p4, .ref p6, .int 1, .bl false]) np7) _ _ fp4
      have fp5 := (sm_put (S := S) (o := .lst [.non, .bl true, .int 0, .str "", .ref p1, .ref p2, .str "a", .int (-1), .ref p4, .ref p6, .int 1, .bl false]) np7) _ _ fp5
      have fp6 := (sm_put (S := S) (o := .lst [.non, .bl true, .int 0, .str "", .ref p1, .ref p2, .str "a", .int (-1), .ref p4, .ref p6, .int 1, .bl false]) np7) _ _ fp6
      generalize upd T6 p7 (.lst [.non, .bl true, .int 0, .str "", .ref p1, .ref p2, .str "a", .int (-1), .ref p4, .ref p6, .int 1, .bl false]) = T7 at fp7 lv B sc fp1 fp2 fp3 fp4 fp5 fp6 ⊢
      obtain ⟨lv_, ld_, lev, ldv, lbd⟩ : ∃ v ed, atI [V.non, .bl true, .int 0, .str "", .ref p1, .ref p2, .str "a", .int (-1), .ref p4, .ref p6, .int 1, .bl false] way = some v ∧ Dp K (off T7 S) v ed ∧ Bd (3 * n + 1) (m + 100) (3 * C + 20000) (D + 2) (W + 1) ed := by
        have h : way = 0 ∨ way = 1 ∨ way = 2 ∨ way = 3 ∨ way = 4 ∨ way = 5 ∨ way = 6 ∨ way = 7 ∨ way = 8 ∨ way = 9 ∨ way = 10 ∨ way = 11 := by omega
        have up : ∀ {C' D' W' : Nat} {dd : PyData}, Bd 1 100 C' D' W' dd → C' ≤ 20000 → D' ≤ 2 → W' ≤ 1 → Bd (3 * n + 1) (m + 100) (3 * C + 20000) (D + 2) (W + 1) dd := fun h a b c => h.mono (by omega) (by omega) (by omega) (by omega) (by omega)
        have b0 : Bd 1 100 3 1 1 (.tuple []) := (Bds.nil (D := 0)).tuple (Nat.zero_le 1)
        rcases h with rfl | rfl | rfl | rfl | rfl | rfl | rfl | rfl | rfl | rfl | rfl | rfl
        · exact ⟨_, .none, rfl, .non, up bd_none (by decide) (by decide) (by decide)⟩
        · exact ⟨_, .bool true, rfl, .bl _, up (bd_bool _) (by decide) (by decide) (by decide)⟩
        · exact ⟨_, .int 0, rfl, .int _, up (bd_int (by decide)) (by decide) (by decide) (by decide)⟩
        · exact ⟨_, .str "", rfl, .str _, up (bd_str (by decide +kernel) (by decide) (by decide +kernel)) (by decide) (by decide) (by decide)⟩
        · exact ⟨_, .tuple [], rfl, .tup (.inl (.inl fp1)) .nil, up b0 (by decide) (by decide) (by decide)⟩
        · exact ⟨_, .list [], rfl, .lst (SqL.of fp2) .nil, up ((Bds.nil (D := 0) (W := 1)).list (Nat.zero_le 1)) (by decide) (by decide) (by decide)⟩
        · exact ⟨_, .str "a", rfl, .str _, up (bd_str (by decide +kernel) (by decide) (by decide +kernel)) (by decide) (by decide) (by decide)⟩
        · exact ⟨_, .int (-1), rfl, .int _, up (bd_int (by decide)) (by decide) (by decide) (by decide)⟩
        · exact ⟨_, .list [.tuple []], rfl, .lst (SqL.of fp4) (.cons (.tup (.inl (.inl fp3)) .nil) .nil), up ((Bds.one b0).list (by decide)) (by decide) (by decide) (by decide)⟩
        · exact ⟨_, .tuple [.tuple []], rfl, .tup (.inl (.inl fp6)) (.cons (.tup (.inl (.inl fp5)) .nil) .nil), up ((Bds.one b0).tuple (by decide)) (by decide) (by decide) (by decide)⟩
        · exact ⟨_, .int 1, rfl, .int _, up (bd_int (by decide)) (by decide) (by decide) (by decide)⟩
        · exact ⟨_, .bool false, rfl, .bl _, up (bd_bool _) (by decide) (by decide) (by decide)⟩
      refine ⟨_, rfl, p7, _, way, lv_, rfl, rfl, SqL.of (at_off fp7), lev, ?_⟩
      exact q _ _ _ (B.mono (by omega)) sc ldv lbd
    | non =>
      refine iteF ?_
      refine ⟨_, rfl, _, .ty _, _, _, isStrD _, rfl, .ty _, tyx_dp dH, kit_str dH, _, rfl, iteF ?_⟩
      refine ⟨_, rfl, (by show 2 ≤ sizeLine; decide), fun t nt => ?_⟩
      have ft := off_new (o := .tup [.ty "list", .ty "tuple"]) lv nt
      have lv := lv.put (o := .tup [.ty "list", .ty "tuple"]) nt
      have B := B.same (same_upd (o := .tup [.ty "list", .ty "tuple"]) nt)
      have sc := sc.trans (sm_put (S := [d, c]) (o := .tup [.ty "list", .ty "tuple"]) nt)
      have dp0 := dp_same ((sm_put (S := S) (o := .tup [.ty "list", .ty "tuple"]) nt)) dp0
      generalize upd H1 t (.tup [.ty "list", .ty "tuple"]) = H2 at ft lv B sc dp0 ⊢
      have dH2 := dp_off dp0
      refine ⟨_, t, _, _, _, _, rfl, at_off ft, .cons (.ty _) (.cons (.ty _) .nil), tyx_dp dH2, kit_lt dH2, _, rfl, ?_⟩
      refine iteF ?_
      refine ⟨Nat.zero_le _, fun p1 np1 => ?_⟩
      have fp1 := off_new (o := .tup []) lv np1
      have lv := lv.put (o := .tup []) np1
      have B := B.same (same_upd (o := .tup []) np1)
      have sc := sc.trans (sm_put (S := [d, c]) (o := .tup []) np1)
      generalize upd H2 p1 (.tup []) = T1 at fp1 lv B sc  ⊢
      refine ⟨Nat.zero_le _, fun p2 np2 => ?_⟩
      have fp2 := off_new (o := .lst []) lv np2
      have lv := lv.put (o := .lst []) np2
      have B := B.same (same_upd (o := .lst []) np2)
      have sc := sc.trans (sm_put (S := [d, c]) (o := .lst []) np2)
      have fp1 := (sm_put (S := S) (o := .lst []) np2) _ _ fp1
      generalize upd T1 p2 (.lst []) = T2 at fp2 lv B sc fp1 ⊢
      refine ⟨1, rfl, Nat.zero_le _, fun p3 np3 => ?_⟩
      have fp3 := off_new (o := .tup []) lv np3
      have lv := lv.put (o := .tup []) np3
      have B := B.same (same_upd (o := .tup []) np3)
      have sc := sc.trans (sm_put (S := [d, c]) (o := .tup []) np3)
      have fp1 := (sm_put (S := S) (o := .tup []) np3) _ _ fp1
      have fp2 := (sm_put (S := S) (o := .tup []) np3) _ _ fp2
      generalize upd T2 p3 (.tup []) = T3 at fp3 lv B sc fp1 fp2 ⊢
      refine ⟨(by show 1 ≤ sizeLine; decide), fun p4 np4 => ?_⟩
      have fp4 := off_new (o := .lst [.ref p3]) lv np4
      have lv := lv.put (o := .lst [.ref p3]) np4
      have B := B.same (same_upd (o := .lst [.ref p3]) np4)
      have sc := sc.trans (sm_put (S := [d, c]) (o := .lst [.ref p3]) np4)
      have fp1 := (sm_put (S := S) (o := .lst [.ref p3]) np4) _ _ fp1
      have fp2 := (sm_put (S := S) (o := .lst [.ref p3]) np4) _ _ fp2
      have fp3 := (sm_put (S := S) (o := .lst [.ref p3]) np4) _ _ fp3
      generalize upd T3 p4 (.lst [.ref p3]) = T4 at fp4 lv B sc fp1 fp2 fp3 ⊢
      refine ⟨Nat.zero_le _, fun p5 np5 => ?_⟩
      have fp5 := off_new (o := .tup []) lv np5
      have lv := lv.put (o := .tup []) np5
      have B := B.same (same_upd (o := .tup []) np5)
      have sc := sc.trans (sm_put (S := [d, c]) (o := .tup []) np5)
      have fp1 := (sm_put (S := S) (o := .tup []) np5) _ _ fp1
      have fp2 := (sm_put (S := S) (o := .tup []) np5) _ _ fp2
      have fp3 := (sm_put (S := S) (o := .tup []) np5) _ _ fp3
      have fp4 := (sm_put (S := S) (o := .tup []) np5) _ _ fp4
      generalize upd T4 p5 (.tup []) = T5 at fp5 lv B sc fp1 fp2 fp3 fp4 ⊢
      refine ⟨(by show 1 ≤ sizeLine; decide), fun p6 np6 => ?_⟩
      have fp6 := off_new (o := .tup [.ref p5]) lv np6
      have lv := lv.put (o := .tup [.ref p5]) np6
      have B := B.same (same_upd (o := .tup [.ref p5]) np6)
      have sc := sc.trans (sm_put (S := [d, c]) (o := .tup [.ref p5]) np6)
      have fp1 := (sm_put (S := S) (o := .tup [.ref p5]) np6) _ _ fp1
      have fp2 := (sm_put (S := S) (o := .tup [.ref p5]) np6) _ _ fp2
      have fp3 := (sm_put (S := S) (o := .tup [.ref p5]) np6) _ _ fp3
      have fp4 := (sm_put (S := S) (o := .tup [.ref p5]) np6) _ _ fp4
      have fp5 := (sm_put (S := S) (o := .tup [.ref p5]) np6) _ _ fp5
      generalize upd T5 p6 (.tup [.ref p5]) = T6 at fp6 lv B sc fp1 fp2 fp3 fp4 fp5 ⊢
      refine ⟨(by show 12 ≤ sizeLine; decide), fun p7 np7 => ?_⟩
      have fp7 := off_new (o := .lst [.non, .bl true, .int 0, .str "", .ref p1, .ref p2, .str "a", .int (-1), .ref p4, .ref p6, .int 1, .bl false]) lv np7
      have lv := lv.put (o := .lst [.non, .bl true, .int 0, .str "", .ref p1, .ref p2, .str "a", .int (-1), .ref p4, .ref p6, .int 1, .bl false]) np7
      have B := B.same (same_upd (o := .lst [.non, .bl true, .int 0, .str "", .ref p1, .ref p2, .str "a", .int (-1), .ref p4, .ref p6, .int 1, .bl false]) np7)
      have sc := sc.trans (sm_put (S := [d, c]) (o := .lst [.non, .bl true, .int 0, .str "", .ref p1, .ref p2, .str "a", .int (-1), .ref p4, .ref p6, .int 1, .bl false]) np7)
      have fp1 := (sm_put (S := S) (o := .lst [.non, .bl true, .int 0, .str "", .ref p1, .ref p2, .str "a", .int (-1), .ref p4, .ref p6, .int 1, .bl false]) np7) _ _ fp1
      have fp2 := (sm_put (S := S) (o := .lst [.non, .bl true, .int 0, .str "", .ref p1, .ref p2, .str "a", .int (-1), .ref p4, .ref p6, .int 1, .bl false]) np7) _ _ fp2
      have fp3 := (sm_put (S := S) (o := .lst [.non, .bl true, .int 0, .str "", .ref p1, .ref p2, .str "a", .int (-1), .ref p4, .ref p6, .int 1, .bl false]) np7) _ _ fp3
      have fp4 := (sm_put (S := S) (o := .lst [.non, .bl true, .int 0, .str "", .ref p1, .ref p2, .str "a", .int (-1), .ref p4, .ref p6, .int 1, .bl false]) np7) _ _ fp4
      have fp5 := (sm_put (S := S) (o := .lst [.non, .bl true, .int 0, .str "", .ref p1, .ref p2, .str "a", .int (-1), .ref p4, .ref p6, .int 1, .bl false]) np7) _ _ fp5
      have fp6 := (sm_put (S := S) (o := .lst [.non, .bl true, .int 0, .str "", .ref p1, .ref p2, .str "a", .int (-1), .ref p4, .ref p6, .int 1, .bl false]) np7) _ _ fp6
      generalize upd T6 p7 (.lst [.non, .bl true, .int 0, .str "", .ref p1, .ref p2, .str "a", .int (-1), .ref p4, .ref p6, .int 1, .bl false]) = T7 at fp7 lv B sc fp1 fp2 fp3 fp4 fp5 fp6 ⊢
      obtain ⟨lv_, ld_, lev, ldv, lbd⟩ : ∃ v ed, atI [V.non, .bl true, .int 0, .str "", .ref p1, .ref p2, .str "a", .int (-1), .ref p4, .ref p6, .int 1, .bl false] way = some v ∧ Dp K (off T7 S) v ed ∧ Bd (3 * n + 1) (m + 100) (3 * C + 20000) (D + 2) (W + 1) ed := by
        have h : way = 0 ∨ way = 1 ∨ way = 2 ∨ way = 3 ∨ way = 4 ∨ way = 5 ∨ way = 6 ∨ way = 7 ∨ way = 8 ∨ way = 9 ∨ way = 10 ∨ way = 11 := by omega
        have up : ∀ {C' D' W' : Nat} {dd : PyData}, Bd 1 100 C' D' W' dd → C' ≤ 20000 → D' ≤ 2 → W' ≤ 1 → Bd (3 * n + 1) (m + 100) (3 * C + 20000) (D + 2) (W + 1) dd := fun h a b c => h.mono (by omega) (by omega) (by omega) (by omega) (by omega)
        have b0 : Bd 1 100 3 1 1 (.tuple []) := (Bds.nil (D := 0)).tuple (Nat.zero_le 1)
        rcases h with rfl | rfl | rfl | rfl | rfl | rfl | rfl | rfl | rfl | rfl | rfl | rfl
        · exact ⟨_, .none, rfl, .non, up bd_none (by decide) (by decide) (by decide)⟩
        · exact ⟨_, .bool true, rfl, .bl _, up (bd_bool _) (by decide) (by decide) (by decide)⟩
        · exact ⟨_, .int 0, rfl, .int _, up (bd_int (by decide)) (by decide) (by decide) (by decide)⟩
        · exact ⟨_, .str "", rfl, .str _, up (bd_str (by decide +kernel) (by decide) (by decide +kernel)) (by decide) (by decide) (by decide)⟩
        · exact ⟨_, .tuple [], rfl, .tup (.inl (.inl fp1)) .nil, up b0 (by decide) (by decide) (by decide)⟩
        · exact ⟨_, .list [], rfl, .lst (SqL.of fp2) .nil, up ((Bds.nil (D := 0) (W := 1)).list (Nat.zero_le 1)) (by decide) (by decide) (by decide)⟩
        · exact ⟨_, .str "a", rfl, .str _, up (bd_str (by decide +kernel) (by decide) (by decide +kernel)) (by decide) (by decide) (by decide)⟩
        · exact ⟨_, .int (-1), rfl, .int _, up (bd_int (by decide)) (by decide) (by decide) (by decide)⟩
        · exact ⟨_, .list [.tuple []], rfl, .lst (SqL.of fp4) (.cons (.tup (.inl (.inl fp3)) .nil) .nil), up ((Bds.one b0).list (by decide)) (by decide) (by decide) (by decide)⟩
        · exact ⟨_, .tuple [.tuple []], rfl, .tup (.inl (.inl fp6)) (.cons (.tup (.inl (.inl fp5)) .nil) .nil), up ((Bds.one b0).tuple (by decide)) (by decide) (by decide) (by decide)⟩
        · exact ⟨_, .int 1, rfl, .int _, up (bd_int (by decide)) (by decide) (by decide) (by decide)⟩
        · exact ⟨_, .bool false, rfl, .bl _, up (bd_bool _) (by decide) (by decide) (by decide)⟩
      refine ⟨_, rfl, p7, _, way, lv_, rfl, rfl, SqL.of (at_off fp7), lev, ?_⟩
      exact q _ _ _ (B.mono (by omega)) sc ldv lbd
    | str z =>
      have hz : z.length ≤ n := bd.x
      have hz2 : z.length ≤ sizeLine := by rw [sizeLine_eq]; omega
      have cz : ∀ x ∈ z.cps.toList, x < 1114112 := bd.t.g.2
      refine iteF ?_
      refine ⟨_, rfl, _, .ty _, _, _, isStrD _, rfl, .ty _, tyx_dp dH, kit_str dH, _, rfl, iteT ⟨_, rfl, _, _, rfl, rfl, _, rfl, ite2 (fun h7 => ?_) (fun h7 => ?_)⟩⟩
      · have h7 := of_decide_eq_true h7
        refine ⟨_, rfl, _, rfl, _, _, rfl, ⟨hz2, rfl⟩, _, _, rfl, rfl, d, c, _, _, rfl, (by omega), (by omega), B, by omega, fun H2 at_ a0 a1 B2 s2 => ?_⟩
        have lv := lv.st B2 s2
        have sc := sc.trans s2
        have B := B2
        refine ⟨(by show 7 ≤ sizeLine; decide), fun p1 np1 => ?_⟩
        have fp1 := off_new (o := .lst [.str (Str.ofString " "), .str (Str.ofString "A"), .str (Str.ofString "1"), .str (Str.ofString "_"), .str (Str.ofString "-"), .str (Str.ofString "z"), .str (Str.ofString "q")]) lv np1
        have lv := lv.put (o := .lst [.str (Str.ofString " "), .str (Str.ofString "A"), .str (Str.ofString "1"), .str (Str.ofString "_"), .str (Str.ofString "-"), .str (Str.ofString "z"), .str (Str.ofString "q")]) np1
        have B := B.same (same_upd (o := .lst [.str (Str.ofString " "), .str (Str.ofString "A"), .str (Str.ofString "1"), .str (Str.ofString "_"), .str (Str.ofString "-"), .str (Str.ofString "z"), .str (Str.ofString "q")]) np1)
        have sc := sc.trans (sm_put (S := [d, c]) (o := .lst [.str (Str.ofString " "), .str (Str.ofString "A"), .str (Str.ofString "1"), .str (Str.ofString "_"), .str (Str.ofString "-"), .str (Str.ofString "z"), .str (Str.ofString "q")]) np1)
        generalize upd H2 p1 (.lst [.str (Str.ofString " "), .str (Str.ofString "A"), .str (Str.ofString "1"), .str (Str.ofString "_"), .str (Str.ofString "-"), .str (Str.ofString "z"), .str (Str.ofString "q")]) = H3 at fp1 lv B sc  ⊢
        obtain ⟨sg, es, ls, cg⟩ : ∃ sg : Str, atI [V.str (Str.ofString " "), .str (Str.ofString "A"), .str (Str.ofString "1"), .str (Str.ofString "_"), .str (Str.ofString "-"), .str (Str.ofString "z"), .str (Str.ofString "q")] way = some (.str sg) ∧ sg.length = 1 ∧ ∀ x ∈ sg.cps.toList, x < 1114112 := by
          have h : way = 0 ∨ way = 1 ∨ way = 2 ∨ way = 3 ∨ way = 4 ∨ way = 5 ∨ way = 6 := by omega
          rcases h with rfl | rfl | rfl | rfl | rfl | rfl | rfl
          · exact ⟨_, rfl, by decide +kernel, codes_ofString _⟩
          · exact ⟨_, rfl, by decide +kernel, codes_ofString _⟩
          · exact ⟨_, rfl, by decide +kernel, codes_ofString _⟩
          · exact ⟨_, rfl, by decide +kernel, codes_ofString _⟩
          · exact ⟨_, rfl, by decide +kernel, codes_ofString _⟩
          · exact ⟨_, rfl, by decide +kernel, codes_ofString _⟩
          · exact ⟨_, rfl, by decide +kernel, codes_ofString _⟩
        refine ⟨_, rfl, p1, _, way, _, rfl, rfl, SqL.of (at_off fp1), es, ?_⟩
        have lc : ∀ lo hi, (cutS z lo hi).length ≤ z.length := fun lo hi => cut_small z lo hi
        have cc : ∀ lo hi, ∀ x ∈ (cutS z lo hi).cps.toList, x < 1114112 := fun lo hi x hx => cz x (cut_mem hx)
        have add : ∀ {a b : Str}, (∀ x ∈ a.cps.toList, x < 1114112) → (∀ x ∈ b.cps.toList, x < 1114112) → ∀ x ∈ (a ++ b).cps.toList, x < 1114112 := fun {a b} h1 h2 x hx => by
          rcases str_mem_app hx with h | h
          · exact h1 x h
          · exact h2 x h
        refine ⟨_, rfl, _, rfl, _, rfl, _, rfl, hz2, _, rfl, _, _, rfl, rfl, (by rw [sizeLine_eq, ls]; have := lc none (some at_); omega), ?_⟩
        refine ⟨_, rfl, _, rfl, _, rfl, _, rfl, hz2, _, _, rfl, rfl, (by rw [strLen_append, sizeLine_eq, ls]; have := lc none (some at_); have := lc (some at_) none; omega), ?_⟩
        refine ⟨_, rfl, _, rfl, _, rfl, _, rfl, hz2, ?_⟩
        refine ⟨_, rfl, _, rfl, _, _, rfl, rfl, _, rfl, _, rfl, hz2, _, _, rfl, rfl, (by rw [sizeLine_eq]; have := lc none (some at_); have := lc (some (at_ + 1)) none; omega), ?_⟩
        refine ⟨_, rfl, z, rfl, rfl, (by omega), fun z3 l3 c3 => ⟨(by show 3 ≤ sizeLine; decide), fun p2 np2 => ?_⟩⟩
        have fp2 := off_new (o := .lst [.str (cutS z none (some at_) ++ sg ++ cutS z (some at_) none), .str (cutS z none (some at_) ++ cutS z (some (at_ + 1)) none), .str z3]) lv np2
        have lv := lv.put (o := .lst [.str (cutS z none (some at_) ++ sg ++ cutS z (some at_) none), .str (cutS z none (some at_) ++ cutS z (some (at_ + 1)) none), .str z3]) np2
        have B := B.same (same_upd (o := .lst [.str (cutS z none (some at_) ++ sg ++ cutS z (some at_) none), .str (cutS z none (some at_) ++ cutS z (some (at_ + 1)) none), .str z3]) np2)
        have sc := sc.trans (sm_put (S := [d, c]) (o := .lst [.str (cutS z none (some at_) ++ sg ++ cutS z (some at_) none), .str (cutS z none (some at_) ++ cutS z (some (at_ + 1)) none), .str z3]) np2)
        generalize upd H3 p2 (.lst [.str (cutS z none (some at_) ++ sg ++ cutS z (some at_) none), .str (cutS z none (some at_) ++ cutS z (some (at_ + 1)) none), .str z3]) = H4 at fp2 lv B sc  ⊢
        refine ⟨_, rfl, d, c, 3, _, rfl, (by decide), (by decide), B, by omega, fun H5 r r0 r1 B5 s5 => ?_⟩
        have lv := lv.st B5 s5
        have sc := sc.trans s5
        have B := B5
        have fp2 := (sm_two hd hc s5) _ _ fp2
        obtain ⟨v, ed, ev, dv, tv⟩ : ∃ v ed, atI [V.str (cutS z none (some at_) ++ sg ++ cutS z (some at_) none), .str (cutS z none (some at_) ++ cutS z (some (at_ + 1)) none), .str z3] r = some v ∧ Dp K (off H5 S) v ed ∧ Bd (3 * n + 1) (m + 100) (3 * C + 20000) (D + 2) (W + 1) ed := by
          have h : r = 0 ∨ r = 1 ∨ r = 2 := by omega
          have up : ∀ {zz : Str}, zz.length ≤ 3 * n + 1 → (∀ x ∈ zz.cps.toList, x < 1114112) → Bd (3 * n + 1) (m + 100) (3 * C + 20000) (D + 2) (W + 1) (.str zz) := fun h c => (bd_str h (by omega) c).mono (Nat.le_refl _) (Nat.le_refl _) (by omega) (by omega) (by omega)
          have l1 := lc none (some at_)
          have l2 := lc (some at_) none
          have l3' := lc (some (at_ + 1)) none
          rcases h with rfl | rfl | rfl
          · refine ⟨_, _, rfl, .str _, up ?_ (add (add (cc _ _) cg) (cc _ _))⟩
            rw [strLen_append, strLen_append, ls]; omega
          · refine ⟨_, _, rfl, .str _, up ?_ (add (cc _ _) (cc _ _))⟩
            rw [strLen_append]; omega
          · exact ⟨_, _, rfl, .str _, up (by omega) (fun x hx => cz x (c3 x hx))⟩
        refine ⟨p2, _, r, v, rfl, rfl, SqL.of (at_off fp2), ev, ?_⟩
        exact q _ _ _ (B.mono (by omega)) sc dv tv
      · skip
        refine ⟨_, rfl, (by show 2 ≤ sizeLine; decide), fun t nt => ?_⟩
        have ft := off_new (o := .tup [.ty "list", .ty "tuple"]) lv nt
        have lv := lv.put (o := .tup [.ty "list", .ty "tuple"]) nt
        have B := B.same (same_upd (o := .tup [.ty "list", .ty "tuple"]) nt)
        have sc := sc.trans (sm_put (S := [d, c]) (o := .tup [.ty "list", .ty "tuple"]) nt)
        have dp0 := dp_same ((sm_put (S := S) (o := .tup [.ty "list", .ty "tuple"]) nt)) dp0
        generalize upd H1 t (.tup [.ty "list", .ty "tuple"]) = H2 at ft lv B sc dp0 ⊢
        have dH2 := dp_off dp0
        refine ⟨_, t, _, _, _, _, rfl, at_off ft, .cons (.ty _) (.cons (.ty _) .nil), tyx_dp dH2, kit_lt dH2, _, rfl, ?_⟩
        refine iteF ?_
        refine ⟨Nat.zero_le _, fun p1 np1 => ?_⟩
        have fp1 := off_new (o := .tup []) lv np1
        have lv := lv.put (o := .tup []) np1
        have B := B.same (same_upd (o := .tup []) np1)
        have sc := sc.trans (sm_put (S := [d, c]) (o := .tup []) np1)
        generalize upd H2 p1 (.tup []) = T1 at fp1 lv B sc  ⊢
        refine ⟨Nat.zero_le _, fun p2 np2 => ?_⟩
        have fp2 := off_new (o := .lst []) lv np2
        have lv := lv.put (o := .lst []) np2
        have B := B.same (same_upd (o := .lst []) np2)
        have sc := sc.trans (sm_put (S := [d, c]) (o := .lst []) np2)
        have fp1 := (sm_put (S := S) (o := .lst []) np2) _ _ fp1
        generalize upd T1 p2 (.lst []) = T2 at fp2 lv B sc fp1 ⊢
        refine ⟨1, rfl, Nat.zero_le _, fun p3 np3 => ?_⟩
        have fp3 := off_new (o := .tup []) lv np3
        have lv := lv.put (o := .tup []) np3
        have B := B.same (same_upd (o := .tup []) np3)
        have sc := sc.trans (sm_put (S := [d, c]) (o := .tup []) np3)
        have fp1 := (sm_put (S := S) (o := .tup []) np3) _ _ fp1
        have fp2 := (sm_put (S := S) (o := .tup []) np3) _ _ fp2
        generalize upd T2 p3 (.tup []) = T3 at fp3 lv B sc fp1 fp2 ⊢
        refine ⟨(by show 1 ≤ sizeLine; decide), fun p4 np4 => ?_⟩
        have fp4 := off_new (o := .lst [.ref p3]) lv np4
        have lv := lv.put (o := .lst [.ref p3]) np4
        have B := B.same (same_upd (o := .lst [.ref p3]) np4)
        have sc := sc.trans (sm_put (S := [d, c]) (o := .lst [.ref p3]) np4)
        have fp1 := (sm_put (S := S) (o := .lst [.ref p3]) np4) _ _ fp1
        have fp2 := (sm_put (S := S) (o := .lst [.ref p3]) np4) _ _ fp2
        have fp3 := (sm_put (S := S) (o := .lst [.ref p3]) np4) _ _ fp3
        generalize upd T3 p4 (.lst [.ref p3]) = T4 at fp4 lv B sc fp1 fp2 fp3 ⊢
        refine ⟨Nat.zero_le _, fun p5 np5 => ?_⟩
        have fp5 := off_new (o := .tup []) lv np5
        have lv := lv.put (o := .tup []) np5
        have B := B.same (same_upd (o := .tup []) np5)
        have sc := sc.trans (sm_put (S := [d, c]) (o := .tup []) np5)
        have fp1 := (sm_put (S := S) (o := .tup []) np5) _ _ fp1
        have fp2 := (sm_put (S := S) (o := .tup []) np5) _ _ fp2
        have fp3 := (sm_put (S := S) (o := .tup []) np5) _ _ fp3
        have fp4 := (sm_put (S := S) (o := .tup []) np5) _ _ fp4
        generalize upd T4 p5 (.tup []) = T5 at fp5 lv B sc fp1 fp2 fp3 fp4 ⊢
        refine ⟨(by show 1 ≤ sizeLine; decide), fun p6 np6 => ?_⟩
        have fp6 := off_new (o := .tup [.ref p5]) lv np6
        have lv := lv.put (o := .tup [.ref p5]) np6
        have B := B.same (same_upd (o := .tup [.ref p5]) np6)
        have sc := sc.trans (sm_put (S := [d, c]) (o := .tup [.ref p5]) np6)
        have fp1 := (sm_put (S := S) (o := .tup [.ref p5]) np6) _ _ fp1
        have fp2 := (sm_put (S := S) (o := .tup [.ref p5]) np6) _ _ fp2
        have fp3 := (sm_put (S := S) (o := .tup [.ref p5]) np6) _ _ fp3
        have fp4 := (sm_put (S := S) (o := .tup [.ref p5]) np6) _ _ fp4
        have fp5 := (sm_put (S := S) (o := .tup [.ref p5]) np6) _ _ fp5
        generalize upd T5 p6 (.tup [.ref p5]) = T6 at fp6 lv B sc fp1 fp2 fp3 fp4 fp5 ⊢
        refine ⟨(by show 12 ≤ sizeLine; decide), fun p7 np7 => ?_⟩
        have fp7 := off_new (o := .lst [.non, .bl true, .int 0, .str "", .ref p1, .ref p2, .str "a", .int (-1), .ref p4, .ref p6, .int 1, .bl false]) lv np7
        have lv := lv.put (o := .lst [.non, .bl true, .int 0, .str "", .ref p1, .ref p2, .str "a", .int (-1), .ref p4, .ref p6, .int 1, .bl false]) np7
        have B := B.same (same_upd (o := .lst [.non, .bl true, .int 0, .str "", .ref p1, .ref p2, .str "a", .int (-1), .ref p4, .ref p6, .int 1, .bl false]) np7)
        have sc := sc.trans (sm_put (S := [d, c]) (o := .lst [.non, .bl true, .int 0, .str "", .ref p1, .ref p2, .str "a", .int (-1), .ref p4, .ref p6, .int 1, .bl false]) np7)
        have fp1 := (sm_put (S := S) (o := .lst [.non, .bl true, .int 0, .str "", .ref p1, .ref p2, .str "a", .int (-1), .ref p4, .ref p6, .int 1, .bl false]) np7) _ _ fp1
        have fp2 := (sm_put (S := S) (o := .lst [.non, .bl true, .int 0, .str "", .ref p1, .ref p2, .str "a", .int (-1), .ref p4, .ref p6, .int 1, .bl false]) np7) _ _ fp2
        have fp3 := (sm_put (S := S) (o := .lst [.non, .bl true, .int 0, .str "", .ref p1, .ref p2, .str "a", .int (-1), .ref p4, .ref p6, .int 1, .bl false]) np7) _ _ fp3
        have fp4 := (sm_put (S := S) (o := .lst [.non, .bl true, .int 0, .str "", .ref p1, .ref p2, .str "a", .int (-1), .ref p4, .ref p6, .int 1, .bl false]) np7) _ _ fp4
        have fp5 := (sm_put (S := S) (o := .lst [.non, .bl true, .int 0, .str "", .ref p1, .ref p2, .str "a", .int (-1), .ref p4, .ref p6, .int 1, .bl false]) np7) _ _ fp5
        have fp6 := (sm_put (S := S) (o := .lst [.non, .bl true, .int 0, .str "", .ref p1, .ref p2, .str "a", .int (-1), .ref p4, .ref p6, .int 1, .bl false]) np7) _ _ fp6
        generalize upd T6 p7 (.lst [.non, .bl true, .int 0, .str "", .ref p1, .ref p2, .str "a", .int (-1), .ref p4, .ref p6, .int 1, .bl false]) = T7 at fp7 lv B sc fp1 fp2 fp3 fp4 fp5 fp6 ⊢
        obtain ⟨lv_, ld_, lev, ldv, lbd⟩ : ∃ v ed, atI [V.non, .bl true, .int 0, .str "", .ref p1, .ref p2, .str "a", .int (-1), .ref p4, .ref p6, .int 1, .bl false] way = some v ∧ Dp K (off T7 S) v ed ∧ Bd (3 * n + 1) (m + 100) (3 * C + 20000) (D + 2) (W + 1) ed := by
          have h : way = 0 ∨ way = 1 ∨ way = 2 ∨ way = 3 ∨ way = 4 ∨ way = 5 ∨ way = 6 ∨ way = 7 ∨ way = 8 ∨ way = 9 ∨ way = 10 ∨ way = 11 := by omega
          have up : ∀ {C' D' W' : Nat} {dd : PyData}, Bd 1 100 C' D' W' dd → C' ≤ 20000 → D' ≤ 2 → W' ≤ 1 → Bd (3 * n + 1) (m + 100) (3 * C + 20000) (D + 2) (W + 1) dd := fun h a b c => h.mono (by omega) (by omega) (by omega) (by omega) (by omega)
          have b0 : Bd 1 100 3 1 1 (.tuple []) := (Bds.nil (D := 0)).tuple (Nat.zero_le 1)
          rcases h with rfl | rfl | rfl | rfl | rfl | rfl | rfl | rfl | rfl | rfl | rfl | rfl
          · exact ⟨_, .none, rfl, .non, up bd_none (by decide) (by decide) (by decide)⟩
          · exact ⟨_, .bool true, rfl, .bl _, up (bd_bool _) (by decide) (by decide) (by decide)⟩
          · exact ⟨_, .int 0, rfl, .int _, up (bd_int (by decide)) (by decide) (by decide) (by decide)⟩
          · exact ⟨_, .str "", rfl, .str _, up (bd_str (by decide +kernel) (by decide) (by decide +kernel)) (by decide) (by decide) (by decide)⟩
          · exact ⟨_, .tuple [], rfl, .tup (.inl (.inl fp1)) .nil, up b0 (by decide) (by decide) (by decide)⟩
          · exact ⟨_, .list [], rfl, .lst (SqL.of fp2) .nil, up ((Bds.nil (D := 0) (W := 1)).list (Nat.zero_le 1)) (by decide) (by decide) (by decide)⟩
          · exact ⟨_, .str "a", rfl, .str _, up (bd_str (by decide +kernel) (by decide) (by decide +kernel)) (by decide) (by decide) (by decide)⟩
          · exact ⟨_, .int (-1), rfl, .int _, up (bd_int (by decide)) (by decide) (by decide) (by decide)⟩
          · exact ⟨_, .list [.tuple []], rfl, .lst (SqL.of fp4) (.cons (.tup (.inl (.inl fp3)) .nil) .nil), up ((Bds.one b0).list (by decide)) (by decide) (by decide) (by decide)⟩
          · exact ⟨_, .tuple [.tuple []], rfl, .tup (.inl (.inl fp6)) (.cons (.tup (.inl (.inl fp5)) .nil) .nil), up ((Bds.one b0).tuple (by decide)) (by decide) (by decide) (by decide)⟩
          · exact ⟨_, .int 1, rfl, .int _, up (bd_int (by decide)) (by decide) (by decide) (by decide)⟩
          · exact ⟨_, .bool false, rfl, .bl _, up (bd_bool _) (by decide) (by decide) (by decide)⟩
        refine ⟨_, rfl, p7, _, way, lv_, rfl, rfl, SqL.of (at_off fp7), lev, ?_⟩
        exact q _ _ _ (B.mono (by omega)) sc ldv lbd
    | @lst a xs ds hl dax =>
      have sqq : SqA K (off H1 S) a xs := .inl hl
      obtain ⟨e0, ee⟩ : ∃ e0, e0 = PyData.list ds := ⟨_, rfl⟩
      have he : e0 = .list ds ∨ e0 = .tuple ds := .inl ee
      have b1 : (isListD e0 || isTupD e0) = true := by rw [ee]; rfl
      have b2 : isTupD e0 = !isListD e0 := by rw [ee]; rfl
      rw [← ee] at dp0 dH bd
      refine iteF ?_
      have b3 : isStrD e0 = false := by rw [ee]; rfl
      have lx : xs.length = ds.length := dpAll_len dax
      obtain ⟨bds0, lW, hC3, hD1⟩ := bd.parts he
      have bds : Bds n m C (D - 1) W ds := bds0.mono (Nat.le_refl _) (Nat.le_refl _) (by omega) (Nat.le_refl _) (Nat.le_refl _)
      refine ⟨_, rfl, _, .ty _, _, _, isStrD _, rfl, .ty _, tyx_dp dH, kit_str dH, _, rfl, ?_⟩
      rw [b3]
      refine iteF ?_
      refine ⟨_, rfl, (by show 2 ≤ sizeLine; decide), fun t nt => ?_⟩
      have ft := off_new (o := .tup [.ty "list", .ty "tuple"]) lv nt
      have lv := lv.put (o := .tup [.ty "list", .ty "tuple"]) nt
      have B := B.same (same_upd (o := .tup [.ty "list", .ty "tuple"]) nt)
      have sc := sc.trans (sm_put (S := [d, c]) (o := .tup [.ty "list", .ty "tuple"]) nt)
      have dp0 := dp_same ((sm_put (S := S) (o := .tup [.ty "list", .ty "tuple"]) nt)) dp0
      have sqq := sq_same ((sm_put (S := S) (o := .tup [.ty "list", .ty "tuple"]) nt)) sqq
      have dax := dpAll_same ((sm_put (S := S) (o := .tup [.ty "list", .ty "tuple"]) nt)) dax
      generalize upd H1 t (.tup [.ty "list", .ty "tuple"]) = H2 at ft lv B sc dp0 sqq dax ⊢
      have dH2 := dp_off dp0
      refine ⟨_, t, _, _, _, _, rfl, at_off ft, .cons (.ty _) (.cons (.ty _) .nil), tyx_dp dH2, kit_lt dH2, _, rfl, ?_⟩
      rw [b1]
      refine iteT ⟨_, rfl, _, _, rfl, rfl, _, rfl, ite2 (fun h7 => ?_) (fun h7 => ?_)⟩
      · have h7 := of_decide_eq_true h7
        refine ⟨_, rfl, _, rfl, _, _, rfl, sqa_len (sqa_off sqq), _, _, rfl, rfl, d, c, _, _, rfl, (by omega), (by omega), B, by omega, fun H3 at_ a0 a1 B3 s3 => ?_⟩
        have lv := lv.st B3 s3
        have sc := sc.trans s3
        have B := B3
        have dp0 := dp_same ((sm_two hd hc s3)) dp0
        have sqq := sq_same ((sm_two hd hc s3)) sqq
        have dax := dpAll_same ((sm_two hd hc s3)) dax
        refine ⟨_, rfl, a, _, rfl, sqa_off sqq, fun I nI => ⟨_, _, rfl, ?_⟩⟩
        have fI := off_new (o := .lst xs) lv nI
        have lv := lv.put (o := .lst xs) nI
        have B := B.same (same_upd (o := .lst xs) nI)
        have sc := sc.trans (sm_put (S := [d, c]) (o := .lst xs) nI)
        have dp0 := dp_same ((sm_put (S := S) (o := .lst xs) nI)) dp0
        have sqq := sq_same ((sm_put (S := S) (o := .lst xs) nI)) sqq
        have dax := dpAll_same ((sm_put (S := S) (o := .lst xs) nI)) dax
        generalize upd H3 I (.lst xs) = H4 at fI lv B sc dp0 sqq dax ⊢
        have dI : ∀ {Hx : Hp}, off Hx S I = some (.lst xs) → SqL K Hx I xs := fun h => SqL.of (at_off h)
        have l4 : xs.length ≤ 1000 := by omega
        obtain ⟨y1, g1, ey1, da1, by1, ly1, ll1⟩ := cut_dp dax bds none (some at_)
        refine ⟨_, rfl, _, rfl, _, rfl, I, _, rfl, dI fI, fun e1 ne1 => ?_⟩
        rw [ey1]
        have fe1 := off_new (o := .lst y1) lv ne1
        have lv := lv.put (o := .lst y1) ne1
        have B := B.same (same_upd (o := .lst y1) ne1)
        have sc := sc.trans (sm_put (S := [d, c]) (o := .lst y1) ne1)
        have fI := (sm_put (S := S) (o := .lst y1) ne1) _ _ fI
        have dp0 := dp_same ((sm_put (S := S) (o := .lst y1) ne1)) dp0
        have dax := dpAll_same ((sm_put (S := S) (o := .lst y1) ne1)) dax
        have da1 := dpAll_same ((sm_put (S := S) (o := .lst y1) ne1)) da1
        generalize upd H4 e1 (.lst y1) = H5 at fe1 lv B sc fI dp0 dax da1 ⊢
        obtain ⟨y2, g2, ey2, da2, by2, ly2, ll2⟩ := cut_dp dax bds (some (at_ + 1)) none
        refine ⟨_, rfl, _, rfl, _, _, rfl, rfl, _, rfl, I, _, rfl, dI fI, fun e2 ne2 => ?_⟩
        rw [ey2]
        have fe2 := off_new (o := .lst y2) lv ne2
        have lv := lv.put (o := .lst y2) ne2
        have B := B.same (same_upd (o := .lst y2) ne2)
        have sc := sc.trans (sm_put (S := [d, c]) (o := .lst y2) ne2)
        have fI := (sm_put (S := S) (o := .lst y2) ne2) _ _ fI
        have fe1 := (sm_put (S := S) (o := .lst y2) ne2) _ _ fe1
        have dp0 := dp_same ((sm_put (S := S) (o := .lst y2) ne2)) dp0
        have dax := dpAll_same ((sm_put (S := S) (o := .lst y2) ne2)) dax
        have da1 := dpAll_same ((sm_put (S := S) (o := .lst y2) ne2)) da1
        have da2 := dpAll_same ((sm_put (S := S) (o := .lst y2) ne2)) da2
        generalize upd H5 e2 (.lst y2) = H6 at fe2 lv B sc fI fe1 dp0 dax da1 da2 ⊢
        refine ⟨e1, e2, _, _, rfl, rfl, at_off fe1, at_off fe2, (by rw [sizeLine_eq]; omega), fun e3 ne3 => ?_⟩
        have fe3 := off_new (o := .lst (y1 ++ y2)) lv ne3
        have lv := lv.put (o := .lst (y1 ++ y2)) ne3
        have B := B.same (same_upd (o := .lst (y1 ++ y2)) ne3)
        have sc := sc.trans (sm_put (S := [d, c]) (o := .lst (y1 ++ y2)) ne3)
        have fI := (sm_put (S := S) (o := .lst (y1 ++ y2)) ne3) _ _ fI
        have dp0 := dp_same ((sm_put (S := S) (o := .lst (y1 ++ y2)) ne3)) dp0
        have dax := dpAll_same ((sm_put (S := S) (o := .lst (y1 ++ y2)) ne3)) dax
        have da1 := dpAll_same ((sm_put (S := S) (o := .lst (y1 ++ y2)) ne3)) da1
        have da2 := dpAll_same ((sm_put (S := S) (o := .lst (y1 ++ y2)) ne3)) da2
        generalize upd H6 e3 (.lst (y1 ++ y2)) = H7 at fe3 lv B sc fI dp0 dax da1 da2 ⊢
        refine ⟨_, rfl, _, rfl, _, rfl, I, _, rfl, dI fI, fun e4 ne4 => ?_⟩
        rw [ey1]
        have fe4 := off_new (o := .lst y1) lv ne4
        have lv := lv.put (o := .lst y1) ne4
        have B := B.same (same_upd (o := .lst y1) ne4)
        have sc := sc.trans (sm_put (S := [d, c]) (o := .lst y1) ne4)
        have fI := (sm_put (S := S) (o := .lst y1) ne4) _ _ fI
        have fe3 := (sm_put (S := S) (o := .lst y1) ne4) _ _ fe3
        have dp0 := dp_same ((sm_put (S := S) (o := .lst y1) ne4)) dp0
        have dax := dpAll_same ((sm_put (S := S) (o := .lst y1) ne4)) dax
        have da1 := dpAll_same ((sm_put (S := S) (o := .lst y1) ne4)) da1
        have da2 := dpAll_same ((sm_put (S := S) (o := .lst y1) ne4)) da2
        generalize upd H7 e4 (.lst y1) = H8 at fe4 lv B sc fI fe3 dp0 dax da1 da2 ⊢
        obtain ⟨y5, g5, ey5, da5, by5, ly5, ll5⟩ := cut_dp dax bds (some at_) (some (at_ + 1))
        refine ⟨_, rfl, _, rfl, _, rfl, _, rfl, _, _, rfl, rfl, _, rfl, I, _, rfl, dI fI, fun e5 ne5 => ?_⟩
        rw [ey5]
        have fe5 := off_new (o := .lst y5) lv ne5
        have lv := lv.put (o := .lst y5) ne5
        have B := B.same (same_upd (o := .lst y5) ne5)
        have sc := sc.trans (sm_put (S := [d, c]) (o := .lst y5) ne5)
        have fI := (sm_put (S := S) (o := .lst y5) ne5) _ _ fI
        have fe3 := (sm_put (S := S) (o := .lst y5) ne5) _ _ fe3
        have fe4 := (sm_put (S := S) (o := .lst y5) ne5) _ _ fe4
        have dp0 := dp_same ((sm_put (S := S) (o := .lst y5) ne5)) dp0
        have dax := dpAll_same ((sm_put (S := S) (o := .lst y5) ne5)) dax
        have da1 := dpAll_same ((sm_put (S := S) (o := .lst y5) ne5)) da1
        have da2 := dpAll_same ((sm_put (S := S) (o := .lst y5) ne5)) da2
        have da5 := dpAll_same ((sm_put (S := S) (o := .lst y5) ne5)) da5
        generalize upd H8 e5 (.lst y5) = H9 at fe5 lv B sc fI fe3 fe4 dp0 dax da1 da2 da5 ⊢
        refine ⟨e4, e5, _, _, rfl, rfl, at_off fe4, at_off fe5, (by rw [sizeLine_eq]; omega), fun e6 ne6 => ?_⟩
        have fe6 := off_new (o := .lst (y1 ++ y5)) lv ne6
        have lv := lv.put (o := .lst (y1 ++ y5)) ne6
        have B := B.same (same_upd (o := .lst (y1 ++ y5)) ne6)
        have sc := sc.trans (sm_put (S := [d, c]) (o := .lst (y1 ++ y5)) ne6)
        have fI := (sm_put (S := S) (o := .lst (y1 ++ y5)) ne6) _ _ fI
        have fe3 := (sm_put (S := S) (o := .lst (y1 ++ y5)) ne6) _ _ fe3
        have dp0 := dp_same ((sm_put (S := S) (o := .lst (y1 ++ y5)) ne6)) dp0
        have dax := dpAll_same ((sm_put (S := S) (o := .lst (y1 ++ y5)) ne6)) dax
        have da1 := dpAll_same ((sm_put (S := S) (o := .lst (y1 ++ y5)) ne6)) da1
        have da2 := dpAll_same ((sm_put (S := S) (o := .lst (y1 ++ y5)) ne6)) da2
        have da5 := dpAll_same ((sm_put (S := S) (o := .lst (y1 ++ y5)) ne6)) da5
        generalize upd H9 e6 (.lst (y1 ++ y5)) = H10 at fe6 lv B sc fI fe3 dp0 dax da1 da2 da5 ⊢
        obtain ⟨y7, g7, ey7, da7, by7, ly7, ll7⟩ := cut_dp dax bds (some at_) none
        refine ⟨_, rfl, _, rfl, _, rfl, I, _, rfl, dI fI, fun e7 ne7 => ?_⟩
        rw [ey7]
        have fe7 := off_new (o := .lst y7) lv ne7
        have lv := lv.put (o := .lst y7) ne7
        have B := B.same (same_upd (o := .lst y7) ne7)
        have sc := sc.trans (sm_put (S := [d, c]) (o := .lst y7) ne7)
        have fI := (sm_put (S := S) (o := .lst y7) ne7) _ _ fI
        have fe3 := (sm_put (S := S) (o := .lst y7) ne7) _ _ fe3
        have fe6 := (sm_put (S := S) (o := .lst y7) ne7) _ _ fe6
        have dp0 := dp_same ((sm_put (S := S) (o := .lst y7) ne7)) dp0
        have dax := dpAll_same ((sm_put (S := S) (o := .lst y7) ne7)) dax
        have da1 := dpAll_same ((sm_put (S := S) (o := .lst y7) ne7)) da1
        have da2 := dpAll_same ((sm_put (S := S) (o := .lst y7) ne7)) da2
        have da5 := dpAll_same ((sm_put (S := S) (o := .lst y7) ne7)) da5
        have da7 := dpAll_same ((sm_put (S := S) (o := .lst y7) ne7)) da7
        generalize upd H10 e7 (.lst y7) = H11 at fe7 lv B sc fI fe3 fe6 dp0 dax da1 da2 da5 da7 ⊢
        refine ⟨e6, e7, _, _, rfl, rfl, at_off fe6, at_off fe7, (by rw [List.length_append, sizeLine_eq]; omega), fun e8 ne8 => ?_⟩
        have fe8 := off_new (o := .lst (y1 ++ y5 ++ y7)) lv ne8
        have lv := lv.put (o := .lst (y1 ++ y5 ++ y7)) ne8
        have B := B.same (same_upd (o := .lst (y1 ++ y5 ++ y7)) ne8)
        have sc := sc.trans (sm_put (S := [d, c]) (o := .lst (y1 ++ y5 ++ y7)) ne8)
        have fI := (sm_put (S := S) (o := .lst (y1 ++ y5 ++ y7)) ne8) _ _ fI
        have fe3 := (sm_put (S := S) (o := .lst (y1 ++ y5 ++ y7)) ne8) _ _ fe3
        have dp0 := dp_same ((sm_put (S := S) (o := .lst (y1 ++ y5 ++ y7)) ne8)) dp0
        have dax := dpAll_same ((sm_put (S := S) (o := .lst (y1 ++ y5 ++ y7)) ne8)) dax
        have da1 := dpAll_same ((sm_put (S := S) (o := .lst (y1 ++ y5 ++ y7)) ne8)) da1
        have da2 := dpAll_same ((sm_put (S := S) (o := .lst (y1 ++ y5 ++ y7)) ne8)) da2
        have da5 := dpAll_same ((sm_put (S := S) (o := .lst (y1 ++ y5 ++ y7)) ne8)) da5
        have da7 := dpAll_same ((sm_put (S := S) (o := .lst (y1 ++ y5 ++ y7)) ne8)) da7
        generalize upd H11 e8 (.lst (y1 ++ y5 ++ y7)) = H12 at fe8 lv B sc fI fe3 dp0 dax da1 da2 da5 da7 ⊢
        refine ⟨_, rfl, I, _, rfl, dI fI, fun e9 ne9 => ?_⟩
        have fe9 := off_new (o := .lst xs.reverse) lv ne9
        have lv := lv.put (o := .lst xs.reverse) ne9
        have B := B.same (same_upd (o := .lst xs.reverse) ne9)
        have sc := sc.trans (sm_put (S := [d, c]) (o := .lst xs.reverse) ne9)
        have fI := (sm_put (S := S) (o := .lst xs.reverse) ne9) _ _ fI
        have fe3 := (sm_put (S := S) (o := .lst xs.reverse) ne9) _ _ fe3
        have fe8 := (sm_put (S := S) (o := .lst xs.reverse) ne9) _ _ fe8
        have dp0 := dp_same ((sm_put (S := S) (o := .lst xs.reverse) ne9)) dp0
        have dax := dpAll_same ((sm_put (S := S) (o := .lst xs.reverse) ne9)) dax
        have da1 := dpAll_same ((sm_put (S := S) (o := .lst xs.reverse) ne9)) da1
        have da2 := dpAll_same ((sm_put (S := S) (o := .lst xs.reverse) ne9)) da2
        have da5 := dpAll_same ((sm_put (S := S) (o := .lst xs.reverse) ne9)) da5
        have da7 := dpAll_same ((sm_put (S := S) (o := .lst xs.reverse) ne9)) da7
        generalize upd H12 e9 (.lst xs.reverse) = H13 at fe9 lv B sc fI fe3 fe8 dp0 dax da1 da2 da5 da7 ⊢
        refine ⟨_, rfl, (by show 1 ≤ sizeLine; decide), fun e10 ne10 => ?_⟩
        have fe10 := off_new (o := .lst [.int 0]) lv ne10
        have lv := lv.put (o := .lst [.int 0]) ne10
        have B := B.same (same_upd (o := .lst [.int 0]) ne10)
        have sc := sc.trans (sm_put (S := [d, c]) (o := .lst [.int 0]) ne10)
        have fI := (sm_put (S := S) (o := .lst [.int 0]) ne10) _ _ fI
        have fe3 := (sm_put (S := S) (o := .lst [.int 0]) ne10) _ _ fe3
        have fe8 := (sm_put (S := S) (o := .lst [.int 0]) ne10) _ _ fe8
        have fe9 := (sm_put (S := S) (o := .lst [.int 0]) ne10) _ _ fe9
        have dp0 := dp_same ((sm_put (S := S) (o := .lst [.int 0]) ne10)) dp0
        have dax := dpAll_same ((sm_put (S := S) (o := .lst [.int 0]) ne10)) dax
        have da1 := dpAll_same ((sm_put (S := S) (o := .lst [.int 0]) ne10)) da1
        have da2 := dpAll_same ((sm_put (S := S) (o := .lst [.int 0]) ne10)) da2
        have da5 := dpAll_same ((sm_put (S := S) (o := .lst [.int 0]) ne10)) da5
        have da7 := dpAll_same ((sm_put (S := S) (o := .lst [.int 0]) ne10)) da7
        generalize upd H13 e10 (.lst [.int 0]) = H14 at fe10 lv B sc fI fe3 fe8 fe9 dp0 dax da1 da2 da5 da7 ⊢
        refine ⟨I, e10, _, _, rfl, rfl, at_off fI, at_off fe10, (by rw [sizeLine_eq]; show _ + 1 ≤ _; omega), fun e11 ne11 => ?_⟩
        have fe11 := off_new (o := .lst (xs ++ [.int 0])) lv ne11
        have lv := lv.put (o := .lst (xs ++ [.int 0])) ne11
        have B := B.same (same_upd (o := .lst (xs ++ [.int 0])) ne11)
        have sc := sc.trans (sm_put (S := [d, c]) (o := .lst (xs ++ [.int 0])) ne11)
        have fI := (sm_put (S := S) (o := .lst (xs ++ [.int 0])) ne11) _ _ fI
        have fe3 := (sm_put (S := S) (o := .lst (xs ++ [.int 0])) ne11) _ _ fe3
        have fe8 := (sm_put (S := S) (o := .lst (xs ++ [.int 0])) ne11) _ _ fe8
        have fe9 := (sm_put (S := S) (o := .lst (xs ++ [.int 0])) ne11) _ _ fe9
        have dp0 := dp_same ((sm_put (S := S) (o := .lst (xs ++ [.int 0])) ne11)) dp0
        have dax := dpAll_same ((sm_put (S := S) (o := .lst (xs ++ [.int 0])) ne11)) dax
        have da1 := dpAll_same ((sm_put (S := S) (o := .lst (xs ++ [.int 0])) ne11)) da1
        have da2 := dpAll_same ((sm_put (S := S) (o := .lst (xs ++ [.int 0])) ne11)) da2
        have da5 := dpAll_same ((sm_put (S := S) (o := .lst (xs ++ [.int 0])) ne11)) da5
        have da7 := dpAll_same ((sm_put (S := S) (o := .lst (xs ++ [.int 0])) ne11)) da7
        generalize upd H14 e11 (.lst (xs ++ [.int 0])) = H15 at fe11 lv B sc fI fe3 fe8 fe9 dp0 dax da1 da2 da5 da7 ⊢
        refine ⟨(by show 4 ≤ sizeLine; decide), fun e12 ne12 => ?_⟩
        have fe12 := off_new (o := .lst [.ref e3, .ref e8, .ref e9, .ref e11]) lv ne12
        have lv := lv.put (o := .lst [.ref e3, .ref e8, .ref e9, .ref e11]) ne12
        have B := B.same (same_upd (o := .lst [.ref e3, .ref e8, .ref e9, .ref e11]) ne12)
        have sc := sc.trans (sm_put (S := [d, c]) (o := .lst [.ref e3, .ref e8, .ref e9, .ref e11]) ne12)
        have fI := (sm_put (S := S) (o := .lst [.ref e3, .ref e8, .ref e9, .ref e11]) ne12) _ _ fI
        have fe3 := (sm_put (S := S) (o := .lst [.ref e3, .ref e8, .ref e9, .ref e11]) ne12) _ _ fe3
        have fe8 := (sm_put (S := S) (o := .lst [.ref e3, .ref e8, .ref e9, .ref e11]) ne12) _ _ fe8
        have fe9 := (sm_put (S := S) (o := .lst [.ref e3, .ref e8, .ref e9, .ref e11]) ne12) _ _ fe9
        have fe11 := (sm_put (S := S) (o := .lst [.ref e3, .ref e8, .ref e9, .ref e11]) ne12) _ _ fe11
        have dp0 := dp_same ((sm_put (S := S) (o := .lst [.ref e3, .ref e8, .ref e9, .ref e11]) ne12)) dp0
        have dax := dpAll_same ((sm_put (S := S) (o := .lst [.ref e3, .ref e8, .ref e9, .ref e11]) ne12)) dax
        have da1 := dpAll_same ((sm_put (S := S) (o := .lst [.ref e3, .ref e8, .ref e9, .ref e11]) ne12)) da1
        have da2 := dpAll_same ((sm_put (S := S) (o := .lst [.ref e3, .ref e8, .ref e9, .ref e11]) ne12)) da2
        have da5 := dpAll_same ((sm_put (S := S) (o := .lst [.ref e3, .ref e8, .ref e9, .ref e11]) ne12)) da5
        have da7 := dpAll_same ((sm_put (S := S) (o := .lst [.ref e3, .ref e8, .ref e9, .ref e11]) ne12)) da7
        generalize upd H15 e12 (.lst [.ref e3, .ref e8, .ref e9, .ref e11]) = H16 at fe12 lv B sc fI fe3 fe8 fe9 fe11 dp0 dax da1 da2 da5 da7 ⊢
        have dH16 := dp_off dp0
        have bz : Bds (3 * n + 1) (m + 100) (C + C + C) (D - 1) W ds := bds.mono (by omega) (by omega) (by omega) (Nat.le_refl _) (Nat.le_refl _)
        refine ⟨_, rfl, _, _, rfl, rfl, _, rfl, ite2 (fun h4 => ?_) (fun h4 => ?_)⟩
        · have h4 := of_decide_eq_true h4
          obtain ⟨r, ys, es, er, fr, dar, br, lr⟩ : ∃ r ys es, atI [V.ref e3, .ref e8, .ref e9, .ref e11] way = some (.ref r) ∧ off H16 S r = some (.lst ys) ∧ DpAll K (off H16 S) ys es ∧ Bds (3 * n + 1) (m + 100) (3 * C + 10000) D (W + 1) es ∧ es.length ≤ W + 1 := by
            have h : way = 0 ∨ way = 1 ∨ way = 2 ∨ way = 3 := by omega
            have up : ∀ {C' D' : Nat} {l : List PyData}, Bds n (m + 100) C' D' W l → C' ≤ 3 * C + 10000 → D' ≤ D → Bds (3 * n + 1) (m + 100) (3 * C + 10000) D (W + 1) l := fun h a b => h.mono (by omega) (Nat.le_refl _) a b (by omega)
            have mm : ∀ {C' D' : Nat} {l : List PyData}, Bds n m C' D' W l → Bds n (m + 100) C' D' W l := fun h => h.mono (Nat.le_refl _) (by omega) (Nat.le_refl _) (Nat.le_refl _) (Nat.le_refl _)
            have lg1 : g1.length + g2.length ≤ W + 1 := by
              have e1 := congrArg List.length ey1
              have e2 := congrArg List.length ey2
              obtain ⟨aN, rfl⟩ : ∃ aN : Nat, at_ = (aN : Int) := ⟨at_.toNat, by omega⟩
              rw [cut_head, List.length_take] at e1
              rw [show ((aN : Int) + 1) = ((aN + 1 : Nat) : Int) by omega, cut_tail, List.length_drop] at e2
              omega
            have lg2 : g1.length + g5.length + g7.length ≤ W + 1 := by
              have e1 := congrArg List.length ey1
              have e7 := congrArg List.length ey7
              have e5 := congrArg List.length ey5
              obtain ⟨aN, rfl⟩ : ∃ aN : Nat, at_ = (aN : Int) := ⟨at_.toNat, by omega⟩
              rw [cut_head, List.length_take] at e1
              rw [cut_tail, List.length_drop] at e7
              have h5 : y5.length ≤ 1 := by
                rw [← ey5]
                exact cut_one _ _
              omega
            rcases h with rfl | rfl | rfl | rfl
            · exact ⟨e3, _, g1 ++ g2, rfl, fe3, dpAll_app' da1 da2, up ((mm by1).app (mm by2)) (by omega) (by omega), by rw [List.length_append]; exact lg1⟩
            · exact ⟨e8, _, g1 ++ g5 ++ g7, rfl, fe8, dpAll_app' (dpAll_app' da1 da5) da7, up (((mm by1).app (mm by5)).app (mm by7)) (by omega) (by omega), by rw [List.length_append, List.length_append]; exact lg2⟩
            · exact ⟨e9, _, ds.reverse, rfl, fe9, dpAll_rev dax, up (mm bds).rev (by omega) (by omega), by rw [List.length_reverse]; omega⟩
            · exact ⟨e11, _, ds ++ [.int 0], rfl, fe11, dpAll_app' dax (.cons (.int _) .nil), up ((mm bds).app (Bds.one ((bd_int (by show 0 ≤ _; omega)).mono (Nat.le_refl _) (Nat.le_refl _) (Nat.le_refl _) (Nat.zero_le _) (Nat.zero_le _)))) (by omega) (by omega), by rw [List.length_append]; show _ + 1 ≤ _; omega⟩
          refine ⟨_, rfl, _, .ty _, _, _, isListD _, rfl, .ty _, tyx_dp dH16, kit_list dH16, _, rfl, ?_⟩
          cases hL : isListD e0 with
          | true =>
            refine iteT ⟨_, rfl, _, rfl, e12, _, way, _, rfl, rfl, SqL.of (at_off fe12), er, ?_⟩
            exact q _ _ _ (B.mono (by omega)) sc (.lst (SqL.of fr) dar) ((br.list lr).mono (Nat.le_refl _) (Nat.le_refl _) (by omega) (by omega) (Nat.le_refl _))
          | false =>
            refine iteF ⟨_, rfl, _, rfl, e12, _, way, _, rfl, rfl, SqL.of (at_off fe12), er, r, _, rfl, .inl ⟨SqL.of (at_off fr), fun u nu => ?_⟩⟩
            have fu := off_new (o := .tup ys) lv nu
            have lv := lv.put (o := .tup ys) nu
            have B := B.same (same_upd (o := .tup ys) nu)
            have sc := sc.trans (sm_put (S := [d, c]) (o := .tup ys) nu)
            have dar := dpAll_same ((sm_put (S := S) (o := .tup ys) nu)) dar
            generalize upd H16 u (.tup ys) = H17 at fu lv B sc dar ⊢
            exact q _ _ _ (B.mono (by omega)) sc (.tup (.inl (.inl fu)) dar) ((br.tuple lr).mono (Nat.le_refl _) (Nat.le_refl _) (by omega) (by omega) (Nat.le_refl _))
        · have h4 : 4 ≤ way := by
            have : ¬ way < 4 := fun z => h4 (decide_eq_true z)
            omega
          refine ⟨_, rfl, _, .ty _, _, _, isTupD _, rfl, .ty _, tyx_dp dH16, kit_tup dH16, _, rfl, ?_⟩
          rw [b2]
          cases hL : isListD e0 with
          | true =>
            refine iteF ⟨_, rfl, I, _, rfl, .inl ⟨dI fI, fun u nu => ?_⟩⟩
            have fu := off_new (o := .tup xs) lv nu
            have lv := lv.put (o := .tup xs) nu
            have B := B.same (same_upd (o := .tup xs) nu)
            have sc := sc.trans (sm_put (S := [d, c]) (o := .tup xs) nu)
            have fI := (sm_put (S := S) (o := .tup xs) nu) _ _ fI
            have dp0 := dp_same ((sm_put (S := S) (o := .tup xs) nu)) dp0
            have dax := dpAll_same ((sm_put (S := S) (o := .tup xs) nu)) dax
            generalize upd H16 u (.tup xs) = H17 at fu lv B sc fI dp0 dax ⊢
            have du : Dp K (off H17 S) (.ref u) (.tuple ds) := .tup (.inl (.inl fu)) dax
            have bu : Bd n m (C + 3) D W (.tuple ds) := (bds.tuple lW).mono (Nat.le_refl _) (Nat.le_refl _) (Nat.le_refl _) (by omega) (Nat.le_refl _)
            refine ⟨_, rfl, (by show 1 ≤ sizeLine; decide), fun v1 nv1 => ?_⟩
            have fv1 := off_new (o := .lst [.ref I]) lv nv1
            have lv := lv.put (o := .lst [.ref I]) nv1
            have B := B.same (same_upd (o := .lst [.ref I]) nv1)
            have sc := sc.trans (sm_put (S := [d, c]) (o := .lst [.ref I]) nv1)
            have fI := (sm_put (S := S) (o := .lst [.ref I]) nv1) _ _ fI
            have dp0 := dp_same ((sm_put (S := S) (o := .lst [.ref I]) nv1)) dp0
            have dax := dpAll_same ((sm_put (S := S) (o := .lst [.ref I]) nv1)) dax
            have du := dp_same ((sm_put (S := S) (o := .lst [.ref I]) nv1)) du
            generalize upd H17 v1 (.lst [.ref I]) = H18 at fv1 lv B sc fI dp0 dax du ⊢
            refine ⟨_, rfl, (by show 1 ≤ sizeLine; decide), fun v2 nv2 => ?_⟩
            have fv2 := off_new (o := .tup [.ref a]) lv nv2
            have lv := lv.put (o := .tup [.ref a]) nv2
            have B := B.same (same_upd (o := .tup [.ref a]) nv2)
            have sc := sc.trans (sm_put (S := [d, c]) (o := .tup [.ref a]) nv2)
            have fI := (sm_put (S := S) (o := .tup [.ref a]) nv2) _ _ fI
            have fv1 := (sm_put (S := S) (o := .tup [.ref a]) nv2) _ _ fv1
            have dp0 := dp_same ((sm_put (S := S) (o := .tup [.ref a]) nv2)) dp0
            have dax := dpAll_same ((sm_put (S := S) (o := .tup [.ref a]) nv2)) dax
            have du := dp_same ((sm_put (S := S) (o := .tup [.ref a]) nv2)) du
            generalize upd H18 v2 (.tup [.ref a]) = H19 at fv2 lv B sc fI fv1 dp0 dax du ⊢
            refine ⟨(by show 3 ≤ sizeLine; decide), fun v3 nv3 => ?_⟩
            have fv3 := off_new (o := .lst [.ref u, .ref v1, .ref v2]) lv nv3
            have lv := lv.put (o := .lst [.ref u, .ref v1, .ref v2]) nv3
            have B := B.same (same_upd (o := .lst [.ref u, .ref v1, .ref v2]) nv3)
            have sc := sc.trans (sm_put (S := [d, c]) (o := .lst [.ref u, .ref v1, .ref v2]) nv3)
            have fI := (sm_put (S := S) (o := .lst [.ref u, .ref v1, .ref v2]) nv3) _ _ fI
            have fv1 := (sm_put (S := S) (o := .lst [.ref u, .ref v1, .ref v2]) nv3) _ _ fv1
            have fv2 := (sm_put (S := S) (o := .lst [.ref u, .ref v1, .ref v2]) nv3) _ _ fv2
            have dp0 := dp_same ((sm_put (S := S) (o := .lst [.ref u, .ref v1, .ref v2]) nv3)) dp0
            have dax := dpAll_same ((sm_put (S := S) (o := .lst [.ref u, .ref v1, .ref v2]) nv3)) dax
            have du := dp_same ((sm_put (S := S) (o := .lst [.ref u, .ref v1, .ref v2]) nv3)) du
            generalize upd H19 v3 (.lst [.ref u, .ref v1, .ref v2]) = H20 at fv3 lv B sc fI fv1 fv2 dp0 dax du ⊢
            obtain ⟨v, ed, ev, dv, tv⟩ : ∃ v ed, atI [V.ref u, .ref v1, .ref v2] (way - 4) = some v ∧ Dp K (off H20 S) v ed ∧ Bd (3 * n + 1) (m + 100) (3 * C + 20000) (D + 2) (W + 1) ed := by
              have h : way - 4 = 0 ∨ way - 4 = 1 ∨ way - 4 = 2 := by omega
              have bl : Bd n m (C + 3) D W (.list ds) := (bds.list lW).mono (Nat.le_refl _) (Nat.le_refl _) (Nat.le_refl _) (by omega) (Nat.le_refl _)
              have up : ∀ {C' D' W' : Nat} {dd : PyData}, Bd n m C' D' W' dd → C' ≤ 3 * C + 20000 → D' ≤ D + 2 → W' ≤ W + 1 → Bd (3 * n + 1) (m + 100) (3 * C + 20000) (D + 2) (W + 1) dd := fun h a b c => h.mono (by omega) (by omega) a b c
              rcases h with h | h | h
              · rw [h]
                exact ⟨_, _, rfl, du, up bu (by omega) (by omega) (by omega)⟩
              · rw [h]
                exact ⟨_, _, rfl, .lst (SqL.of fv1) (.cons (.lst (SqL.of fI) dax) .nil), up ((Bds.one bl).list (by show 1 ≤ W; omega)) (by omega) (by omega) (by omega)⟩
              · rw [h]
                exact ⟨_, _, rfl, .tup (.inl (.inl fv2)) (.cons dp0 .nil), up ((Bds.one bd).tuple (by show 1 ≤ W; omega)) (by omega) (by omega) (by omega)⟩
            refine ⟨_, rfl, _, _, rfl, rfl, v3, _, _, v, rfl, rfl, SqL.of (at_off fv3), ev, ?_⟩
            exact q _ _ _ (B.mono (by omega)) sc dv tv
          | false =>
            refine iteT ⟨_, rfl, ?_⟩
            have du : Dp K (off H16 S) (.ref I) (.list ds) := .lst (SqL.of fI) dax
            have bu : Bd n m (C + 3) D W (.list ds) := (bds.list lW).mono (Nat.le_refl _) (Nat.le_refl _) (Nat.le_refl _) (by omega) (Nat.le_refl _)
            refine ⟨_, rfl, (by show 1 ≤ sizeLine; decide), fun v1 nv1 => ?_⟩
            have fv1 := off_new (o := .lst [.ref I]) lv nv1
            have lv := lv.put (o := .lst [.ref I]) nv1
            have B := B.same (same_upd (o := .lst [.ref I]) nv1)
            have sc := sc.trans (sm_put (S := [d, c]) (o := .lst [.ref I]) nv1)
            have fI := (sm_put (S := S) (o := .lst [.ref I]) nv1) _ _ fI
            have dp0 := dp_same ((sm_put (S := S) (o := .lst [.ref I]) nv1)) dp0
            have dax := dpAll_same ((sm_put (S := S) (o := .lst [.ref I]) nv1)) dax
            have du := dp_same ((sm_put (S := S) (o := .lst [.ref I]) nv1)) du
            generalize upd H16 v1 (.lst [.ref I]) = H18 at fv1 lv B sc fI dp0 dax du ⊢
            refine ⟨_, rfl, (by show 1 ≤ sizeLine; decide), fun v2 nv2 => ?_⟩
            have fv2 := off_new (o := .tup [.ref a]) lv nv2
            have lv := lv.put (o := .tup [.ref a]) nv2
            have B := B.same (same_upd (o := .tup [.ref a]) nv2)
            have sc := sc.trans (sm_put (S := [d, c]) (o := .tup [.ref a]) nv2)
            have fI := (sm_put (S := S) (o := .tup [.ref a]) nv2) _ _ fI
            have fv1 := (sm_put (S := S) (o := .tup [.ref a]) nv2) _ _ fv1
            have dp0 := dp_same ((sm_put (S := S) (o := .tup [.ref a]) nv2)) dp0
            have dax := dpAll_same ((sm_put (S := S) (o := .tup [.ref a]) nv2)) dax
            have du := dp_same ((sm_put (S := S) (o := .tup [.ref a]) nv2)) du
            generalize upd H18 v2 (.tup [.ref a]) = H19 at fv2 lv B sc fI fv1 dp0 dax du ⊢
            refine ⟨(by show 3 ≤ sizeLine; decide), fun v3 nv3 => ?_⟩
            have fv3 := off_new (o := .lst [.ref I, .ref v1, .ref v2]) lv nv3
            have lv := lv.put (o := .lst [.ref I, .ref v1, .ref v2]) nv3
            have B := B.same (same_upd (o := .lst [.ref I, .ref v1, .ref v2]) nv3)
            have sc := sc.trans (sm_put (S := [d, c]) (o := .lst [.ref I, .ref v1, .ref v2]) nv3)
            have fI := (sm_put (S := S) (o := .lst [.ref I, .ref v1, .ref v2]) nv3) _ _ fI
            have fv1 := (sm_put (S := S) (o := .lst [.ref I, .ref v1, .ref v2]) nv3) _ _ fv1
            have fv2 := (sm_put (S := S) (o := .lst [.ref I, .ref v1, .ref v2]) nv3) _ _ fv2
            have dp0 := dp_same ((sm_put (S := S) (o := .lst [.ref I, .ref v1, .ref v2]) nv3)) dp0
            have dax := dpAll_same ((sm_put (S := S) (o := .lst [.ref I, .ref v1, .ref v2]) nv3)) dax
            have du := dp_same ((sm_put (S := S) (o := .lst [.ref I, .ref v1, .ref v2]) nv3)) du
            generalize upd H19 v3 (.lst [.ref I, .ref v1, .ref v2]) = H20 at fv3 lv B sc fI fv1 fv2 dp0 dax du ⊢
            obtain ⟨v, ed, ev, dv, tv⟩ : ∃ v ed, atI [V.ref I, .ref v1, .ref v2] (way - 4) = some v ∧ Dp K (off H20 S) v ed ∧ Bd (3 * n + 1) (m + 100) (3 * C + 20000) (D + 2) (W + 1) ed := by
              have h : way - 4 = 0 ∨ way - 4 = 1 ∨ way - 4 = 2 := by omega
              have bl : Bd n m (C + 3) D W (.list ds) := (bds.list lW).mono (Nat.le_refl _) (Nat.le_refl _) (Nat.le_refl _) (by omega) (Nat.le_refl _)
              have up : ∀ {C' D' W' : Nat} {dd : PyData}, Bd n m C' D' W' dd → C' ≤ 3 * C + 20000 → D' ≤ D + 2 → W' ≤ W + 1 → Bd (3 * n + 1) (m + 100) (3 * C + 20000) (D + 2) (W + 1) dd := fun h a b c => h.mono (by omega) (by omega) a b c
              rcases h with h | h | h
              · rw [h]
                exact ⟨_, _, rfl, du, up bu (by omega) (by omega) (by omega)⟩
              · rw [h]
                exact ⟨_, _, rfl, .lst (SqL.of fv1) (.cons (.lst (SqL.of fI) dax) .nil), up ((Bds.one bl).list (by show 1 ≤ W; omega)) (by omega) (by omega) (by omega)⟩
              · rw [h]
                exact ⟨_, _, rfl, .tup (.inl (.inl fv2)) (.cons dp0 .nil), up ((Bds.one bd).tuple (by show 1 ≤ W; omega)) (by omega) (by omega) (by omega)⟩
            refine ⟨_, rfl, _, _, rfl, rfl, v3, _, _, v, rfl, rfl, SqL.of (at_off fv3), ev, ?_⟩
            exact q _ _ _ (B.mono (by omega)) sc dv tv
      · skip
        refine ⟨Nat.zero_le _, fun p1 np1 => ?_⟩
        have fp1 := off_new (o := .tup []) lv np1
        have lv := lv.put (o := .tup []) np1
        have B := B.same (same_upd (o := .tup []) np1)
        have sc := sc.trans (sm_put (S := [d, c]) (o := .tup []) np1)
        generalize upd H2 p1 (.tup []) = T1 at fp1 lv B sc  ⊢
        refine ⟨Nat.zero_le _, fun p2 np2 => ?_⟩
        have fp2 := off_new (o := .lst []) lv np2
        have lv := lv.put (o := .lst []) np2
        have B := B.same (same_upd (o := .lst []) np2)
        have sc := sc.trans (sm_put (S := [d, c]) (o := .lst []) np2)
        have fp1 := (sm_put (S := S) (o := .lst []) np2) _ _ fp1
        generalize upd T1 p2 (.lst []) = T2 at fp2 lv B sc fp1 ⊢
        refine ⟨1, rfl, Nat.zero_le _, fun p3 np3 => ?_⟩
        have fp3 := off_new (o := .tup []) lv np3
        have lv := lv.put (o := .tup []) np3
        have B := B.same (same_upd (o := .tup []) np3)
        have sc := sc.trans (sm_put (S := [d, c]) (o := .tup []) np3)
        have fp1 := (sm_put (S := S) (o := .tup []) np3) _ _ fp1
        have fp2 := (sm_put (S := S) (o := .tup []) np3) _ _ fp2
        generalize upd T2 p3 (.tup []) = T3 at fp3 lv B sc fp1 fp2 ⊢
        refine ⟨(by show 1 ≤ sizeLine; decide), fun p4 np4 => ?_⟩
        have fp4 := off_new (o := .lst [.ref p3]) lv np4
        have lv := lv.put (o := .lst [.ref p3]) np4
        have B := B.same (same_upd (o := .lst [.ref p3]) np4)
        have sc := sc.trans (sm_put (S := [d, c]) (o := .lst [.ref p3]) np4)
        have fp1 := (sm_put (S := S) (o := .lst [.ref p3]) np4) _ _ fp1
        have fp2 := (sm_put (S := S) (o := .lst [.ref p3]) np4) _ _ fp2
        have fp3 := (sm_put (S := S) (o := .lst [.ref p3]) np4) _ _ fp3
        generalize upd T3 p4 (.lst [.ref p3]) = T4 at fp4 lv B sc fp1 fp2 fp3 ⊢
        refine ⟨Nat.zero_le _, fun p5 np5 => ?_⟩
        have fp5 := off_new (o := .tup []) lv np5
        have lv := lv.put (o := .tup []) np5
        have B := B.same (same_upd (o := .tup []) np5)
        have sc := sc.trans (sm_put (S := [d, c]) (o := .tup []) np5)
        have fp1 := (sm_put (S := S) (o := .tup []) np5) _ _ fp1
        have fp2 := (sm_put (S := S) (o := .tup []) np5) _ _ fp2
        have fp3 := (sm_put (S := S) (o := .tup []) np5) _ _ fp3
        have fp4 := (sm_put (S := S) (o := .tup []) np5) _ _ fp4
        generalize upd T4 p5 (.tup []) = T5 at fp5 lv B sc fp1 fp2 fp3 fp4 ⊢
        refine ⟨(by show 1 ≤ sizeLine; decide), fun p6 np6 => ?_⟩
        have fp6 := off_new (o := .tup [.ref p5]) lv np6
        have lv := lv.put (o := .tup [.ref p5]) np6
        have B := B.same (same_upd (o := .tup [.ref p5]) np6)
        have sc := sc.trans (sm_put (S := [d, c]) (o := .tup [.ref p5]) np6)
        have fp1 := (sm_put (S := S) (o := .tup [.ref p5]) np6) _ _ fp1
        have fp2 := (sm_put (S := S) (o := .tup [.ref p5]) np6) _ _ fp2
        have fp3 := (sm_put (S := S) (o := .tup [.ref p5]) np6) _ _ fp3
        have fp4 := (sm_put (S := S) (o := .tup [.ref p5]) np6) _ _ fp4
        have fp5 := (sm_put (S := S) (o := .tup [.ref p5]) np6) _ _ fp5
        generalize upd T5 p6 (.tup [.ref p5]) = T6 at fp6 lv B sc fp1 fp2 fp3 fp4 fp5 ⊢
        refine ⟨(by show 12 ≤ sizeLine; decide), fun p7 np7 => ?_⟩
        have fp7 := off_new (o := .lst [.non, .bl true, .int 0, .str "", .ref p1, .ref p2, .str "a", .int (-1), .ref p4, .ref p6, .int 1, .bl false]) lv np7
        have lv := lv.put (o := .lst [.non, .bl true, .int 0, .str "", .ref p1, .ref p2, .str "a", .int (-1), .ref p4, .ref p6, .int 1, .bl false]) np7
        have B := B.same (same_upd (o := .lst [.non, .bl true, .int 0, .str "", .ref p1, .ref p2, .str "a", .int (-1), .ref p4, .ref p6, .int 1, .bl false]) np7)
        have sc := sc.trans (sm_put (S := [d, c]) (o := .lst [.non, .bl true, .int 0, .str "", .ref p1, .ref p2, .str "a", .int (-1), .ref p4, .ref p6, .int 1, .bl false]) np7)
        have fp1 := (sm_put (S := S) (o := .lst [.non, .bl true, .int 0, .str "", .ref p1, .ref p2, .str "a", .int (-1), .ref p4, .ref p6, .int 1, .bl false]) np7) _ _ fp1
        have fp2 := (sm_put (S := S) (o := .lst [.non, .bl true, .int 0, .str "", .ref p1, .ref p2, .str "a", .int (-1), .ref p4, .ref p6, .int 1, .bl false]) np7) _ _ fp2
        have fp3 := (sm_put (S := S) (o := .lst [.non, .bl true, .int 0, .str "", .ref p1, .ref p2, .str "a", .int (-1), .ref p4, .ref p6, .int 1, .bl false]) np7) _ _ fp3
        have fp4 := (sm_put (S := S) (o := .lst [.non, .bl true, .int 0, .str "", .ref p1, .ref p2, .str "a", .int (-1), .ref p4, .ref p6, .int 1, .bl false]) np7) _ _ fp4
        have fp5 := (sm_put (S := S) (o := .lst [.non, .bl true, .int 0, .str "", .ref p1, .ref p2, .str "a", .int (-1), .ref p4, .ref p6, .int 1, .bl false]) np7) _ _ fp5
        have fp6 := (sm_put (S := S) (o := .lst [.non, .bl true, .int 0, .str "", .ref p1, .ref p2, .str "a", .int (-1), .ref p4, .ref p6, .int 1, .bl false]) np7) _ _ fp6
        generalize upd T6 p7 (.lst [.non, .bl true, .int 0, .str "", .ref p1, .ref p2, .str "a", .int (-1), .ref p4, .ref p6, .int 1, .bl false]) = T7 at fp7 lv B sc fp1 fp2 fp3 fp4 fp5 fp6 ⊢
        obtain ⟨lv_, ld_, lev, ldv, lbd⟩ : ∃ v ed, atI [V.non, .bl true, .int 0, .str "", .ref p1, .ref p2, .str "a", .int (-1), .ref p4, .ref p6, .int 1, .bl false] way = some v ∧ Dp K (off T7 S) v ed ∧ Bd (3 * n + 1) (m + 100) (3 * C + 20000) (D + 2) (W + 1) ed := by
          have h : way = 0 ∨ way = 1 ∨ way = 2 ∨ way = 3 ∨ way = 4 ∨ way = 5 ∨ way = 6 ∨ way = 7 ∨ way = 8 ∨ way = 9 ∨ way = 10 ∨ way = 11 := by omega
          have up : ∀ {C' D' W' : Nat} {dd : PyData}, Bd 1 100 C' D' W' dd → C' ≤ 20000 → D' ≤ 2 → W' ≤ 1 → Bd (3 * n + 1) (m + 100) (3 * C + 20000) (D + 2) (W + 1) dd := fun h a b c => h.mono (by omega) (by omega) (by omega) (by omega) (by omega)
          have b0 : Bd 1 100 3 1 1 (.tuple []) := (Bds.nil (D := 0)).tuple (Nat.zero_le 1)
          rcases h with rfl | rfl | rfl | rfl | rfl | rfl | rfl | rfl | rfl | rfl | rfl | rfl
          · exact ⟨_, .none, rfl, .non, up bd_none (by decide) (by decide) (by decide)⟩
          · exact ⟨_, .bool true, rfl, .bl _, up (bd_bool _) (by decide) (by decide) (by decide)⟩
          · exact ⟨_, .int 0, rfl, .int _, up (bd_int (by decide)) (by decide) (by decide) (by decide)⟩
          · exact ⟨_, .str "", rfl, .str _, up (bd_str (by decide +kernel) (by decide) (by decide +kernel)) (by decide) (by decide) (by decide)⟩
          · exact ⟨_, .tuple [], rfl, .tup (.inl (.inl fp1)) .nil, up b0 (by decide) (by decide) (by decide)⟩
          · exact ⟨_, .list [], rfl, .lst (SqL.of fp2) .nil, up ((Bds.nil (D := 0) (W := 1)).list (Nat.zero_le 1)) (by decide) (by decide) (by decide)⟩
          · exact ⟨_, .str "a", rfl, .str _, up (bd_str (by decide +kernel) (by decide) (by decide +kernel)) (by decide) (by decide) (by decide)⟩
          · exact ⟨_, .int (-1), rfl, .int _, up (bd_int (by decide)) (by decide) (by decide) (by decide)⟩
          · exact ⟨_, .list [.tuple []], rfl, .lst (SqL.of fp4) (.cons (.tup (.inl (.inl fp3)) .nil) .nil), up ((Bds.one b0).list (by decide)) (by decide) (by decide) (by decide)⟩
          · exact ⟨_, .tuple [.tuple []], rfl, .tup (.inl (.inl fp6)) (.cons (.tup (.inl (.inl fp5)) .nil) .nil), up ((Bds.one b0).tuple (by decide)) (by decide) (by decide) (by decide)⟩
          · exact ⟨_, .int 1, rfl, .int _, up (bd_int (by decide)) (by decide) (by decide) (by decide)⟩
          · exact ⟨_, .bool false, rfl, .bl _, up (bd_bool _) (by decide) (by decide) (by decide)⟩
        refine ⟨_, rfl, p7, _, way, lv_, rfl, rfl, SqL.of (at_off fp7), lev, ?_⟩
        exact q _ _ _ (B.mono (by omega)) sc ldv lbd
    | @tup a xs ds hl dax =>
      have sqq : SqA K (off H1 S) a xs := .inr hl
      obtain ⟨e0, ee⟩ : ∃ e0, e0 = PyData.tuple ds := ⟨_, rfl⟩
      have he : e0 = .list ds ∨ e0 = .tuple ds := .inr ee
      have b1 : (isListD e0 || isTupD e0) = true := by rw [ee]; rfl
      have b2 : isTupD e0 = !isListD e0 := by rw [ee]; rfl
      rw [← ee] at dp0 dH bd
      refine iteF ?_
      have b3 : isStrD e0 = false := by rw [ee]; rfl
      have lx : xs.length = ds.length := dpAll_len dax
      obtain ⟨bds0, lW, hC3, hD1⟩ := bd.parts he
      have bds : Bds n m C (D - 1) W ds := bds0.mono (Nat.le_refl _) (Nat.le_refl _) (by omega) (Nat.le_refl _) (Nat.le_refl _)
      refine ⟨_, rfl, _, .ty _, _, _, isStrD _, rfl, .ty _, tyx_dp dH, kit_str dH, _, rfl, ?_⟩
      rw [b3]
      refine iteF ?_
      refine ⟨_, rfl, (by show 2 ≤ sizeLine; decide), fun t nt => ?_⟩
      have ft := off_new (o := .tup [.ty "list", .ty "tuple"]) lv nt
      have lv := lv.put (o := .tup [.ty "list", .ty "tuple"]) nt
      have B := B.same (same_upd (o := .tup [.ty "list", .ty "tuple"]) nt)
      have sc := sc.trans (sm_put (S := [d, c]) (o := .tup [.ty "list", .ty "tuple"]) nt)
      have dp0 := dp_same ((sm_put (S := S) (o := .tup [.ty "list", .ty "tuple"]) nt)) dp0
      have sqq := sq_same ((sm_put (S := S) (o := .tup [.ty "list", .ty "tuple"]) nt)) sqq
      have dax := dpAll_same ((sm_put (S := S) (o := .tup [.ty "list", .ty "tuple"]) nt)) dax
      generalize upd H1 t (.tup [.ty "list", .ty "tuple"]) = H2 at ft lv B sc dp0 sqq dax ⊢
      have dH2 := dp_off dp0
      refine ⟨_, t, _, _, _, _, rfl, at_off ft, .cons (.ty _) (.cons (.ty _) .nil), tyx_dp dH2, kit_lt dH2, _, rfl, ?_⟩
      rw [b1]
      refine iteT ⟨_, rfl, _, _, rfl, rfl, _, rfl, ite2 (fun h7 => ?_) (fun h7 => ?_)⟩
      · have h7 := of_decide_eq_true h7
        refine ⟨_, rfl, _, rfl, _, _, rfl, sqa_len (sqa_off sqq), _, _, rfl, rfl, d, c, _, _, rfl, (by omega), (by omega), B, by omega, fun H3 at_ a0 a1 B3 s3 => ?_⟩
        have lv := lv.st B3 s3
        have sc := sc.trans s3
        have B := B3
        have dp0 := dp_same ((sm_two hd hc s3)) dp0
        have sqq := sq_same ((sm_two hd hc s3)) sqq
        have dax := dpAll_same ((sm_two hd hc s3)) dax
        refine ⟨_, rfl, a, _, rfl, sqa_off sqq, fun I nI => ⟨_, _, rfl, ?_⟩⟩
        have fI := off_new (o := .lst xs) lv nI
        have lv := lv.put (o := .lst xs) nI
        have B := B.same (same_upd (o := .lst xs) nI)
        have sc := sc.trans (sm_put (S := [d, c]) (o := .lst xs) nI)
        have dp0 := dp_same ((sm_put (S := S) (o := .lst xs) nI)) dp0
        have sqq := sq_same ((sm_put (S := S) (o := .lst xs) nI)) sqq
        have dax := dpAll_same ((sm_put (S := S) (o := .lst xs) nI)) dax
        generalize upd H3 I (.lst xs) = H4 at fI lv B sc dp0 sqq dax ⊢
        have dI : ∀ {Hx : Hp}, off Hx S I = some (.lst xs) → SqL K Hx I xs := fun h => SqL.of (at_off h)
        have l4 : xs.length ≤ 1000 := by omega
        obtain ⟨y1, g1, ey1, da1, by1, ly1, ll1⟩ := cut_dp dax bds none (some at_)
        refine ⟨_, rfl, _, rfl, _, rfl, I, _, rfl, dI fI, fun e1 ne1 => ?_⟩
        rw [ey1]
        have fe1 := off_new (o := .lst y1) lv ne1
        have lv := lv.put (o := .lst y1) ne1
        have B := B.same (same_upd (o := .lst y1) ne1)
        have sc := sc.trans (sm_put (S := [d, c]) (o := .lst y1) ne1)
        have fI := (sm_put (S := S) (o := .lst y1) ne1) _ _ fI
        have dp0 := dp_same ((sm_put (S := S) (o := .lst y1) ne1)) dp0
        have dax := dpAll_same ((sm_put (S := S) (o := .lst y1) ne1)) dax
        have da1 := dpAll_same ((sm_put (S := S) (o := .lst y1) ne1)) da1
        generalize upd H4 e1 (.lst y1) = H5 at fe1 lv B sc fI dp0 dax da1 ⊢
        obtain ⟨y2, g2, ey2, da2, by2, ly2, ll2⟩ := cut_dp dax bds (some (at_ + 1)) none
        refine ⟨_, rfl, _, rfl, _, _, rfl, rfl, _, rfl, I, _, rfl, dI fI, fun e2 ne2 => ?_⟩
        rw [ey2]
        have fe2 := off_new (o := .lst y2) lv ne2
        have lv := lv.put (o := .lst y2) ne2
        have B := B.same (same_upd (o := .lst y2) ne2)
        have sc := sc.trans (sm_put (S := [d, c]) (o := .lst y2) ne2)
        have fI := (sm_put (S := S) (o := .lst y2) ne2) _ _ fI
        have fe1 := (sm_put (S := S) (o := .lst y2) ne2) _ _ fe1
        have dp0 := dp_same ((sm_put (S := S) (o := .lst y2) ne2)) dp0
        have dax := dpAll_same ((sm_put (S := S) (o := .lst y2) ne2)) dax
        have da1 := dpAll_same ((sm_put (S := S) (o := .lst y2) ne2)) da1
        have da2 := dpAll_same ((sm_put (S := S) (o := .lst y2) ne2)) da2
        generalize upd H5 e2 (.lst y2) = H6 at fe2 lv B sc fI fe1 dp0 dax da1 da2 ⊢
        refine ⟨e1, e2, _, _, rfl, rfl, at_off fe1, at_off fe2, (by rw [sizeLine_eq]; omega), fun e3 ne3 => ?_⟩
        have fe3 := off_new (o := .lst (y1 ++ y2)) lv ne3
        have lv := lv.put (o := .lst (y1 ++ y2)) ne3
        have B := B.same (same_upd (o := .lst (y1 ++ y2)) ne3)
        have sc := sc.trans (sm_put (S := [d, c]) (o := .lst (y1 ++ y2)) ne3)
        have fI := (sm_put (S := S) (o := .lst (y1 ++ y2)) ne3) _ _ fI
        have dp0 := dp_same ((sm_put (S := S) (o := .lst (y1 ++ y2)) ne3)) dp0
        have dax := dpAll_same ((sm_put (S := S) (o := .lst (y1 ++ y2)) ne3)) dax
        have da1 := dpAll_same ((sm_put (S := S) (o := .lst (y1 ++ y2)) ne3)) da1
        have da2 := dpAll_same ((sm_put (S := S) (o := .lst (y1 ++ y2)) ne3)) da2
        generalize upd H6 e3 (.lst (y1 ++ y2)) = H7 at fe3 lv B sc fI dp0 dax da1 da2 ⊢
        refine ⟨_, rfl, _, rfl, _, rfl, I, _, rfl, dI fI, fun e4 ne4 => ?_⟩
        rw [ey1]
        have fe4 := off_new (o := .lst y1) lv ne4
        have lv := lv.put (o := .lst y1) ne4
        have B := B.same (same_upd (o := .lst y1) ne4)
        have sc := sc.trans (sm_put (S := [d, c]) (o := .lst y1) ne4)
        have fI := (sm_put (S := S) (o := .lst y1) ne4) _ _ fI
        have fe3 := (sm_put (S := S) (o := .lst y1) ne4) _ _ fe3
        have dp0 := dp_same ((sm_put (S := S) (o := .lst y1) ne4)) dp0
        have dax := dpAll_same ((sm_put (S := S) (o := .lst y1) ne4)) dax
        have da1 := dpAll_same ((sm_put (S := S) (o := .lst y1) ne4)) da1
        have da2 := dpAll_same ((sm_put (S := S) (o := .lst y1) ne4)) da2
        generalize upd H7 e4 (.lst y1) = H8 at fe4 lv B sc fI fe3 dp0 dax da1 da2 ⊢
        obtain ⟨y5, g5, ey5, da5, by5, ly5, ll5⟩ := cut_dp dax bds (some at_) (some (at_ + 1))
        refine ⟨_, rfl, _, rfl, _, rfl, _, rfl, _, _, rfl, rfl, _, rfl, I, _, rfl, dI fI, fun e5 ne5 => ?_⟩
        rw [ey5]
        have fe5 := off_new (o := .lst y5) lv ne5
        have lv := lv.put (o := .lst y5) ne5
        have B := B.same (same_upd (o := .lst y5) ne5)
        have sc := sc.trans (sm_put (S := [d, c]) (o := .lst y5) ne5)
        have fI := (sm_put (S := S) (o := .lst y5) ne5) _ _ fI
        have fe3 := (sm_put (S := S) (o := .lst y5) ne5) _ _ fe3
        have fe4 := (sm_put (S := S) (o := .lst y5) ne5) _ _ fe4
        have dp0 := dp_same ((sm_put (S := S) (o := .lst y5) ne5)) dp0
        have dax := dpAll_same ((sm_put (S := S) (o := .lst y5) ne5)) dax
        have da1 := dpAll_same ((sm_put (S := S) (o := .lst y5) ne5)) da1
        have da2 := dpAll_same ((sm_put (S := S) (o := .lst y5) ne5)) da2
        have da5 := dpAll_same ((sm_put (S := S) (o := .lst y5) ne5)) da5
        generalize upd H8 e5 (.lst y5) = H9 at fe5 lv B sc fI fe3 fe4 dp0 dax da1 da2 da5 ⊢
        refine ⟨e4, e5, _, _, rfl, rfl, at_off fe4, at_off fe5, (by rw [sizeLine_eq]; omega), fun e6 ne6 => ?_⟩
        have fe6 := off_new (o := .lst (y1 ++ y5)) lv ne6
        have lv := lv.put (o := .lst (y1 ++ y5)) ne6
        have B := B.same (same_upd (o := .lst (y1 ++ y5)) ne6)
        have sc := sc.trans (sm_put (S := [d, c]) (o := .lst (y1 ++ y5)) ne6)
        have fI := (sm_put (S := S) (o := .lst (y1 ++ y5)) ne6) _ _ fI
        have fe3 := (sm_put (S := S) (o := .lst (y1 ++ y5)) ne6) _ _ fe3
        have dp0 := dp_same ((sm_put (S := S) (o := .lst (y1 ++ y5)) ne6)) dp0
        have dax := dpAll_same ((sm_put (S := S) (o := .lst (y1 ++ y5)) ne6)) dax
        have da1 := dpAll_same ((sm_put (S := S) (o := .lst (y1 ++ y5)) ne6)) da1
        have da2 := dpAll_same ((sm_put (S := S) (o := .lst (y1 ++ y5)) ne6)) da2
        have da5 := dpAll_same ((sm_put (S := S) (o := .lst (y1 ++ y5)) ne6)) da5
        generalize upd H9 e6 (.lst (y1 ++ y5)) = H10 at fe6 lv B sc fI fe3 dp0 dax da1 da2 da5 ⊢
        obtain ⟨y7, g7, ey7, da7, by7, ly7, ll7⟩ := cut_dp dax bds (some at_) none
        refine ⟨_, rfl, _, rfl, _, rfl, I, _, rfl, dI fI, fun e7 ne7 => ?_⟩
        rw [ey7]
        have fe7 := off_new (o := .lst y7) lv ne7
        have lv := lv.put (o := .lst y7) ne7
        have B := B.same (same_upd (o := .lst y7) ne7)
        have sc := sc.trans (sm_put (S := [d, c]) (o := .lst y7) ne7)
        have fI := (sm_put (S := S) (o := .lst y7) ne7) _ _ fI
        have fe3 := (sm_put (S := S) (o := .lst y7) ne7) _ _ fe3
        have fe6 := (sm_put (S := S) (o := .lst y7) ne7) _ _ fe6
        have dp0 := dp_same ((sm_put (S := S) (o := .lst y7) ne7)) dp0
        have dax := dpAll_same ((sm_put (S := S) (o := .lst y7) ne7)) dax
        have da1 := dpAll_same ((sm_put (S := S) (o := .lst y7) ne7)) da1
        have da2 := dpAll_same ((sm_put (S := S) (o := .lst y7) ne7)) da2
        have da5 := dpAll_same ((sm_put (S := S) (o := .lst y7) ne7)) da5
        have da7 := dpAll_same ((sm_put (S := S) (o := .lst y7) ne7)) da7
        generalize upd H10 e7 (.lst y7) = H11 at fe7 lv B sc fI fe3 fe6 dp0 dax da1 da2 da5 da7 ⊢
        refine ⟨e6, e7, _, _, rfl, rfl, at_off fe6, at_off fe7, (by rw [List.length_append, sizeLine_eq]; omega), fun e8 ne8 => ?_⟩
        have fe8 := off_new (o := .lst (y1 ++ y5 ++ y7)) lv ne8
        have lv := lv.put (o := .lst (y1 ++ y5 ++ y7)) ne8
        have B := B.same (same_upd (o := .lst (y1 ++ y5 ++ y7)) ne8)
        have sc := sc.trans (sm_put (S := [d, c]) (o := .lst (y1 ++ y5 ++ y7)) ne8)
        have fI := (sm_put (S := S) (o := .lst (y1 ++ y5 ++ y7)) ne8) _ _ fI
        have fe3 := (sm_put (S := S) (o := .lst (y1 ++ y5 ++ y7)) ne8) _ _ fe3
        have dp0 := dp_same ((sm_put (S := S) (o := .lst (y1 ++ y5 ++ y7)) ne8)) dp0
        have dax := dpAll_same ((sm_put (S := S) (o := .lst (y1 ++ y5 ++ y7)) ne8)) dax
        have da1 := dpAll_same ((sm_put (S := S) (o := .lst (y1 ++ y5 ++ y7)) ne8)) da1
        have da2 := dpAll_same ((sm_put (S := S) (o := .lst (y1 ++ y5 ++ y7)) ne8)) da2
        have da5 := dpAll_same ((sm_put (S := S) (o := .lst (y1 ++ y5 ++ y7)) ne8)) da5
        have da7 := dpAll_same ((sm_put (S := S) (o := .lst (y1 ++ y5 ++ y7)) ne8)) da7
        generalize upd H11 e8 (.lst (y1 ++ y5 ++ y7)) = H12 at fe8 lv B sc fI fe3 dp0 dax da1 da2 da5 da7 ⊢
        refine ⟨_, rfl, I, _, rfl, dI fI, fun e9 ne9 => ?_⟩
        have fe9 := off_new (o := .lst xs.reverse) lv ne9
        have lv := lv.put (o := .lst xs.reverse) ne9
        have B := B.same (same_upd (o := .lst xs.reverse) ne9)
        have sc := sc.trans (sm_put (S := [d, c]) (o := .lst xs.reverse) ne9)
        have fI := (sm_put (S := S) (o := .lst xs.reverse) ne9) _ _ fI
        have fe3 := (sm_put (S := S) (o := .lst xs.reverse) ne9) _ _ fe3
        have fe8 := (sm_put (S := S) (o := .lst xs.reverse) ne9) _ _ fe8
        have dp0 := dp_same ((sm_put (S := S) (o := .lst xs.reverse) ne9)) dp0
        have dax := dpAll_same ((sm_put (S := S) (o := .lst xs.reverse) ne9)) dax
        have da1 := dpAll_same ((sm_put (S := S) (o := .lst xs.reverse) ne9)) da1
        have da2 := dpAll_same ((sm_put (S := S) (o := .lst xs.reverse) ne9)) da2
        have da5 := dpAll_same ((sm_put (S := S) (o := .lst xs.reverse) ne9)) da5
        have da7 := dpAll_same ((sm_put (S := S) (o := .lst xs.reverse) ne9)) da7
        generalize upd H12 e9 (.lst xs.reverse) = H13 at fe9 lv B sc fI fe3 fe8 dp0 dax da1 da2 da5 da7 ⊢
        refine ⟨_, rfl, (by show 1 ≤ sizeLine; decide), fun e10 ne10 => ?_⟩
        have fe10 := off_new (o := .lst [.int 0]) lv ne10
        have lv := lv.put (o := .lst [.int 0]) ne10
        have B := B.same (same_upd (o := .lst [.int 0]) ne10)
        have sc := sc.trans (sm_put (S := [d, c]) (o := .lst [.int 0]) ne10)
        have fI := (sm_put (S := S) (o := .lst [.int 0]) ne10) _ _ fI
        have fe3 := (sm_put (S := S) (o := .lst [.int 0]) ne10) _ _ fe3
        have fe8 := (sm_put (S := S) (o := .lst [.int 0]) ne10) _ _ fe8
        have fe9 := (sm_put (S := S) (o := .lst [.int 0]) ne10) _ _ fe9
        have dp0 := dp_same ((sm_put (S := S) (o := .lst [.int 0]) ne10)) dp0
        have dax := dpAll_same ((sm_put (S := S) (o := .lst [.int 0]) ne10)) dax
        have da1 := dpAll_same ((sm_put (S := S) (o := .lst [.int 0]) ne10)) da1
        have da2 := dpAll_same ((sm_put (S := S) (o := .lst [.int 0]) ne10)) da2
        have da5 := dpAll_same ((sm_put (S := S) (o := .lst [.int 0]) ne10)) da5
        have da7 := dpAll_same ((sm_put (S := S) (o := .lst [.int 0]) ne10)) da7
        generalize upd H13 e10 (.lst [.int 0]) = H14 at fe10 lv B sc fI fe3 fe8 fe9 dp0 dax da1 da2 da5 da7 ⊢
        refine ⟨I, e10, _, _, rfl, rfl, at_off fI, at_off fe10, (by rw [sizeLine_eq]; show _ + 1 ≤ _; omega), fun e11 ne11 => ?_⟩
        have fe11 := off_new (o := .lst (xs ++ [.int 0])) lv ne11
        have lv := lv.put (o := .lst (xs ++ [.int 0])) ne11
        have B := B.same (same_upd (o := .lst (xs ++ [.int 0])) ne11)
        have sc := sc.trans (sm_put (S := [d, c]) (o := .lst (xs ++ [.int 0])) ne11)
        have fI := (sm_put (S := S) (o := .lst (xs ++ [.int 0])) ne11) _ _ fI
        have fe3 := (sm_put (S := S) (o := .lst (xs ++ [.int 0])) ne11) _ _ fe3
        have fe8 := (sm_put (S := S) (o := .lst (xs ++ [.int 0])) ne11) _ _ fe8
        have fe9 := (sm_put (S := S) (o := .lst (xs ++ [.int 0])) ne11) _ _ fe9
        have dp0 := dp_same ((sm_put (S := S) (o := .lst (xs ++ [.int 0])) ne11)) dp0
        have dax := dpAll_same ((sm_put (S := S) (o := .lst (xs ++ [.int 0])) ne11)) dax
        have da1 := dpAll_same ((sm_put (S := S) (o := .lst (xs ++ [.int 0])) ne11)) da1
        have da2 := dpAll_same ((sm_put (S := S) (o := .lst (xs ++ [.int 0])) ne11)) da2
        have da5 := dpAll_same ((sm_put (S := S) (o := .lst (xs ++ [.int 0])) ne11)) da5
        have da7 := dpAll_same ((sm_put (S := S) (o := .lst (xs ++ [.int 0])) ne11)) da7
        generalize upd H14 e11 (.lst (xs ++ [.int 0])) = H15 at fe11 lv B sc fI fe3 fe8 fe9 dp0 dax da1 da2 da5 da7 ⊢
        refine ⟨(by show 4 ≤ sizeLine; decide), fun e12 ne12 => ?_⟩
        have fe12 := off_new (o := .lst [.ref e3, .ref e8, .ref e9, .ref e11]) lv ne12
        have lv := lv.put (o := .lst [.ref e3, .ref e8, .ref e9, .ref e11]) ne12
        have B := B.same (same_upd (o := .lst [.ref e3, .ref e8, .ref e9, .ref e11]) ne12)
        have sc := sc.trans (sm_put (S := [d, c]) (o := .lst [.ref e3, .ref e8, .ref e9, .ref e11]) ne12)
        have fI := (sm_put (S := S) (o := .lst [.ref e3, .ref e8, .ref e9, .ref e11]) ne12) _ _ fI
        have fe3 := (sm_put (S := S) (o := .lst [.ref e3, .ref e8, .ref e9, .ref e11]) ne12) _ _ fe3
        have fe8 := (sm_put (S := S) (o := .lst [.ref e3, .ref e8, .ref e9, .ref e11]) ne12) _ _ fe8
        have fe9 := (sm_put (S := S) (o := .lst [.ref e3, .ref e8, .ref e9, .ref e11]) ne12) _ _ fe9
        have fe11 := (sm_put (S := S) (o := .lst [.ref e3, .ref e8, .ref e9, .ref e11]) ne12) _ _ fe11
        have dp0 := dp_same ((sm_put (S := S) (o := .lst [.ref e3, .ref e8, .ref e9, .ref e11]) ne12)) dp0
        have dax := dpAll_same ((sm_put (S := S) (o := .lst [.ref e3, .ref e8, .ref e9, .ref e11]) ne12)) dax
        have da1 := dpAll_same ((sm_put (S := S) (o := .lst [.ref e3, .ref e8, .ref e9, .ref e11]) ne12)) da1
        have da2 := dpAll_same ((sm_put (S := S) (o := .lst [.ref e3, .ref e8, .ref e9, .ref e11]) ne12)) da2
        have da5 := dpAll_same ((sm_put (S := S) (o := .lst [.ref e3, .ref e8, .ref e9, .ref e11]) ne12)) da5
        have da7 := dpAll_same ((sm_put (S := S) (o := .lst [.ref e3, .ref e8, .ref e9, .ref e11]) ne12)) da7
        generalize upd H15 e12 (.lst [.ref e3, .ref e8, .ref e9, .ref e11]) = H16 at fe12 lv B sc fI fe3 fe8 fe9 fe11 dp0 dax da1 da2 da5 da7 ⊢
        have dH16 := dp_off dp0
        have bz : Bds (3 * n + 1) (m + 100) (C + C + C) (D - 1) W ds := bds.mono (by omega) (by omega) (by omega) (Nat.le_refl _) (Nat.le_refl _)
        refine ⟨_, rfl, _, _, rfl, rfl, _, rfl, ite2 (fun h4 => ?_) (fun h4 => ?_)⟩
        · have h4 := of_decide_eq_true h4
          obtain ⟨r, ys, es, er, fr, dar, br, lr⟩ : ∃ r ys es, atI [V.ref e3, .ref e8, .ref e9, .ref e11] way = some (.ref r) ∧ off H16 S r = some (.lst ys) ∧ DpAll K (off H16 S) ys es ∧ Bds (3 * n + 1) (m + 100) (3 * C + 10000) D (W + 1) es ∧ es.length ≤ W + 1 := by
            have h : way = 0 ∨ way = 1 ∨ way = 2 ∨ way = 3 := by omega
            have up : ∀ {C' D' : Nat} {l : List PyData}, Bds n (m + 100) C' D' W l → C' ≤ 3 * C + 10000 → D' ≤ D → Bds (3 * n + 1) (m + 100) (3 * C + 10000) D (W + 1) l := fun h a b => h.mono (by omega) (Nat.le_refl _) a b (by omega)
            have mm : ∀ {C' D' : Nat} {l : List PyData}, Bds n m C' D' W l → Bds n (m + 100) C' D' W l := fun h => h.mono (Nat.le_refl _) (by omega) (Nat.le_refl _) (Nat.le_refl _) (Nat.le_refl _)
            have lg1 : g1.length + g2.length ≤ W + 1 := by
              have e1 := congrArg List.length ey1
              have e2 := congrArg List.length ey2
              obtain ⟨aN, rfl⟩ : ∃ aN : Nat, at_ = (aN : Int) := ⟨at_.toNat, by omega⟩
              rw [cut_head, List.length_take] at e1
              rw [show ((aN : Int) + 1) = ((aN + 1 : Nat) : Int) by omega, cut_tail, List.length_drop] at e2
              omega
            have lg2 : g1.length + g5.length + g7.length ≤ W + 1 := by
              have e1 := congrArg List.length ey1
              have e7 := congrArg List.length ey7
              have e5 := congrArg List.length ey5
              obtain ⟨aN, rfl⟩ : ∃ aN : Nat, at_ = (aN : Int) := ⟨at_.toNat, by omega⟩
              rw [cut_head, List.length_take] at e1
              rw [cut_tail, List.length_drop] at e7
              have h5 : y5.length ≤ 1 := by
                rw [← ey5]
                exact cut_one _ _
              omega
            rcases h with rfl | rfl | rfl | rfl
            · exact ⟨e3, _, g1 ++ g2, rfl, fe3, dpAll_app' da1 da2, up ((mm by1).app (mm by2)) (by omega) (by omega), by rw [List.length_append]; exact lg1⟩
            · exact ⟨e8, _, g1 ++ g5 ++ g7, rfl, fe8, dpAll_app' (dpAll_app' da1 da5) da7, up (((mm by1).app (mm by5)).app (mm by7)) (by omega) (by omega), by rw [List.length_append, List.length_append]; exact lg2⟩
            · exact ⟨e9, _, ds.reverse, rfl, fe9, dpAll_rev dax, up (mm bds).rev (by omega) (by omega), by rw [List.length_reverse]; omega⟩
            · exact ⟨e11, _, ds ++ [.int 0], rfl, fe11, dpAll_app' dax (.cons (.int _) .nil), up ((mm bds).app (Bds.one ((bd_int (by show 0 ≤ _; omega)).mono (Nat.le_refl _) (Nat.le_refl _) (Nat.le_refl _) (Nat.zero_le _) (Nat.zero_le _)))) (by omega) (by omega), by rw [List.length_append]; show _ + 1 ≤ _; omega⟩
          refine ⟨_, rfl, _, .ty _, _, _, isListD _, rfl, .ty _, tyx_dp dH16, kit_list dH16, _, rfl, ?_⟩
          cases hL : isListD e0 with
          | true =>
            refine iteT ⟨_, rfl, _, rfl, e12, _, way, _, rfl, rfl, SqL.of (at_off fe12), er, ?_⟩
            exact q _ _ _ (B.mono (by omega)) sc (.lst (SqL.of fr) dar) ((br.list lr).mono (Nat.le_refl _) (Nat.le_refl _) (by omega) (by omega) (Nat.le_refl _))
          | false =>
            refine iteF ⟨_, rfl, _, rfl, e12, _, way, _, rfl, rfl, SqL.of (at_off fe12), er, r, _, rfl, .inl ⟨SqL.of (at_off fr), fun u nu => ?_⟩⟩
            have fu := off_new (o := .tup ys) lv nu
            have lv := lv.put (o := .tup ys) nu
            have B := B.same (same_upd (o := .tup ys) nu)
            have sc := sc.trans (sm_put (S := [d, c]) (o := .tup ys) nu)
            have dar := dpAll_same ((sm_put (S := S) (o := .tup ys) nu)) dar
            generalize upd H16 u (.tup ys) = H17 at fu lv B sc dar ⊢
            exact q _ _ _ (B.mono (by omega)) sc (.tup (.inl (.inl fu)) dar) ((br.tuple lr).mono (Nat.le_refl _) (Nat.le_refl _) (by omega) (by omega) (Nat.le_refl _))
        · have h4 : 4 ≤ way := by
            have : ¬ way < 4 := fun z => h4 (decide_eq_true z)
            omega
          refine ⟨_, rfl, _, .ty _, _, _, isTupD _, rfl, .ty _, tyx_dp dH16, kit_tup dH16, _, rfl, ?_⟩
          rw [b2]
          cases hL : isListD e0 with
          | true =>
            refine iteF ⟨_, rfl, I, _, rfl, .inl ⟨dI fI, fun u nu => ?_⟩⟩
            have fu := off_new (o := .tup xs) lv nu
            have lv := lv.put (o := .tup xs) nu
            have B := B.same (same_upd (o := .tup xs) nu)
            have sc := sc.trans (sm_put (S := [d, c]) (o := .tup xs) nu)
            have fI := (sm_put (S := S) (o := .tup xs) nu) _ _ fI
            have dp0 := dp_same ((sm_put (S := S) (o := .tup xs) nu)) dp0
            have dax := dpAll_same ((sm_put (S := S) (o := .tup xs) nu)) dax
            generalize upd H16 u (.tup xs) = H17 at fu lv B sc fI dp0 dax ⊢
            have du : Dp K (off H17 S) (.ref u) (.tuple ds) := .tup (.inl (.inl fu)) dax
            have bu : Bd n m (C + 3) D W (.tuple ds) := (bds.tuple lW).mono (Nat.le_refl _) (Nat.le_refl _) (Nat.le_refl _) (by omega) (Nat.le_refl _)
            refine ⟨_, rfl, (by show 1 ≤ sizeLine; decide), fun v1 nv1 => ?_⟩
            have fv1 := off_new (o := .lst [.ref I]) lv nv1
            have lv := lv.put (o := .lst [.ref I]) nv1
            have B := B.same (same_upd (o := .lst [.ref I]) nv1)
            have sc := sc.trans (sm_put (S := [d, c]) (o := .lst [.ref I]) nv1)
            have fI := (sm_put (S := S) (o := .lst [.ref I]) nv1) _ _ fI
            have dp0 := dp_same ((sm_put (S := S) (o := .lst [.ref I]) nv1)) dp0
            have dax := dpAll_same ((sm_put (S := S) (o := .lst [.ref I]) nv1)) dax
            have du := dp_same ((sm_put (S := S) (o := .lst [.ref I]) nv1)) du
            generalize upd H17 v1 (.lst [.ref I]) = H18 at fv1 lv B sc fI dp0 dax du ⊢
            refine ⟨_, rfl, (by show 1 ≤ sizeLine; decide), fun v2 nv2 => ?_⟩
            have fv2 := off_new (o := .tup [.ref a]) lv nv2
            have lv := lv.put (o := .tup [.ref a]) nv2
            have B := B.same (same_upd (o := .tup [.ref a]) nv2)
            have sc := sc.trans (sm_put (S := [d, c]) (o := .tup [.ref a]) nv2)
            have fI := (sm_put (S := S) (o := .tup [.ref a]) nv2) _ _ fI
            have fv1 := (sm_put (S := S) (o := .tup [.ref a]) nv2) _ _ fv1
            have dp0 := dp_same ((sm_put (S := S) (o := .tup [.ref a]) nv2)) dp0
            have dax := dpAll_same ((sm_put (S := S) (o := .tup [.ref a]) nv2)) dax
            have du := dp_same ((sm_put (S := S) (o := .tup [.ref a]) nv2)) du
            generalize upd H18 v2 (.tup [.ref a]) = H19 at fv2 lv B sc fI fv1 dp0 dax du ⊢
            refine ⟨(by show 3 ≤ sizeLine; decide), fun v3 nv3 => ?_⟩
            have fv3 := off_new (o := .lst [.ref u, .ref v1, .ref v2]) lv nv3
            have lv := lv.put (o := .lst [.ref u, .ref v1, .ref v2]) nv3
            have B := B.same (same_upd (o := .lst [.ref u, .ref v1, .ref v2]) nv3)
            have sc := sc.trans (sm_put (S := [d, c]) (o := .lst [.ref u, .ref v1, .ref v2]) nv3)
            have fI := (sm_put (S := S) (o := .lst [.ref u, .ref v1, .ref v2]) nv3) _ _ fI
            have fv1 := (sm_put (S := S) (o := .lst [.ref u, .ref v1, .ref v2]) nv3) _ _ fv1
            have fv2 := (sm_put (S := S) (o := .lst [.ref u, .ref v1, .ref v2]) nv3) _ _ fv2
            have dp0 := dp_same ((sm_put (S := S) (o := .lst [.ref u, .ref v1, .ref v2]) nv3)) dp0
            have dax := dpAll_same ((sm_put (S := S) (o := .lst [.ref u, .ref v1, .ref v2]) nv3)) dax
            have du := dp_same ((sm_put (S := S) (o := .lst [.ref u, .ref v1, .ref v2]) nv3)) du
            generalize upd H19 v3 (.lst [.ref u, .ref v1, .ref v2]) = H20 at fv3 lv B sc fI fv1 fv2 dp0 dax du ⊢
            obtain ⟨v, ed, ev, dv, tv⟩ : ∃ v ed, atI [V.ref u, .ref v1, .ref v2] (way - 4) = some v ∧ Dp K (off H20 S) v ed ∧ Bd (3 * n + 1) (m + 100) (3 * C + 20000) (D + 2) (W + 1) ed := by
              have h : way - 4 = 0 ∨ way - 4 = 1 ∨ way - 4 = 2 := by omega
              have bl : Bd n m (C + 3) D W (.list ds) := (bds.list lW).mono (Nat.le_refl _) (Nat.le_refl _) (Nat.le_refl _) (by omega) (Nat.le_refl _)
              have up : ∀ {C' D' W' : Nat} {dd : PyData}, Bd n m C' D' W' dd → C' ≤ 3 * C + 20000 → D' ≤ D + 2 → W' ≤ W + 1 → Bd (3 * n + 1) (m + 100) (3 * C + 20000) (D + 2) (W + 1) dd := fun h a b c => h.mono (by omega) (by omega) a b c
              rcases h with h | h | h
              · rw [h]
                exact ⟨_, _, rfl, du, up bu (by omega) (by omega) (by omega)⟩
              · rw [h]
                exact ⟨_, _, rfl, .lst (SqL.of fv1) (.cons (.lst (SqL.of fI) dax) .nil), up ((Bds.one bl).list (by show 1 ≤ W; omega)) (by omega) (by omega) (by omega)⟩
              · rw [h]
                exact ⟨_, _, rfl, .tup (.inl (.inl fv2)) (.cons dp0 .nil), up ((Bds.one bd).tuple (by show 1 ≤ W; omega)) (by omega) (by omega) (by omega)⟩
            refine ⟨_, rfl, _, _, rfl, rfl, v3, _, _, v, rfl, rfl, SqL.of (at_off fv3), ev, ?_⟩
            exact q _ _ _ (B.mono (by omega)) sc dv tv
          | false =>
            refine iteT ⟨_, rfl, ?_⟩
            have du : Dp K (off H16 S) (.ref I) (.list ds) := .lst (SqL.of fI) dax
            have bu : Bd n m (C + 3) D W (.list ds) := (bds.list lW).mono (Nat.le_refl _) (Nat.le_refl _) (Nat.le_refl _) (by omega) (Nat.le_refl _)
            refine ⟨_, rfl, (by show 1 ≤ sizeLine; decide), fun v1 nv1 => ?_⟩
            have fv1 := off_new (o := .lst [.ref I]) lv nv1
            have lv := lv.put (o := .lst [.ref I]) nv1
            have B := B.same (same_upd (o := .lst [.ref I]) nv1)
            have sc := sc.trans (sm_put (S := [d, c]) (o := .lst [.ref I]) nv1)
            have fI := (sm_put (S := S) (o := .lst [.ref I]) nv1) _ _ fI
            have dp0 := dp_same ((sm_put (S := S) (o := .lst [.ref I]) nv1)) dp0
            have dax := dpAll_same ((sm_put (S := S) (o := .lst [.ref I]) nv1)) dax
            have du := dp_same ((sm_put (S := S) (o := .lst [.ref I]) nv1)) du
            generalize upd H16 v1 (.lst [.ref I]) = H18 at fv1 lv B sc fI dp0 dax du ⊢
            refine ⟨_, rfl, (by show 1 ≤ sizeLine; decide), fun v2 nv2 => ?_⟩
            have fv2 := off_new (o := .tup [.ref a]) lv nv2
            have lv := lv.put (o := .tup [.ref a]) nv2
            have B := B.same (same_upd (o := .tup [.ref a]) nv2)
            have sc := sc.trans (sm_put (S := [d, c]) (o := .tup [.ref a]) nv2)
            have fI := (sm_put (S := S) (o := .tup [.ref a]) nv2) _ _ fI
            have fv1 := (sm_put (S := S) (o := .tup [.ref a]) nv2) _ _ fv1
            have dp0 := dp_same ((sm_put (S := S) (o := .tup [.ref a]) nv2)) dp0
            have dax := dpAll_same ((sm_put (S := S) (o := .tup [.ref a]) nv2)) dax
            have du := dp_same ((sm_put (S := S) (o := .tup [.ref a]) nv2)) du
            generalize upd H18 v2 (.tup [.ref a]) = H19 at fv2 lv B sc fI fv1 dp0 dax du ⊢
            refine ⟨(by show 3 ≤ sizeLine; decide), fun v3 nv3 => ?_⟩
            have fv3 := off_new (o := .lst [.ref I, .ref v1, .ref v2]) lv nv3
            have lv := lv.put (o := .lst [.ref I, .ref v1, .ref v2]) nv3
            have B := B.same (same_upd (o := .lst [.ref I, .ref v1, .ref v2]) nv3)
            have sc := sc.trans (sm_put (S := [d, c]) (o := .lst [.ref I, .ref v1, .ref v2]) nv3)
            have fI := (sm_put (S := S) (o := .lst [.ref I, .ref v1, .ref v2]) nv3) _ _ fI
            have fv1 := (sm_put (S := S) (o := .lst [.ref I, .ref v1, .ref v2]) nv3) _ _ fv1
            have fv2 := (sm_put (S := S) (o := .lst [.ref I, .ref v1, .ref v2]) nv3) _ _ fv2
            have dp0 := dp_same ((sm_put (S := S) (o := .lst [.ref I, .ref v1, .ref v2]) nv3)) dp0
            have dax := dpAll_same ((sm_put (S := S) (o := .lst [.ref I, .ref v1, .ref v2]) nv3)) dax
            have du := dp_same ((sm_put (S := S) (o := .lst [.ref I, .ref v1, .ref v2]) nv3)) du
            generalize upd H19 v3 (.lst [.ref I, .ref v1, .ref v2]) = H20 at fv3 lv B sc fI fv1 fv2 dp0 dax du ⊢
            obtain ⟨v, ed, ev, dv, tv⟩ : ∃ v ed, atI [V.ref I, .ref v1, .ref v2] (way - 4) = some v ∧ Dp K (off H20 S) v ed ∧ Bd (3 * n + 1) (m + 100) (3 * C + 20000) (D + 2) (W + 1) ed := by
              have h : way - 4 = 0 ∨ way - 4 = 1 ∨ way - 4 = 2 := by omega
              have bl : Bd n m (C + 3) D W (.list ds) := (bds.list lW).mono (Nat.le_refl _) (Nat.le_refl _) (Nat.le_refl _) (by omega) (Nat.le_refl _)
              have up : ∀ {C' D' W' : Nat} {dd : PyData}, Bd n m C' D' W' dd → C' ≤ 3 * C + 20000 → D' ≤ D + 2 → W' ≤ W + 1 → Bd (3 * n + 1) (m + 100) (3 * C + 20000) (D + 2) (W + 1) dd := fun h a b c => h.mono (by omega) (by omega) a b c
              rcases h with h | h | h
              · rw [h]
                exact ⟨_, _, rfl, du, up bu (by omega) (by omega) (by omega)⟩
              · rw [h]
                exact ⟨_, _, rfl, .lst (SqL.of fv1) (.cons (.lst (SqL.of fI) dax) .nil), up ((Bds.one bl).list (by show 1 ≤ W; omega)) (by omega) (by omega) (by omega)⟩
              · rw [h]
                exact ⟨_, _, rfl, .tup (.inl (.inl fv2)) (.cons dp0 .nil), up ((Bds.one bd).tuple (by show 1 ≤ W; omega)) (by omega) (by omega) (by omega)⟩
            refine ⟨_, rfl, _, _, rfl, rfl, v3, _, _, v, rfl, rfl, SqL.of (at_off fv3), ev, ?_⟩
            exact q _ _ _ (B.mono (by omega)) sc dv tv
      · skip
        refine ⟨Nat.zero_le _, fun p1 np1 => ?_⟩
        have fp1 := off_new (o := .tup []) lv np1
        have lv := lv.put (o := .tup []) np1
        have B := B.same (same_upd (o := .tup []) np1)
        have sc := sc.trans (sm_put (S := [d, c]) (o := .tup []) np1)
        generalize upd H2 p1 (.tup []) = T1 at fp1 lv B sc  ⊢
        refine ⟨Nat.zero_le _, fun p2 np2 => ?_⟩
        have fp2 := off_new (o := .lst []) lv np2
        have lv := lv.put (o := .lst []) np2
        have B := B.same (same_upd (o := .lst []) np2)
        have sc := sc.trans (sm_put (S := [d, c]) (o := .lst []) np2)
        have fp1 := (sm_put (S := S) (o := .lst []) np2) _ _ fp1
        generalize upd T1 p2 (.lst []) = T2 at fp2 lv B sc fp1 ⊢
        refine ⟨1, rfl, Nat.zero_le _, fun p3 np3 => ?_⟩
        have fp3 := off_new (o := .tup []) lv np3
        have lv := lv.put (o := .tup []) np3
        have B := B.same (same_upd (o := .tup []) np3)
        have sc := sc.trans (sm_put (S := [d, c]) (o := .tup []) np3)
        have fp1 := (sm_put (S := S) (o := .tup []) np3) _ _ fp1
        have fp2 := (sm_put (S := S) (o := .tup []) np3) _ _ fp2
        generalize upd T2 p3 (.tup []) = T3 at fp3 lv B sc fp1 fp2 ⊢
        refine ⟨(by show 1 ≤ sizeLine; decide), fun p4 np4 => ?_⟩
        have fp4 := off_new (o := .lst [.ref p3]) lv np4
        have lv := lv.put (o := .lst [.ref p3]) np4
        have B := B.same (same_upd (o := .lst [.ref p3]) np4)
        have sc := sc.trans (sm_put (S := [d, c]) (o := .lst [.ref p3]) np4)
        have fp1 := (sm_put (S := S) (o := .lst [.ref p3]) np4) _ _ fp1
        have fp2 := (sm_put (S := S) (o := .lst [.ref p3]) np4) _ _ fp2
        have fp3 := (sm_put (S := S) (o := .lst [.ref p3]) np4) _ _ fp3
        generalize upd T3 p4 (.lst [.ref p3]) = T4 at fp4 lv B sc fp1 fp2 fp3 ⊢
        refine ⟨Nat.zero_le _, fun p5 np5 => ?_⟩
        have fp5 := off_new (o := .tup []) lv np5
        have lv := lv.put (o := .tup []) np5
        have B := B.same (same_upd (o := .tup []) np5)
        have sc := sc.trans (sm_put (S := [d, c]) (o := .tup []) np5)
        have fp1 := (sm_put (S := S) (o := .tup []) np5) _ _ fp1
        have fp2 := (sm_put (S := S) (o := .tup []) np5) _ _ fp2
        have fp3 := (sm_put (S := S) (o := .tup []) np5) _ _ fp3
        have fp4 := (sm_put (S := S) (o := .tup []) np5) _ _ fp4
        generalize upd T4 p5 (.tup []) = T5 at fp5 lv B sc fp1 fp2 fp3 fp4 ⊢
        refine ⟨(by show 1 ≤ sizeLine; decide), fun p6 np6 => ?_⟩
        have fp6 := off_new (o := .tup [.ref p5]) lv np6
        have lv := lv.put (o := .tup [.ref p5]) np6
        have B := B.same (same_upd (o := .tup [.ref p5]) np6)
        have sc := sc.trans (sm_put (S := [d, c]) (o := .tup [.ref p5]) np6)
        have fp1 := (sm_put (S := S) (o := .tup [.ref p5]) np6) _ _ fp1
        have fp2 := (sm_put (S := S) (o := .tup [.ref p5]) np6) _ _ fp2
        have fp3 := (sm_put (S := S) (o := .tup [.ref p5]) np6) _ _ fp3
        have fp4 := (sm_put (S := S) (o := .tup [.ref p5]) np6) _ _ fp4
        have fp5 := (sm_put (S := S) (o := .tup [.ref p5]) np6) _ _ fp5
        generalize upd T5 p6 (.tup [.ref p5]) = T6 at fp6 lv B sc fp1 fp2 fp3 fp4 fp5 ⊢
        refine ⟨(by show 12 ≤ sizeLine; decide), fun p7 np7 => ?_⟩
        have fp7 := off_new (o := .lst [.non, .bl true, .int 0, .str "", .ref p1, .ref p2, .str "a", .int (-1), .ref p4, .ref p6, .int 1, .bl false]) lv np7
        have lv := lv.put (o := .lst [.non, .bl true, .int 0, .str "", .ref p1, .ref p2, .str "a", .int (-1), .ref p4, .ref p6, .int 1, .bl false]) np7
        have B := B.same (same_upd (o := .lst [.non, .bl true, .int 0, .str "", .ref p1, .ref p2, .str "a", .int (-1), .ref p4, .ref p6, .int 1, .bl false]) np7)
        have sc := sc.trans (sm_put (S := [d, c]) (o := .lst [.non, .bl true, .int 0, .str "", .ref p1, .ref p2, .str "a", .int (-1), .ref p4, .ref p6, .int 1, .bl false]) np7)
        have fp1 := (sm_put (S := S) (o := .lst [.non, .bl true, .int 0, .str "", .ref p1, .ref p2, .str "a", .int (-1), .ref p4, .ref p6, .int 1, .bl false]) np7) _ _ fp1
        have fp2 := (sm_put (S := S) (o := .lst [.non, .bl true, .int 0, .str "", .ref p1, .ref p2, .str "a", .int (-1), .ref p4, .ref p6, .int 1, .bl false]) np7) _ _ fp2
        have fp3 := (sm_put (S := S) (o := .lst [.non, .bl true, .int 0, .str "", .ref p1, .ref p2, .str "a", .int (-1), .ref p4, .ref p6, .int 1, .bl false]) np7) _ _ fp3
        have fp4 := (sm_put (S := S) (o := .lst [.non, .bl true, .int 0, .str "", .ref p1, .ref p2, .str "a", .int (-1), .ref p4, .ref p6, .int 1, .bl false]) np7) _ _ fp4
        have fp5 := (sm_put (S := S) (o := .lst [.non, .bl true, .int 0, .str "", .ref p1, .ref p2, .str "a", .int (-1), .ref p4, .ref p6, .int 1, .bl false]) np7) _ _ fp5
        have fp6 := (sm_put (S := S) (o := .lst [.non, .bl true, .int 0, .str "", .ref p1, .ref p2, .str "a", .int (-1), .ref p4, .ref p6, .int 1, .bl false]) np7) _ _ fp6
        generalize upd T6 p7 (.lst [.non, .bl true, .int 0, .str "", .ref p1, .ref p2, .str "a", .int (-1), .ref p4, .ref p6, .int 1, .bl false]) = T7 at fp7 lv B sc fp1 fp2 fp3 fp4 fp5 fp6 ⊢
        obtain ⟨lv_, ld_, lev, ldv, lbd⟩ : ∃ v ed, atI [V.non, .bl true, .int 0, .str "", .ref p1, .ref p2, .str "a", .int (-1), .ref p4, .ref p6, .int 1, .bl false] way = some v ∧ Dp K (off T7 S) v ed ∧ Bd (3 * n + 1) (m + 100) (3 * C + 20000) (D + 2) (W + 1) ed := by
          have h : way = 0 ∨ way = 1 ∨ way = 2 ∨ way = 3 ∨ way = 4 ∨ way = 5 ∨ way = 6 ∨ way = 7 ∨ way = 8 ∨ way = 9 ∨ way = 10 ∨ way = 11 := by omega
          have up : ∀ {C' D' W' : Nat} {dd : PyData}, Bd 1 100 C' D' W' dd → C' ≤ 20000 → D' ≤ 2 → W' ≤ 1 → Bd (3 * n + 1) (m + 100) (3 * C + 20000) (D + 2) (W + 1) dd := fun h a b c => h.mono (by omega) (by omega) (by omega) (by omega) (by omega)
          have b0 : Bd 1 100 3 1 1 (.tuple []) := (Bds.nil (D := 0)).tuple (Nat.zero_le 1)
          rcases h with rfl | rfl | rfl | rfl | rfl | rfl | rfl | rfl | rfl | rfl | rfl | rfl
          · exact ⟨_, .none, rfl, .non, up bd_none (by decide) (by decide) (by decide)⟩
          · exact ⟨_, .bool true, rfl, .bl _, up (bd_bool _) (by decide) (by decide) (by decide)⟩
          · exact ⟨_, .int 0, rfl, .int _, up (bd_int (by decide)) (by decide) (by decide) (by decide)⟩
          · exact ⟨_, .str "", rfl, .str _, up (bd_str (by decide +kernel) (by decide) (by decide +kernel)) (by decide) (by decide) (by decide)⟩
          · exact ⟨_, .tuple [], rfl, .tup (.inl (.inl fp1)) .nil, up b0 (by decide) (by decide) (by decide)⟩
          · exact ⟨_, .list [], rfl, .lst (SqL.of fp2) .nil, up ((Bds.nil (D := 0) (W := 1)).list (Nat.zero_le 1)) (by decide) (by decide) (by decide)⟩
          · exact ⟨_, .str "a", rfl, .str _, up (bd_str (by decide +kernel) (by decide) (by decide +kernel)) (by decide) (by decide) (by decide)⟩
          · exact ⟨_, .int (-1), rfl, .int _, up (bd_int (by decide)) (by decide) (by decide) (by decide)⟩
          · exact ⟨_, .list [.tuple []], rfl, .lst (SqL.of fp4) (.cons (.tup (.inl (.inl fp3)) .nil) .nil), up ((Bds.one b0).list (by decide)) (by decide) (by decide) (by decide)⟩
          · exact ⟨_, .tuple [.tuple []], rfl, .tup (.inl (.inl fp6)) (.cons (.tup (.inl (.inl fp5)) .nil) .nil), up ((Bds.one b0).tuple (by decide)) (by decide) (by decide) (by decide)⟩
          · exact ⟨_, .int 1, rfl, .int _, up (bd_int (by decide)) (by decide) (by decide) (by decide)⟩
          · exact ⟨_, .bool false, rfl, .bl _, up (bd_bool _) (by decide) (by decide) (by decide)⟩
        refine ⟨_, rfl, p7, _, way, lv_, rfl, rfl, SqL.of (at_off fp7), lev, ?_⟩
        exact q _ _ _ (B.mono (by omega)) sc ldv lbd

end
end Pot

namespace Pot
open PySem PySem.Spec PyProof.Rows L2
section
variable {P : Program} {w : World} {K : PySem.W.Frag} {mg : Str → Option Value} {base : Heap}
def natV (k : Nat) : V := .int ((k : Nat) : Int)
/-! ### _law_spots: the paths into a thing -/
mutual
def spotsF : PyData → List (List Nat)
  | .list ds => [] :: spotsAll 0 ds
  | .tuple ds => [] :: spotsAll 0 ds
  | .none => [[]]
  | .bool _ => [[]]
  | .int _ => [[]]
  | .str _ => [[]]
  | .dict _ => [[]]
def spotsAll (i : Nat) : List PyData → List (List Nat)
  | [] => []
  | d :: ds => (spotsF d).map (i :: ·) ++ spotsAll (i + 1) ds
end
theorem spotsAll_app (i : Nat) : ∀ (xs ys : List PyData), spotsAll i (xs ++ ys) = spotsAll i xs ++ spotsAll (i + xs.length) ys := by
  intro xs
  induction xs generalizing i with
  | nil => intro ys; rfl
  | cons x xs ih =>
    intro ys
    show spotsAll i (x :: (xs ++ ys)) = spotsAll i (x :: xs) ++ _
    rw [spotsAll, spotsAll, ih (i + 1) ys, List.append_assoc]
    congr 2
    rw [List.length_cons]; congr 1; omega
mutual
theorem spots_len : ∀ d : PyData, (spotsF d).length ≤ costAll.cost d + 1
  | .list ds => by
    rw [spotsF, List.length_cons]
    have := spotsAll_len 0 ds
    show _ + 1 ≤ costAll ds + 3 + 1
    omega
  | .tuple ds => by
    rw [spotsF, List.length_cons]
    have := spotsAll_len 0 ds
    show _ + 1 ≤ costAll ds + 3 + 1
    omega
  | .none => by rw [spotsF]; show 1 ≤ _; omega
  | .bool _ => by rw [spotsF]; show 1 ≤ _; omega
  | .int _ => by rw [spotsF]; show 1 ≤ _; omega
  | .str _ => by rw [spotsF]; show 1 ≤ _; omega
  | .dict _ => by rw [spotsF]; show 1 ≤ _; omega
theorem spotsAll_len (i : Nat) : ∀ ds : List PyData, (spotsAll i ds).length ≤ costAll ds
  | [] => by rw [spotsAll]; exact Nat.le_refl _
  | d :: ds => by
    rw [spotsAll, List.length_append, List.length_map]
    have h1 := spots_len d
    have h2 := spotsAll_len (i + 1) ds
    show _ ≤ costAll.cost d + 2 + costAll ds
    omega
end
/-- a path that leads to a part -/
def leads : List Nat → PyData → Prop
  | [], _ => True
  | i :: p, d => ∃ ds x, (d = .list ds ∨ d = .tuple ds) ∧ ds[i]? = some x ∧ leads p x
mutual
theorem spots_lead : ∀ (d : PyData) (p : List Nat), p ∈ spotsF d → leads p d
  | .list ds, p, h => by
    rw [spotsF] at h
    rcases List.mem_cons.mp h with rfl | h
    · exact trivial
    · obtain ⟨i, q, x, e, g, l, _⟩ := spotsAll_lead 0 ds p h
      rw [e]; exact ⟨ds, x, .inl rfl, by simpa using g, l⟩
  | .tuple ds, p, h => by
    rw [spotsF] at h
    rcases List.mem_cons.mp h with rfl | h
    · exact trivial
    · obtain ⟨i, q, x, e, g, l, _⟩ := spotsAll_lead 0 ds p h
      rw [e]; exact ⟨ds, x, .inr rfl, by simpa using g, l⟩
  | .none, p, h => by rw [spotsF] at h; rw [List.mem_singleton.mp h]; exact trivial
  | .bool _, p, h => by rw [spotsF] at h; rw [List.mem_singleton.mp h]; exact trivial
  | .int _, p, h => by rw [spotsF] at h; rw [List.mem_singleton.mp h]; exact trivial
  | .str _, p, h => by rw [spotsF] at h; rw [List.mem_singleton.mp h]; exact trivial
  | .dict _, p, h => by rw [spotsF] at h; rw [List.mem_singleton.mp h]; exact trivial
theorem spotsAll_lead (k : Nat) : ∀ (ds : List PyData) (p : List Nat), p ∈ spotsAll k ds → ∃ (i : Nat) (q : List Nat) (x : PyData), p = (i) :: q ∧ ds[i - k]? = some x ∧ leads q x ∧ k ≤ i
  | [], p, h => by rw [spotsAll] at h; exact (List.not_mem_nil h).elim
  | d :: ds, p, h => by
    rw [spotsAll] at h
    rcases List.mem_append.mp h with h | h
    · obtain ⟨q, hq, rfl⟩ := List.mem_map.mp h
      exact ⟨k, q, d, rfl, by simp, spots_lead d q hq, Nat.le_refl _⟩
    · obtain ⟨i, q, x, e, g, l, hk⟩ := spotsAll_lead (k + 1) ds p h
      refine ⟨i, q, x, e, ?_, l, by omega⟩
      have : i - k = (i - (k + 1)) + 1 := by omega
      rw [this, List.getElem?_cons_succ]; exact g
end
theorem lead_depth : ∀ (p : List Nat) (d : PyData), leads p d → p.length ≤ d.depth
  | [], _, _ => Nat.zero_le _
  | i :: p, d, ⟨ds, x, e, g, l⟩ => by
    have h1 := lead_depth p x l
    have h2 := depth_at g
    rcases e with rfl | rfl
    · show p.length + 1 ≤ PyData.depthAll ds + 1; omega
    · show p.length + 1 ≤ PyData.depthAll ds + 1; omega
def pathD (p : List Nat) : PyData := .tuple (p.map fun i => PyData.int ((i : Nat) : Int))
theorem paths_dp {H : Hp} {xs : List V} {ps : List (List Nat)} (h : DpAll K H xs (ps.map pathD)) {i : Nat} {v : V} (g : xs[i]? = some v) : ∃ a p, v = .ref a ∧ ps[i]? = some p ∧ SqT K H a (p.map natV) := by
  obtain ⟨d, gd, dp⟩ := dpAll_at h g
  rw [List.getElem?_map] at gd
  obtain ⟨p, gp, rfl⟩ := Option.map_eq_some_iff.mp gd
  obtain ⟨a, us, rfl, hs, ha⟩ := dp_tup dp
  have e : us = p.map natV := by
    have : p.map (fun i => PyData.int ((i : Nat) : Int)) = (p.map fun i => ((i : Nat) : Int)).map PyData.int := by rw [List.map_map]; rfl
    rw [this] at ha
    rw [dp_intsV ha, List.map_map]; rfl
  rw [e] at hs
  exact ⟨a, p, rfl, gp, hs⟩
theorem noL_ints : ∀ l : List Int, noLAll (l.map PyData.int)
  | [] => trivial
  | _ :: r => ⟨trivial, noL_ints r⟩
theorem noL_path (p : List Nat) : noLAll.noL (pathD p) := by
  have e1 : p.map (fun i => PyData.int ((i : Nat) : Int)) = (p.map fun i => ((i : Nat) : Int)).map PyData.int := by rw [List.map_map]; rfl
  show noLAll (p.map fun i => PyData.int ((i : Nat) : Int))
  rw [e1]; exact noL_ints _
theorem noL_app : ∀ {xs ys : List PyData}, noLAll xs → noLAll ys → noLAll (xs ++ ys)
  | [], _, _, h => h
  | _ :: _, _, g, h => ⟨g.1, noL_app g.2 h⟩
def spSpots (K : PySem.W.Frag) (k : Nat) : Sp := fun vs H Q _ => ∃ (x : V) (d : PyData), vs = [x] ∧ Dp K H x d ∧ d.depth < k ∧ d.depth ≤ 60 ∧ costAll.cost d ≤ 4000000 ∧ ∀ H' L zs, Same H H' → H L = none → H' L = some (.lst zs) → DpAll K H' zs ((spotsF d).map pathD) → Q (.ref L) H'
abbrev s__law_spots : Stmt := topS 19
def n__law_spots : List Str := ["_law_thing", "_law_found", "_law_at", "_law_one", "_law_spot"]
theorem sc__law_spots : FnScope n__law_spots ["_law_thing"] (defScope s__law_spots) := ⟨rfl, rfl, rfl, by decide +kernel, rfl, by decide +kernel, by decide +kernel⟩
theorem ok_spots {f : Addr} {fd : FuncData} (F : Fun K "_law_spots" "_law_spots" s__law_spots f fd) (T : Txt mg) (bF : Binds K fd ["_law_thing"] []) (gF : mg "_law_spots" = some (.ref f)) :
    ∀ k : Nat, FnOk P w K mg base CX0 (k + 1) f fd ["_law_thing"] (spSpots K k) := by
  intro k
  induction k with
  | zero =>
    refine F.ok sc__law_spots (fun vs H Q E h => ?_) (fun cdv A outer s H vs Q E hr h => ?_)
    · obtain ⟨x, d, rfl, _⟩ := h
      rfl
    · obtain ⟨x, d, rfl, dp, hd, _⟩ := h
      exact absurd hd (Nat.not_lt_zero _)
  | succ k G =>
    refine F.ok sc__law_spots (fun vs H Q E h => ?_) (fun cdv A outer s H vs Q E hr h => ?_)
    · obtain ⟨x, d, rfl, _⟩ := h
      rfl
    · obtain ⟨x, d, rfl, dp, hd, h60, hC, q⟩ := h
      have nd := sc__law_spots.nd
      refine ⟨_, (pss_cons (ps_set (i := 1) nd rfl (.inl rfl) (pe_lst (pa_cons (pe_tup pa_nil) pa_nil)))
      (pss_cons (ps_if (pt_val (pe_callB (kc_isiT (K := K)) (by rfl) T.isinstance (by decide +kernel) (pa_cons (pv 0) (pa_cons (pe_tup (pa_cons (pe_bltn (v := .ty "list") (by rfl) T.list (by decide +kernel) rfl) (pa_cons (pe_bltn (v := .ty "tuple") (by rfl) T.tuple (by decide +kernel) rfl) pa_nil))) pa_nil))))
          (pss_one (ps_for PassesOwn.never rfl (ki_enA (K := K) (by rfl) T.enumerate (pa_cons (pv 0) pa_nil)) (kg_tup (K := K) (n := 2) (pgs_cons (pg_name (i := 2) nd rfl (.inr rfl)) (pgs_cons (pg_name (i := 3) nd rfl (.inl rfl)) pgs_nil)))
              (pss_one (ps_expr (pe_bm PySem.F.plainAttrs_list PySem.F.slot_list_extend PySem.F.type_list_extend mt_extend (pv 1) (pa_cons (pe_lc (own := [("_law_spot", 4)]) rfl nd (ki_list (K := K) (pe_call G hr (by rfl) gF F.kp bF .nil pass0 (pa_cons (pv 3) pa_nil))) (blkOk_by (N := n__law_spots) (sc := defScope s__law_spots) (by decide +kernel)) (fun _ _ _ _ _ => (pg_name (i := 4) nd rfl (.inl rfl))) (fun _ _ _ _ _ => pts_nil) (fun _ _ _ _ _ => (pe_op (ko_catA (K := K)) (pe_tup (pa_cons (pv 2) pa_nil)) (pv 4)))) pa_nil))))))
          pss_nil)
      (pss_one (ps_ret (pv 1))))), ?_⟩
      refine ⟨Nat.zero_le _, fun t0 n0 => ?_⟩
      have s0 := same_upd (o := .tup []) n0
      have h0 : upd H t0 (.tup []) t0 = some (.tup []) := upd_same
      generalize upd H t0 (.tup []) = H0 at s0 h0 ⊢
      refine ⟨(by show 1 ≤ sizeLine; decide), fun L nL => ?_⟩
      have nL0 := s0.free nL
      have s1 := s0.trans (same_upd (o := .lst [.ref t0]) nL)
      have h0 := same_upd (o := .lst [.ref t0]) nL _ _ h0
      have hL : upd H0 L (.lst [.ref t0]) L = some (.lst [.ref t0]) := upd_same
      generalize upd H0 L (.lst [.ref t0]) = H1 at s1 h0 hL ⊢
      refine ⟨_, rfl, (by show 2 ≤ sizeLine; decide), fun t nt => ?_⟩
      have s2 := s1.trans (same_upd (o := .tup [.ty "list", .ty "tuple"]) nt)
      have h0 := same_upd (o := .tup [.ty "list", .ty "tuple"]) nt _ _ h0
      have hL := same_upd (o := .tup [.ty "list", .ty "tuple"]) nt _ _ hL
      have ht : upd H1 t (.tup [.ty "list", .ty "tuple"]) t = _ := upd_same
      generalize upd H1 t (.tup [.ty "list", .ty "tuple"]) = H2 at s2 h0 hL ht ⊢
      have d0 : Dp K H2 (.ref t0) (pathD []) := .tup (.inl (.inl h0)) .nil
      have dp2 := dp_same s2 dp
      refine ⟨_, t, _, _, _, _, rfl, ht, .cons (.ty _) (.cons (.ty _) .nil), tyx_dp dp2, kit_lt dp2, _, rfl, ?_⟩
      cases dp with
      | non => exact iteF ⟨_, rfl, q _ L _ s2 nL0 hL (.cons d0 .nil)⟩
      | bl _ => exact iteF ⟨_, rfl, q _ L _ s2 nL0 hL (.cons d0 .nil)⟩
      | int _ => exact iteF ⟨_, rfl, q _ L _ s2 nL0 hL (.cons d0 .nil)⟩
      | str _ => exact iteF ⟨_, rfl, q _ L _ s2 nL0 hL (.cons d0 .nil)⟩
      | @lst a xs ds hl ha =>
        refine iteT ⟨_, rfl, a, xs, rfl, .inl ⟨s2.seq hl, ?_⟩⟩
        refine for_it (walk_enum (xs := xs)) (fun i σ H3 => ∃ v2 v3 zs, σ = [some (.ref a), some (.ref L), v2, v3, none] ∧ Same H H3 ∧ H3 L = some (.lst zs) ∧ DpAll K H3 zs (([] :: spotsAll 0 (ds.take i)).map pathD)) ⟨_, _, _, rfl, s2, hL, .cons d0 .nil⟩ (fun i σ H3 _ h => by obtain ⟨_, _, _, _, h, _⟩ := h; exact h.seq hl) ?_ ?_
        · skip
          rintro i y σ H3 H4 hi ⟨v2, v3, zs, rfl, s3, hL3, dz⟩ ⟨u, x1, x2, rfl, nu, rfl, g1, g2⟩
          cases g1
          replace g2 : xs[i]? = some x2 := g2
          obtain ⟨e, ge, pe⟩ := dpAll_at ha g2
          have su := same_upd (o := .tup [.int (i : Nat), x2]) nu
          have Lu : L ≠ u := ne_of_none hL3 nu
          refine ⟨u, _, rfl, .inl (.inl upd_same), rfl, _, _, rfl, _, _, rfl, rfl, ?_⟩
          have s4 := s3.trans su
          have hL4 := su _ _ hL3
          have dz4 := dpAll_same su dz
          generalize upd H3 u (.tup [.int (i : Nat), x2]) = H5 at s4 hL4 dz4 ⊢
          have hde : e.depth < k := by
            have h1 := depth_at ge
            have h2 : PyData.depthAll ds + 1 < k + 1 := hd
            omega
          have he6 : e.depth ≤ 60 := by
            have h1 := depth_at ge
            have h2 : PyData.depthAll ds + 1 ≤ 60 := h60
            omega
          have hce : costAll.cost e + 2 ≤ costAll ds := cost_mem (List.mem_of_getElem? ge)
          have hcd : costAll ds + 3 ≤ 4000000 := hC
          refine ⟨_, rfl, .inl ⟨rfl, _, SqL.of hL4⟩, _, rfl, x2, e, rfl, dp_same s4 pe, hde, he6, by omega, fun H6 L2 zs2 s6 nL2 hL2 dz2 => ?_⟩
          have hL6 := s6 _ _ hL4
          have dz6 := dpAll_same s6 dz4
          have lz2 : zs2.length = (spotsF e).length := dpAll_map_len dz2
          have sl := spots_len e
          refine ⟨L2, rfl, ⟨_, SqL.of hL2⟩, fun D nD => ?_⟩
          refine lc_it (walk_list (xs := zs2)) (fun j H7 => Same H6 H7 ∧ ∃ ws, H7 D = some (.lst ws) ∧ DpAll K H7 ws (((spotsF e).take j).map fun p => pathD (i :: p))) ⟨same_upd nD, [], upd_same, .nil⟩ (fun j H7 _ h => SqL.of (h.1 _ _ hL2)) ?_ ?_
          · rintro j y H7 H8 hj ⟨s7, ws, hD, dw⟩ ⟨rfl, gy⟩
            obtain ⟨pa, p, rfl, gp, hs⟩ := paths_dp (dpAll_same s7 dz2) gy
            have lw : ws.length = j := by rw [dpAll_map_len dw, List.length_take]; omega
            refine ⟨rfl, tYes_at ?_⟩
            rw [if_pos rfl]
            refine ⟨_, rfl, (by show 1 ≤ sizeLine; decide), fun t1 nt1 => ⟨_, rfl, ?_⟩⟩
            have st1 := same_upd (o := .tup [.int (i : Nat)]) nt1
            have ht1 : upd H8 t1 (.tup [.int (i : Nat)]) t1 = some (.tup [.int (i : Nat)]) := upd_same
            have hD1 := st1 _ _ hD
            have dw1 := dpAll_same st1 dw
            have hs1 := same_tup st1 hs
            have s71 := s7.trans st1
            generalize upd H8 t1 (.tup [.int (i : Nat)]) = H9 at ht1 hD1 dw1 hs1 s71 ⊢
            have fin : ∀ (H10 : Hp) (r : Addr), Same H9 H10 → SqT K H10 r ((i :: p).map natV) → ∃ acc, H10 D = some (.lst acc) ∧ acc.length < sizeLine ∧ (Same H6 (upd H10 D (.lst (acc ++ [.ref r]))) ∧ ∃ ws, upd H10 D (.lst (acc ++ [.ref r])) D = some (.lst ws) ∧ DpAll K (upd H10 D (.lst (acc ++ [.ref r]))) ws (((spotsF e).take (j + 1)).map fun p => pathD (i :: p))) := fun H10 r s10 hr2 => by
              refine ⟨ws, s10 _ _ hD1, (by rw [lw, sizeLine_eq]; omega), same_put (s71.trans s10) nD, _, upd_same, ?_⟩
              rw [List.take_add_one, gp, List.map_append]
              refine dpAll_lst (s10 _ _ hD1) (noL_app (noL_map (fun q => noL_path (i :: q)) _) ⟨noL_path (i :: p), trivial⟩) (dpAll_app' (dpAll_same s10 dw1) (.cons ?_ .nil))
              refine .tup hr2 ?_
              have e1 : (i :: p).map (fun i => PyData.int ((i : Nat) : Int)) = ((i :: p).map fun i => ((i : Nat) : Int)).map PyData.int := by rw [List.map_map]; rfl
              have e2 : (i :: p).map natV = ((i :: p).map fun i => ((i : Nat) : Int)).map V.int := by rw [List.map_map]; rfl
              rw [e1, e2]; exact dp_ints _
            refine ⟨t1, pa, _, _, rfl, rfl, .inl (.inl ht1), hs1, ?_, (fun h => by cases h), (fun _ hy => ?_), fun _ hy t2 nt2 => ?_⟩
            · have lp := lead_depth p e (spots_lead e p (List.mem_of_getElem? gp))
              rw [List.length_map, sizeLine_eq]
              show 1 + p.length ≤ _
              omega
            · have ep : p = [] := List.map_eq_nil_iff.mp hy
              rw [ep] at fin
              exact fin _ _ (Same.refl _) (.inl (.inl ht1))
            · exact fin _ _ (same_upd nt2) (.inl (.inl upd_same))
          rintro H7 ⟨s7, ws, hD, dw⟩
          rw [lz2, List.take_length] at dw
          have lw : ws.length = (spotsF e).length := dpAll_map_len dw
          have lz : zs.length = (spotsAll 0 (ds.take i)).length + 1 := by rw [dpAll_map_len dz]; rfl
          have lal := spotsAll_len 0 (ds.take i)
          have ltk := costAll_take i ds
          refine ⟨L, D, _, _, rfl, rfl, s7 _ _ hL6, hD, (by rw [sizeLine_eq]; omega), ?_⟩
          refine ⟨_, _, _, rfl, same_put ((s4.trans s6).trans s7) nL0, upd_same, ?_⟩
          have el : [] :: spotsAll 0 (ds.take (i + 1)) = ([] :: spotsAll 0 (ds.take i)) ++ (spotsF e).map (i :: ·) := by
            rw [List.take_add_one, ge, spotsAll_app]
            have li : (ds.take i).length = i := by rw [List.length_take]; have := (List.getElem?_eq_some_iff.mp ge).1; omega
            rw [li]
            show [] :: (_ ++ spotsAll (0 + i) [e]) = _
            rw [spotsAll, spotsAll, List.append_nil, Nat.zero_add]; rfl
          rw [el, List.map_append, List.map_map]
          exact dpAll_lst (s7 _ _ hL6) (noL_app (noL_map noL_path _) (noL_map (fun q => noL_path (i :: q)) _)) (dpAll_app' (dpAll_same s7 dz6) dw)
        · skip
          rintro σ H3 ⟨v2, v3, zs, rfl, s3, hL3, dz⟩
          have lx := dpAll_len ha
          rw [lx, List.take_length] at dz
          exact ⟨_, rfl, q _ L zs s3 nL0 hL3 (by rw [spotsF]; exact dz)⟩
      | @tup a xs ds hl ha =>
        refine iteT ⟨_, rfl, a, xs, rfl, .inr ⟨same_tup s2 hl, ?_⟩⟩
        refine for_it (walk_enT (xs := xs)) (fun i σ H3 => ∃ v2 v3 zs, σ = [some (.ref a), some (.ref L), v2, v3, none] ∧ Same H H3 ∧ H3 L = some (.lst zs) ∧ DpAll K H3 zs (([] :: spotsAll 0 (ds.take i)).map pathD)) ⟨_, _, _, rfl, s2, hL, .cons d0 .nil⟩ (fun i σ H3 _ h => by obtain ⟨_, _, _, _, h, _⟩ := h; exact same_tup h hl) ?_ ?_
        · skip
          rintro i y σ H3 H4 hi ⟨v2, v3, zs, rfl, s3, hL3, dz⟩ ⟨u, x1, x2, rfl, nu, rfl, g1, g2⟩
          cases g1
          replace g2 : xs[i]? = some x2 := g2
          obtain ⟨e, ge, pe⟩ := dpAll_at ha g2
          have su := same_upd (o := .tup [.int (i : Nat), x2]) nu
          have Lu : L ≠ u := ne_of_none hL3 nu
          refine ⟨u, _, rfl, .inl (.inl upd_same), rfl, _, _, rfl, _, _, rfl, rfl, ?_⟩
          have s4 := s3.trans su
          have hL4 := su _ _ hL3
          have dz4 := dpAll_same su dz
          generalize upd H3 u (.tup [.int (i : Nat), x2]) = H5 at s4 hL4 dz4 ⊢
          have hde : e.depth < k := by
            have h1 := depth_at ge
            have h2 : PyData.depthAll ds + 1 < k + 1 := hd
            omega
          have he6 : e.depth ≤ 60 := by
            have h1 := depth_at ge
            have h2 : PyData.depthAll ds + 1 ≤ 60 := h60
            omega
          have hce : costAll.cost e + 2 ≤ costAll ds := cost_mem (List.mem_of_getElem? ge)
          have hcd : costAll ds + 3 ≤ 4000000 := hC
          refine ⟨_, rfl, .inl ⟨rfl, _, SqL.of hL4⟩, _, rfl, x2, e, rfl, dp_same s4 pe, hde, he6, by omega, fun H6 L2 zs2 s6 nL2 hL2 dz2 => ?_⟩
          have hL6 := s6 _ _ hL4
          have dz6 := dpAll_same s6 dz4
          have lz2 : zs2.length = (spotsF e).length := dpAll_map_len dz2
          have sl := spots_len e
          refine ⟨L2, rfl, ⟨_, SqL.of hL2⟩, fun D nD => ?_⟩
          refine lc_it (walk_list (xs := zs2)) (fun j H7 => Same H6 H7 ∧ ∃ ws, H7 D = some (.lst ws) ∧ DpAll K H7 ws (((spotsF e).take j).map fun p => pathD (i :: p))) ⟨same_upd nD, [], upd_same, .nil⟩ (fun j H7 _ h => SqL.of (h.1 _ _ hL2)) ?_ ?_
          · rintro j y H7 H8 hj ⟨s7, ws, hD, dw⟩ ⟨rfl, gy⟩
            obtain ⟨pa, p, rfl, gp, hs⟩ := paths_dp (dpAll_same s7 dz2) gy
            have lw : ws.length = j := by rw [dpAll_map_len dw, List.length_take]; omega
            refine ⟨rfl, tYes_at ?_⟩
            rw [if_pos rfl]
            refine ⟨_, rfl, (by show 1 ≤ sizeLine; decide), fun t1 nt1 => ⟨_, rfl, ?_⟩⟩
            have st1 := same_upd (o := .tup [.int (i : Nat)]) nt1
            have ht1 : upd H8 t1 (.tup [.int (i : Nat)]) t1 = some (.tup [.int (i : Nat)]) := upd_same
            have hD1 := st1 _ _ hD
            have dw1 := dpAll_same st1 dw
            have hs1 := same_tup st1 hs
            have s71 := s7.trans st1
            generalize upd H8 t1 (.tup [.int (i : Nat)]) = H9 at ht1 hD1 dw1 hs1 s71 ⊢
            have fin : ∀ (H10 : Hp) (r : Addr), Same H9 H10 → SqT K H10 r ((i :: p).map natV) → ∃ acc, H10 D = some (.lst acc) ∧ acc.length < sizeLine ∧ (Same H6 (upd H10 D (.lst (acc ++ [.ref r]))) ∧ ∃ ws, upd H10 D (.lst (acc ++ [.ref r])) D = some (.lst ws) ∧ DpAll K (upd H10 D (.lst (acc ++ [.ref r]))) ws (((spotsF e).take (j + 1)).map fun p => pathD (i :: p))) := fun H10 r s10 hr2 => by
              refine ⟨ws, s10 _ _ hD1, (by rw [lw, sizeLine_eq]; omega), same_put (s71.trans s10) nD, _, upd_same, ?_⟩
              rw [List.take_add_one, gp, List.map_append]
              refine dpAll_lst (s10 _ _ hD1) (noL_app (noL_map (fun q => noL_path (i :: q)) _) ⟨noL_path (i :: p), trivial⟩) (dpAll_app' (dpAll_same s10 dw1) (.cons ?_ .nil))
              refine .tup hr2 ?_
              have e1 : (i :: p).map (fun i => PyData.int ((i : Nat) : Int)) = ((i :: p).map fun i => ((i : Nat) : Int)).map PyData.int := by rw [List.map_map]; rfl
              have e2 : (i :: p).map natV = ((i :: p).map fun i => ((i : Nat) : Int)).map V.int := by rw [List.map_map]; rfl
              rw [e1, e2]; exact dp_ints _
            refine ⟨t1, pa, _, _, rfl, rfl, .inl (.inl ht1), hs1, ?_, (fun h => by cases h), (fun _ hy => ?_), fun _ hy t2 nt2 => ?_⟩
            · have lp := lead_depth p e (spots_lead e p (List.mem_of_getElem? gp))
              rw [List.length_map, sizeLine_eq]
              show 1 + p.length ≤ _
              omega
            · have ep : p = [] := List.map_eq_nil_iff.mp hy
              rw [ep] at fin
              exact fin _ _ (Same.refl _) (.inl (.inl ht1))
            · exact fin _ _ (same_upd nt2) (.inl (.inl upd_same))
          rintro H7 ⟨s7, ws, hD, dw⟩
          rw [lz2, List.take_length] at dw
          have lw : ws.length = (spotsF e).length := dpAll_map_len dw
          have lz : zs.length = (spotsAll 0 (ds.take i)).length + 1 := by rw [dpAll_map_len dz]; rfl
          have lal := spotsAll_len 0 (ds.take i)
          have ltk := costAll_take i ds
          refine ⟨L, D, _, _, rfl, rfl, s7 _ _ hL6, hD, (by rw [sizeLine_eq]; omega), ?_⟩
          refine ⟨_, _, _, rfl, same_put ((s4.trans s6).trans s7) nL0, upd_same, ?_⟩
          have el : [] :: spotsAll 0 (ds.take (i + 1)) = ([] :: spotsAll 0 (ds.take i)) ++ (spotsF e).map (i :: ·) := by
            rw [List.take_add_one, ge, spotsAll_app]
            have li : (ds.take i).length = i := by rw [List.length_take]; have := (List.getElem?_eq_some_iff.mp ge).1; omega
            rw [li]
            show [] :: (_ ++ spotsAll (0 + i) [e]) = _
            rw [spotsAll, spotsAll, List.append_nil, Nat.zero_add]; rfl
          rw [el, List.map_append, List.map_map]
          exact dpAll_lst (s7 _ _ hL6) (noL_app (noL_map noL_path _) (noL_map (fun q => noL_path (i :: q)) _)) (dpAll_app' (dpAll_same s7 dz6) dw)
        · skip
          rintro σ H3 ⟨v2, v3, zs, rfl, s3, hL3, dz⟩
          have lx := dpAll_len ha
          rw [lx, List.take_length] at dz
          exact ⟨_, rfl, q _ L zs s3 nL0 hL3 (by rw [spotsF]; exact dz)⟩

end
end Pot

namespace Pot
open PySem PySem.Spec PyProof.Rows L2
section
variable {P : Program} {w : World} {K : PySem.W.Frag} {mg : Str → Option Value} {base : Heap}
def capB : Nat → Nat → Nat
  | 0, C => 3 * C + 20000
  | L + 1, C => C + capB L C + 10
theorem capB_mono {C C' : Nat} (h : C ≤ C') : ∀ L, capB L C ≤ capB L C'
  | 0 => by show 3 * C + 20000 ≤ 3 * C' + 20000; omega
  | L + 1 => by
    have := capB_mono h L
    show C + capB L C + 10 ≤ C' + capB L C' + 10
    omega
theorem capB_up {L M : Nat} (C : Nat) (h : L ≤ M) : capB L C ≤ capB M C := by
  induction M with
  | zero => rw [Nat.le_zero.mp h]; exact Nat.le_refl _
  | succ M ih =>
    rcases Nat.lt_or_ge L (M + 1) with z | z
    · have := ih (by omega)
      show _ ≤ C + capB M C + 10
      omega
    · rw [show L = M + 1 by omega]; exact Nat.le_refl _
theorem seq_of {H : Hp} {x : V} {e : PyData} {ds : List PyData} (h : Dp K H x e) (he : e = .list ds ∨ e = .tuple ds) : ∃ a xs, x = .ref a ∧ SqA K H a xs ∧ DpAll K H xs ds := by
  rcases he with rfl | rfl
  · cases h with
    | lst hl ha => exact ⟨_, _, rfl, .inl hl, ha⟩
  · cases h with
    | tup hl ha => exact ⟨_, _, rfl, .inr hl, ha⟩
theorem path_dp {H : Hp} {a : Addr} {p : List Nat} (h : SqT K H a (p.map natV)) : Dp K H (.ref a) (pathD p) := by
  refine .tup h ?_
  have e1 : p.map (fun i => PyData.int ((i : Nat) : Int)) = (p.map fun i => ((i : Nat) : Int)).map PyData.int := by rw [List.map_map]; rfl
  have e2 : p.map natV = (p.map fun i => ((i : Nat) : Int)).map V.int := by rw [List.map_map]; rfl
  rw [e1, e2]; exact dp_ints _
theorem path_shaped (p : List Nat) : SeqAt.shaped (pathD p) = true := by
  have e1 : p.map (fun i => PyData.int ((i : Nat) : Int)) = (p.map fun i => ((i : Nat) : Int)).map PyData.int := by rw [List.map_map]; rfl
  obtain ⟨m, hm⟩ : ∃ m, gd m (pathD p) := by
    unfold pathD
    rw [e1]
    generalize p.map (fun i => ((i : Nat) : Int)) = ns
    induction ns with
    | nil => exact ⟨0, trivial⟩
    | cons x ns ih =>
      obtain ⟨m, h⟩ := ih
      exact ⟨x.natAbs + m, by show x.natAbs ≤ _; omega, gdAll_mono (by omega) _ h⟩
  refine gd_shaped hm ?_
  show PyData.depthAll _ + 1 ≤ 64
  have : PyData.depthAll (p.map fun i => PyData.int ((i : Nat) : Int)) ≤ 1 := depthAll_iff.mpr fun d hd => by
    obtain ⟨q, hq, rfl⟩ := List.mem_map.mp hd
    simp [PyData.depth]
  omega
def spBentAt (K : PySem.W.Frag) (k : Nat) : Sp := fun vs H Q _ => ∃ (d c : Addr) (S : List Addr) (cnt : Nat) (x : V) (e : PyData) (a : Addr) (p : List Nat) (n m C D W : Nat), vs = [.ref d, x, .ref a] ∧ StAt H d c cnt ∧ cnt < 2 ^ 39 ∧ d ∈ S ∧ c ∈ S ∧ Live S H ∧ Dp K (off H S) x e ∧ SqT K (off H S) a (p.map natV) ∧ leads p e ∧ p.length < k ∧ Bd n m C D W e ∧ n ≤ 500 ∧ 9 ≤ n ∧ m ≤ 300 ∧ 1 ≤ W ∧ W ≤ 1000 ∧ C ≤ 1000000 ∧
  ∀ (H' : Hp) (y : V) (e' : PyData), StAt H' d c (cnt + 3) → Sm [d, c] H H' → Dp K (off H' S) y e' → Bd (3 * n + 1) (m + 100) (capB p.length C) (D + 2) (W + 1) e' → Q y H'
abbrev s__law_bent_at : Stmt := topS 20
def n__law_bent_at : List Str := ["_law_state", "_law_thing", "_law_spot", "_law_inner"]
theorem sc__law_bent_at : FnScope n__law_bent_at ["_law_state", "_law_thing", "_law_spot"] (defScope s__law_bent_at) := ⟨rfl, rfl, rfl, by decide +kernel, rfl, by decide +kernel, by decide +kernel⟩
theorem ok_benta {f : Addr} {fd : FuncData} {k0 : Nat} (F : Fun K "_law_bent_at" "_law_bent_at" s__law_bent_at f fd) (T : Txt mg) (bF : Binds K fd ["_law_state", "_law_thing", "_law_spot"] []) (gF : mg "_law_bent_at" = some (.ref f)) (c__law_odd : Cl P w K mg base (k0 + 2) "_law_odd" (spOdd K)) :
    ∀ k : Nat, FnOk P w K mg base CX0 (k0 + k + 3) f fd ["_law_state", "_law_thing", "_law_spot"] (spBentAt K k) := by
  intro k
  induction k with
  | zero =>
    refine F.ok sc__law_bent_at (fun vs H Q E h => ?_) (fun cdv A outer s H vs Q E hr h => ?_)
    · obtain ⟨d, c, S, cnt, x, e, a, p, n, m, C, D, W, rfl, _⟩ := h
      rfl
    · obtain ⟨d, c, S, cnt, x, e, a, p, n, m, C, D, W, rfl, _, _, _, _, _, _, _, _, hk, _⟩ := h
      exact absurd hk (Nat.not_lt_zero _)
  | succ k G =>
    refine F.ok sc__law_bent_at (fun vs H Q E h => ?_) (fun cdv A outer s H vs Q E hr h => ?_)
    · obtain ⟨d, c, S, cnt, x, e, a, p, n, m, C, D, W, rfl, _⟩ := h
      rfl
    · obtain ⟨d, c, S, cnt, x, e, a, p, n, m, C, D, W, rfl, B, hn, hd, hc, lv, dp, stp, ld, hk, bd, n5, n9, m3, W1, W9, hC, q⟩ := h
      have nd := sc__law_bent_at.nd
      have hu64 := hr.units
      have hr2 : Room (k0 + k + 3) (A.deeper (envOfC (Str.ofString "_law_bent_at") (defScope s__law_bent_at) s.heap.objs.size f cdv)) := hr
      refine ⟨_, (pss_cons (ps_if (pt_cmpR (ko_eq (K := K) hu64) (pv 2) (pe_tup pa_nil) (nomark _))
          (pss_one (ps_ret (pe_cl c__law_odd hr (by omega) (by rfl) (pa_cons (pv 0) (pa_cons (pv 1) pa_nil)))))
          pss_nil)
      (pss_cons (ps_set (i := 3) nd rfl (.inl rfl) (pe_callTy (kc_list (K := K)) (by rfl) T.list (by decide +kernel) (pa_cons (pv 1) pa_nil)))
      (pss_cons (ps_asg (pe_call G hr2 (by rfl) gF F.kp bF .nil pass0 (pa_cons (pv 0) (pa_cons (pe_ix (kx_list (K := K)) (pv 3) (pe_ix (kx_tup (K := K)) (pv 2) pe_int (fun _ _ => rfl)) (fun _ _ => rfl)) (pa_cons (pe_slice (kl_tup (K := K)) (pv 2) (po_some pe_int) po_none) pa_nil)))) (pg_sub (pv 3) (pe_ix (kx_tup (K := K)) (pv 2) pe_int (fun _ _ => rfl)) set_list))
      (pss_one (ps_ret (pe_ifExp (pt_val (pe_callB (kc_isi (K := K)) (by rfl) T.isinstance (by decide +kernel) (pa_cons (pv 1) (pa_cons (pe_bltn (v := .ty "list") (by rfl) T.list (by decide +kernel) rfl) pa_nil)))) (pv 3) (pe_callTy (kc_tuple (K := K)) (by rfl) T.tuple (by decide +kernel) (pa_cons (pv 3) pa_nil)))))))), ?_⟩
      have sc : Sm [d, c] H H := Same.refl _
      refine ⟨_, rfl, Nat.zero_le _, fun t0 n0 => ?_⟩
      have ft0 := off_new (o := .tup []) lv n0
      have lv := lv.put (o := .tup []) n0
      have B := B.same (same_upd (o := .tup []) n0)
      have sc := sc.trans (sm_put (S := [d, c]) (o := .tup []) n0)
      have dp := dp_same ((sm_put (S := S) (o := .tup []) n0)) dp
      have stp := same_tup ((sm_put (S := S) (o := .tup []) n0)) stp
      generalize upd H t0 (.tup []) = H1 at ft0 lv B sc dp stp ⊢
      refine ⟨_, _, dp_off (path_dp stp), .tup (.inl (.inl (at_off ft0))) .nil, path_shaped p, path_shaped [], _, rfl, ?_⟩
      cases p with
      | nil =>
        refine iteT ⟨_, rfl, _, rfl, d, c, S, cnt, x, e, n, m, C, D, W, rfl, B, hn, hd, hc, lv, dp, bd, n5, n9, m3, W1, W9, hC, fun H2 y e' B2 s2 dy by_ => ?_⟩
        exact q _ _ _ B2 (sc.trans s2) dy by_
      | cons i p =>
        refine iteF ?_
        obtain ⟨ds, x0, he, gi, ld2⟩ := ld
        obtain ⟨ax, xs, rfl, sqq, dax⟩ := seq_of dp he
        obtain ⟨bds0, lW, hC3, hD1⟩ := bd.parts he
        have lx := dpAll_len dax
        have hi : i < ds.length := (List.getElem?_eq_some_iff.mp gi).1
        refine ⟨_, rfl, ax, xs, rfl, sqa_off sqq, fun I nI => ?_⟩
        have IS := lv.out nI
        have nI0 := st_free sc B nI
        obtain ⟨S0, eS0⟩ : ∃ S0, S0 = S := ⟨_, rfl⟩
        have q0 : ∀ (H' : Hp) (y : V) (e' : PyData), StAt H' d c (cnt + 3) → Sm [d, c] H H' → Dp K (off H' S0) y e' → Bd (3 * n + 1) (m + 100) (capB (i :: p).length C) (D + 2) (W + 1) e' → Q y H' := by rw [eS0]; exact q
        rw [← eS0] at hd hc IS
        have eoff : ∀ o, off (upd H1 I o) (I :: S0) = off H1 S := fun o => by rw [eS0]; exact off_fresh nI
        have lv2 : Live (I :: S0) (upd H1 I (.lst xs)) := by rw [eS0]; exact (lv.put nI).cons upd_same
        have B2 := B.same (same_upd (o := .lst xs) nI)
        have sc2 := sc.trans (sm_put (S := [d, c]) (o := .lst xs) nI)
        have dax2 : DpAll K (off (upd H1 I (.lst xs)) (I :: S0)) xs ds := by rw [eoff]; exact dax
        have stp2 : SqT K (off (upd H1 I (.lst xs)) (I :: S0)) a ((i :: p).map natV) := by rw [eoff]; exact stp
        have dpx2 : Dp K (off (upd H1 I (.lst xs)) (I :: S0)) (.ref ax) e := by rw [eoff]; exact dp
        have hI2 : upd H1 I (.lst xs) I = some (.lst xs) := upd_same
        have Id : I ≠ d := fun z => IS (by rw [z]; exact hd)
        have Ic : I ≠ c := fun z => IS (by rw [z]; exact hc)
        generalize upd H1 I (.lst xs) = H2 at lv2 B2 sc2 dax2 stp2 dpx2 hI2 ⊢
        clear eoff q lv B sc dax stp dp
        have hd2 : d ∈ I :: S0 := List.mem_cons_of_mem _ hd
        have hc2 : c ∈ I :: S0 := List.mem_cons_of_mem _ hc
        obtain ⟨S, eS⟩ : ∃ S, S = I :: S0 := ⟨_, rfl⟩
        rw [← eS] at lv2 dax2 stp2 dpx2 hd2 hc2
        clear hd hc
        have hd := hd2
        have hc := hc2
        have lv := lv2
        have B := B2
        have sc := sc2
        have dax := dax2
        have stp := stp2
        have dpx := dpx2
        have li : i < xs.length := by omega
        obtain ⟨x1, g1, dpv⟩ := dpAll_at dax (List.getElem?_eq_getElem li)
        have e1 : x1 = x0 := Option.some.inj (g1.symm.trans gi)
        subst e1
        have at0 : atI ((i :: p).map natV) 0 = some (.int ((i : Nat) : Int)) := by
          show atI ((i :: p).map natV) ((0 : Nat) : Int) = _
          exact atI_nat rfl
        refine ⟨_, rfl, _, rfl, _, rfl, a, _, 0, _, rfl, rfl, sqt_off stp, at0, I, _, _, _, rfl, rfl, SqL.of hI2, atI_nat (List.getElem?_eq_getElem li), ?_⟩
        have lp1 : ((i :: p).map natV).length = p.length + 1 := by rw [List.length_map]; rfl
        refine ⟨_, rfl, 1, rfl, a, _, rfl, sqt_off stp, (fun h => absurd h.1 (by rw [lp1, show (1 : Int) = ((1 : Nat) : Int) from rfl, HT.sIx_nat]; omega)), fun h t nt => ?_⟩
        have ec : cutV ((i :: p).map natV) (some 1) none = p.map natV := by rw [show (1 : Int) = ((1 : Nat) : Int) from rfl, cut_tail]; rfl
        rw [ec]
        have hI3 := same_upd (o := .tup (p.map natV)) nt _ _ hI2
        have ft := off_new (o := .tup (p.map natV)) lv nt
        have lv := lv.put (o := .tup (p.map natV)) nt
        have B := B.same (same_upd (o := .tup (p.map natV)) nt)
        have sc := sc.trans (sm_put (S := [d, c]) (o := .tup (p.map natV)) nt)
        have dpx := dp_same ((sm_put (S := S) (o := .tup (p.map natV)) nt)) dpx
        have dax := dpAll_same ((sm_put (S := S) (o := .tup (p.map natV)) nt)) dax
        have dpv := dp_same ((sm_put (S := S) (o := .tup (p.map natV)) nt)) dpv
        have stp := same_tup ((sm_put (S := S) (o := .tup (p.map natV)) nt)) stp
        generalize upd H2 t (.tup (p.map natV)) = H3 at ft lv B sc hI3 dpx dax dpv stp ⊢
        have bx : Bd n m C (D - 1) W x1 := (bds0.mem (List.mem_of_getElem? gi)).mono (Nat.le_refl _) (Nat.le_refl _) (by omega) (Nat.le_refl _) (Nat.le_refl _)
        refine ⟨d, c, S, cnt, _, x1, t, p, n, m, C, D - 1, W, rfl, B, hn, hd, hc, lv, dpv, .inl (.inl ft), ld2, Nat.lt_of_succ_lt_succ hk, bx, n5, n9, m3, W1, W9, hC, fun H4 y e' B4 s4 dy by_ => ?_⟩
        have hI4 := sm2_at s4 Id Ic hI3
        have lv := lv.st B4 s4
        have sc := sc.trans s4
        have B := B4
        have dpx := dp_same ((sm_two hd hc s4)) dpx
        have dax := dpAll_same ((sm_two hd hc s4)) dax
        have stp := same_tup ((sm_two hd hc s4)) stp
        refine ⟨_, rfl, _, rfl, a, _, 0, _, rfl, rfl, sqt_off stp, at0, I, _, _, i, rfl, rfl, hI4, Evl.ixN_nat li, ?_⟩
        have sw : Sm S H4 (upd H4 I (.lst (xs.set i y))) := sm_wr (by rw [eS]; exact List.mem_cons_self)
        have daxs := dpAll_set (i := i) (dpAll_same sw dax) (dp_same sw dy)
        have dpx := dp_same sw dpx
        have hI5 : upd H4 I (.lst (xs.set i y)) I = some (.lst (xs.set i y)) := upd_same
        have B5 := B.put (o := .lst (xs.set i y)) Id.symm Ic.symm
        have sc5 : Sm [d, c] H (upd H4 I (.lst (xs.set i y))) := smp sc nI0
        have lv5 := lv.wr (p := I) (o := .lst (xs.set i y))
        generalize upd H4 I (.lst (xs.set i y)) = H5 at daxs dpx hI5 B5 sc5 lv5 ⊢
        have om : Same (off H5 S) (off H5 S0) := off_mono (by rw [eS]; exact fun z hz => List.mem_cons_of_mem _ hz)
        have bs : Bds (3 * n + 1) (m + 100) (C + capB p.length C + 2) (D + 1) (W + 1) (ds.set i e') := Bds.set (bds0.mono (by omega) (by omega) (by omega) (by omega) (by omega)) (by_.mono (Nat.le_refl _) (Nat.le_refl _) (Nat.le_refl _) (by omega) (Nat.le_refl _))
        have ls : (ds.set i e').length ≤ W + 1 := by rw [List.length_set]; omega
        have ecap : capB (i :: p).length C = C + capB p.length C + 10 := rfl
        have dH5 := dp_off dpx
        refine ⟨_, rfl, _, .ty _, _, _, isListD _, rfl, .ty _, tyx_dp dH5, kit_list dH5, _, rfl, ?_⟩
        cases hL : isListD e with
        | true =>
          refine iteT ⟨_, rfl, ?_⟩
          exact q0 _ _ _ (B5.mono (by omega)) sc5 (.lst (SqL.of (by rw [off_out IS]; exact hI5)) (dpAll_same om daxs)) ((bs.list ls).mono (Nat.le_refl _) (Nat.le_refl _) (by rw [ecap]; omega) (by omega) (Nat.le_refl _))
        | false =>
          refine iteF ⟨_, rfl, I, _, rfl, .inl ⟨SqL.of hI5, fun u nu => ?_⟩⟩
          have su := same_upd (o := .tup (xs.set i y)) nu
          have uS : u ∉ S0 := fun z => (lv5.out nu) (by rw [eS]; exact List.mem_cons_of_mem _ z)
          exact q0 _ _ _ ((B5.same su).mono (by omega)) (sc5.trans (sm_of su)) (.tup (.inl (.inl (by rw [off_out uS]; exact upd_same))) (dpAll_same (om.trans (sm_of su)) daxs)) ((bs.tuple ls).mono (Nat.le_refl _) (Nat.le_refl _) (by rw [ecap]; omega) (by omega) (Nat.le_refl _))

end
end Pot

namespace Pot
open PySem PySem.Spec PyProof.Rows L2
section
variable {P : Program} {w : World} {K : PySem.W.Frag} {mg : Str → Option Value} {base : Heap}
theorem dpAll_offT {H : Hp} {d c : Addr} {n : Nat} (B : StAt H d c n) : ∀ {xs : List V} {ds : List PyData}, noLAll ds → DpAll K H xs ds → DpAll K (off H [d, c]) xs ds
  | _, _, _, .nil => .nil
  | _, _, h, .cons p r => .cons (dp_offT B h.1 p) (dpAll_offT B h.2 r)
def spBent (K : PySem.W.Frag) : Sp := fun vs H Q _ => ∃ (d c : Addr) (cnt : Nat) (x : V) (e : PyData) (n m C D W : Nat), vs = [.ref d, x] ∧ StAt H d c cnt ∧ cnt < 2 ^ 38 ∧ Dp K (off H [d, c]) x e ∧ Bd n m C D W e ∧ n ≤ 500 ∧ 9 ≤ n ∧ m ≤ 300 ∧ 1 ≤ W ∧ W ≤ 1000 ∧ C ≤ 1000000 ∧ D ≤ 9 ∧
  ∀ (H' : Hp) (y : V) (e' : PyData), StAt H' d c (cnt + 4) → Sm [d, c] H H' → Dp K (off H' [d, c]) y e' → Bd (3 * n + 1) (m + 100) (capB D C) (D + 2) (W + 1) e' → Q y H'
abbrev s__law_bent : Stmt := topS 21
def n__law_bent : List Str := ["_law_state", "_law_thing", "_law_spots_here"]
theorem sc__law_bent : FnScope n__law_bent ["_law_state", "_law_thing"] (defScope s__law_bent) := ⟨rfl, rfl, rfl, by decide +kernel, rfl, by decide +kernel, by decide +kernel⟩
theorem ok_bent {f : Addr} {fd : FuncData} {k : Nat} (F : Fun K "_law_bent" "_law_bent" s__law_bent f fd) (T : Txt mg) (c__law_take : Cl P w K mg base (k + 1) "_law_take" spTake) (c__law_spots : Cl P w K mg base (k + 11) "_law_spots" (spSpots K 10)) (c__law_bent_at : Cl P w K mg base (k + 13) "_law_bent_at" (spBentAt K 10)) : FnOk P w K mg base CX0 (k + 14) f fd ["_law_state", "_law_thing"] (spBent K) := by
  refine F.ok sc__law_bent (fun vs H Q E h => ?_) (fun cdv A outer s H vs Q E hr h => ?_)
  · obtain ⟨d, c, cnt, x, e, n, m, C, D, W, rfl, _⟩ := h
    rfl
  · obtain ⟨d, c, cnt, x, e, n, m, C, D, W, rfl, B, hn, dp, bd, n5, n9, m3, W1, W9, hC, hD, q⟩ := h
    have nd := sc__law_bent.nd
    refine ⟨_, (pss_cons (ps_set (i := 2) nd rfl (.inl rfl) (pe_cl c__law_spots hr (by omega) (by rfl) (pa_cons (pv 1) pa_nil)))
      (pss_one (ps_ret (pe_cl c__law_bent_at hr (by omega) (by rfl) (pa_cons (pv 0) (pa_cons (pv 1) (pa_cons (pe_ix (kx_list (K := K)) (pv 2) (pe_cl c__law_take hr (by omega) (by rfl) (pa_cons (pv 0) (pa_cons (pe_callB (kc_len (K := K)) (by rfl) T.len PySem.boot_len (pa_cons (pv 2) pa_nil)) pa_nil))) (fun _ _ => rfl)) pa_nil))))))), ?_⟩
    have hde := bd.t.d
    have hce := bd.t.c
    have lv := Live.two B
    have sc : Sm [d, c] H H := Same.refl _
    obtain ⟨S, eS⟩ : ∃ S, S = [d, c] := ⟨_, rfl⟩
    have hd : d ∈ S := by rw [eS]; simp
    have hc : c ∈ S := by rw [eS]; simp
    rw [← eS] at lv dp
    refine ⟨_, rfl, x, e, rfl, dp_off dp, (by omega), (by omega), (by omega), fun H1 L zs s1 nL hL dz => ?_⟩
    have Ls := lv.out nL
    have lv := lv.same s1
    have sc := sc.trans (sm_of (S := [d, c]) s1)
    have B := B.same s1
    have dp := dp_same ((sm_of (S := S) s1)) dp
    have fL : off H1 S L = some (.lst zs) := by rw [off_out Ls]; exact hL
    have daz : DpAll K (off H1 S) zs ((spotsF e).map pathD) := by rw [eS]; exact dpAll_offT B (noL_map noL_path _) dz
    have lz : zs.length = (spotsF e).length := dpAll_map_len daz
    have l1 : 0 < (spotsF e).length := by cases e <;> (rw [spotsF]; exact Nat.succ_pos _)
    have l2 := spots_len e
    refine ⟨_, rfl, _, rfl, _, rfl, _, rfl, _, rfl, _, _, rfl, .inl ⟨_, SqL.of (at_off fL), rfl⟩, d, c, _, _, rfl, (by omega), (by omega), B, by omega, fun H2 r r0 r1 B2 s2 => ?_⟩
    have lv := lv.st B2 s2
    have sc := sc.trans s2
    have B := B2
    have fL := (sm_two hd hc s2) _ _ fL
    have dp := dp_same ((sm_two hd hc s2)) dp
    have daz := dpAll_same ((sm_two hd hc s2)) daz
    obtain ⟨rn, rfl⟩ : ∃ rn : Nat, r = (rn : Int) := ⟨r.toNat, by omega⟩
    have hr2 : rn < zs.length := by omega
    obtain ⟨pa, p, ep, gp, hs⟩ := paths_dp daz (List.getElem?_eq_getElem hr2)
    have ld := spots_lead e p (List.mem_of_getElem? gp)
    have lp := lead_depth p e ld
    refine ⟨L, _, _, _, rfl, rfl, SqL.of (at_off fL), atI_nat (by rw [List.getElem?_eq_getElem hr2, ep]), ?_⟩
    refine ⟨d, c, S, _, x, e, pa, p, n, m, C, D, W, rfl, B, (by omega), hd, hc, lv, dp, hs, ld, (by omega), bd, n5, n9, m3, W1, W9, hC, fun H3 y e' B3 s3 dy by_ => ?_⟩
    refine q _ _ _ (B3.mono (by omega)) (sc.trans s3) (by rw [← eS]; exact dy) (by_.mono (Nat.le_refl _) (Nat.le_refl _) (capB_up C (by omega)) (Nat.le_refl _) (Nat.le_refl _))
def spTold (K : PySem.W.Frag) : Sp := fun vs H Q _ => ∃ (v : V) (cs : List Col) (ws : List Wsh) (x : V) (e : PyData) (n m C D W : Nat), vs = [v, x] ∧ Dp K H v (palD cs ws) ∧ PalB cs ws ∧ Dp K H x e ∧ Bd n m C D W e ∧ m ≤ 2000000 ∧ C ≤ 16777216 ∧ D ≤ 60 ∧ W ≤ 4000 ∧ ∀ H', Same H H' → Q (.bl true) H'
abbrev s__law_told_right : Stmt := topS 22
def n__law_told_right : List Str := ["_law_palette_here", "_law_thing", "_law_kept", "_law_found"]
theorem sc__law_told_right : FnScope n__law_told_right ["_law_palette_here", "_law_thing"] (defScope s__law_told_right) := ⟨rfl, rfl, rfl, by decide +kernel, rfl, by decide +kernel, by decide +kernel⟩
theorem ok_told {f : Addr} {fd : FuncData} {k : Nat} (F : Fun K "_law_told_right" "_law_told_right" s__law_told_right f fd) (T : Txt mg) (c_is_rows : Cl P w K mg base (k + 3) "is_rows" (spIsRows K)) (c__law_is_rows : Cl P w K mg base (k + 2) "_law_is_rows" (spIsRows K)) : FnG P w K mg base (k + 4) f fd ["_law_palette_here", "_law_thing"] (spTold K) := by
  refine okG F sc__law_told_right (fun vs H Q E h => ?_) (fun cdv A outer s H vs Q gd hr h => ?_)
  · obtain ⟨v, cs, ws, x, e, n, m, C, D, W, rfl, _⟩ := h
    rfl
  · obtain ⟨v, cs, ws, x, e, n, m, C, D, W, rfl, dpP, pb, dp, bd, m2, hC, hD, hW, q⟩ := h
    have nd := sc__law_told_right.nd
    have hu64 := hr.units
    refine ⟨_, (pss_cons (ps_par (i := 2) (j := 3) rfl nd rfl rfl (by decide) rfl rfl (pa_cons (pe_callB (kc_reprA (K := K) gd hu64) (by rfl) T.repr (by decide +kernel) (pa_cons (pv 1) pa_nil)) (pa_cons (pe_cl c_is_rows hr (by omega) (by rfl) (pa_cons (pv 0) (pa_cons (pv 1) pa_nil))) pa_nil)) rfl)
      (pss_one (ps_ret (pe_and (pe_callB (kc_isi (K := K)) (by rfl) T.isinstance (by decide +kernel) (pa_cons (pv 3) (pa_cons (pe_bltn (v := .ty "bool") (by rfl) T.bool (by decide +kernel) rfl) pa_nil))) (pe_and (pe_cmpR op_eq (pv 3) (pe_cl c__law_is_rows hr (by omega) (by rfl) (pa_cons (pv 0) (pa_cons (pv 1) pa_nil))) (nomark _)) (pe_one (pe_cmpR op_eq (pe_callB (kc_reprA (K := K) gd hu64) (by rfl) T.repr (by decide +kernel) (pa_cons (pv 1) pa_nil)) (pv 2) (nomark _)))))))), ?_⟩
    have fine := gd_fine m2 _ bd.t.g
    have dep := Nat.le_trans bd.t.d hD
    have cst := Nat.le_trans bd.t.c hC
    have wid := Nat.le_trans bd.t.w hW
    refine ⟨_, rfl, x, e, rfl, dp, fine, dep, cst, ?_⟩
    refine ⟨_, rfl, _, rfl, v, cs, ws, x, e, m, rfl, dpP, pb, dp, bd.t.g, dep, wid, fun H1 s1 => ⟨_, _, rfl, ?_⟩⟩
    have db : Dp K H1 (.bl (rowsD cs e)) (.bool (rowsD cs e)) := .bl _
    refine ⟨_, rfl, _, .ty _, _, _, isBoolD _, rfl, .ty _, tyx_dp db, kit_bool db, _, rfl, iteT ?_⟩
    refine ⟨_, rfl, _, rfl, _, rfl, v, cs, ws, x, e, m, rfl, dp_same s1 dpP, pb, dp_same s1 dp, bd.t.g, dep, wid, fun H2 s2 => ?_⟩
    refine ⟨rfl, _, rfl, ?_⟩
    rw [decide_eq_true rfl]
    refine iteT ⟨_, rfl, x, e, rfl, dp_same (s1.trans s2) dp, fine, dep, cst, _, rfl, rfl, ?_⟩
    rw [decide_eq_true rfl]
    exact q _ (s1.trans s2)

end
end Pot

namespace Pot
open PySem PySem.Spec PyProof.Rows L2
section
variable {P : Program} {w : World} {K : PySem.W.Frag} {mg : Str → Option Value} {base : Heap}
theorem dpAll_reps {H : Hp} {xs : List V} {ds : List PyData} (h : DpAll K H xs ds) : ∀ k : Nat, DpAll K H (List.replicate k xs).flatten (List.replicate k ds).flatten
  | 0 => .nil
  | k + 1 => by
    rw [List.replicate_succ, List.replicate_succ, List.flatten_cons, List.flatten_cons]
    exact dpAll_app' h (dpAll_reps h k)
theorem reps_map (rows : List Row) : ∀ k : Nat, (List.replicate k (rows.map rowD)).flatten = (List.replicate k rows).flatten.map rowD
  | 0 => rfl
  | k + 1 => by rw [List.replicate_succ, List.replicate_succ, List.flatten_cons, List.flatten_cons, List.map_append, reps_map rows k]
theorem reps_mem {rows : List Row} {r : Row} : ∀ {k : Nat}, r ∈ (List.replicate k rows).flatten → r ∈ rows
  | 0, h => by simp at h
  | k + 1, h => by
    rw [List.replicate_succ, List.flatten_cons] at h
    exact (List.mem_append.mp h).elim id reps_mem
theorem reps_len (rows : List Row) : ∀ k : Nat, (List.replicate k rows).flatten.length = k * rows.length
  | 0 => by simp
  | k + 1 => by rw [List.replicate_succ, List.flatten_cons, List.length_append, reps_len rows k, Nat.succ_mul]; omega
theorem bd_row {r : Row} {cs : List Col} (h : Nm r.1 ∧ Nm r.2.1 ∧ Nm r.2.2.1 ∧ (∃ c ∈ cs, c.1 = r.2.2.1) ∧ 1 ≤ r.2.2.2 ∧ r.2.2.2 ≤ 99) : Bd 9 99 2208 1 20 (rowD r) := by
  have st : ∀ {z : Str}, Nm z → Bd 9 99 92 0 20 (.str z) := fun h => (bd_str (Nat.le_trans h.1.1 (by decide)) (by decide) (wd_codes h.1)).mono (Nat.le_refl _) (Nat.le_refl _) (by decide) (Nat.le_refl _) (Nat.zero_le _)
  have b4 : Bds 9 99 (92 + 2 + (92 + 2 + (92 + 2 + (1921 + 2)))) 0 20 [.str r.1, .str r.2.1, .str r.2.2.1, .int r.2.2.2] :=
    (Bds.one (st h.1)).app ((Bds.one (st h.2.1)).app ((Bds.one (st h.2.2.1)).app (Bds.one ((bd_int (by omega)).mono (Nat.le_refl _) (Nat.le_refl _) (Nat.le_refl _) (Nat.le_refl _) (Nat.zero_le _)))))
  exact (b4.tuple (by show 4 ≤ 20; decide)).mono (Nat.le_refl _) (Nat.le_refl _) (by decide) (Nat.le_refl _) (Nat.le_refl _)
theorem bds_rows {cs : List Col} {rows : List Row} (ro : RowsOk cs rows) : ∀ {l : List Row}, (∀ r ∈ l, r ∈ rows) → Bds 9 99 (2210 * l.length) 1 20 (l.map rowD)
  | [], _ => Bds.nil
  | r :: l, h => by
    have h1 := Bds.one (bd_row (ro.each r (h r List.mem_cons_self)))
    have h2 := bds_rows ro (l := l) fun x hx => h x (List.mem_cons_of_mem _ hx)
    exact (h1.app h2).mono (Nat.le_refl _) (Nat.le_refl _) (by rw [List.length_cons]; omega) (Nat.le_refl _) (Nat.le_refl _)
theorem bd_rows {cs : List Col} {rows : List Row} (ro : RowsOk cs rows) {l : List Row} (h : ∀ r ∈ l, r ∈ rows) (hl : l.length ≤ 13) : Bd 9 99 30000 2 20 (.list (l.map rowD)) ∧ Bd 9 99 30000 2 20 (.tuple (l.map rowD)) := by
  have b := bds_rows ro h
  have hl2 : (l.map rowD).length ≤ 20 := by rw [List.length_map]; omega
  exact ⟨(b.list hl2).mono (Nat.le_refl _) (Nat.le_refl _) (by omega) (Nat.le_refl _) (Nat.le_refl _), (b.tuple hl2).mono (Nat.le_refl _) (Nat.le_refl _) (by omega) (Nat.le_refl _) (Nat.le_refl _)⟩
theorem rrow_true {cs : List Col} {rows : List Row} (ro : RowsOk cs rows) {r : Row} (h : r ∈ rows) : rrowD cs (rowD r) = true := by
  obtain ⟨n1, n2, n3, ⟨c, hc, ec⟩, h1, h2⟩ := ro.each r h
  show (nameD (.str r.1) && (nameD (.str r.2.1) && (inC cs (.str r.2.2.1) && (decide (1 ≤ r.2.2.2) && decide (r.2.2.2 ≤ 99))))) = true
  have hi : inC cs (.str r.2.2.1) = true := by
    unfold inC
    refine List.any_eq_true.mpr ⟨_, List.mem_map.mpr ⟨c, hc, rfl⟩, ?_⟩
    rw [ec]; simp [PyData.eqv]
  rw [nm_name n1, nm_name n2, hi, decide_eq_true h1, decide_eq_true h2]; rfl
theorem rows_are {cs : List Col} {rows : List Row} (ro : RowsOk cs rows) {l : List Row} (h : ∀ r ∈ l, r ∈ rows) : rowsD cs (.list (l.map rowD)) = (decide (1 ≤ l.length) && decide (l.length ≤ 12)) := by
  show (decide _ && (decide _ && (l.map rowD).all (rrowD cs))) = _
  have ha : (l.map rowD).all (rrowD cs) = true := by
    rw [List.all_eq_true]
    intro d hd
    obtain ⟨r, hr, rfl⟩ := List.mem_map.mp hd
    exact rrow_true ro (h r hr)
  rw [ha, Bool.and_true, List.length_map]
  congr 1
  · exact decide_eq_decide.mpr ⟨fun h => by omega, fun h => by omega⟩
  · exact decide_eq_decide.mpr ⟨fun h => by omega, fun h => by omega⟩
abbrev s_law : Stmt := topS 23
def n_law : List Str := ["_law_script", "_law_state", "_law_palette_here", "_law_rows_here", "_law_long", "_law_thing", "_law_turn", "_law_twice", "_law_some"]
theorem sc_law : FnScope n_law ["_law_script"] (defScope s_law) := ⟨rfl, rfl, rfl, by decide +kernel, rfl, by decide +kernel, by decide +kernel⟩
def spLaw (K : PySem.W.Frag) : Sp := fun vs H Q _ => ∃ (a : Addr) (ns : List Int), vs = [.ref a] ∧ SqL K H a (ns.map V.int) ∧ ns.length ≤ 63 ∧ ∀ H', Q (.bl true) H'
theorem ok_law {f : Addr} {fd : FuncData} {k : Nat} (F : Fun K "law" "law" s_law f fd) (T : Txt mg) (c__law_begin : Cl P w K mg base (k + 1) "_law_begin" (spBegin K)) (c__law_take : Cl P w K mg base (k + 1) "_law_take" spTake) (c__law_palette : Cl P w K mg base (k + 3) "_law_palette" (spPalette K)) (c__law_rows : Cl P w K mg base (k + 3) "_law_rows" (spRows K)) (c__law_told_right : ClG P w K mg base (k + 4) "_law_told_right" [] (spTold K)) (c_is_rows : Cl P w K mg base (k + 3) "is_rows" (spIsRows K)) (c__law_bent : Cl P w K mg base (k + 14) "_law_bent" (spBent K)) : FnG P w K mg base (k + 15) f fd ["_law_script"] (spLaw K) := by
  refine okG F sc_law (fun vs H Q E h => ?_) (fun cdv A outer s H vs Q gd hr h => ?_)
  · obtain ⟨a, ns, rfl, _⟩ := h
    rfl
  · obtain ⟨a, ns, rfl, hS, h63, q⟩ := h
    have nd := sc_law.nd
    have hu64 := hr.units
    refine ⟨_, (pss_cons (ps_set (i := 1) nd rfl (.inl rfl) (pe_cl c__law_begin hr (by omega) (by rfl) (pa_cons (pv 0) pa_nil)))
      (pss_cons (ps_set (i := 2) nd rfl (.inr rfl) (pe_cl c__law_palette hr (by omega) (by rfl) (pa_cons (pv 1) (pa_cons pe_int (pa_cons pe_int pa_nil)))))
      (pss_cons (ps_set (i := 3) nd rfl (.inl rfl) (pe_cl c__law_rows hr (by omega) (by rfl) (pa_cons (pv 1) (pa_cons (pv 2) pa_nil))))
      (pss_cons (ps_set (i := 4) nd rfl (.inl rfl) (pe_slice (kl_list (K := K)) (pe_op op_rep (pv 3) pe_int) po_none (po_some pe_int)))
      (pss_cons (ps_for PassesOwn.never rfl (ki_tup (K := K) (pe_tup (pa_cons (pv 3) (pa_cons (pv 4) (pa_cons (pe_slice (kl_list (K := K)) (pv 4) po_none (po_some pe_int)) (pa_cons (pe_lst pa_nil) (pa_cons (pe_tup pa_nil) (pa_cons pe_non (pa_cons pe_bl (pa_cons pe_int (pa_cons pe_str (pa_cons (pe_callTy (kc_tuple (K := K)) (by rfl) T.tuple (by decide +kernel) (pa_cons (pv 3) pa_nil)) (pa_cons (pe_lst (pa_cons (pv 3) pa_nil)) (pa_cons (pe_ix (kx_list (K := K)) (pv 3) pe_int (fun _ _ => rfl)) pa_nil)))))))))))))) (pg_name (i := 5) nd rfl (.inl rfl))
          (pss_one (ps_if (pt_not (pt_val (pe_clG c__law_told_right hr gd (by omega) (by rfl) (pa_cons (pv 2) (pa_cons (pv 5) pa_nil)))))
              pss_never
              pss_nil)))
      (pss_cons (ps_if (pt_cmpR (ko_ne (K := K) hu64) (pe_lc (own := [("_law_some", 8)]) rfl nd (ki_tup (K := K) (pe_tup (pa_cons (pv 3) (pa_cons (pe_slice (kl_list (K := K)) (pv 4) po_none (po_some pe_int)) (pa_cons (pv 4) pa_nil))))) (blkOk_by (N := n_law) (sc := defScope s_law) (by decide +kernel)) (fun _ _ _ _ _ => (pg_name (i := 8) nd rfl (.inl rfl))) (fun _ _ _ _ _ => pts_nil) (fun _ _ _ _ _ => (pe_cl c_is_rows hr (by omega) (by rfl) (pa_cons (pv 2) (pa_cons (pv 8) pa_nil))))) (pe_lst (pa_cons pe_bl (pa_cons pe_bl (pa_cons pe_bl pa_nil)))) (nomark _))
          pss_never
          pss_nil)
      (pss_cons (ps_for PassesOwn.never rfl (pi_range1 (by rfl) T.range (pa_cons pe_int pa_nil)) (pg_name (i := 6) nd rfl (.inl rfl))
          (pss_cons (ps_set (i := 7) nd rfl (.inl rfl) (pe_cmpR op_eq (pe_cl c__law_take hr (by omega) (by rfl) (pa_cons (pv 1) (pa_cons pe_int pa_nil))) pe_int (nomark _)))
          (pss_cons (ps_set (i := 5) nd rfl (.inl rfl) (pe_cl c__law_bent hr (by omega) (by rfl) (pa_cons (pv 1) (pa_cons (pv 3) pa_nil))))
          (pss_one (ps_if (pt_not (pt_val (pe_clG c__law_told_right hr gd (by omega) (by rfl) (pa_cons (pv 2) (pa_cons (pe_ifExp (pt_val (pv 7)) (pe_cl c__law_bent hr (by omega) (by rfl) (pa_cons (pv 1) (pa_cons (pv 5) pa_nil))) (pv 5)) pa_nil)))))
              pss_never
              pss_nil)))))
      (pss_one (ps_ret pe_bl))))))))), ?_⟩
    refine ⟨_, rfl, a, ns, rfl, hS, h63, fun H1 d c s1 B1 nd1 nc1 => ?_⟩
    obtain ⟨S, eS⟩ : ∃ S, S = [d, c] := ⟨_, rfl⟩
    have hd : d ∈ S := by rw [eS]; simp
    have hc : c ∈ S := by rw [eS]; simp
    refine ⟨_, rfl, d, c, 0, 12, rfl, (by decide), (by decide), B1, by decide, fun H4 v cs ws B4 s4 dpP pb => ?_⟩
    refine ⟨_, rfl, _, rfl, d, c, _, v, cs, ws, rfl, B4, by decide, dpP, pb, pb.wd, fun H5 R xs rows B5 s5 nR hR daR ro => ?_⟩
    have Rn := (Live.two B4).out nR
    have l1 := ro.one
    have l12 := ro.most
    have fR : off H5 S R = some (.lst xs) := by rw [eS, off_out Rn]; exact hR
    have daR : DpAll K (off H5 S) xs (rows.map rowD) := by rw [eS]; exact dpAll_same (off_mono (by simp)) daR
    have dpP : Dp K (off H5 S) v (palD cs ws) := by rw [eS]; exact dp_same s5 dpP
    have lx : xs.length = rows.length := dpAll_map_len daR
    have lv : Live S H5 := by rw [eS]; exact Live.two B5
    have B := B5
    have sc : Sm [d, c] H5 H5 := Same.refl _
    refine ⟨_, rfl, R, 13, xs, rfl, rfl, at_off fR, (by decide), (by decide), (by rw [sizeLine_eq]; show _ * 13 ≤ _; omega), fun p1 np1 => ?_⟩
    have daB := dpAll_reps daR 13
    rw [reps_map] at daB
    have e13 : (13 : Int).toNat = 13 := rfl
    rw [e13]
    have fp1 := off_new (o := .lst (List.replicate 13 xs).flatten) lv np1
    have lv := lv.put (o := .lst (List.replicate 13 xs).flatten) np1
    have B := B.same (same_upd (o := .lst (List.replicate 13 xs).flatten) np1)
    have sc := sc.trans (sm_put (S := [d, c]) (o := .lst (List.replicate 13 xs).flatten) np1)
    have fR := (sm_put (S := S) (o := .lst (List.replicate 13 xs).flatten) np1) _ _ fR
    have dpP := dp_same ((sm_put (S := S) (o := .lst (List.replicate 13 xs).flatten) np1)) dpP
    have daR := dpAll_same ((sm_put (S := S) (o := .lst (List.replicate 13 xs).flatten) np1)) daR
    have daB := dpAll_same ((sm_put (S := S) (o := .lst (List.replicate 13 xs).flatten) np1)) daB
    generalize upd H5 p1 (.lst (List.replicate 13 xs).flatten) = H6 at fp1 lv B sc fR dpP daR daB ⊢
    refine ⟨13, rfl, p1, _, rfl, SqL.of (at_off fp1), fun Lg nLg => ?_⟩
    obtain ⟨ys, eys⟩ : ∃ ys, cutV (List.replicate 13 xs).flatten none (some 13) = ys := ⟨_, rfl⟩
    obtain ⟨lr, elr⟩ : ∃ lr, (List.replicate 13 rows).flatten.take 13 = lr := ⟨_, rfl⟩
    have daL : DpAll K (off H6 S) ys (lr.map rowD) := by
      rw [← eys, show (13 : Int) = ((13 : Nat) : Int) from rfl, cut_head, ← elr, List.map_take]
      exact dpAll_take _ daB
    have llr : lr.length = 13 := by rw [← elr, List.length_take, reps_len]; omega
    have mlr : ∀ r ∈ lr, r ∈ rows := fun r h => by rw [← elr] at h; exact reps_mem (List.mem_of_mem_take h)
    rw [eys]
    have fLg := off_new (o := .lst ys) lv nLg
    have lv := lv.put (o := .lst ys) nLg
    have B := B.same (same_upd (o := .lst ys) nLg)
    have sc := sc.trans (sm_put (S := [d, c]) (o := .lst ys) nLg)
    have fR := (sm_put (S := S) (o := .lst ys) nLg) _ _ fR
    have dpP := dp_same ((sm_put (S := S) (o := .lst ys) nLg)) dpP
    have daR := dpAll_same ((sm_put (S := S) (o := .lst ys) nLg)) daR
    have daL := dpAll_same ((sm_put (S := S) (o := .lst ys) nLg)) daL
    generalize upd H6 Lg (.lst ys) = H7 at fLg lv B sc fR dpP daR daL ⊢
    have daM : DpAll K (off H7 S) (ys.take 12) ((lr.take 12).map rowD) := by rw [List.map_take]; exact dpAll_take _ daL
    have mlm : ∀ r ∈ lr.take 12, r ∈ rows := fun r h => mlr r (List.mem_of_mem_take h)
    have llm : (lr.take 12).length = 12 := by rw [List.length_take]; omega
    have ec12 : cutV ys none (some 12) = ys.take 12 := by rw [show (12 : Int) = ((12 : Nat) : Int) from rfl, cut_head]
    refine ⟨_, rfl, _, rfl, _, rfl, 12, rfl, Lg, _, rfl, SqL.of (at_off fLg), fun M nM => ?_⟩
    rw [ec12]
    have fM := off_new (o := .lst (ys.take 12)) lv nM
    have lv := lv.put (o := .lst (ys.take 12)) nM
    have B := B.same (same_upd (o := .lst (ys.take 12)) nM)
    have sc := sc.trans (sm_put (S := [d, c]) (o := .lst (ys.take 12)) nM)
    have fR := (sm_put (S := S) (o := .lst (ys.take 12)) nM) _ _ fR
    have fLg := (sm_put (S := S) (o := .lst (ys.take 12)) nM) _ _ fLg
    have dpP := dp_same ((sm_put (S := S) (o := .lst (ys.take 12)) nM)) dpP
    have daR := dpAll_same ((sm_put (S := S) (o := .lst (ys.take 12)) nM)) daR
    have daL := dpAll_same ((sm_put (S := S) (o := .lst (ys.take 12)) nM)) daL
    have daM := dpAll_same ((sm_put (S := S) (o := .lst (ys.take 12)) nM)) daM
    generalize upd H7 M (.lst (ys.take 12)) = H8 at fM lv B sc fR fLg dpP daR daL daM ⊢
    refine ⟨Nat.zero_le _, fun p4 np4 => ?_⟩
    have fp4 := off_new (o := .lst []) lv np4
    have lv := lv.put (o := .lst []) np4
    have B := B.same (same_upd (o := .lst []) np4)
    have sc := sc.trans (sm_put (S := [d, c]) (o := .lst []) np4)
    have fR := (sm_put (S := S) (o := .lst []) np4) _ _ fR
    have fLg := (sm_put (S := S) (o := .lst []) np4) _ _ fLg
    have fM := (sm_put (S := S) (o := .lst []) np4) _ _ fM
    have dpP := dp_same ((sm_put (S := S) (o := .lst []) np4)) dpP
    have daR := dpAll_same ((sm_put (S := S) (o := .lst []) np4)) daR
    have daL := dpAll_same ((sm_put (S := S) (o := .lst []) np4)) daL
    have daM := dpAll_same ((sm_put (S := S) (o := .lst []) np4)) daM
    generalize upd H8 p4 (.lst []) = H9 at fp4 lv B sc fR fLg fM dpP daR daL daM ⊢
    refine ⟨Nat.zero_le _, fun p5 np5 => ?_⟩
    have fp5 := off_new (o := .tup []) lv np5
    have lv := lv.put (o := .tup []) np5
    have B := B.same (same_upd (o := .tup []) np5)
    have sc := sc.trans (sm_put (S := [d, c]) (o := .tup []) np5)
    have fR := (sm_put (S := S) (o := .tup []) np5) _ _ fR
    have fLg := (sm_put (S := S) (o := .tup []) np5) _ _ fLg
    have fM := (sm_put (S := S) (o := .tup []) np5) _ _ fM
    have fp4 := (sm_put (S := S) (o := .tup []) np5) _ _ fp4
    have dpP := dp_same ((sm_put (S := S) (o := .tup []) np5)) dpP
    have daR := dpAll_same ((sm_put (S := S) (o := .tup []) np5)) daR
    have daL := dpAll_same ((sm_put (S := S) (o := .tup []) np5)) daL
    have daM := dpAll_same ((sm_put (S := S) (o := .tup []) np5)) daM
    generalize upd H9 p5 (.tup []) = H10 at fp5 lv B sc fR fLg fM fp4 dpP daR daL daM ⊢
    refine ⟨_, rfl, R, _, rfl, .inl ⟨SqL.of (at_off fR), fun p6 np6 => ?_⟩⟩
    have fp6 := off_new (o := .tup xs) lv np6
    have lv := lv.put (o := .tup xs) np6
    have B := B.same (same_upd (o := .tup xs) np6)
    have sc := sc.trans (sm_put (S := [d, c]) (o := .tup xs) np6)
    have fR := (sm_put (S := S) (o := .tup xs) np6) _ _ fR
    have fLg := (sm_put (S := S) (o := .tup xs) np6) _ _ fLg
    have fM := (sm_put (S := S) (o := .tup xs) np6) _ _ fM
    have fp4 := (sm_put (S := S) (o := .tup xs) np6) _ _ fp4
    have fp5 := (sm_put (S := S) (o := .tup xs) np6) _ _ fp5
    have dpP := dp_same ((sm_put (S := S) (o := .tup xs) np6)) dpP
    have daR := dpAll_same ((sm_put (S := S) (o := .tup xs) np6)) daR
    have daL := dpAll_same ((sm_put (S := S) (o := .tup xs) np6)) daL
    have daM := dpAll_same ((sm_put (S := S) (o := .tup xs) np6)) daM
    generalize upd H10 p6 (.tup xs) = H11 at fp6 lv B sc fR fLg fM fp4 fp5 dpP daR daL daM ⊢
    refine ⟨_, rfl, (by show 1 ≤ sizeLine; decide), fun p7 np7 => ?_⟩
    have fp7 := off_new (o := .lst [.ref R]) lv np7
    have lv := lv.put (o := .lst [.ref R]) np7
    have B := B.same (same_upd (o := .lst [.ref R]) np7)
    have sc := sc.trans (sm_put (S := [d, c]) (o := .lst [.ref R]) np7)
    have fR := (sm_put (S := S) (o := .lst [.ref R]) np7) _ _ fR
    have fLg := (sm_put (S := S) (o := .lst [.ref R]) np7) _ _ fLg
    have fM := (sm_put (S := S) (o := .lst [.ref R]) np7) _ _ fM
    have fp4 := (sm_put (S := S) (o := .lst [.ref R]) np7) _ _ fp4
    have fp5 := (sm_put (S := S) (o := .lst [.ref R]) np7) _ _ fp5
    have fp6 := (sm_put (S := S) (o := .lst [.ref R]) np7) _ _ fp6
    have dpP := dp_same ((sm_put (S := S) (o := .lst [.ref R]) np7)) dpP
    have daR := dpAll_same ((sm_put (S := S) (o := .lst [.ref R]) np7)) daR
    have daL := dpAll_same ((sm_put (S := S) (o := .lst [.ref R]) np7)) daL
    have daM := dpAll_same ((sm_put (S := S) (o := .lst [.ref R]) np7)) daM
    generalize upd H11 p7 (.lst [.ref R]) = H12 at fp7 lv B sc fR fLg fM fp4 fp5 fp6 dpP daR daL daM ⊢
    obtain ⟨x0, g0⟩ : ∃ x0, xs[0]? = some x0 := ⟨xs[0]'(by omega), List.getElem?_eq_getElem (by omega)⟩
    obtain ⟨d0, gd0, dpx⟩ := dpAll_at daR g0
    rw [List.getElem?_map] at gd0
    obtain ⟨r0_, gr0, rfl⟩ := Option.map_eq_some_iff.mp gd0
    have a0 : atI xs 0 = some x0 := by
      show atI xs ((0 : Nat) : Int) = _
      exact atI_nat g0
    refine ⟨_, rfl, R, _, 0, _, rfl, rfl, SqL.of (at_off fR), a0, ?_⟩
    refine ⟨(by show 12 ≤ sizeLine; decide), fun t nt => ?_⟩
    have ft := off_new (o := .tup [.ref R, .ref Lg, .ref M, .ref p4, .ref p5, .non, .bl true, .int 0, .str (Str.ofString ""), .ref p6, .ref p7, x0]) lv nt
    have lv := lv.put (o := .tup [.ref R, .ref Lg, .ref M, .ref p4, .ref p5, .non, .bl true, .int 0, .str (Str.ofString ""), .ref p6, .ref p7, x0]) nt
    have B := B.same (same_upd (o := .tup [.ref R, .ref Lg, .ref M, .ref p4, .ref p5, .non, .bl true, .int 0, .str (Str.ofString ""), .ref p6, .ref p7, x0]) nt)
    have sc := sc.trans (sm_put (S := [d, c]) (o := .tup [.ref R, .ref Lg, .ref M, .ref p4, .ref p5, .non, .bl true, .int 0, .str (Str.ofString ""), .ref p6, .ref p7, x0]) nt)
    have fR := (sm_put (S := S) (o := .tup [.ref R, .ref Lg, .ref M, .ref p4, .ref p5, .non, .bl true, .int 0, .str (Str.ofString ""), .ref p6, .ref p7, x0]) nt) _ _ fR
    have fLg := (sm_put (S := S) (o := .tup [.ref R, .ref Lg, .ref M, .ref p4, .ref p5, .non, .bl true, .int 0, .str (Str.ofString ""), .ref p6, .ref p7, x0]) nt) _ _ fLg
    have fM := (sm_put (S := S) (o := .tup [.ref R, .ref Lg, .ref M, .ref p4, .ref p5, .non, .bl true, .int 0, .str (Str.ofString ""), .ref p6, .ref p7, x0]) nt) _ _ fM
    have fp4 := (sm_put (S := S) (o := .tup [.ref R, .ref Lg, .ref M, .ref p4, .ref p5, .non, .bl true, .int 0, .str (Str.ofString ""), .ref p6, .ref p7, x0]) nt) _ _ fp4
    have fp5 := (sm_put (S := S) (o := .tup [.ref R, .ref Lg, .ref M, .ref p4, .ref p5, .non, .bl true, .int 0, .str (Str.ofString ""), .ref p6, .ref p7, x0]) nt) _ _ fp5
    have fp6 := (sm_put (S := S) (o := .tup [.ref R, .ref Lg, .ref M, .ref p4, .ref p5, .non, .bl true, .int 0, .str (Str.ofString ""), .ref p6, .ref p7, x0]) nt) _ _ fp6
    have fp7 := (sm_put (S := S) (o := .tup [.ref R, .ref Lg, .ref M, .ref p4, .ref p5, .non, .bl true, .int 0, .str (Str.ofString ""), .ref p6, .ref p7, x0]) nt) _ _ fp7
    have dpP := dp_same ((sm_put (S := S) (o := .tup [.ref R, .ref Lg, .ref M, .ref p4, .ref p5, .non, .bl true, .int 0, .str (Str.ofString ""), .ref p6, .ref p7, x0]) nt)) dpP
    have daR := dpAll_same ((sm_put (S := S) (o := .tup [.ref R, .ref Lg, .ref M, .ref p4, .ref p5, .non, .bl true, .int 0, .str (Str.ofString ""), .ref p6, .ref p7, x0]) nt)) daR
    have daL := dpAll_same ((sm_put (S := S) (o := .tup [.ref R, .ref Lg, .ref M, .ref p4, .ref p5, .non, .bl true, .int 0, .str (Str.ofString ""), .ref p6, .ref p7, x0]) nt)) daL
    have daM := dpAll_same ((sm_put (S := S) (o := .tup [.ref R, .ref Lg, .ref M, .ref p4, .ref p5, .non, .bl true, .int 0, .str (Str.ofString ""), .ref p6, .ref p7, x0]) nt)) daM
    have dpx := dp_same ((sm_put (S := S) (o := .tup [.ref R, .ref Lg, .ref M, .ref p4, .ref p5, .non, .bl true, .int 0, .str (Str.ofString ""), .ref p6, .ref p7, x0]) nt)) dpx
    generalize upd H12 t (.tup [.ref R, .ref Lg, .ref M, .ref p4, .ref p5, .non, .bl true, .int 0, .str (Str.ofString ""), .ref p6, .ref p7, x0]) = H13 at ft lv B sc fR fLg fM fp4 fp5 fp6 fp7 dpP daR daL daM dpx ⊢
    have bR := bd_rows ro (l := rows) (fun _ h => h) (by omega)
    have bL := bd_rows ro mlr (by omega)
    have bM := bd_rows ro mlm (by omega)
    have dT : DpAll K (off H13 S) [.ref R, .ref Lg, .ref M, .ref p4, .ref p5, .non, .bl true, .int 0, .str (Str.ofString ""), .ref p6, .ref p7, x0] [.list (rows.map rowD), .list (lr.map rowD), .list ((lr.take 12).map rowD), .list [], .tuple [], .none, .bool true, .int 0, .str (Str.ofString ""), .tuple (rows.map rowD), .list [.list (rows.map rowD)], rowD r0_] :=
      .cons (.lst (SqL.of fR) daR) (.cons (.lst (SqL.of fLg) daL) (.cons (.lst (SqL.of fM) daM) (.cons (.lst (SqL.of fp4) .nil) (.cons (.tup (.inl (.inl fp5)) .nil) (.cons .non (.cons (.bl _) (.cons (.int _) (.cons (.str _) (.cons (.tup (.inl (.inl fp6)) daR) (.cons (.lst (SqL.of fp7) (.cons (.lst (SqL.of fR) daR) .nil)) (.cons dpx .nil)))))))))))
    have tT : ∀ e ∈ ([.list (rows.map rowD), .list (lr.map rowD), .list ((lr.take 12).map rowD), .list [], .tuple [], .none, .bool true, .int 0, .str (Str.ofString ""), .tuple (rows.map rowD), .list [.list (rows.map rowD)], rowD r0_] : List PyData), Bd 9 99 40000 4 20 e := by
      intro e he
      simp only [List.mem_cons, List.not_mem_nil, or_false] at he
      have up : ∀ {C' D' W' : Nat} {dd : PyData}, Bd 9 99 C' D' W' dd → C' ≤ 40000 → D' ≤ 4 → W' ≤ 20 → Bd 9 99 40000 4 20 dd := fun h a b c => h.mono (Nat.le_refl _) (Nat.le_refl _) a b c
      rcases he with rfl | rfl | rfl | rfl | rfl | rfl | rfl | rfl | rfl | rfl | rfl | rfl
      · exact up bR.1 (by decide) (by decide) (by decide)
      · exact up bL.1 (by decide) (by decide) (by decide)
      · exact up bM.1 (by decide) (by decide) (by decide)
      · exact up ((Bds.nil (D := 0) (W := 1)).list (Nat.zero_le 1)) (by decide) (by decide) (by decide)
      · exact up ((Bds.nil (D := 0) (W := 1)).tuple (Nat.zero_le 1)) (by decide) (by decide) (by decide)
      · exact up bd_none (by decide) (by decide) (by decide)
      · exact up (bd_bool _) (by decide) (by decide) (by decide)
      · exact up (bd_int (by decide)) (by decide) (by decide) (by decide)
      · exact up (bd_str (by decide +kernel) (by decide) (by decide +kernel)) (by decide) (by decide) (by decide)
      · exact up bR.2 (by decide) (by decide) (by decide)
      · exact up ((Bds.one bR.1).list (by show 1 ≤ 20; decide)) (by decide) (by decide) (by decide)
      · exact up (bd_row (ro.each r0_ (List.mem_of_getElem? gr0))) (by decide) (by decide) (by decide)
    refine ⟨t, rfl, ⟨_, .inl (.inl (at_off ft))⟩, ?_⟩
    refine for_it (walk_tup (xs := [.ref R, .ref Lg, .ref M, .ref p4, .ref p5, .non, .bl true, .int 0, .str (Str.ofString ""), .ref p6, .ref p7, x0])) (fun i σ H14 => ∃ v5, σ = [some (.ref a), some (.ref d), some v, some (.ref R), some (.ref Lg), v5, none, none, none] ∧ Same H13 H14) ⟨_, rfl, Same.refl _⟩ (fun i σ H14 _ h => by obtain ⟨_, _, h⟩ := h; exact .inl (.inl (h _ _ (at_off ft)))) ?_ ?_
    · rintro i y σ H14 H15 hi ⟨v5, rfl, s14⟩ ⟨rfl, gy⟩
      obtain ⟨e, ge, dpy⟩ := dpAll_at dT gy
      have be := tT e (List.mem_of_getElem? ge)
      have sf := (off_sub (S := S)).trans s14
      refine ⟨_, rfl, _, rfl, v, cs, ws, y, e, 9, 99, 40000, 4, 20, rfl, dp_same sf dpP, pb, dp_same sf dpy, be, by decide, by decide, by decide, by decide, fun H16 s16 => ?_⟩
      exact ⟨_, rfl, iteF ⟨_, rfl, s14.trans s16⟩⟩
    rintro σ H14 ⟨v5, rfl, s14⟩
    have lv := lv.same s14
    have sc := sc.trans (sm_of (S := [d, c]) s14)
    have B := B.same s14
    have fR := (sm_of (S := S) s14) _ _ fR
    have fLg := (sm_of (S := S) s14) _ _ fLg
    have dpP := dp_same ((sm_of (S := S) s14)) dpP
    have daR := dpAll_same ((sm_of (S := S) s14)) daR
    have daL := dpAll_same ((sm_of (S := S) s14)) daL
    have daM := dpAll_same ((sm_of (S := S) s14)) daM
    refine ⟨_, rfl, _, rfl, 12, rfl, Lg, _, rfl, SqL.of (at_off fLg), fun M2 nM2 => ?_⟩
    rw [ec12]
    have fM2 := off_new (o := .lst (ys.take 12)) lv nM2
    have lv := lv.put (o := .lst (ys.take 12)) nM2
    have B := B.same (same_upd (o := .lst (ys.take 12)) nM2)
    have sc := sc.trans (sm_put (S := [d, c]) (o := .lst (ys.take 12)) nM2)
    have fR := (sm_put (S := S) (o := .lst (ys.take 12)) nM2) _ _ fR
    have fLg := (sm_put (S := S) (o := .lst (ys.take 12)) nM2) _ _ fLg
    have dpP := dp_same ((sm_put (S := S) (o := .lst (ys.take 12)) nM2)) dpP
    have daR := dpAll_same ((sm_put (S := S) (o := .lst (ys.take 12)) nM2)) daR
    have daL := dpAll_same ((sm_put (S := S) (o := .lst (ys.take 12)) nM2)) daL
    have daM := dpAll_same ((sm_put (S := S) (o := .lst (ys.take 12)) nM2)) daM
    generalize upd H14 M2 (.lst (ys.take 12)) = H15 at fM2 lv B sc fR fLg dpP daR daL daM ⊢
    refine ⟨_, rfl, (by show 3 ≤ sizeLine; decide), fun t2 nt2 => ?_⟩
    have ft2 := off_new (o := .tup [.ref R, .ref M2, .ref Lg]) lv nt2
    have lv := lv.put (o := .tup [.ref R, .ref M2, .ref Lg]) nt2
    have B := B.same (same_upd (o := .tup [.ref R, .ref M2, .ref Lg]) nt2)
    have sc := sc.trans (sm_put (S := [d, c]) (o := .tup [.ref R, .ref M2, .ref Lg]) nt2)
    have fR := (sm_put (S := S) (o := .tup [.ref R, .ref M2, .ref Lg]) nt2) _ _ fR
    have fLg := (sm_put (S := S) (o := .tup [.ref R, .ref M2, .ref Lg]) nt2) _ _ fLg
    have fM2 := (sm_put (S := S) (o := .tup [.ref R, .ref M2, .ref Lg]) nt2) _ _ fM2
    have dpP := dp_same ((sm_put (S := S) (o := .tup [.ref R, .ref M2, .ref Lg]) nt2)) dpP
    have daR := dpAll_same ((sm_put (S := S) (o := .tup [.ref R, .ref M2, .ref Lg]) nt2)) daR
    have daL := dpAll_same ((sm_put (S := S) (o := .tup [.ref R, .ref M2, .ref Lg]) nt2)) daL
    have daM := dpAll_same ((sm_put (S := S) (o := .tup [.ref R, .ref M2, .ref Lg]) nt2)) daM
    generalize upd H15 t2 (.tup [.ref R, .ref M2, .ref Lg]) = H16 at ft2 lv B sc fR fLg fM2 dpP daR daL daM ⊢
    refine ⟨t2, rfl, ⟨_, .inl (.inl (at_off ft2))⟩, fun D nD => ?_⟩
    have dT2 : DpAll K (off H16 S) [.ref R, .ref M2, .ref Lg] [.list (rows.map rowD), .list ((lr.take 12).map rowD), .list (lr.map rowD)] := .cons (.lst (SqL.of fR) daR) (.cons (.lst (SqL.of fM2) daM) (.cons (.lst (SqL.of fLg) daL) .nil))
    have er : [PyData.list (rows.map rowD), .list ((lr.take 12).map rowD), .list (lr.map rowD)].map (rowsD cs) = [true, true, false] := by
      show [rowsD cs _, rowsD cs _, rowsD cs _] = _
      rw [rows_are ro (fun _ h => h), rows_are ro mlm, rows_are ro mlr, llr, llm, decide_eq_true l1, decide_eq_true l12]; rfl
    refine lc_it (walk_tup (xs := [.ref R, .ref M2, .ref Lg])) (PvL H16 D fun i => (([PyData.list (rows.map rowD), .list ((lr.take 12).map rowD), .list (lr.map rowD)].map (rowsD cs)).take i).map V.bl) (pv_start nD rfl) (fun i H2 _ h => .inl (.inl (h.1 _ _ (at_off ft2)))) ?_ ?_
    · rintro i y H17 H18 hi p ⟨rfl, gy⟩
      obtain ⟨e, ge, dpy⟩ := dpAll_at dT2 gy
      have be : Bd 9 99 30000 2 20 e := by
        have := List.mem_of_getElem? ge
        simp only [List.mem_cons, List.not_mem_nil, or_false] at this
        rcases this with rfl | rfl | rfl
        · exact bR.1
        · exact bM.1
        · exact bL.1
      have sf := (off_sub (S := S)).trans p.1
      refine ⟨rfl, tYes_at ?_⟩
      rw [if_pos rfl]
      refine ⟨_, rfl, _, rfl, v, cs, ws, y, e, 99, rfl, dp_same sf dpP, pb, dp_same sf dpy, be.t.g, Nat.le_trans be.t.d (by decide), Nat.le_trans be.t.w (by decide), fun H19 s19 => ?_⟩
      exact pv_put nD p s19 (take_map V.bl (by rw [List.getElem?_map, ge]; rfl)) (take_len_le (by show 3 < 100000; decide))
    intro H17 p
    obtain ⟨s17, hD⟩ := pv_end p (show _ = [V.bl true, .bl true, .bl false] by rw [er]; rfl)
    have lv := lv.same s17
    have sc := sc.trans (sm_of (S := [d, c]) s17)
    have B := B.same s17
    have fR := (sm_of (S := S) s17) _ _ fR
    have dpP := dp_same ((sm_of (S := S) s17)) dpP
    have daR := dpAll_same ((sm_of (S := S) s17)) daR
    refine ⟨(by show 3 ≤ sizeLine; decide), fun E3 nE3 => ?_⟩
    have hD := same_upd (o := .lst [.bl true, .bl true, .bl false]) nE3 _ _ hD
    have fE3 := off_new (o := .lst [.bl true, .bl true, .bl false]) lv nE3
    have lv := lv.put (o := .lst [.bl true, .bl true, .bl false]) nE3
    have B := B.same (same_upd (o := .lst [.bl true, .bl true, .bl false]) nE3)
    have sc := sc.trans (sm_put (S := [d, c]) (o := .lst [.bl true, .bl true, .bl false]) nE3)
    have fR := (sm_put (S := S) (o := .lst [.bl true, .bl true, .bl false]) nE3) _ _ fR
    have dpP := dp_same ((sm_put (S := S) (o := .lst [.bl true, .bl true, .bl false]) nE3)) dpP
    have daR := dpAll_same ((sm_put (S := S) (o := .lst [.bl true, .bl true, .bl false]) nE3)) daR
    generalize upd H17 E3 (.lst [.bl true, .bl true, .bl false]) = H18 at fE3 lv B sc fR hD dpP daR ⊢
    refine ⟨.list [.bool true, .bool true, .bool false], .list [.bool true, .bool true, .bool false], .lst (SqL.of hD) (.cons (.bl _) (.cons (.bl _) (.cons (.bl _) .nil))), .lst (SqL.of (at_off fE3)) (.cons (.bl _) (.cons (.bl _) (.cons (.bl _) .nil))), rfl, rfl, _, rfl, iteF ?_⟩
    refine ⟨_, rfl, (by decide), (by decide), ?_⟩
    refine for_it walk_range (fun i σ H19 => ∃ v5 v6 v7, σ = [some (.ref a), some (.ref d), some v, some (.ref R), some (.ref Lg), v5, v6, v7, none] ∧ StAt H19 d c (3000 + 20 * i) ∧ Dp K (off H19 S) v (palD cs ws) ∧ off H19 S R = some (.lst xs) ∧ DpAll K (off H19 S) xs (rows.map rowD)) ⟨_, _, _, rfl, B.mono (by decide), dpP, fR, daR⟩ (fun _ _ _ _ _ => trivial) ?_ ?_
    · rintro i y σ H19 H20 hi ⟨v5, v6, v7, rfl, B, dpP, fR, daR⟩ ⟨rfl, rfl⟩
      have hi3 : i < 30 := hi
      generalize hm : 3000 + 20 * i = m at B
      have hmm : m < 10000 := by omega
      have lv : Live S H20 := by rw [eS]; exact Live.two B
      have sc : Sm [d, c] H20 H20 := Same.refl _
      refine ⟨_, rfl, d, c, 3, _, rfl, (by decide), (by decide), B, by omega, fun H21 r r0 r1 B21 s21 => ⟨rfl, ?_⟩⟩
      have lv := lv.st B21 s21
      have sc := sc.trans s21
      have B := B21
      have fR := (sm_two hd hc s21) _ _ fR
      have dpP := dp_same ((sm_two hd hc s21)) dpP
      have daR := dpAll_same ((sm_two hd hc s21)) daR
      have dR2 : Dp K (off H21 [d, c]) (.ref R) (.list (rows.map rowD)) := by rw [← eS]; exact .lst (SqL.of fR) daR
      refine ⟨_, rfl, _, rfl, d, c, _, .ref R, _, 9, 99, 30000, 2, 20, rfl, B, by omega, dR2, bR.1, by decide, by decide, by decide, by decide, by decide, by decide, by decide, fun H22 y e B22 s22 dy by_ => ?_⟩
      have dy : Dp K (off H22 S) y e := by rw [eS]; exact dy
      have lv := lv.st B22 s22
      have sc := sc.trans s22
      have B := B22
      have fR := (sm_two hd hc s22) _ _ fR
      have dpP := dp_same ((sm_two hd hc s22)) dpP
      have daR := dpAll_same ((sm_two hd hc s22)) daR
      have c2 : capB 2 30000 = 170020 := rfl
      rw [c2] at by_
      refine ⟨_, rfl, _, rfl, _, rfl, ite2 (fun h1 => ?_) (fun h1 => ?_)⟩
      · have dy2 : Dp K (off H22 [d, c]) y e := by rw [← eS]; exact dy
        refine ⟨_, rfl, _, rfl, d, c, _, y, e, 28, 199, 170020, 4, 21, rfl, B, by omega, dy2, by_, by decide, by decide, by decide, by decide, by decide, by decide, by decide, fun H23 y2 e2 B23 s23 dz bz => ?_⟩
        have dz : Dp K (off H23 S) y2 e2 := by rw [eS]; exact dz
        have lv := lv.st B23 s23
        have sc := sc.trans s23
        have B := B23
        have fR := (sm_two hd hc s23) _ _ fR
        have dpP := dp_same ((sm_two hd hc s23)) dpP
        have daR := dpAll_same ((sm_two hd hc s23)) daR
        have c4 : capB 4 170020 = 1210180 := rfl
        rw [c4] at bz
        refine ⟨v, cs, ws, y2, e2, _, _, _, _, _, rfl, dp_off dpP, pb, dp_off dz, bz, by decide, by decide, by decide, by decide, fun H24 s24 => ?_⟩
        have lv := lv.same s24
        have sc := sc.trans (sm_of (S := [d, c]) s24)
        have B := B.same s24
        have fR := (sm_of (S := S) s24) _ _ fR
        have dpP := dp_same ((sm_of (S := S) s24)) dpP
        have daR := dpAll_same ((sm_of (S := S) s24)) daR
        exact ⟨_, rfl, iteF ⟨_, _, _, rfl, B.mono (by omega), dpP, fR, daR⟩⟩
      · refine ⟨_, rfl, v, cs, ws, y, e, _, _, _, _, _, rfl, dp_off dpP, pb, dp_off dy, by_, by decide, by decide, by decide, by decide, fun H24 s24 => ?_⟩
        have lv := lv.same s24
        have sc := sc.trans (sm_of (S := [d, c]) s24)
        have B := B.same s24
        have fR := (sm_of (S := S) s24) _ _ fR
        have dpP := dp_same ((sm_of (S := S) s24)) dpP
        have daR := dpAll_same ((sm_of (S := S) s24)) daR
        exact ⟨_, rfl, iteF ⟨_, _, _, rfl, B.mono (by omega), dpP, fR, daR⟩⟩
    · rintro σ H19 ⟨v5, v6, v7, rfl, B, dpP, fR, daR⟩
      exact q _

end
end Pot

namespace Pot
open PySem PySem.Spec PyProof.Rows L2
theorem all_mk {l : PySem.W.OpenLaw} {w : World} {K : PySem.W.Frag} {h : Heap} {mg : Str → Option Value} {fa : Addr} (X : K.In h) (G : h.Ns mainGlobals mg) (hfa : mg "law" = some (.ref fa))
    {f1 : Addr} {od1 an1 : Option Addr} {sl1 : Array (Option Value)} {oc1 kV1 dc1 pm1 cd1 ct1 : Value}
    {f2 : Addr} {od2 an2 : Option Addr} {sl2 : Array (Option Value)} {oc2 kV2 dc2 pm2 cd2 ct2 : Value}
    {f3 : Addr} {od3 an3 : Option Addr} {sl3 : Array (Option Value)} {oc3 kV3 dc3 pm3 cd3 ct3 : Value}
    {f4 : Addr} {od4 an4 : Option Addr} {sl4 : Array (Option Value)} {oc4 kV4 dc4 pm4 cd4 ct4 : Value}
    {f5 : Addr} {od5 an5 : Option Addr} {sl5 : Array (Option Value)} {oc5 kV5 dc5 pm5 cd5 ct5 : Value}
    {f6 : Addr} {od6 an6 : Option Addr} {sl6 : Array (Option Value)} {oc6 kV6 dc6 pm6 cd6 ct6 : Value}
    {f7 : Addr} {od7 an7 : Option Addr} {sl7 : Array (Option Value)} {oc7 kV7 dc7 pm7 cd7 ct7 : Value}
    {f8 : Addr} {od8 an8 : Option Addr} {sl8 : Array (Option Value)} {oc8 kV8 dc8 pm8 cd8 ct8 : Value}
    {f9 : Addr} {od9 an9 : Option Addr} {sl9 : Array (Option Value)} {oc9 kV9 dc9 pm9 cd9 ct9 : Value}
    {f10 : Addr} {od10 an10 : Option Addr} {sl10 : Array (Option Value)} {oc10 kV10 dc10 pm10 cd10 ct10 : Value}
    {f11 : Addr} {od11 an11 : Option Addr} {sl11 : Array (Option Value)} {oc11 kV11 dc11 pm11 cd11 ct11 : Value}
    {f12 : Addr} {od12 an12 : Option Addr} {sl12 : Array (Option Value)} {oc12 kV12 dc12 pm12 cd12 ct12 : Value}
    {f13 : Addr} {od13 an13 : Option Addr} {sl13 : Array (Option Value)} {oc13 kV13 dc13 pm13 cd13 ct13 : Value}
    {f14 : Addr} {od14 an14 : Option Addr} {sl14 : Array (Option Value)} {oc14 kV14 dc14 pm14 cd14 ct14 : Value}
    {f15 : Addr} {od15 an15 : Option Addr} {sl15 : Array (Option Value)} {oc15 kV15 dc15 pm15 cd15 ct15 : Value}
    {f16 : Addr} {od16 an16 : Option Addr} {sl16 : Array (Option Value)} {oc16 kV16 dc16 pm16 cd16 ct16 : Value}
    {f17 : Addr} {od17 an17 : Option Addr} {sl17 : Array (Option Value)} {oc17 kV17 dc17 pm17 cd17 ct17 : Value}
    {f18 : Addr} {od18 an18 : Option Addr} {sl18 : Array (Option Value)} {oc18 kV18 dc18 pm18 cd18 ct18 : Value}
    {f19 : Addr} {od19 an19 : Option Addr} {sl19 : Array (Option Value)} {oc19 kV19 dc19 pm19 cd19 ct19 : Value}
    {tc1 : Tok}
    (a1 : PySem.W.nsIn K mainGlobals "is_number" = some (some (.ref f1))) (l1 : K.lookup f1 = some ⟨oc1, od1, .func (PySem.W.fnOf "is_number" "is_number" (defArgs s_is_number) (defBody s_is_number) (defScope s_is_number) .none kV1 dc1 pm1 an1 cd1 ct1), sl1⟩) (c1 : PySem.W.codeIn K cd1 "is_number" = true) (k1 : PySem.W.keepIn K (.ref f1) = true)
    (a2 : PySem.W.nsIn K mainGlobals "is_name" = some (some (.ref f2))) (l2 : K.lookup f2 = some ⟨oc2, od2, .func (PySem.W.fnOf "is_name" "is_name" (defArgs s_is_name) (defBody s_is_name) (defScope s_is_name) .none kV2 dc2 pm2 an2 cd2 ct2), sl2⟩) (c2 : PySem.W.codeIn K cd2 "is_name" = true) (k2 : PySem.W.keepIn K (.ref f2) = true)
    (a3 : PySem.W.nsIn K mainGlobals "is_row" = some (some (.ref f3))) (l3 : K.lookup f3 = some ⟨oc3, od3, .func (PySem.W.fnOf "is_row" "is_row" (defArgs s_is_row) (defBody s_is_row) (defScope s_is_row) .none kV3 dc3 pm3 an3 cd3 ct3), sl3⟩) (c3 : PySem.W.codeIn K cd3 "is_row" = true) (k3 : PySem.W.keepIn K (.ref f3) = true)
    (a4 : PySem.W.nsIn K mainGlobals "colour_names" = some (some (.ref f4))) (l4 : K.lookup f4 = some ⟨oc4, od4, .func (PySem.W.fnOf "colour_names" "colour_names" (defArgs s_colour_names) (defBody s_colour_names) (defScope s_colour_names) .none kV4 dc4 pm4 an4 cd4 ct4), sl4⟩) (c4 : PySem.W.codeIn K cd4 "colour_names" = true) (k4 : PySem.W.keepIn K (.ref f4) = true)
    (a5 : PySem.W.nsIn K mainGlobals "is_rows" = some (some (.ref f5))) (l5 : K.lookup f5 = some ⟨oc5, od5, .func (PySem.W.fnOf "is_rows" "is_rows" (defArgs s_is_rows) (defBody s_is_rows) (defScope s_is_rows) .none kV5 dc5 pm5 an5 cd5 ct5), sl5⟩) (c5 : PySem.W.codeIn K cd5 "is_rows" = true) (k5 : PySem.W.keepIn K (.ref f5) = true)
    (a6 : PySem.W.nsIn K mainGlobals "is_round_row" = some (some (.ref f6))) (l6 : K.lookup f6 = some ⟨oc6, od6, .func (PySem.W.fnOf "is_round_row" "is_round_row" (defArgs s_is_round_row) (defBody s_is_round_row) (defScope s_is_round_row) .none kV6 dc6 pm6 an6 cd6 ct6), sl6⟩) (c6 : PySem.W.codeIn K cd6 "is_round_row" = true) (k6 : PySem.W.keepIn K (.ref f6) = true)
    (a7 : PySem.W.nsIn K mainGlobals "_law_begin" = some (some (.ref f7))) (l7 : K.lookup f7 = some ⟨oc7, od7, .func (PySem.W.fnOf "_law_begin" "_law_begin" (defArgs s__law_begin) (defBody s__law_begin) (defScope s__law_begin) .none kV7 dc7 pm7 an7 cd7 ct7), sl7⟩) (c7 : PySem.W.codeIn K cd7 "_law_begin" = true) (k7 : PySem.W.keepIn K (.ref f7) = true)
    (a8 : PySem.W.nsIn K mainGlobals "_law_take" = some (some (.ref f8))) (l8 : K.lookup f8 = some ⟨oc8, od8, .func (PySem.W.fnOf "_law_take" "_law_take" (defArgs s__law_take) (defBody s__law_take) (defScope s__law_take) .none kV8 dc8 pm8 an8 cd8 ct8), sl8⟩) (c8 : PySem.W.codeIn K cd8 "_law_take" = true) (k8 : PySem.W.keepIn K (.ref f8) = true)
    (a9 : PySem.W.nsIn K mainGlobals "_law_names" = some (some (.ref f9))) (l9 : K.lookup f9 = some ⟨oc9, od9, .func (PySem.W.fnOf "_law_names" "_law_names" (defArgs s__law_names) (defBody s__law_names) (defScope s__law_names) .none kV9 dc9 pm9 an9 cd9 ct9), sl9⟩) (c9 : PySem.W.codeIn K cd9 "_law_names" = true) (k9 : PySem.W.keepIn K (.ref f9) = true)
    (a10 : PySem.W.nsIn K mainGlobals "_law_palette" = some (some (.ref f10))) (l10 : K.lookup f10 = some ⟨oc10, od10, .func (PySem.W.fnOf "_law_palette" "_law_palette" (defArgs s__law_palette) (defBody s__law_palette) (defScope s__law_palette) .none kV10 dc10 pm10 an10 cd10 ct10), sl10⟩) (c10 : PySem.W.codeIn K cd10 "_law_palette" = true) (k10 : PySem.W.keepIn K (.ref f10) = true)
    (a11 : PySem.W.nsIn K mainGlobals "_law_rows" = some (some (.ref f11))) (l11 : K.lookup f11 = some ⟨oc11, od11, .func (PySem.W.fnOf "_law_rows" "_law_rows" (defArgs s__law_rows) (defBody s__law_rows) (defScope s__law_rows) .none kV11 dc11 pm11 an11 cd11 ct11), sl11⟩) (c11 : PySem.W.codeIn K cd11 "_law_rows" = true) (k11 : PySem.W.keepIn K (.ref f11) = true)
    (a12 : PySem.W.nsIn K mainGlobals "_law_is_name" = some (some (.ref f12))) (l12 : K.lookup f12 = some ⟨oc12, od12, .func (PySem.W.fnOf "_law_is_name" "_law_is_name" (defArgs s__law_is_name) (defBody s__law_is_name) (defScope s__law_is_name) .none kV12 dc12 pm12 an12 cd12 ct12), sl12⟩) (c12 : PySem.W.codeIn K cd12 "_law_is_name" = true) (k12 : PySem.W.keepIn K (.ref f12) = true)
    (a13 : PySem.W.nsIn K mainGlobals "_law_is_rows" = some (some (.ref f13))) (l13 : K.lookup f13 = some ⟨oc13, od13, .func (PySem.W.fnOf "_law_is_rows" "_law_is_rows" (defArgs s__law_is_rows) (defBody s__law_is_rows) (defScope s__law_is_rows) .none kV13 dc13 pm13 an13 cd13 ct13), sl13⟩) (c13 : PySem.W.codeIn K cd13 "_law_is_rows" = true) (k13 : PySem.W.keepIn K (.ref f13) = true)
    (a14 : PySem.W.nsIn K mainGlobals "_law_odd" = some (some (.ref f14))) (l14 : K.lookup f14 = some ⟨oc14, od14, .func (PySem.W.fnOf "_law_odd" "_law_odd" (defArgs s__law_odd) (defBody s__law_odd) (defScope s__law_odd) .none kV14 dc14 pm14 an14 cd14 ct14), sl14⟩) (c14 : PySem.W.codeIn K cd14 "_law_odd" = true) (k14 : PySem.W.keepIn K (.ref f14) = true)
    (a15 : PySem.W.nsIn K mainGlobals "_law_spots" = some (some (.ref f15))) (l15 : K.lookup f15 = some ⟨oc15, od15, .func (PySem.W.fnOf "_law_spots" "_law_spots" (defArgs s__law_spots) (defBody s__law_spots) (defScope s__law_spots) .none kV15 dc15 pm15 an15 cd15 ct15), sl15⟩) (c15 : PySem.W.codeIn K cd15 "_law_spots" = true) (k15 : PySem.W.keepIn K (.ref f15) = true)
    (a16 : PySem.W.nsIn K mainGlobals "_law_bent_at" = some (some (.ref f16))) (l16 : K.lookup f16 = some ⟨oc16, od16, .func (PySem.W.fnOf "_law_bent_at" "_law_bent_at" (defArgs s__law_bent_at) (defBody s__law_bent_at) (defScope s__law_bent_at) .none kV16 dc16 pm16 an16 cd16 ct16), sl16⟩) (c16 : PySem.W.codeIn K cd16 "_law_bent_at" = true) (k16 : PySem.W.keepIn K (.ref f16) = true)
    (a17 : PySem.W.nsIn K mainGlobals "_law_bent" = some (some (.ref f17))) (l17 : K.lookup f17 = some ⟨oc17, od17, .func (PySem.W.fnOf "_law_bent" "_law_bent" (defArgs s__law_bent) (defBody s__law_bent) (defScope s__law_bent) .none kV17 dc17 pm17 an17 cd17 ct17), sl17⟩) (c17 : PySem.W.codeIn K cd17 "_law_bent" = true) (k17 : PySem.W.keepIn K (.ref f17) = true)
    (a18 : PySem.W.nsIn K mainGlobals "_law_told_right" = some (some (.ref f18))) (l18 : K.lookup f18 = some ⟨oc18, od18, .func (PySem.W.fnOf "_law_told_right" "_law_told_right" (defArgs s__law_told_right) (defBody s__law_told_right) (defScope s__law_told_right) .none kV18 dc18 pm18 an18 cd18 ct18), sl18⟩) (c18 : PySem.W.codeIn K cd18 "_law_told_right" = true) (k18 : PySem.W.keepIn K (.ref f18) = true)
    (a19 : PySem.W.nsIn K mainGlobals "law" = some (some (.ref f19))) (l19 : K.lookup f19 = some ⟨oc19, od19, .func (PySem.W.fnOf "law" "law" (defArgs s_law) (defBody s_law) (defScope s_law) .none kV19 dc19 pm19 an19 cd19 ct19), sl19⟩) (c19 : PySem.W.codeIn K cd19 "law" = true) (k19 : PySem.W.keepIn K (.ref f19) = true)
    (z1 : PySem.W.nsIn K mainGlobals "len" = some none)
    (z2 : PySem.W.nsIn K mainGlobals "divmod" = some none)
    (z3 : PySem.W.nsIn K mainGlobals "range" = some none)
    (z4 : PySem.W.nsIn K mainGlobals "sum" = some none)
    (z5 : PySem.W.nsIn K mainGlobals "all" = some none)
    (z6 : PySem.W.nsIn K mainGlobals "any" = some none)
    (z7 : PySem.W.nsIn K mainGlobals "isinstance" = some none)
    (z8 : PySem.W.nsIn K mainGlobals "str" = some none)
    (z9 : PySem.W.nsIn K mainGlobals "int" = some none)
    (z10 : PySem.W.nsIn K mainGlobals "list" = some none)
    (z11 : PySem.W.nsIn K mainGlobals "tuple" = some none)
    (z12 : PySem.W.nsIn K mainGlobals "bool" = some none)
    (z13 : PySem.W.nsIn K mainGlobals "zip" = some none)
    (z14 : PySem.W.nsIn K mainGlobals "set" = some none)
    (z15 : PySem.W.nsIn K mainGlobals "sorted" = some none)
    (z16 : PySem.W.nsIn K mainGlobals "enumerate" = some none)
    (z17 : PySem.W.nsIn K mainGlobals "repr" = some none)
    (z18 : PySem.W.nsIn K mainGlobals "min" = some none)
    (z19 : PySem.W.nsIn K mainGlobals "max" = some none)
    (z20 : PySem.W.nsIn K mainGlobals "abs" = some none)
    (y1 : PySem.W.nsIn K mainGlobals "LETTERS" = some (some (.str "abcdefghijklmnopqrstuvwxyz" tc1)))
    : ∃ fd : FuncData, (∀ (s : Shared) (v : Value), BindsTo s fd ⟨[v], []⟩ [("_law_script", v)]) ∧ ∀ base : Heap, K.In base → base.Ns mainGlobals mg → FnG l.prog w K mg base 15 fa fd ["_law_script"] (spLaw K) := by
  have e := hfa.symm.trans (PySem.W.mg_of X G a19)
  cases e
  have T : Txt mg := ⟨PySem.W.mg_none_of X G z1, PySem.W.mg_none_of X G z2, PySem.W.mg_none_of X G z3, PySem.W.mg_none_of X G z4, PySem.W.mg_none_of X G z5, PySem.W.mg_none_of X G z6, PySem.W.mg_none_of X G z7, PySem.W.mg_none_of X G z8, PySem.W.mg_none_of X G z9, PySem.W.mg_none_of X G z10, PySem.W.mg_none_of X G z11, PySem.W.mg_none_of X G z12, PySem.W.mg_none_of X G z13, PySem.W.mg_none_of X G z14, PySem.W.mg_none_of X G z15, PySem.W.mg_none_of X G z16, PySem.W.mg_none_of X G z17, PySem.W.mg_none_of X G z18, PySem.W.mg_none_of X G z19, PySem.W.mg_none_of X G z20⟩
  have F1 := fun_mk (st := s_is_number) l1 c1 k1
  have b1 := F1.binds (ps := ["thing", "low", "high"]) fun _ _ _ _ _ _ us hl => match us, hl with | [_, _, _], _ => rfl
  have g1 := PySem.W.mg_of X G a1
  have F2 := fun_mk (st := s_is_name) l2 c2 k2
  have b2 := F2.binds (ps := ["thing"]) fun _ _ _ _ _ _ us hl => match us, hl with | [_], _ => rfl
  have g2 := PySem.W.mg_of X G a2
  have F3 := fun_mk (st := s_is_row) l3 c3 k3
  have b3 := F3.binds (ps := ["thing", "size"]) fun _ _ _ _ _ _ us hl => match us, hl with | [_, _], _ => rfl
  have g3 := PySem.W.mg_of X G a3
  have F4 := fun_mk (st := s_colour_names) l4 c4 k4
  have b4 := F4.binds (ps := ["palette"]) fun _ _ _ _ _ _ us hl => match us, hl with | [_], _ => rfl
  have g4 := PySem.W.mg_of X G a4
  have F5 := fun_mk (st := s_is_rows) l5 c5 k5
  have b5 := F5.binds (ps := ["palette", "thing"]) fun _ _ _ _ _ _ us hl => match us, hl with | [_, _], _ => rfl
  have g5 := PySem.W.mg_of X G a5
  have F6 := fun_mk (st := s_is_round_row) l6 c6 k6
  have b6 := F6.binds (ps := ["palette", "thing"]) fun _ _ _ _ _ _ us hl => match us, hl with | [_, _], _ => rfl
  have g6 := PySem.W.mg_of X G a6
  have F7 := fun_mk (st := s__law_begin) l7 c7 k7
  have b7 := F7.binds (ps := ["_law_script"]) fun _ _ _ _ _ _ us hl => match us, hl with | [_], _ => rfl
  have g7 := PySem.W.mg_of X G a7
  have F8 := fun_mk (st := s__law_take) l8 c8 k8
  have b8 := F8.binds (ps := ["_law_state", "_law_many"]) fun _ _ _ _ _ _ us hl => match us, hl with | [_, _], _ => rfl
  have g8 := PySem.W.mg_of X G a8
  have F9 := fun_mk (st := s__law_names) l9 c9 k9
  have b9 := F9.binds (ps := ["_law_state", "_law_many"]) fun _ _ _ _ _ _ us hl => match us, hl with | [_, _], _ => rfl
  have g9 := PySem.W.mg_of X G a9
  have F10 := fun_mk (st := s__law_palette) l10 c10 k10
  have b10 := F10.binds (ps := ["_law_state", "_law_most", "_law_never"]) fun _ _ _ _ _ _ us hl => match us, hl with | [_, _, _], _ => rfl
  have g10 := PySem.W.mg_of X G a10
  have F11 := fun_mk (st := s__law_rows) l11 c11 k11
  have b11 := F11.binds (ps := ["_law_state", "_law_palette_here"]) fun _ _ _ _ _ _ us hl => match us, hl with | [_, _], _ => rfl
  have g11 := PySem.W.mg_of X G a11
  have F12 := fun_mk (st := s__law_is_name) l12 c12 k12
  have b12 := F12.binds (ps := ["_law_thing"]) fun _ _ _ _ _ _ us hl => match us, hl with | [_], _ => rfl
  have g12 := PySem.W.mg_of X G a12
  have F13 := fun_mk (st := s__law_is_rows) l13 c13 k13
  have b13 := F13.binds (ps := ["_law_palette_here", "_law_thing"]) fun _ _ _ _ _ _ us hl => match us, hl with | [_, _], _ => rfl
  have g13 := PySem.W.mg_of X G a13
  have F14 := fun_mk (st := s__law_odd) l14 c14 k14
  have b14 := F14.binds (ps := ["_law_state", "_law_thing"]) fun _ _ _ _ _ _ us hl => match us, hl with | [_, _], _ => rfl
  have g14 := PySem.W.mg_of X G a14
  have F15 := fun_mk (st := s__law_spots) l15 c15 k15
  have b15 := F15.binds (ps := ["_law_thing"]) fun _ _ _ _ _ _ us hl => match us, hl with | [_], _ => rfl
  have g15 := PySem.W.mg_of X G a15
  have F16 := fun_mk (st := s__law_bent_at) l16 c16 k16
  have b16 := F16.binds (ps := ["_law_state", "_law_thing", "_law_spot"]) fun _ _ _ _ _ _ us hl => match us, hl with | [_, _, _], _ => rfl
  have g16 := PySem.W.mg_of X G a16
  have F17 := fun_mk (st := s__law_bent) l17 c17 k17
  have b17 := F17.binds (ps := ["_law_state", "_law_thing"]) fun _ _ _ _ _ _ us hl => match us, hl with | [_, _], _ => rfl
  have g17 := PySem.W.mg_of X G a17
  have F18 := fun_mk (st := s__law_told_right) l18 c18 k18
  have b18 := F18.binds (ps := ["_law_palette_here", "_law_thing"]) fun _ _ _ _ _ _ us hl => match us, hl with | [_, _], _ => rfl
  have g18 := PySem.W.mg_of X G a18
  have F19 := fun_mk (st := s_law) l19 c19 k19
  refine ⟨PySem.W.fnOf "law" "law" (defArgs s_law) (defBody s_law) (defScope s_law) .none kV19 dc19 pm19 an19 cd19 ct19, fun s v => .of_eq rfl, fun base _ _ => ?_⟩
  have L : Let mg := ⟨_, PySem.W.mg_of X G y1⟩
  have c__law_begin : Cl l.prog w K mg base 1 "_law_begin" ((spBegin K)) := ⟨_, _, _, ok_begin F7 T, g7, F7.kp, b7⟩
  have c__law_take : Cl l.prog w K mg base 1 "_law_take" (spTake) := ⟨_, _, _, ok_take F8 T, g8, F8.kp, b8⟩
  have c__law_names : Cl l.prog w K mg base 2 "_law_names" (spNames) := ⟨_, _, _, ok_names F9 T c__law_take, g9, F9.kp, b9⟩
  have c__law_palette : Cl l.prog w K mg base 3 "_law_palette" ((spPalette K)) := ⟨_, _, _, ok_palette F10 T c__law_take c__law_names, g10, F10.kp, b10⟩
  have c__law_rows : Cl l.prog w K mg base 3 "_law_rows" ((spRows K)) := ⟨_, _, _, ok_rows F11 T c__law_take c__law_names, g11, F11.kp, b11⟩
  have c_is_row : Cl l.prog w K mg base 1 "is_row" ((spRow K)) := ⟨_, _, _, ok_row F3 T, g3, F3.kp, b3⟩
  have c_is_name : Cl l.prog w K mg base 1 "is_name" ((spName K)) := ⟨_, _, _, ok_name F2 T L, g2, F2.kp, b2⟩
  have c_colour_names : Cl l.prog w K mg base 1 "colour_names" ((spCn K)) := ⟨_, _, _, ok_cn F4 T, g4, F4.kp, b4⟩
  have c_is_number : Cl l.prog w K mg base 1 "is_number" ((spNum K)) := ⟨_, _, _, ok_num F1 T, g1, F1.kp, b1⟩
  have c_is_round_row : Cl l.prog w K mg base 2 "is_round_row" ((spRrow K)) := ⟨_, _, _, ok_rrow F6 T c_is_row c_is_name c_colour_names c_is_number, g6, F6.kp, b6⟩
  have c_is_rows : Cl l.prog w K mg base 3 "is_rows" ((spIsRows K)) := ⟨_, _, _, ok_rows2 F5 T c_is_round_row, g5, F5.kp, b5⟩
  have c__law_is_name : Cl l.prog w K mg base 1 "_law_is_name" ((spName K)) := ⟨_, _, _, ok_lname F12 T, g12, F12.kp, b12⟩
  have c__law_is_rows : Cl l.prog w K mg base 2 "_law_is_rows" ((spIsRows K)) := ⟨_, _, _, ok_lrows F13 T c__law_is_name, g13, F13.kp, b13⟩
  have c__law_told_right : ClG l.prog w K mg base 4 "_law_told_right" [] ((spTold K)) := ⟨_, _, _, [], ok_told F18 T c_is_rows c__law_is_rows, g18, F18.kp, b18, .nil⟩
  have c__law_spots : Cl l.prog w K mg base 11 "_law_spots" (spSpots K 10) := ⟨_, _, _, ok_spots F15 T b15 g15 10, g15, F15.kp, b15⟩
  have c__law_odd : Cl l.prog w K mg base 2 "_law_odd" ((spOdd K)) := ⟨_, _, _, ok_odd F14 T c__law_take, g14, F14.kp, b14⟩
  have c__law_bent_at : Cl l.prog w K mg base 13 "_law_bent_at" (spBentAt K 10) := ⟨_, _, _, ok_benta (k0 := 0) F16 T b16 g16 c__law_odd 10, g16, F16.kp, b16⟩
  have c__law_bent : Cl l.prog w K mg base 14 "_law_bent" ((spBent K)) := ⟨_, _, _, ok_bent F17 T c__law_take c__law_spots c__law_bent_at, g17, F17.kp, b17⟩
  exact ok_law F19 T c__law_begin c__law_take c__law_palette c__law_rows c__law_told_right c_is_rows c__law_bent
end Pot
open PySem PySem.W PyProof.Rows
set_option maxRecDepth 100000 in
set_option maxHeartbeats 0 in
theorem PySem.Challenge.cw_potround_k18_rows_of_a_round_holds : PySem.Challenge.rw_potround_k18_rows_of_a_round.Holds := by
  w_on; o_law; k_head; (case hw => w_witness2)
  k_fill
  refine Pot.walkG (l := PySem.Challenge.rw_potround_k18_rows_of_a_round) (n := 63) (k := 15) (x := "_law_script") (sp := fun w => Pot.spLaw _) rfl (by decide) rfl ⟨rfl, by decide, by decide⟩ (fun w h Y => PySem.W.kIn_of Y) ?F (fun _ _ a ns hl _ hS => ⟨a, ns, rfl, hS, hl, fun _ => rfl⟩)
  case F =>
    intro w mg fa h KX G hmg
    refine' Pot.all_mk KX G hmg ?a1 ?l1 ?c1 ?k1 ?a2 ?l2 ?c2 ?k2 ?a3 ?l3 ?c3 ?k3 ?a4 ?l4 ?c4 ?k4 ?a5 ?l5 ?c5 ?k5 ?a6 ?l6 ?c6 ?k6 ?a7 ?l7 ?c7 ?k7 ?a8 ?l8 ?c8 ?k8 ?a9 ?l9 ?c9 ?k9 ?a10 ?l10 ?c10 ?k10 ?a11 ?l11 ?c11 ?k11 ?a12 ?l12 ?c12 ?k12 ?a13 ?l13 ?c13 ?k13 ?a14 ?l14 ?c14 ?k14 ?a15 ?l15 ?c15 ?k15 ?a16 ?l16 ?c16 ?k16 ?a17 ?l17 ?c17 ?k17 ?a18 ?l18 ?c18 ?k18 ?a19 ?l19 ?c19 ?k19 ?z1 ?z2 ?z3 ?z4 ?z5 ?z6 ?z7 ?z8 ?z9 ?z10 ?z11 ?z12 ?z13 ?z14 ?z15 ?z16 ?z17 ?z18 ?z19 ?z20 ?y1
    (case a1 => k_is)
    (case l1 => k_is)
    (case c1 => k_is)
    (case k1 => k_is)
    (case a2 => k_is)
    (case l2 => k_is)
    (case c2 => k_is)
    (case k2 => k_is)
    (case a3 => k_is)
    (case l3 => k_is)
    (case c3 => k_is)
    (case k3 => k_is)
    (case a4 => k_is)
    (case l4 => k_is)
    (case c4 => k_is)
    (case k4 => k_is)
    (case a5 => k_is)
    (case l5 => k_is)
    (case c5 => k_is)
    (case k5 => k_is)
    (case a6 => k_is)
    (case l6 => k_is)
    (case c6 => k_is)
    (case k6 => k_is)
    (case a7 => k_is)
    (case l7 => k_is)
    (case c7 => k_is)
    (case k7 => k_is)
    (case a8 => k_is)
    (case l8 => k_is)
    (case c8 => k_is)
    (case k8 => k_is)
    (case a9 => k_is)
    (case l9 => k_is)
    (case c9 => k_is)
    (case k9 => k_is)
    (case a10 => k_is)
    (case l10 => k_is)
    (case c10 => k_is)
    (case k10 => k_is)
    (case a11 => k_is)
    (case l11 => k_is)
    (case c11 => k_is)
    (case k11 => k_is)
    (case a12 => k_is)
    (case l12 => k_is)
    (case c12 => k_is)
    (case k12 => k_is)
    (case a13 => k_is)
    (case l13 => k_is)
    (case c13 => k_is)
    (case k13 => k_is)
    (case a14 => k_is)
    (case l14 => k_is)
    (case c14 => k_is)
    (case k14 => k_is)
    (case a15 => k_is)
    (case l15 => k_is)
    (case c15 => k_is)
    (case k15 => k_is)
    (case a16 => k_is)
    (case l16 => k_is)
    (case c16 => k_is)
    (case k16 => k_is)
    (case a17 => k_is)
    (case l17 => k_is)
    (case c17 => k_is)
    (case k17 => k_is)
    (case a18 => k_is)
    (case l18 => k_is)
    (case c18 => k_is)
    (case k18 => k_is)
    (case a19 => k_is)
    (case l19 => k_is)
    (case c19 => k_is)
    (case k19 => k_is)
    (case z1 => k_is)
    (case z2 => k_is)
    (case z3 => k_is)
    (case z4 => k_is)
    (case z5 => k_is)
    (case z6 => k_is)
    (case z7 => k_is)
    (case z8 => k_is)
    (case z9 => k_is)
    (case z10 => k_is)
    (case z11 => k_is)
    (case z12 => k_is)
    (case z13 => k_is)
    (case z14 => k_is)
    (case z15 => k_is)
    (case z16 => k_is)
    (case z17 => k_is)
    (case z18 => k_is)
    (case z19 => k_is)
    (case z20 => k_is)
    (case y1 => k_is)
