import PyProof.Rows.All
import Wide.All
import OpenK.AllK
import Wide.FinOn
import HandS.ForMost
import HandS.Strs
import HandS.SetFor
import HandS.Zip
import PyProof.ReprRoads
import HandS.FStrTup
import HandS.ForExc
import HandS.IsInst
import HandS.Evl
import HandS.Conv
import HandS.Flow
import HandS.Style
import HandS.Sort
import HandS.Walk
import HandS.Codes
import HandS.StrMore
import HandS.TupAny
import HandS.Defaults
import KE.KEqSeq
import HandS.More
import HandS.WideBits
import PySem.Challenge.RW_potround_k38_rows_shown_or_not
set_option Elab.async false
set_option linter.all false
set_option maxRecDepth 100000
namespace Pot
open PySem PySem.Spec PyProof.Rows L2 PySem.W PySem.Calls
/-! ### set(xs) of a list of ints -/
/-- the object that set() makes first -/
abbrev emptySet (w : World) : Obj := { cls := .type "set", dict := none, data := .set #[] 0 (.fresh 0 0 (!w.params.followText "set-order")) }
section
variable {P : Program} {w : World} {A : Around} {E : Value → Shared → Prop} {s : Shared}
/-- what is wanted behind the filling -/
def Filled (w : World) (s : Shared) (ns : List Int) (s' : Shared) : Prop := ∃ h' tk c, s' = { s with heap := h', toks := tk } ∧ SetR w h' s.heap.objs.size (fun j => decide (j ∈ ns)) c ∧ c ≤ ns.length ∧ ∀ b o, s.heap.get? b = some o → h'.get? b = some o
set_option maxHeartbeats 4000000 in
theorem call_set_li {l : Addr} {items : Array Value} (ns : List Int) {Q : Value → Shared → Prop} (hh : A.handled = none) (hl : s.heap.IsList l items) (hit : IntsAre items.toList ns) (hb : ns.length + 1 < scanBound)
    (hq : ∀ s', Filled w s ns s' → Q (.ref s.heap.objs.size) s') : wpAny (model P w) A (call (.type "set") [.ref l]) Q E s := by
  have size : items.size = ns.length := by
    rw [← Array.length_toList]; exact IntsAre.length hit
  have made := F.called_set.made
  have below := F.called_set.sub
  obtain ⟨_, _, chain⟩ := F.called_set.mro
  have nt := F.called_set.notType
  have cc := F.called_set.canCreate
  have ck := F.typeCall_set_1 (.ref l)
  refine wpAny_call (codeAny_of_tree (show wpAny _ _ (callAny (.type "set") _) _ _ _ from wpAny_pure ⟨Code.quiet_builtin _ (by decide +kernel), codeAny_builtin F.entry_type_call ?_⟩))
  rw [Around.under_plain (weight_type_call_type "set" [.ref l] []) rfl]
  repeat (any_goals (first | assumption | wp_step))
  refine codeAny_mono (code_set_led1 (.ref l) (E := E) (Q₁ := fun obj z => obj = .ref s.heap.objs.size ∧ z = { s with heap := s.heap.push (emptySet w) }) ⟨rfl, rfl⟩) fun r z hr => ?_
  rcases r with _ | fl
  case error => exact hr
  cases fl <;> first | exact hr.elim | skip
  obtain ⟨rfl, rfl⟩ := hr
  have at0 : (s.heap.push (emptySet w)).get? s.heap.objs.size = some (emptySet w) := Heap.get?_push_size _ rfl
  have ty0 : Shared.TypeIs { s with heap := s.heap.push (emptySet w) } (.ref s.heap.objs.size) "set" := ⟨_, at0, rfl⟩
  have li := F.called_set.init.lookup
  have bi := F.called_set.init.bind (.ref s.heap.objs.size)
  repeat (any_goals (first | assumption | wp_step))
  refine codeAny_mono (codeAny_call_builtin (R := wants (fun r z => r = .none ∧ Filled w s ns z) E) F.called_set.init.plain F.entry_set_init (check_set_init_1 ty0 ?_)) fun r z hz => ?_
  · obtain ⟨⟨_, od, _, os⟩, hol, hcl, nl, hdl⟩ := hl
    simp only at hcl hdl
    subst hcl
    subst hdl
    have keep : (s.heap.push (emptySet w)).get? l = some { cls := .type "list", dict := od, data := .seq items nl, slots := os } := Heap.get?_push_of_some _ hol
    have s1 := F.sub_list_set
    have s2 := F.sub_list_frozenset
    have s3 : (Value.type "list" == Value.type "dict") = false := by decide
    have isl : (s.heap.push (emptySet w)).IsList l items := ⟨_, keep, rfl, nl, rfl⟩
    unfold Builtin.«set.__init__» noKeywords Builtin.Frozenset.updateFrom
    generalize hPI : pyIter = PI
    wp_walk
    subst hPI
    refine wpAny_pyIter_list isl (wpAny_bind (wpAny_runValue ?_))
    have lt : l < s.heap.objs.size := Heap.lt_size hol
    have sz : (s.heap.push (emptySet w)).objs.size = s.heap.objs.size + 1 := Heap.size_push ..
    have ne1 : l ≠ (s.heap.push (emptySet w)).objs.size := by rw [sz]; exact Nat.ne_of_lt (Nat.lt_succ_of_lt lt)
    have ne2 : s.heap.objs.size ∉ [(s.heap.push (emptySet w)).objs.size, l] := by
      rw [sz]
      intro z
      rcases List.mem_cons.mp z with z | z
      · exact absurd z (Nat.ne_of_lt (Nat.lt_succ_self _))
      · exact absurd (List.mem_singleton.mp z) (Nat.ne_of_gt lt)
    have each : ∀ (i : Nat) (v : Value), items[i]? = some v → ∃ k t, ns[i]? = some k ∧ v = .int k t := fun i v hv => by
      have hi : i < ns.length := size ▸ (Array.getElem?_eq_some_iff.mp hv).1
      obtain ⟨t, e⟩ := IntsAre.int_at hit i v (by rw [Array.getElem?_toList]; exact hv)
      exact ⟨ns[i], t, List.getElem?_eq_getElem hi, by rw [e, List.getD_eq_getElem?_getD, List.getElem?_eq_getElem hi]; rfl⟩
    refine set_update_ints ((Walks.list (show A.in1.in1.in1.handled = none by simp [hh]) _ l ne1 items).toS) s.heap.objs.size ne2 ns size hb each (items.size - 0) 0 _ (by omega) (Nat.zero_le _) ⟨⟨_, Heap.get?_push_size _ rfl, rfl, rfl⟩, isl.push _⟩ ⟨0, Nat.le_refl 0, setR_new_at (Heap.get?_push_of_some _ at0)⟩ fun s' c hm hc hS => ?_
    obtain ⟨h', g, d, tk, o⟩ := s'
    cases (show g = s.gens from hm.gens)
    cases (show d = s.drawn from hm.drawn)
    cases (show o = s.os from hm.os)
    refine (show wpAny _ _ _ _ _ _ from wpAny_pure (show wpAny _ _ (ret Value.none) _ _ _ from wpAny_pure ⟨rfl, h', tk, c, rfl, hS, size ▸ hc, fun b o e => ?_⟩))
    have hb0 : b < s.heap.objs.size := Heap.lt_size e
    refine hm.heap b o (fun z => ?_) (Heap.get?_push_of_some _ (Heap.get?_push_of_some _ e))
    rcases List.mem_cons.mp z with z | z
    · exact absurd z (Nat.ne_of_lt hb0)
    · exact absurd ((List.mem_singleton.mp z).trans sz) (Nat.ne_of_lt (Nat.lt_succ_of_lt hb0))
  · rcases r with _ | fl
    case error => exact hz
    cases fl <;> first | exact hz.elim | skip
    obtain ⟨rfl, f⟩ := hz
    obtain ⟨h', tk, c, rfl, hS, hc, k⟩ := id f
    repeat (any_goals (first | assumption | wp_step))
    exact hq _ ⟨_, _, _, rfl, hS, hc, k⟩
end
section
variable {X : Cx}
/-- set(xs), at most 60 ints: a set of just these -/
def rSetLi (K : PySem.W.Frag) (w : World) : List V → Hp → VK → Prop := fun xs H Q => ∃ (a : Addr) (ns : List Int), xs = [V.ref a] ∧ SqL K H a (ns.map V.int) ∧ ns.length ≤ 1000 ∧
  ∀ (p : Addr) (c : Nat), H p = none → c ≤ ns.length → Q (.ref p) (upd H p (SetO w p (fun k => decide (k ∈ ns)) c))
theorem cr_setLi (hc : X.calm = true) : CallR X (.type "set") (rSetLi X.K X.w) := by
  intro pins s σ H vs us Q I r h
  obtain ⟨a, ns, rfl, hS, hl, q⟩ := h
  rw [Vals.ref1 r]
  obtain ⟨its, rv, pl, hz⟩ := I.list hS
  refine call_set_li ns (I.ok.hd hc) pl.isList (by simpa using Vals.ints rv) (by unfold scanBound; omega) fun s' f => ?_
  obtain ⟨h', tk, c, rfl, R, hcn, k⟩ := f
  have hn : H s.heap.objs.size = none := I.hok.fresh (Nat.le_refl _)
  have J : Inv X pins σ (upd H s.heap.objs.size (SetO X.w s.heap.objs.size (fun k => decide (k ∈ ns)) c)) { s with heap := h', toks := tk } := I.laid (t' := tk) k (Nat.le_refl _) (setO_new R)
  exact ⟨.ref s.heap.objs.size, _, J, rfl, q _ _ hn hcn⟩
end
end Pot

namespace Pot
open PySem PySem.Spec PyProof.Rows L2
/-! ### defs that are called where no text of a thing is under way -/
structure FnG (P : Program) (w : World) (K : PySem.W.Frag) (mg : Str → Option Value) (base : Heap) (k : Nat) (f : Addr) (fd : FuncData) (ps : List Str) (sp : Sp) : Prop where
  many : ∀ vs H Q E, sp vs H Q E → vs.length = ps.length
  does : ∀ (A : Around) (outer : List Env) (s : Shared) (H : Hp) (args : Args) (us : List Value) (vs : List V) (Q : VK), A.guards = some [] → Room k A → Env0 P w K mg base A outer s H →
    BindsTo s fd args (ps.zip us) → Vals vs us → sp vs H Q E0 → codeAny (model P w) A (.call (.ref f) args) (CR CX0 outer P w H s Q E0) s
section
variable {P : Program} {w : World} {K : PySem.W.Frag} {mg : Str → Option Value} {base : Heap}
theorem FnG.of {k : Nat} {f : Addr} {fd : FuncData} {ps : List Str} {sp : Sp} (F : FnOk P w K mg base CX0 k f fd ps sp) : FnG P w K mg base k f fd ps sp :=
  ⟨F.len, fun A outer s H args us vs Q _ hr e hb r h => F.run A outer s H args us vs Q E0 hr e hb r h⟩
theorem okG {x qual : Str} {st : Stmt} {f : Addr} {fd : FuncData} {N ps : List Str} {k : Nat} {sp : Sp} (F : Fun K x qual st f fd) (S : FnScope N ps (defScope st)) (many : ∀ vs H Q E, sp vs H Q E → vs.length = ps.length)
    (body : ∀ (cdv : Value) (A : Around) (outer : List Env) (s : Shared) (H : Hp) (vs : List V) (Q : VK), A.guards = some [] → Room k (A.deeper (envOfC qual (defScope st) s.heap.objs.size f cdv)) → sp vs H Q E0 →
      ∃ t, PSs (cxOf CX0 P w K mg base N qual (defScope st) f cdv A outer s H E0).nox (defBody st) t ∧ t { nx := fun _ H' => Q .non H', rt := Q } (start N vs) H) : FnG P w K mg base (k + 1) f fd ps sp := by
  obtain ⟨oc, od, kV, doc, pm, an, cdv, ct, osl, rfl, at_, code⟩ := F.ex
  refine ⟨many, fun A outer s H args us vs Q gd room e0 bind rel want => ?_⟩
  have kin : K.In s.heap := e0.mod.kin.keeps fun b o e => (e0.bs b o e).1
  have nolim : s.heap.NoLimit := e0.mod.nolimit.keeps fun b o e => (e0.bs b o e).1
  refine codeAny_call_function room.depth (kin _ _ at_) rfl S.co S.gen rfl (PySem.W.codeRec_of kin code) (bind _ _ _ _ (wpAny_newFunctionEnv_cells S.kind (fun y hy => ?_) fun env he s1 x => ?_))
  · obtain ⟨n, v⟩ := y
    exact (S.par n (List.of_mem_zip hy).1).imp id fun q => ⟨q, PySem.W.cellsFrom_some _ _ _ (.inl q)⟩
  · subst he
    obtain ⟨t, ht, hq⟩ := body cdv A outer s H vs Q gd (room.deeper _) want
    have I : Inv (cxOf CX0 P w K mg base N qual (defScope st) f cdv A outer s H E0) [] (start N vs) H s1 := inv_start S room.hd e0 (many _ _ _ _ want) rel x
    refine ⟨nolim.keeps x.toInCall.keep, codeAny_func (wpAny_mono (ht.nox.run [] s1 (start N vs) H _ I hq) (fun fl s' hs => ?_) fun _ _ z => z)⟩
    cases fl with
    | ret u =>
      obtain ⟨v, σ', H', J, rv, q⟩ := hs
      exact ⟨v, H', J.os, J.bare, J.base, J.hok, rv, q⟩
    | next =>
      obtain ⟨σ', H', J, q⟩ := hs
      exact ⟨V.non, H', J.os, J.bare, J.base, J.hok, rfl, q⟩
    | brk => obtain ⟨_, _, _, q⟩ := hs; exact q.elim
    | cont => obtain ⟨_, _, _, q⟩ := hs; exact q.elim
/-! calls -/
/-- a def that may be called by its name where no text is under way -/
def ClG (P : Program) (w : World) (K : PySem.W.Frag) (mg : Str → Option Value) (base : Heap) (k : Nat) (x : Str) (ds : List V) (sp : Sp) : Prop :=
  ∃ (f : Addr) (fd : FuncData) (ps : List Str) (dus : List Value), FnG P w K mg base k f fd ps sp ∧ mg x = some (.ref f) ∧ PySem.W.keepIn K (.ref f) = true ∧ Binds K fd ps dus ∧ Vals ds dus
theorem pe_clG {X : Cx} {k j : Nat} {x : Str} {ds : List V} {sp : Sp} {e : Expr} {es : List Expr} {t : TA} {p pos : Pos} (c : ClG X.prog X.w X.K X.mg X.base k x ds sp) (hr : Room j X.A) (gd : X.A.guards = some []) (hk : k ≤ j) (hg : Gl X x) (ha : PA X (e :: es) t)
    (hdb : (x == ("__debug__" : Str)) = false := by decide) (he : starEach (e :: es) X.env = (false, eval e X.env) :: starEach es X.env := by rfl) (hpl : (backTo pos (starEach es X.env)).any (·.1) = false := by rfl) :
    PE X (.Call (.Name x p) (e :: es) [] pos) (tCall sp ds E0 t) := by
  obtain ⟨f, fd, ps, dus, G, named, kept, binds, dv⟩ := c
  refine ⟨fun pins s σ H Q I h => wpAny_Call_Name_kw (ld_glob I hg named (PySem.W.callWith_K (h₀ := X.base) I.ok.mod.kin kept (thn (ha.run pos pins s σ H _ I h) fun us s1 hh => ?_) he hpl) hdb)⟩
  obtain ⟨vs, H1, I1, r, q⟩ := hh
  refine ⟨I1.kIn, ?_⟩
  have rel := r.append dv
  have n : (us ++ dus).length = ps.length := rel.length ▸ G.many _ _ _ _ q
  refine wpAny_call (codeAny_mono (G.does X.A X.stack s1 H1 ⟨us, []⟩ (us ++ dus) (vs ++ ds) Q gd (hr.mono hk) I1.env0 (binds s1 us I1.kIn n) rel q) fun res s' hq => ?_)
  rcases res with _ | fl
  case error => exact (show False from hq).elim
  cases fl <;> first | exact I1.after hq | exact (show False from hq).elim
/-! the law's own call -/
theorem law_callG {mb : Str → Option Value} {k : Nat} {fa a : Addr} {fd : FuncData} {x : Str} {sp : Sp} {s : Shared} {vs : List Value} {ns : List Int} (kin : K.In s.heap) (glob : s.heap.Ns mainGlobals mg) (blt : s.heap.Ns builtinsNs mb)
    (boot : ∀ y : Str, y ≠ "__name__" → mb y = bootBuiltins y) (lim : s.heap.NoLimit) (gens : s.gens = #[]) (obj : s.heap.get? a = some { cls := .type "list", data := .seq vs.toArray }) (whole : IntsAre vs ns) (small : ns.length ≤ sizeLine) (room : Room k callerA)
    (F : ∀ base : Heap, K.In base → base.Ns mainGlobals mg → FnG P w K mg base k fa fd [x] sp) (bind : ∀ (s : Shared) (u : Value), BindsTo s fd ⟨[u], []⟩ [(x, u)])
    (want : ∀ H : Hp, Only H → SqL K H a (ns.map V.int) → sp [.ref a] H (fun v _ => v = .bl true) E0) :
    codeAny (model P w) callerA (.call (.ref fa) ⟨[.ref a], []⟩) (fun r s' => r = .ok (.ret (.bool true)) ∧ OldK s.heap s'.heap ∧ s'.os = s.os ∧ AllBare s'.gens) s := by
  have rv := vals_ints whole
  have nv := whole.length
  -- which heap is told: the script, locked, where it isn't one of the written part
  obtain ⟨H, only, seq, fine, alone, apart⟩ : ∃ H : Hp, Only H ∧ SqL K H a (ns.map V.int) ∧ HOk P w H s.heap ∧ (∀ b u, H b = some u → b = a) ∧ (∀ u, H a = some u → K.lookup a = none) := by
    cases lk : K.lookup a with
    | some o =>
      have same := kin a o lk
      rw [obj] at same
      cases same
      exact ⟨fun _ => none, fun _ => .inl rfl, .inr ⟨_, vs.toArray, _, lk, rfl, rfl, rfl, by rw [List.size_toArray, nv]; exact small, by simpa using rv⟩, (fun b u z => nomatch (show (none : Option HO) = some u from z)), (fun b u z => nomatch (show (none : Option HO) = some u from z)), fun u z => nomatch (show (none : Option HO) = some u from z)⟩
    | none =>
      have hit : ∀ b u, (if b = a then some (HO.frz { cls := .type "list", data := .seq vs.toArray } (.lst (ns.map V.int))) else none) = some u → b = a ∧ u = .frz { cls := .type "list", data := .seq vs.toArray } (.lst (ns.map V.int)) := fun b u z => by
        split at z
        · cases z; exact ⟨‹_›, rfl⟩
        · cases z
      refine ⟨fun b => if b = a then some (.frz { cls := .type "list", data := .seq vs.toArray } (.lst (ns.map V.int))) else none, fun b => ?_, .inl (.inr ⟨_, if_pos rfl⟩), fun b u z => ?_, fun b u z => (hit b u z).1, fun _ _ => rfl⟩
      · by_cases hb : b = a
        · exact .inr ⟨_, _, if_pos hb⟩
        · exact .inl (if_neg hb)
      · obtain ⟨rfl, rfl⟩ := hit b u z
        exact ⟨obj, by rw [List.length_map]; exact small, vs, _, rv, obj⟩
  have hid : ∀ {b : Addr} {o : Obj}, s.heap.get? b = some o → (b = a → H a = none) → (hidT s.heap H).get? b = some o := fun {b o} e n => hidT_get e (by
    cases q : H b with
    | none => rfl
    | some u =>
      have e2 := alone b u q
      subst e2
      rw [n rfl] at q
      cases q)
  have kinB : K.In (hidT s.heap H) := fun b o e => hid (kin b o e) fun z => by
    subst z
    cases q : H b with
    | none => rfl
    | some u => rw [apart u q] at e; cases e
  have ns_ : ∀ {b : Addr} {m : Str → Option Value}, s.heap.Ns b m → (hidT s.heap H).Ns b m := fun {b m} h => by
    obtain ⟨o, es, ep, e, d, r⟩ := h
    refine ⟨o, es, ep, hid e fun z => ?_, d, r⟩
    subst z
    rw [obj] at e
    cases e
    exact nomatch (show Data.seq vs.toArray _ = Data.dict es ep from d)
  have md : Mod K mg (hidT s.heap H) := ⟨kinB, ns_ glob, ⟨mb, ns_ blt, boot⟩, by obtain ⟨mc, h1, h2⟩ := lim; exact ⟨mc, ns_ h1, h2⟩⟩
  have e0 : Env0 P w K mg (hidT s.heap H) callerA [] s H := ⟨rfl, md, fun b o e => of_hidT e, Nat.le_of_eq (hidT_size _ _), trivial, (fun b hb => nomatch (show b ∈ ([] : List Addr) from hb)), fine, .of_eq gens⟩
  refine codeAny_mono ((F _ kinB (ns_ glob)).does callerA [] s H ⟨[.ref a], []⟩ [.ref a] [.ref a] _ rfl room e0 (bind s (.ref a)) (.cons rfl .nil) (want H only seq)) fun res s' h => ?_
  rcases res with _ | fl
  case error => exact (show False from h).elim
  cases fl <;> first | exact (show False from h).elim | skip
  obtain ⟨v, H', os, bare, un, fine', rel, q⟩ := h
  cases (show v = .bl true from q)
  cases (show _ = Value.bool true from rel)
  refine ⟨rfl, OldK.of_keep fun b o e => ?_, os, bare⟩
  cases q : H b with
  | none => exact un.keep b o e q (fun z => nomatch (show b ∈ ([] : List Addr) from z)) (fun z => nomatch z)
  | some u =>
    rcases only b with z | ⟨ob, xs, z⟩
    · rw [q] at z; cases z
    · obtain ⟨e1, _⟩ := fine b _ z
      obtain ⟨e2, _⟩ := fine' b _ (un.frzs b ob _ z)
      rw [e] at e1; cases e1
      exact e2
end
theorem walkG {l : PySem.W.OpenLaw} {n k : Nat} {q : Program} {loose : List Str} {XP : (Str → Option Value) → Heap → Prop} {YP : World → Heap → Prop} {d : DefRec} {K : Params → PySem.W.Frag} {sp : World → Sp} {x : Str}
    (most : l.most = some n) (fits : n ≤ sizeLine) (plain : d.params.defaults = []) (room : Room k callerA) (part : ∀ (w : World) (h : Heap), YP w h → (K w.params).In h)
    (F : ∀ (w : World) (mg : Str → Option Value) (fa : Addr) (h : Heap), (K w.params).In h → h.Ns mainGlobals mg → mg d.name = some (.ref fa) →
      ∃ fd : FuncData, (∀ (s : Shared) (u : Value), BindsTo s fd ⟨[u], []⟩ [(x, u)]) ∧ ∀ base : Heap, (K w.params).In base → base.Ns mainGlobals mg → FnG l.prog w (K w.params) mg base k fa fd [x] (sp w))
    (want : ∀ (w : World) (H : Hp) (a : Addr) (ns : List Int), ns.length ≤ n → Only H → SqL (K w.params) H a (ns.map V.int) → sp w [.ref a] H (fun v _ => v = .bl true) E0) :
    PySem.W.WalkO q loose XP YP l.row.toRowW d [] (fun f vs => PySem.call f vs) := by
  refine Att.attach_call most plain fun w s₀ s₁ mg mb fa o pm cd doc a vs ns G Y _ _ _ named obj whole len gens => ?_
  obtain ⟨fd, bind, hF⟩ := F w mg fa _ (part w _ Y) G.T.g named
  exact law_callG (part w _ Y) G.T.g G.T.b G.T.builtins G.T.nolimit gens obj whole (Nat.le_trans len fits) room hF bind fun H only seq => want w H a ns len only seq
end Pot

namespace Pot
open PySem PySem.Spec PyProof.Rows L2
/-! ### repr of what is made of numbers, texts, truths, None, lists and tuples -/
section
variable {K : PySem.W.Frag}
mutual
theorem dp_noDict {H : Hp} : ∀ {v : V} {d : PyData}, Dp K H v d → d.hasDict = false
  | _, _, .non => rfl
  | _, _, .bl _ => rfl
  | _, _, .int _ => rfl
  | _, _, .str _ => rfl
  | _, _, .lst _ a => dpAll_noDict a
  | _, _, .tup _ a => dpAll_noDict a
theorem dpAll_noDict {H : Hp} : ∀ {vs : List V} {ds : List PyData}, DpAll K H vs ds → PyData.hasDictAll ds = false
  | _, _, .nil => rfl
  | _, _, .cons h t => by
    show (PyData.hasDict _ || PyData.hasDictAll _) = false
    rw [dp_noDict h, dpAll_noDict t]
    rfl
end
/-- how long its text may be, told roughly -/
def costAll : List PyData → Nat
  | [] => 0
  | x :: xs => cost x + 2 + costAll xs
where cost : PyData → Nat
  | .none => 4
  | .bool _ => 5
  | .int _ => 1921
  | .str x => 10 * x.length + 2
  | .list xs => costAll xs + 3
  | .tuple xs => costAll xs + 3
  | .dict _ => 0
/-- what repr is asked of here: its texts of plain signs -/
def fineAll : List PyData → Prop
  | [] => True
  | x :: xs => fine x ∧ fineAll xs
where fine : PyData → Prop
  | .none => True
  | .bool _ => True
  | .int i => i.natAbs.log2 < 1920
  | .str x => ∀ c ∈ x.cps.toList, c < 16 ^ 8
  | .list xs => fineAll xs
  | .tuple xs => fineAll xs
  | .dict _ => False
theorem from_len : ∀ (ts : List Str) (k : Nat) (acc : Str), (textFrom k acc ts).length ≤ acc.length + piled ts
  | [], k, acc => by rw [piled_nil]; exact Nat.le_refl _
  | t :: r, k, acc => by
    have ih := from_len r (k + 1)
    rw [piled_cons]
    unfold textFrom
    refine Nat.le_trans (ih _) ?_
    rw [strLen_append]
    split
    · rw [strLen_append]
      have e : (", " : Str).length = 2 := by decide +kernel
      omega
    · rw [strLen_append]
      have e : ("" : Str).length = 0 := by decide +kernel
      omega
theorem list_len (ts : List Str) : (listText ts).length ≤ piled ts + 2 := by
  unfold listText
  rw [strLen_append]
  have h := from_len ts 0 "["
  have e1 : ("[" : Str).length = 1 := by decide +kernel
  have e2 : ("]" : Str).length = 1 := by decide +kernel
  omega
mutual
theorem shown_len : ∀ d : PyData, fineAll.fine d → d.shown.length ≤ costAll.cost d
  | .none, _ => by decide +kernel
  | .bool b, _ => by cases b <;> decide +kernel
  | .int i, h => PyProof.Rows.int_text_len_1921 h
  | .str x, h => StrLaws.reprText_len x h
  | .list xs, h => Nat.le_trans (list_len _) (Nat.add_le_add (piled_len xs h) (by decide))
  | .tuple xs, h => Nat.le_trans (fmt_text _) (Nat.add_le_add (piled_len xs h) (by decide))
  | .dict _, h => h.elim
theorem piled_len : ∀ ds : List PyData, fineAll ds → piled (PyData.shownAll ds) ≤ costAll ds
  | [], _ => Nat.le_refl _
  | x :: xs, h => by
    have h1 := shown_len x h.1
    have h2 := piled_len xs h.2
    show piled (x.shown :: PyData.shownAll xs) ≤ costAll.cost x + 2 + costAll xs
    rw [piled_cons]
    omega
end
mutual
theorem fine_show : ∀ d : PyData, fineAll.fine d → d.showable = true
  | .none, _ => rfl
  | .bool _, _ => rfl
  | .int i, h => decide_eq_true h
  | .str _, _ => rfl
  | .list xs, h => fineAll_show xs h
  | .tuple xs, h => fineAll_show xs h
  | .dict _, h => h.elim
theorem fineAll_show : ∀ ds : List PyData, fineAll ds → PyData.showableAll ds = true
  | [], _ => rfl
  | x :: xs, h => by
    show (PyData.showable x && PyData.showableAll xs) = true
    rw [fine_show x h.1, fineAll_show xs h.2]
    rfl
end
end
section
variable {X : Cx}
def rRepr (K : PySem.W.Frag) : List V → Hp → VK → Prop := fun xs H Q => ∃ (a : Addr) (d : PyData), xs = [V.ref a] ∧ Dp K H (.ref a) d ∧ fineAll.fine d ∧ d.depth ≤ 60 ∧ costAll.cost d ≤ 16777216 ∧ Q (.str d.shown) H
theorem cr_repr (gd : X.A.guards = some []) (hu : X.A.units + 64 < cLine) : CallR X (.builtin "repr") (rRepr X.K) := by
  intro pins s σ H vs us Q I r h
  obtain ⟨a, d, rfl, dp, sh, dep, sz, q⟩ := h
  rw [Vals.ref1 r]
  obtain ⟨as, rd⟩ := Dp.reads I d (.ref a) (.ref a) dp rfl
  refine repr_of_reads' rd (fine_show d sh) (fun z => ?_) gd (by omega) (fun _ _ e => e) (fun h' u tk k => ⟨.str d.shown, H, I.kept k, ⟨u, rfl⟩, q⟩) (Nat.le_trans (shown_len d sh) (by rw [sizeLine_eq]; exact sz))
  rw [dp_noDict dp] at z
  cases z
end
end Pot

/-! The rules whose readings name the written part, with it as a letter of its own. -/
namespace Pot
open PySem PySem.Spec PyProof.Rows L2
section
variable {X : Cx} {K : PySem.W.Frag}
theorem kx_list (h : X.K = K := by rfl) : IxR X (rIxL K) := h ▸ ix_list
theorem kx_tup (h : X.K = K := by rfl) : IxR X (rIxT K) := h ▸ ix_tup
theorem kl_list (h : X.K = K := by rfl) : SlR X (rSlL K) := h ▸ sl_list
theorem kl_tup (h : X.K = K := by rfl) : SlR X (rSlA K) := h ▸ sl_tupA
theorem ko_in (h : X.K = K := by rfl) : OpR X (compareOp .In) (rIn K false) := h ▸ op_in_seq
theorem ko_eq (hu : X.A.units + 64 < cLine) (h : X.K = K := by rfl) : OpR X (compareOp .Eq) (rEqD K) := h ▸ op_eqD hu
theorem ko_ne (hu : X.A.units + 64 < cLine) (h : X.K = K := by rfl) : OpR X (compareOp .NotEq) (rNeD K) := h ▸ op_neD hu
def rLen (K : PySem.W.Frag) : List V → Hp → VK → Prop := fun xs H Q => ∃ x n, xs = [x] ∧ LenV K x H n ∧ Q (.int n) H
theorem kc_len (h : X.K = K := by rfl) : CallR X (.builtin "len") (rLen K) := by subst h; exact call_len
def rListOf (K : PySem.W.Frag) : List V → Hp → VK → Prop := fun xs H Q => ∃ p ys, xs = [.ref p] ∧ (SqL K H p ys ∨ SqT K H p ys) ∧ ∀ l, H l = none → Q (.ref l) (upd H l (.lst ys))
theorem kc_list (h : X.K = K := by rfl) : CallR X (.type "list") (rListOf K) := by subst h; exact call_list_of
def rTupleOf (K : PySem.W.Frag) : List V → Hp → VK → Prop := fun xs H Q => ∃ p ys, xs = [.ref p] ∧ ((SqL K H p ys ∧ ∀ l, H l = none → Q (.ref l) (upd H l (.tup ys))) ∨ (SqT K H p ys ∧ Q (.ref p) H))
theorem kc_tuple (h : X.K = K := by rfl) : CallR X (.type "tuple") (rTupleOf K) := by subst h; exact call_tuple_of
theorem kc_sum (hc : X.calm = true := by rfl) (h : X.K = K := by rfl) : CallR X (.builtin "sum") (rSum K) := h ▸ cr_sum hc
theorem kc_all (hc : X.calm = true := by rfl) (h : X.K = K := by rfl) : CallR X (.builtin "all") (rAll K) := h ▸ cr_all hc
theorem kc_any (hc : X.calm = true := by rfl) (h : X.K = K := by rfl) : CallR X (.builtin "any") (rAny K) := h ▸ cr_any hc
theorem kc_sorted (h : X.K = K := by rfl) : CallR X (.builtin "sorted") (rSorted K) := h ▸ cr_sorted
theorem kc_sortedS (h : X.K = K := by rfl) : CallR X (.builtin "sorted") (rSortedS K) := h ▸ cr_sortedS
theorem kc_isi (h : X.K = K := by rfl) : CallR X (.builtin "isinstance") (rIsi K) := h ▸ call_isi
theorem kc_isiT (h : X.K = K := by rfl) : CallR X (.builtin "isinstance") (rIsiT K) := h ▸ call_isiT
theorem kc_repr (gd : X.A.guards = some []) (hu : X.A.units + 64 < cLine) (h : X.K = K := by rfl) : CallR X (.builtin "repr") (rRepr K) := h ▸ cr_repr gd hu
theorem kc_setLi {w : World} (hc : X.calm = true := by rfl) (h : X.K = K := by rfl) (hw : X.w = w := by rfl) : CallR X (.type "set") (rSetLi K w) := by subst h; subst hw; exact cr_setLi hc
theorem kc_sortedSet {w : World} (hc : X.calm = true := by rfl) (hw : X.w = w := by rfl) : CallR X (.builtin "sorted") (rSortedSet w) := hw ▸ cr_sortedSet hc
theorem ki_list {tg l : Expr} {tl : TE} (hl : PE X l tl) (h : X.K = K := by rfl) : PI X tg l (iList K tl) := h ▸ pi_list hl
theorem ki_tup {tg l : Expr} {tl : TE} (hl : PE X l tl) (h : X.K = K := by rfl) : PI X tg l (iTup K tl) := h ▸ pi_tup hl
theorem ki_zip {e e2 : Expr} {ta : TA} {p pos tpos : Pos} {elts : List Expr} {kk : Nat} (hg : Gl X "zip") (hm : X.mg "zip" = none) (ha : PA X [e, e2] ta) (hs : starEach [e, e2] X.env = (false, eval e X.env) :: starEach [e2] X.env := by rfl)
    (hpl : (backTo pos (starEach [e2] X.env)).any (·.1) = false := by rfl) (h : X.K = K := by rfl) : PI X (.Tuple elts kk tpos) (.Call (.Name "zip" p) [e, e2] [] pos) (RZ.iZipA K ta) := h ▸ RZ.pi_zipA hg hm ha hs hpl
theorem ki_enum {e : Expr} {ta : TA} {p pos tpos : Pos} {elts : List Expr} {kk : Nat} (hg : Gl X "enumerate") (hm : X.mg "enumerate" = none) (ha : PA X [e] ta) (hs : starEach [e] X.env = [(false, eval e X.env)] := by rfl) (h : X.K = K := by rfl)
    : PI X (.Tuple elts kk tpos) (.Call (.Name "enumerate" p) [e] [] pos) (iEnum K ta) := h ▸ pi_enum hg hm ha hs
theorem kg_tup {pos : Pos} {es : List Expr} {k : Nat} {t : TGs} {n : Nat} (h : PGs X es t) (hc : X.calm = true := by rfl) (hn : (assignEach es X.env).length = n := by rfl) (hst : (assignEach es X.env).findIdx? (·.1) = none := by rfl) (hk : X.K = K := by rfl) : PG X (.Tuple es k pos) (gTup K n t) := hk ▸ pg_tup hc h hn hst
def tTru (K : PySem.W.Frag) (ta : TE) : TT := fun σ H Q => ta σ H fun x H' => ∃ k, TruV K x H' k ∧ Q k H'
theorem kt_truth {a : Expr} {ta : TE} (ha : PE X a ta) (he : ∀ whole, isTrue a X.env whole = (do let v ← whole; standAt a.pos; holding [v] (truthy v)) := by intro _; rfl) (h : X.K = K := by rfl) : PT X a (tTru K ta) := by subst h; exact pt_truth ha he
def rJoin (K : PySem.W.Frag) : V → List V → Hp → VK → Prop := fun x xs H Q => ∃ a p, ∃ ys : List Str, x = .str a ∧ xs = [.ref p] ∧ (SqL K H p (ys.map V.str) ∨ SqT K H p (ys.map V.str)) ∧ (ys.map (·.length)).sum + ys.length * a.length ≤ 16777216 ∧ Q (.str (Txt.join a ys)) H
theorem ke_join {o e : Expr} {to te : TE} {apos pos : Pos} (ho : PE X o to) (he : PE X e te) (hs : starEach [e] X.env = [(false, eval e X.env)] := by rfl) (hbase : attributeBase o "join" X.env (eval o X.env) = eval o X.env := by rfl) (hline : (apos.endLine == pos.line) = true := by rfl) (h : X.K = K := by rfl) :
    PE X (.Call (.Attribute o "join" apos) [e] [] pos) (tM1 (rJoin K) to te) := by subst h; exact pe_join ho he hs hbase hline
theorem pss_never {st : List Stmt} : PSs X st (fun _ _ _ => False) := ⟨fun _ _ _ _ _ _ h => h.elim⟩
theorem ps_never {st : Stmt} : PS X st (fun _ _ _ => False) := ⟨fun _ _ _ _ _ _ h => h.elim⟩
theorem pe_never {e : Expr} : PE X e (fun _ _ _ => False) := ⟨fun _ _ _ _ _ _ h => h.elim⟩
theorem tYes_at {σ : L2.St} {H : Hp} {Q : Bool → Hp → Prop} (h : Q true H) : tYes σ H Q := h
end
end Pot

namespace Pot
open PySem PySem.Spec PyProof.Rows L2
theorem nodup_le {α : Type} [BEq α] [LawfulBEq α] : ∀ {ks l : List α}, ks.Nodup → (∀ k ∈ ks, k ∈ l) → ks.length ≤ l.length
  | [], _, _, _ => Nat.zero_le _
  | k :: ks, l, h, s => by
    have hk := s k List.mem_cons_self
    have h2 := (List.nodup_cons.mp h)
    have := nodup_le (ks := ks) (l := l.erase k) h2.2 fun x hx => by
      have ne : x ≠ k := fun e => h2.1 (e ▸ hx)
      exact (List.mem_erase_of_ne ne).mpr (s x (List.mem_cons_of_mem _ hx))
    rw [List.length_erase_of_mem hk] at this
    have : 0 < l.length := List.length_pos_of_mem hk
    simp only [List.length_cons]
    omega
section
variable {X : Cx} {K : PySem.W.Frag}
theorem ko_notIn (h : X.K = K := by rfl) : OpR X (compareOp .NotIn) (rIn K true) := h ▸ op_notIn_seq
/-- set(xs) of ints: how many members it has -/
def rSetLj (K : PySem.W.Frag) (w : World) : List V → Hp → VK → Prop := fun xs H Q => ∃ (a : Addr) (ns : List Int), xs = [V.ref a] ∧ SqL K H a (ns.map V.int) ∧ ns.length ≤ 4000 ∧
  ∀ (p : Addr) (ks : List Int), H p = none → ks.Nodup → (∀ k, k ∈ ks ↔ k ∈ ns) → Q (.ref p) (upd H p (SetO w p (fun k => decide (k ∈ ns)) ks.length))
theorem cr_setLj (hc : X.calm = true) : CallR X (.type "set") (rSetLj X.K X.w) := by
  intro pins s σ H vs us Q I r h
  obtain ⟨a, ns, rfl, hS, hl, q⟩ := h
  rw [Vals.ref1 r]
  obtain ⟨its, rv, pl, hz⟩ := I.list hS
  refine call_set_li ns (I.ok.hd hc) pl.isList (by simpa using Vals.ints rv) (by unfold scanBound; omega) fun s' f => ?_
  obtain ⟨h', tk, c, rfl, R, hcn, k⟩ := f
  have hn : H s.heap.objs.size = none := I.hok.fresh (Nat.le_refl _)
  have J : Inv X pins σ (upd H s.heap.objs.size (SetO X.w s.heap.objs.size (fun k => decide (k ∈ ns)) c)) { s with heap := h', toks := tk } := I.laid (t' := tk) k (Nat.le_refl _) (setO_new R)
  obtain ⟨o, es, ep, t, _, _, _, _, nod, mem, _, _, size, _⟩ := R
  have q2 := q s.heap.objs.size (es.toList.map keyOf) hn nod fun k => by rw [← mem k, decide_eq_true_eq]
  rw [List.length_map, Array.length_toList, size] at q2
  exact ⟨.ref s.heap.objs.size, _, J, rfl, q2⟩
theorem kc_setLj {w : World} (hc : X.calm = true := by rfl) (h : X.K = K := by rfl) (hw : X.w = w := by rfl) : CallR X (.type "set") (rSetLj K w) := by subst h; subst hw; exact cr_setLj hc
end
end Pot

namespace Pot
open PySem PySem.Spec PyProof.Rows L2
/-- built-in names that the module gives no other meaning -/
structure Txt (mg : Str → Option Value) : Prop where
  len : mg "len" = none
  divmod : mg "divmod" = none
  range : mg "range" = none
  sum : mg "sum" = none
  all : mg "all" = none
  any : mg "any" = none
  isinstance : mg "isinstance" = none
  str : mg "str" = none
  int : mg "int" = none
  list : mg "list" = none
  tuple : mg "tuple" = none
  bool : mg "bool" = none
  zip : mg "zip" = none
  set : mg "set" = none
  sorted : mg "sorted" = none
  enumerate : mg "enumerate" = none
  repr : mg "repr" = none
  min : mg "min" = none
  max : mg "max" = none
  abs : mg "abs" = none
/-- a def that may be called by its name: what it keeps, at which level -/
def Cl (P : Program) (w : World) (K : PySem.W.Frag) (mg : Str → Option Value) (base : Heap) (k : Nat) (x : Str) (sp : Sp) : Prop :=
  ∃ (f : Addr) (fd : FuncData) (ps : List Str), FnOk P w K mg base CX0 k f fd ps sp ∧ mg x = some (.ref f) ∧ PySem.W.keepIn K (.ref f) = true ∧ Binds K fd ps []
theorem pe_cl {X : Cx} {k j : Nat} {x : Str} {sp : Sp} {e : Expr} {es : List Expr} {t : TA} {p pos : Pos} (c : Cl X.prog X.w X.K X.mg X.base k x sp) (hr : Room j X.A) (hk : k ≤ j) (hg : Gl X x) (ha : PA X (e :: es) t) (hdb : (x == ("__debug__" : Str)) = false := by decide)
    (he : starEach (e :: es) X.env = (false, eval e X.env) :: starEach es X.env := by rfl) (hpl : (backTo pos (starEach es X.env)).any (·.1) = false := by rfl) : PE X (.Call (.Name x p) (e :: es) [] pos) (tCall sp [] E0 t) := by
  obtain ⟨f, fd, ps, G, hm, kp, b⟩ := c
  exact pe_call G (hr.mono hk) hg hm kp b .nil pass0 ha hdb he hpl
/-! ### the drawing state -/
def dS (c : Addr) (t : Int) : List (Key × V) := [(Sum.inr "cells", .ref c), (Sum.inr "turn", .int t)]
/-- at d stands a state of the law: its cells at c, its turn at most n -/
def StAt (H : Hp) (d c : Addr) (n : Nat) : Prop := d ≠ c ∧ ∃ (xs : List Int) (t : Int),
  H d = some (.dK (dS c t)) ∧ H c = some (.lst (xs.map V.int)) ∧ xs ≠ [] ∧ xs.length ≤ 63 ∧ 0 ≤ t ∧ t ≤ n
/-- all that was tracked stands, but d and c -/
def Kp (d c : Addr) (H H' : Hp) : Prop := ∀ b o, b ≠ d → b ≠ c → H b = some o → H' b = some o
theorem Kp.refl (d c : Addr) (H : Hp) : Kp d c H H := fun _ _ _ _ e => e
theorem Kp.trans {d c : Addr} {H H1 H2 : Hp} (a : Kp d c H H1) (b : Kp d c H1 H2) : Kp d c H H2 := fun x o h1 h2 e => b x o h1 h2 (a x o h1 h2 e)
theorem Kp.of {d c : Addr} {H H' : Hp} (s : Same H H') : Kp d c H H' := fun x o _ _ e => s x o e
theorem same_upd {H : Hp} {p : Addr} {o : HO} (h : H p = none) : Same H (upd H p o) := fun b x e => by
  rw [upd_ne (ne_of_none e h)]
  exact e
theorem same_put {H H' : Hp} {p : Addr} {o : HO} (s : Same H H') (h : H p = none) : Same H (upd H' p o) := fun b x e => by
  rw [upd_ne (ne_of_none e h)]
  exact s b x e
theorem kp_put {d c : Addr} {H H' : Hp} {p : Addr} {o : HO} (s : Kp d c H H') (h : H p = none) : Kp d c H (upd H' p o) := fun b x h1 h2 e => by
  rw [upd_ne (ne_of_none e h)]
  exact s b x h1 h2 e
theorem StAt.mono {H : Hp} {d c : Addr} {n m : Nat} (h : StAt H d c n) (k : n ≤ m) : StAt H d c m := by
  obtain ⟨h0, xs, t, h1, h2, h3, h4, h5, h6⟩ := h
  exact ⟨h0, xs, t, h1, h2, h3, h4, h5, by omega⟩
theorem StAt.same {H H' : Hp} {d c : Addr} {n : Nat} (h : StAt H d c n) (s : Same H H') : StAt H' d c n := by
  obtain ⟨h0, xs, t, h1, h2, h3, h4, h5, h6⟩ := h
  exact ⟨h0, xs, t, s _ _ h1, s _ _ h2, h3, h4, h5, h6⟩
theorem Kp.free {d c : Addr} {H H' : Hp} {n : Nat} {l : Addr} (k : Kp d c H H') (s : StAt H' d c n) (h : H' l = none) : H l = none := by
  obtain ⟨_, xs, t, h1, h2, _⟩ := s
  have n1 : l ≠ d := (ne_of_none h1 h).symm
  have n2 : l ≠ c := (ne_of_none h2 h).symm
  cases e : H l with
  | none => rfl
  | some o =>
    rw [k l o n1 n2 e] at h
    cases h
theorem StAt.ne1 {H : Hp} {d c : Addr} {n : Nat} {l : Addr} (s : StAt H d c n) (h : H l = none) : d ≠ l := by
  obtain ⟨_, xs, t, h1, h2, _⟩ := s
  exact ne_of_none h1 h
theorem StAt.ne2 {H : Hp} {d c : Addr} {n : Nat} {l : Addr} (s : StAt H d c n) (h : H l = none) : c ≠ l := by
  obtain ⟨_, xs, t, h1, h2, _⟩ := s
  exact ne_of_none h2 h
theorem StAt.put {H : Hp} {d c : Addr} {n : Nat} {l : Addr} {o : HO} (s : StAt H d c n) (n1 : d ≠ l) (n2 : c ≠ l) : StAt (upd H l o) d c n := by
  obtain ⟨h0, xs, t, h1, h2, h3, h4, h5, h6⟩ := s
  exact ⟨h0, xs, t, by rw [upd_ne n1]; exact h1, by rw [upd_ne n2]; exact h2, h3, h4, h5, h6⟩
theorem val_turn (c : Addr) (t : Int) : valV (dS c t) (Sum.inr "turn") = some (.int t) := by
  have e : ¬ ((Sum.inr (Str.ofString "cells") : Key) = Sum.inr (Str.ofString "turn")) := by decide +kernel
  unfold dS; rw [valV_neg e, valV_pos rfl]
theorem val_cells (c : Addr) (t : Int) : valV (dS c t) (Sum.inr "cells") = some (.ref c) := by
  unfold dS; rw [valV_pos rfl]
theorem put_turn (c : Addr) (t u : Int) : putK (dS c t) (Sum.inr "turn") (.int u) = dS c u := by
  have e : ¬ ((Sum.inr (Str.ofString "cells") : Key) = Sum.inr (Str.ofString "turn")) := by decide +kernel
  unfold putK dS
  simp [e]

theorem dget_turn {H : Hp} {d c : Addr} {t : Int} (h : H d = some (.dK (dS c t))) : DGet H d (.str "turn") (some (.int t)) := by
  rw [← val_turn c t]; exact DGet.k (k := Sum.inr "turn") h
theorem dget_cells {H : Hp} {d c : Addr} {t : Int} (h : H d = some (.dK (dS c t))) : DGet H d (.str "cells") (some (.ref c)) := by
  rw [← val_cells c t]; exact DGet.k (k := Sum.inr "cells") h
theorem dput_turn {H : Hp} {d c : Addr} {t : Int} (u : Int) (h : H d = some (.dK (dS c t))) : DPut H d (.str "turn") (.int u) (upd H d (.dK (dS c u))) := by
  rw [← put_turn c t u]; exact DPut.k (k := Sum.inr "turn") h (by show 2 < sizeLine; decide)
theorem ge18 (x : Int) : (decide ((10 : Int) ^ (18 : Int).toNat ≤ x) = true) ↔ 1000000000000000000 ≤ x := by
  have e : (10 : Int) ^ (18 : Int).toNat = 1000000000000000000 := by decide
  rw [e, decide_eq_true_eq]
theorem cmul_mod (a b : Int) {m : Int} (h0 : 0 < m) (h1 : m < 2 ^ 64) : CMul (a % m) b := by
  have p := Int.emod_nonneg a (show m ≠ 0 by omega)
  have q := Int.emod_lt_of_pos a h0
  exact .inl ⟨by omega, by omega⟩
theorem mod_at {xs : List Int} {u : Int} (hx : xs ≠ []) : ∃ (j : Nat) (y : Int), u % ((xs.map V.int).length : Int) = (j : Int) ∧ j < xs.length ∧ xs[j]? = some y := by
  have h0 : 0 < xs.length := List.length_pos_iff.mpr hx
  rw [List.length_map]
  have a := Int.emod_nonneg u (show (xs.length : Int) ≠ 0 by omega)
  have b := Int.emod_lt_of_pos u (show (0 : Int) < (xs.length : Int) by omega)
  refine ⟨(u % (xs.length : Int)).toNat, xs[(u % (xs.length : Int)).toNat]'(by omega), by omega, by omega, ?_⟩
  exact List.getElem?_eq_getElem _

section
variable {K : PySem.W.Frag}
theorem cut63 {xs : List V} (h : xs.length ≤ 63) : cutV xs none (some 63) = xs := by
  unfold cutV
  rw [HT.sIx_none, show HT.sIx xs.length xs.length (some 63) = min 63 xs.length from HT.sIx_nat xs.length xs.length 63, Nat.min_eq_right h]
  simp
theorem dp_ints {H : Hp} (ns : List Int) : DpAll K H (ns.map V.int) (ns.map PyData.int) := by
  induction ns with
  | nil => exact .nil
  | cons n r ih => exact .cons (.int n) ih
theorem same_tup {H H' : Hp} {a : Addr} {xs : List V} (e : Same H H') (h : SqT K H a xs) : SqT K H' a xs := by
  rcases h with (h | ⟨o, h⟩) | h
  · exact .inl (.inl (e _ _ h))
  · exact .inl (.inr ⟨o, e _ _ h⟩)
  · exact .inr h
mutual
theorem dp_same {H H' : Hp} (s : Same H H') : ∀ {v : V} {d : PyData}, Dp K H v d → Dp K H' v d
  | _, _, .non => .non
  | _, _, .bl b => .bl b
  | _, _, .int i => .int i
  | _, _, .str x => .str x
  | _, _, .lst h a => .lst (s.seq h) (dpAll_same s a)
  | _, _, .tup h a => .tup (same_tup s h) (dpAll_same s a)
theorem dpAll_same {H H' : Hp} (s : Same H H') : ∀ {vs : List V} {ds : List PyData}, DpAll K H vs ds → DpAll K H' vs ds
  | _, _, .nil => .nil
  | _, _, .cons h t => .cons (dp_same s h) (dpAll_same s t)
end
theorem dpAll_len {H : Hp} : ∀ {vs : List V} {ds : List PyData}, DpAll K H vs ds → vs.length = ds.length
  | _, _, .nil => rfl
  | _, _, .cons _ t => by rw [List.length_cons, List.length_cons, dpAll_len t]
theorem dpAll_at {H : Hp} : ∀ {vs : List V} {ds : List PyData} {i : Nat} {v : V}, DpAll K H vs ds → vs[i]? = some v → ∃ d, ds[i]? = some d ∧ Dp K H v d
  | _, _, _, _, .nil, h => by simp at h
  | _, _, 0, _, .cons h _, e => ⟨_, rfl, by cases e; exact h⟩
  | _, _, i + 1, _, .cons _ t, e => dpAll_at (i := i) t e
theorem depth_at : ∀ {ds : List PyData} {i : Nat} {d : PyData}, ds[i]? = some d → d.depth ≤ PyData.depthAll ds
  | [], _, _, h => by simp at h
  | x :: r, 0, d, h => by cases h; unfold PyData.depthAll; exact Nat.le_max_left ..
  | x :: r, i + 1, d, h => by
    have := depth_at (ds := r) (i := i) (d := d) h
    unfold PyData.depthAll
    exact Nat.le_trans this (Nat.le_max_right ..)
theorem tyx_list {H : Hp} {a : Addr} {xs : List V} (h : SqL K H a xs) : TyX K H (.ref a) (.type "list") := by
  rcases h with (h | ⟨o, h⟩) | ⟨o, its, n, h1, h2, _⟩
  · exact .base (.lst h)
  · exact .base (.frz h)
  · exact .kList h1 h2
theorem tyx_tup {H : Hp} {a : Addr} {xs : List V} (h : SqT K H a xs) : TyX K H (.ref a) (.type "tuple") := by
  rcases h with (h | ⟨o, h⟩) | ⟨o, its, n, h1, h2, _⟩
  · exact .base (.tup h)
  · exact .fTuple h
  · exact .kTuple h1 h2
theorem walk_zipT {a b : Addr} {xs ys : List V} {n : Nat} (hn : n = min xs.length ys.length) : Walk (RZ.ItzT K a b) n (fun H => SqT K H a xs ∧ SqT K H b ys) (YPair (fun i => xs[i]?) (fun i => ys[i]?)) := by
  subst hn
  refine ⟨fun i _ hi q => ?_, fun _ q => ⟨xs, ys, q.1, q.2, by omega⟩, fun i H v H' _ q y => ?_⟩
  · exact ⟨xs, ys, xs[i]'(by omega), ys[i]'(by omega), q.1, q.2, List.getElem?_eq_getElem _, List.getElem?_eq_getElem _⟩
  · obtain ⟨T, x, z, e1, e2, e3, e4, e5⟩ := y
    exact ⟨T, x, z, e1, e2, e3, e4 xs q.1, e5 ys q.2⟩
/-- the longest list within -/
def widAll : List PyData → Nat
  | [] => 0
  | x :: xs => max (wid x) (widAll xs)
where wid : PyData → Nat
  | .list xs => max xs.length (widAll xs)
  | .tuple xs => max xs.length (widAll xs)
  | _ => 0
theorem wid_at : ∀ {ds : List PyData} {i : Nat} {d : PyData}, ds[i]? = some d → widAll.wid d ≤ widAll ds
  | [], _, _, h => by simp at h
  | x :: r, 0, d, h => by cases h; unfold widAll; exact Nat.le_max_left ..
  | x :: r, i + 1, d, h => by
    have := wid_at (ds := r) (i := i) (d := d) h
    unfold widAll
    exact Nat.le_trans this (Nat.le_max_right ..)
theorem depth_ints (ns : List Int) : (PyData.list (ns.map PyData.int)).depth = 1 := by
  have h : ∀ l : List Int, PyData.depthAll (l.map PyData.int) = 0 := by
    intro l
    induction l with
    | nil => rfl
    | cons x r ih =>
      show max 0 (PyData.depthAll (r.map PyData.int)) = 0
      rw [ih]
      rfl
  show PyData.depthAll (ns.map PyData.int) + 1 = 1
  rw [h]
theorem wid_ints (ns : List Int) : widAll.wid (PyData.list (ns.map PyData.int)) = ns.length := by
  have h : ∀ l : List Int, widAll (l.map PyData.int) = 0 := by
    intro l
    induction l with
    | nil => rfl
    | cons x r ih =>
      show max 0 (widAll (r.map PyData.int)) = 0
      rw [ih]
      rfl
  show max (ns.map PyData.int).length (widAll (ns.map PyData.int)) = ns.length
  rw [h, List.length_map, Nat.max_zero]
theorem flat_ints (ns : List Int) : (ns.map V.int).all flatV = true := by
  rw [List.all_eq_true]
  intro x hx
  obtain ⟨k, _, rfl⟩ := List.mem_map.mp hx
  rfl
end
section
variable {P : Program} {w : World} {K : PySem.W.Frag} {mg : Str → Option Value} {base : Heap}
/-- a def with values that may be left out -/
abbrev FunV (K : PySem.W.Frag) (x : Str) (st : Stmt) (dvs : List V) (f : Addr) (fd : FuncData) : Prop := FunD K x x (defArgs st) (defBody st) (defScope st) dvs [] f fd
theorem okD {x : Str} {st : Stmt} {dvs : List V} {f : Addr} {fd : FuncData} {N ps : List Str} {k : Nat} {sp : Sp} (F : FunV K x st dvs f fd) (S : FnScope N ps (defScope st)) (len : ∀ vs H Q E, sp vs H Q E → vs.length = ps.length)
    (body : ∀ (cdv : Value) (A : Around) (outer : List Env) (s : Shared) (H : Hp) (vs : List V) (Q : VK) (E : XK), Room k (A.deeper (envOfC x (defScope st) s.heap.objs.size f cdv)) → sp vs H Q E →
      ∃ t, PSs (cxOf CX0 P w K mg base N x (defScope st) f cdv A outer s H E).nox (defBody st) t ∧ t { nx := fun _ H' => Q .non H', rt := Q } (start N vs) H) : FnOk P w K mg base CX0 (k + 1) f fd ps sp :=
  FunD.ok F S len fun cdv A outer s H vs Q E hr h => by
    obtain ⟨t, ht, hq⟩ := body cdv A outer s H vs Q E hr h
    exact ⟨t, ht.nox, hq⟩
/-- a def that may be called by its name, the values ds being left out -/
def ClD (P : Program) (w : World) (K : PySem.W.Frag) (mg : Str → Option Value) (base : Heap) (k : Nat) (x : Str) (ds : List V) (sp : Sp) : Prop :=
  ∃ (f : Addr) (fd : FuncData) (ps : List Str) (dus : List Value), FnOk P w K mg base CX0 k f fd ps sp ∧ mg x = some (.ref f) ∧ PySem.W.keepIn K (.ref f) = true ∧ Binds K fd ps dus ∧ Vals ds dus
theorem pe_cd {X : Cx} {k j : Nat} {x : Str} {ds : List V} {sp : Sp} {e : Expr} {es : List Expr} {t : TA} {p pos : Pos} (c : ClD X.prog X.w X.K X.mg X.base k x ds sp) (hr : Room j X.A) (hk : k ≤ j) (hg : Gl X x) (ha : PA X (e :: es) t) (hdb : (x == ("__debug__" : Str)) = false := by decide)
    (he : starEach (e :: es) X.env = (false, eval e X.env) :: starEach es X.env := by rfl) (hpl : (backTo pos (starEach es X.env)).any (·.1) = false := by rfl) : PE X (.Call (.Name x p) (e :: es) [] pos) (tCall sp ds E0 t) := by
  obtain ⟨f, fd, ps, dus, G, hm, kp, b, dv⟩ := c
  exact pe_call G (hr.mono hk) hg hm kp b dv pass0 ha hdb he hpl
theorem Cl.mono {k j : Nat} {x : Str} {sp : Sp} (c : Cl P w K mg base k x sp) (h : k ≤ j) : Cl P w K mg base j x sp := by
  obtain ⟨f, fd, ps, G, r⟩ := c
  exact ⟨f, fd, ps, G.mono h, r⟩
end
end Pot

namespace Pot
open PySem PySem.Spec PyProof.Rows L2
/-! ### a box of three numbers from which is drawn, and all that stands beside it -/
def Bx (H : Hp) (b : Addr) : Prop := ∃ x y z : Int, H b = some (.lst [.int x, .int y, .int z])
/-- the heap without some -/
def off (H : Hp) (S : List Addr) : Hp := fun x => if x ∈ S then none else H x
theorem off_in {H : Hp} {S : List Addr} {x : Addr} (h : x ∈ S) : off H S x = none := if_pos h
theorem off_out {H : Hp} {S : List Addr} {x : Addr} (h : x ∉ S) : off H S x = H x := if_neg h
theorem off_mem {H : Hp} {S : List Addr} {x : Addr} {o : HO} (h : off H S x = some o) : x ∉ S := fun e => by rw [off_in e] at h; cases h
theorem off_sub {H : Hp} {S : List Addr} : Same (off H S) H := fun x o h => by
  have n := off_mem h
  rw [off_out n] at h; exact h
theorem off_mono {H : Hp} {S T : List Addr} (h : ∀ x ∈ T, x ∈ S) : Same (off H S) (off H T) := fun x o e => by
  have n := off_mem e
  rw [off_out n] at e
  rw [off_out fun z => n (h x z)]; exact e
/-- what stands beside S stands -/
abbrev Sm (S : List Addr) (H H' : Hp) : Prop := Same (off H S) (off H' S)
theorem sm_mono {H H' : Hp} {S T : List Addr} (h : ∀ x ∈ T, x ∈ S) (s : Sm T H H') : Sm S H H' := fun x o e => by
  have n := off_mem e
  rw [off_out n] at e ⊢
  have n2 : x ∉ T := fun z => n (h x z)
  have := s x o (by rw [off_out n2]; exact e)
  rw [off_out n2] at this; exact this
theorem sm_one {H H' : Hp} {S : List Addr} {b : Addr} (h : b ∈ S) (s : Sm [b] H H') : Sm S H H' := sm_mono (fun x hx => by rw [List.mem_singleton.mp hx]; exact h) s
theorem sm_of {H H' : Hp} {S : List Addr} (s : Same H H') : Sm S H H' := fun x o h => by
  have n := off_mem h
  rw [off_out n] at h ⊢; exact s x o h
theorem sm_put {H : Hp} {S : List Addr} {p : Addr} {o : HO} (h : H p = none) : Sm S H (upd H p o) := sm_of (same_upd h)
theorem sm_wr {H : Hp} {S : List Addr} {p : Addr} {o : HO} (h : p ∈ S) : Sm S H (upd H p o) := fun x u e => by
  have n := off_mem e
  rw [off_out n] at e ⊢
  have ne : x ≠ p := fun z => n (by rw [z]; exact h)
  rw [upd_ne ne]; exact e
theorem at_off {H : Hp} {S : List Addr} {x : Addr} {o : HO} (h : off H S x = some o) : H x = some o := off_sub x o h
theorem Bx.ne {H : Hp} {b p : Addr} (B : Bx H b) (h : H p = none) : p ≠ b := fun e => by
  obtain ⟨x, y, z, B⟩ := B
  rw [e, B] at h; cases h
theorem Bx.same {H H' : Hp} {b : Addr} (B : Bx H b) (s : Same H H') : Bx H' b := by
  obtain ⟨x, y, z, B⟩ := B
  exact ⟨x, y, z, s _ _ B⟩
theorem Bx.put {H : Hp} {b p : Addr} {o : HO} (B : Bx H b) (h : H p = none) : Bx (upd H p o) b := B.same (same_upd h)
theorem Bx.wr {H : Hp} {b p : Addr} {o : HO} (B : Bx H b) (h : p ≠ b) : Bx (upd H p o) b := by
  obtain ⟨x, y, z, B⟩ := B
  exact ⟨x, y, z, by rw [upd_ne h.symm]; exact B⟩
/-- all of S are there -/
def Live (S : List Addr) (H : Hp) : Prop := ∀ s ∈ S, H s ≠ none
theorem Live.same {S : List Addr} {H H' : Hp} (L : Live S H) (s : Same H H') : Live S H' := fun x hx e => by
  cases h : H x with
  | none => exact L x hx h
  | some o => rw [s x o h] at e; cases e
theorem Live.box {S : List Addr} {H H' : Hp} {b : Addr} (L : Live S H) (B : Bx H' b) (s : Sm [b] H H') : Live S H' := fun x hx e => by
  by_cases hb : x = b
  · obtain ⟨_, _, _, B⟩ := B
    rw [hb, B] at e; cases e
  · have n : x ∉ [b] := fun z => hb (List.mem_singleton.mp z)
    cases h : H x with
    | none => exact L x hx h
    | some o =>
      have := s x o (by rw [off_out n]; exact h)
      rw [off_out n, e] at this; cases this
theorem Live.put {S : List Addr} {H : Hp} {p : Addr} {o : HO} (L : Live S H) (h : H p = none) : Live S (upd H p o) := L.same (same_upd h)
theorem Live.wr {S : List Addr} {H : Hp} {p : Addr} {o : HO} (L : Live S H) : Live S (upd H p o) := fun x hx e => by
  by_cases hp : x = p
  · rw [hp, upd_same] at e; cases e
  · rw [upd_ne hp] at e; exact L x hx e
theorem Live.one {H : Hp} {b : Addr} (B : Bx H b) : Live [b] H := fun x hx e => by
  obtain ⟨_, _, _, B⟩ := B
  rw [List.mem_singleton.mp hx, B] at e; cases e
theorem Live.out {S : List Addr} {H : Hp} {p : Addr} (L : Live S H) (h : H p = none) : p ∉ S := fun z => L p z h
theorem Live.cons {S : List Addr} {H : Hp} {p : Addr} {o : HO} (L : Live S H) (h : H p = some o) : Live (p :: S) H := fun x hx e => by
  rcases List.mem_cons.mp hx with z | z
  · rw [z, h] at e; cases e
  · exact L x z e
theorem off_new {H : Hp} {S : List Addr} {p : Addr} {o : HO} (L : Live S H) (h : H p = none) : off (upd H p o) S p = some o := by
  rw [off_out (L.out h)]; exact upd_same
theorem off_upd {H : Hp} {S : List Addr} {p : Addr} {o : HO} (h : p ∉ S) : off (upd H p o) S p = some o := by
  rw [off_out h]; exact upd_same
section
variable {K : PySem.W.Frag}
theorem sq_off {H : Hp} {S : List Addr} {a : Addr} {xs : List V} (h : SqL K (off H S) a xs) : SqL K H a xs := off_sub.seq h
theorem sqt_off {H : Hp} {S : List Addr} {a : Addr} {xs : List V} (h : SqT K (off H S) a xs) : SqT K H a xs := same_tup off_sub h
theorem dp_off {H : Hp} {S : List Addr} {v : V} {d : PyData} (h : Dp K (off H S) v d) : Dp K H v d := dp_same off_sub h
/-- a new list is none of S, beside which the rest stands as it was -/
theorem off_fresh {H : Hp} {S : List Addr} {p : Addr} {o : HO} (h : H p = none) : off (upd H p o) (p :: S) = off H S := by
  funext x; unfold off
  by_cases e : x = p
  · subst e
    rw [if_pos List.mem_cons_self, h]
    split <;> rfl
  · have : (x ∈ p :: S) ↔ x ∈ S := by rw [List.mem_cons]; exact ⟨fun z => z.resolve_left e, .inr⟩
    by_cases m : x ∈ S
    · rw [if_pos m, if_pos (this.mpr m)]
    · rw [if_neg m, if_neg fun z => m (this.mp z), upd_ne e]
end
/-! ### what is made of numbers, texts, truths, None, lists and tuples -/
/-- numbers within m, texts of at most 2000 signs -/
def gdAll (m : Nat) : List PyData → Prop
  | [] => True
  | x :: xs => gd m x ∧ gdAll m xs
where gd (m : Nat) : PyData → Prop
  | .none => True
  | .bool _ => True
  | .int i => i.natAbs ≤ m
  | .str x => x.length ≤ 2000 ∧ ∀ c ∈ x.cps.toList, c < 1114112
  | .list xs => gdAll m xs
  | .tuple xs => gdAll m xs
  | .dict _ => False
abbrev gd (m : Nat) (d : PyData) : Prop := gdAll.gd m d
theorem gdAll_iff {m : Nat} : ∀ {ds : List PyData}, gdAll m ds ↔ ∀ d ∈ ds, gd m d
  | [] => ⟨fun _ _ h => (List.not_mem_nil h).elim, fun _ => trivial⟩
  | x :: xs => by
    constructor
    · intro h d hd
      rcases List.mem_cons.mp hd with e | e
      · rw [e]; exact h.1
      · exact gdAll_iff.mp h.2 d e
    · intro h
      exact ⟨h x List.mem_cons_self, gdAll_iff.mpr fun d hd => h d (List.mem_cons_of_mem _ hd)⟩
mutual
theorem gd_mono {m n : Nat} (h : m ≤ n) : ∀ d : PyData, gd m d → gd n d
  | .none, _ => trivial
  | .bool _, _ => trivial
  | .int i, g => Nat.le_trans g h
  | .str _, g => g
  | .list xs, g => gdAll_mono h xs g
  | .tuple xs, g => gdAll_mono h xs g
  | .dict _, g => g.elim
theorem gdAll_mono {m n : Nat} (h : m ≤ n) : ∀ ds : List PyData, gdAll m ds → gdAll n ds
  | [], _ => trivial
  | x :: xs, g => ⟨gd_mono h x g.1, gdAll_mono h xs g.2⟩
end
theorem log_small' {i : Int} (h : i.natAbs ≤ 2000000) : i.natAbs.log2 < 1920 := by
  by_cases z : i.natAbs = 0
  · rw [z]; decide
  · have := (Nat.log2_lt z).mpr (show i.natAbs < 2 ^ 21 from Nat.lt_of_le_of_lt h (by decide))
    omega
mutual
theorem gd_fine {m : Nat} (h : m ≤ 2000000) : ∀ d : PyData, gd m d → fineAll.fine d
  | .none, _ => trivial
  | .bool _, _ => trivial
  | .int i, g => log_small' (Nat.le_trans g h)
  | .str _, g => fun c hc => Nat.lt_trans (g.2 c hc) (by decide)
  | .list xs, g => gdAll_fine h xs g
  | .tuple xs, g => gdAll_fine h xs g
  | .dict _, g => g.elim
theorem gdAll_fine {m : Nat} (h : m ≤ 2000000) : ∀ ds : List PyData, gdAll m ds → fineAll ds
  | [], _ => trivial
  | x :: xs, g => ⟨gd_fine h x g.1, gdAll_fine h xs g.2⟩
end
theorem costAll_app (xs ys : List PyData) : costAll (xs ++ ys) = costAll xs + costAll ys := by
  induction xs with
  | nil => simp [costAll]
  | cons x xs ih => simp only [List.cons_append, costAll, ih]; omega
theorem cost_mem {ds : List PyData} {d : PyData} (h : d ∈ ds) : costAll.cost d + 2 ≤ costAll ds := by
  induction ds with
  | nil => exact (List.not_mem_nil h).elim
  | cons x xs ih =>
    show _ ≤ costAll.cost x + 2 + costAll xs
    rcases List.mem_cons.mp h with e | e
    · rw [e]; omega
    · have := ih e; omega
theorem len_cost : ∀ ds : List PyData, 2 * ds.length ≤ costAll ds
  | [] => Nat.le_refl _
  | x :: xs => by
    have := len_cost xs
    show 2 * (xs.length + 1) ≤ costAll.cost x + 2 + costAll xs
    omega
theorem depthAll_iff {D : Nat} : ∀ {ds : List PyData}, PyData.depthAll ds ≤ D ↔ ∀ d ∈ ds, d.depth ≤ D
  | [] => ⟨fun _ _ h => (List.not_mem_nil h).elim, fun _ => Nat.zero_le _⟩
  | x :: xs => by
    show max x.depth (PyData.depthAll xs) ≤ D ↔ _
    rw [Nat.max_le, depthAll_iff (ds := xs)]
    constructor
    · rintro ⟨h1, h2⟩ d hd
      rcases List.mem_cons.mp hd with e | e
      · rw [e]; exact h1
      · exact h2 d e
    · intro h
      exact ⟨h x List.mem_cons_self, fun d hd => h d (List.mem_cons_of_mem _ hd)⟩
/-- rows of parts: of numbers within m, their cost, how deep and how wide each -/
structure Ths (m C D W : Nat) (ds : List PyData) : Prop where
  g : ∀ d ∈ ds, gd m d
  c : costAll ds ≤ C
  d : ∀ d ∈ ds, d.depth ≤ D
  w : ∀ d ∈ ds, widAll.wid d ≤ W
/-- a thing: of numbers within m, its cost, how deep, how wide -/
structure Th (m C D W : Nat) (dd : PyData) : Prop where
  g : gd m dd
  c : costAll.cost dd ≤ C
  d : dd.depth ≤ D
  w : widAll.wid dd ≤ W
theorem widAll_iff {D : Nat} : ∀ {ds : List PyData}, widAll ds ≤ D ↔ ∀ d ∈ ds, widAll.wid d ≤ D
  | [] => ⟨fun _ _ h => (List.not_mem_nil h).elim, fun _ => Nat.zero_le _⟩
  | x :: xs => by
    show max (widAll.wid x) (widAll xs) ≤ D ↔ _
    rw [Nat.max_le, widAll_iff (ds := xs)]
    constructor
    · rintro ⟨h1, h2⟩ d hd
      rcases List.mem_cons.mp hd with e | e
      · rw [e]; exact h1
      · exact h2 d e
    · intro h
      exact ⟨h x List.mem_cons_self, fun d hd => h d (List.mem_cons_of_mem _ hd)⟩
section
variable {m n C E D F W U : Nat} {d x : PyData} {ds xs ys : List PyData}
theorem Th.mono (h : Th m C D W d) (a : m ≤ n) (b : C ≤ E) (c : D ≤ F) (e : W ≤ U) : Th n E F U d := ⟨gd_mono a d h.g, Nat.le_trans h.c b, Nat.le_trans h.d c, Nat.le_trans h.w e⟩
theorem Ths.mono (h : Ths m C D W ds) (a : m ≤ n) (b : C ≤ E) (c : D ≤ F) (e : W ≤ U) : Ths n E F U ds := ⟨fun x hx => gd_mono a x (h.g x hx), Nat.le_trans h.c b, fun x hx => Nat.le_trans (h.d x hx) c, fun x hx => Nat.le_trans (h.w x hx) e⟩
theorem Ths.app (h : Ths m C D W xs) (k : Ths m E D W ys) : Ths m (C + E) D W (xs ++ ys) :=
  ⟨fun d hd => (List.mem_append.mp hd).elim (h.g d) (k.g d), by rw [costAll_app]; exact Nat.add_le_add h.c k.c, fun d hd => (List.mem_append.mp hd).elim (h.d d) (k.d d), fun d hd => (List.mem_append.mp hd).elim (h.w d) (k.w d)⟩
theorem Ths.nil : Ths m 0 D W [] := ⟨fun _ h => (List.not_mem_nil h).elim, Nat.le_refl _, fun _ h => (List.not_mem_nil h).elim, fun _ h => (List.not_mem_nil h).elim⟩
theorem Ths.one (h : Th m C D W x) : Ths m (C + 2) D W [x] :=
  ⟨fun d hd => by rw [List.mem_singleton.mp hd]; exact h.g, by show costAll.cost x + 2 + 0 ≤ _; have := h.c; omega, fun d hd => by rw [List.mem_singleton.mp hd]; exact h.d, fun d hd => by rw [List.mem_singleton.mp hd]; exact h.w⟩
theorem Ths.mem (h : Ths m C D W ds) (e : d ∈ ds) : Th m C D W d := ⟨h.g d e, by have := cost_mem e; have := h.c; omega, h.d d e, h.w d e⟩
theorem Ths.len (h : Ths m C D W ds) : 2 * ds.length ≤ C := Nat.le_trans (len_cost ds) h.c
theorem Ths.list (h : Ths m C D W ds) (l : ds.length ≤ W) : Th m (C + 3) (D + 1) W (.list ds) :=
  ⟨gdAll_iff.mpr h.g, by show costAll ds + 3 ≤ _; have := h.c; omega, by show PyData.depthAll ds + 1 ≤ _; have := depthAll_iff.mpr h.d; omega, by show max ds.length (widAll ds) ≤ W; exact Nat.max_le.mpr ⟨l, widAll_iff.mpr h.w⟩⟩
theorem Ths.tuple (h : Ths m C D W ds) (l : ds.length ≤ W) : Th m (C + 3) (D + 1) W (.tuple ds) :=
  ⟨gdAll_iff.mpr h.g, by show costAll ds + 3 ≤ _; have := h.c; omega, by show PyData.depthAll ds + 1 ≤ _; have := depthAll_iff.mpr h.d; omega, by show max ds.length (widAll ds) ≤ W; exact Nat.max_le.mpr ⟨l, widAll_iff.mpr h.w⟩⟩
theorem Th.ofList (h : Th m C D W (.list ds)) : Ths m (C - 3) (D - 1) W ds ∧ ds.length ≤ W ∧ 3 ≤ C ∧ 1 ≤ D := by
  have h1 : costAll ds + 3 ≤ C := h.c
  have h2 : PyData.depthAll ds + 1 ≤ D := h.d
  have h3 : max ds.length (widAll ds) ≤ W := h.w
  exact ⟨⟨gdAll_iff.mp h.g, by omega, depthAll_iff.mp (by omega), widAll_iff.mp (Nat.le_trans (Nat.le_max_right ..) h3)⟩, Nat.le_trans (Nat.le_max_left ..) h3, by omega, by omega⟩
theorem Th.ofTuple (h : Th m C D W (.tuple ds)) : Ths m (C - 3) (D - 1) W ds ∧ ds.length ≤ W ∧ 3 ≤ C ∧ 1 ≤ D := by
  have h1 : costAll ds + 3 ≤ C := h.c
  have h2 : PyData.depthAll ds + 1 ≤ D := h.d
  have h3 : max ds.length (widAll ds) ≤ W := h.w
  exact ⟨⟨gdAll_iff.mp h.g, by omega, depthAll_iff.mp (by omega), widAll_iff.mp (Nat.le_trans (Nat.le_max_right ..) h3)⟩, Nat.le_trans (Nat.le_max_left ..) h3, by omega, by omega⟩
theorem costAll_take (n : Nat) (ds : List PyData) : costAll (ds.take n) ≤ costAll ds := by
  have := costAll_app (ds.take n) (ds.drop n)
  rw [List.take_append_drop] at this; omega
theorem costAll_drop (n : Nat) (ds : List PyData) : costAll (ds.drop n) ≤ costAll ds := by
  have := costAll_app (ds.take n) (ds.drop n)
  rw [List.take_append_drop] at this; omega
theorem costAll_rev : ∀ ds : List PyData, costAll ds.reverse = costAll ds
  | [] => rfl
  | x :: xs => by rw [List.reverse_cons, costAll_app, costAll_rev xs]; show _ + (costAll.cost x + 2 + 0) = costAll.cost x + 2 + costAll xs; omega
theorem Ths.sub (h : Ths m C D W ds) (s : ∀ x ∈ xs, x ∈ ds) (c : costAll xs ≤ C) : Ths m C D W xs := ⟨fun d hd => h.g d (s d hd), c, fun d hd => h.d d (s d hd), fun d hd => h.w d (s d hd)⟩
theorem Ths.take (h : Ths m C D W ds) (n : Nat) : Ths m C D W (ds.take n) := h.sub (fun d hd => List.mem_of_mem_take hd) (Nat.le_trans (costAll_take n ds) h.c)
theorem Ths.drop (h : Ths m C D W ds) (n : Nat) : Ths m C D W (ds.drop n) := h.sub (fun d hd => List.mem_of_mem_drop hd) (Nat.le_trans (costAll_drop n ds) h.c)
theorem Ths.rev (h : Ths m C D W ds) : Ths m C D W ds.reverse := h.sub (fun d hd => List.mem_reverse.mp hd) (by rw [costAll_rev]; exact h.c)
theorem costAll_set : ∀ (ds : List PyData) (i : Nat) (x : PyData), costAll (ds.set i x) ≤ costAll ds + (costAll.cost x + 2)
  | [], _, _ => Nat.zero_le _
  | y :: ys, 0, x => by show costAll.cost x + 2 + costAll ys ≤ costAll.cost y + 2 + costAll ys + _; omega
  | y :: ys, i + 1, x => by
    have := costAll_set ys i x
    show costAll.cost y + 2 + costAll (ys.set i x) ≤ costAll.cost y + 2 + costAll ys + _
    omega
theorem Ths.set {i : Nat} (h : Ths m C D W ds) (k : Th m E D W x) : Ths m (C + E + 2) D W (ds.set i x) :=
  ⟨fun d hd => (List.mem_or_eq_of_mem_set hd).elim (h.g d) fun e => by rw [e]; exact k.g, Nat.le_trans (costAll_set ds i x) (by have := h.c; have := k.c; omega), fun d hd => (List.mem_or_eq_of_mem_set hd).elim (h.d d) fun e => by rw [e]; exact k.d, fun d hd => (List.mem_or_eq_of_mem_set hd).elim (h.w d) fun e => by rw [e]; exact k.w⟩
end
section
variable {K : PySem.W.Frag} {H : Hp}
theorem dpAll_app' : ∀ {xs ys : List V} {ds es : List PyData}, DpAll K H xs ds → DpAll K H ys es → DpAll K H (xs ++ ys) (ds ++ es)
  | _, _, _, _, .nil, h => h
  | _, _, _, _, .cons h t, h2 => .cons h (dpAll_app' t h2)
theorem dpAll_take : ∀ {xs : List V} {ds : List PyData} (n : Nat), DpAll K H xs ds → DpAll K H (xs.take n) (ds.take n)
  | _, _, 0, _ => .nil
  | _, _, _ + 1, .nil => .nil
  | _, _, n + 1, .cons h t => .cons h (dpAll_take n t)
theorem dpAll_drop : ∀ {xs : List V} {ds : List PyData} (n : Nat), DpAll K H xs ds → DpAll K H (xs.drop n) (ds.drop n)
  | _, _, 0, h => h
  | _, _, _ + 1, .nil => .nil
  | _, _, n + 1, .cons _ t => dpAll_drop n t
theorem dpAll_rev : ∀ {xs : List V} {ds : List PyData}, DpAll K H xs ds → DpAll K H xs.reverse ds.reverse
  | _, _, .nil => .nil
  | _, _, .cons h t => by rw [List.reverse_cons, List.reverse_cons]; exact dpAll_app' (dpAll_rev t) (.cons h .nil)
theorem dpAll_set : ∀ {xs : List V} {ds : List PyData} {i : Nat} {v : V} {d : PyData}, DpAll K H xs ds → Dp K H v d → DpAll K H (xs.set i v) (ds.set i d)
  | _, _, _, _, _, .nil, _ => .nil
  | _, _, 0, _, _, .cons _ t, k => .cons k t
  | _, _, _ + 1, _, _, .cons h t, k => .cons h (dpAll_set t k)
/-- a slice of a row of parts -/
theorem dp_cut {xs : List V} {ds : List PyData} {lo hi : Option Int} {m C D W : Nat} (h : DpAll K H xs ds) (t : Ths m C D W ds) : ∃ es, DpAll K H (cutV xs lo hi) es ∧ Ths m C D W es ∧ es.length ≤ ds.length := by
  unfold cutV
  exact ⟨_, dpAll_take _ (dpAll_drop _ h), (t.drop _).take _, by rw [List.length_take, List.length_drop]; omega⟩
theorem dp_lst' {v : V} {ds : List PyData} (h : Dp K H v (.list ds)) : ∃ a xs, v = .ref a ∧ SqL K H a xs ∧ DpAll K H xs ds := by
  cases h with
  | lst h a => exact ⟨_, _, rfl, h, a⟩
end
end Pot
namespace Pot
open PySem PySem.Spec PyProof.Rows L2
theorem sm_at {H H' : Hp} {S : List Addr} {x : Addr} {o : HO} (s : Sm S H H') (n : x ∉ S) (h : H x = some o) : H' x = some o := by
  have := s x o (by rw [off_out n]; exact h)
  rw [off_out n] at this; exact this
theorem sm1_at {H H' : Hp} {b x : Addr} {o : HO} (s : Sm [b] H H') (n : x ≠ b) (h : H x = some o) : H' x = some o := sm_at s (fun z => n (List.mem_singleton.mp z)) h
theorem smp {H H' : Hp} {S : List Addr} {p : Addr} {o : HO} (s : Sm S H H') (h : H p = none) : Sm S H (upd H' p o) := fun x u e => by
  have n := off_mem e
  have ne : x ≠ p := fun z => by
    rw [off_out n, z, h] at e; cases e
  have := s x u e
  rw [off_out n] at this ⊢
  rw [upd_ne ne]; exact this
theorem sm_free {H H' : Hp} {b l : Addr} (s : Sm [b] H H') (B : Bx H' b) (h : H' l = none) : H l = none := by
  have nb := B.ne h
  have n : l ∉ [b] := fun z => nb (List.mem_singleton.mp z)
  cases e : H l with
  | none => rfl
  | some o => rw [sm_at s n e] at h; cases h
theorem cut_map {α : Type} (f : α → V) (ns : List α) (lo hi : Option Int) : cutV (ns.map f) lo hi = ((ns.drop (HT.sIx ns.length 0 lo)).take (HT.sIx ns.length ns.length hi - HT.sIx ns.length 0 lo)).map f := by
  unfold cutV
  rw [List.length_map, List.map_take, List.map_drop]
theorem cut_head {xs : List V} {k : Nat} : cutV xs none (some (k : Int)) = xs.take k := by
  unfold cutV
  rw [HT.sIx_none, HT.sIx_nat, List.drop_zero, Nat.sub_zero]
  by_cases h : k ≤ xs.length
  · rw [Nat.min_eq_left h]
  · rw [Nat.min_eq_right (by omega), List.take_length, List.take_of_length_le (by omega)]
theorem cut_tail {xs : List V} {k : Nat} : cutV xs (some (k : Int)) none = xs.drop k := by
  unfold cutV
  rw [HT.sIx_none, HT.sIx_nat]
  by_cases h : k ≤ xs.length
  · rw [Nat.min_eq_left h, List.take_of_length_le (by rw [List.length_drop]; exact Nat.le_refl _)]
  · rw [Nat.min_eq_right (by omega), Nat.sub_self, List.take_zero, List.drop_of_length_le (by omega)]
end Pot
namespace Pot
open PySem PySem.Spec PyProof.Rows L2
section
variable {K : PySem.W.Frag} {H : Hp} {t : Addr} {d : PyData} {ds : List PyData}
theorem seq_dp {x : V} (h : Dp K H x d) (e : d = .list ds ∨ d = .tuple ds) : ∃ t zs, x = .ref t ∧ (SqL K H t zs ∨ SqT K H t zs) ∧ DpAll K H zs ds := by
  rcases e with rfl | rfl
  · cases h with
    | lst h a => exact ⟨_, _, rfl, .inl h, a⟩
  · cases h with
    | tup h a => exact ⟨_, _, rfl, .inr h, a⟩
theorem len_dp (h : Dp K H (.ref t) d) (e : d = .list ds ∨ d = .tuple ds) : LenV K (.ref t) H ds.length := by
  rcases e with rfl | rfl
  · cases h with
    | lst h a => exact .inl ⟨_, h, (dpAll_len a).symm⟩
  · cases h with
    | tup h a => exact .inr ⟨_, h, (dpAll_len a).symm⟩
theorem Th.parts {m C D W : Nat} (h : Th m C D W d) (e : d = .list ds ∨ d = .tuple ds) : Ths m (C - 3) (D - 1) W ds ∧ ds.length ≤ W ∧ 3 ≤ C ∧ 1 ≤ D := by
  rcases e with rfl | rfl
  · exact h.ofList
  · exact h.ofTuple
end
theorem sm_in {H H' : Hp} {S : List Addr} {x : Addr} {o : HO} (s : Sm S H H') (h : off H S x = some o) : off H' S x = some o := s x o h
end Pot
namespace Pot
open PySem PySem.Spec PyProof.Rows L2
theorem costAll_set_eq : ∀ {ds : List PyData} {i : Nat} {x y : PyData}, ds[i]? = some y → costAll (ds.set i x) + costAll.cost y = costAll ds + costAll.cost x
  | [], _, _, _, h => by simp at h
  | z :: zs, 0, x, y, h => by
    have e : z = y := by simpa using h
    subst e
    show costAll.cost x + 2 + costAll zs + costAll.cost z = costAll.cost z + 2 + costAll zs + costAll.cost x
    omega
  | z :: zs, i + 1, x, y, h => by
    have := costAll_set_eq (ds := zs) (i := i) (x := x) (y := y) (by simpa using h)
    show costAll.cost z + 2 + costAll (zs.set i x) + costAll.cost y = costAll.cost z + 2 + costAll zs + costAll.cost x
    omega
theorem codes_ofString (s : String) : ∀ c ∈ (Str.ofString s).cps.toList, c < 1114112 := by
  intro c hc
  rw [Str.ofString_eq_toList] at hc
  have : c ∈ s.toList.map Char.toNat := by simpa using hc
  obtain ⟨ch, _, rfl⟩ := List.mem_map.mp this
  have v := ch.valid
  have e : ch.toNat = ch.val.toNat := rfl
  rcases v with v | ⟨_, v⟩
  · have : ch.val.toNat < 0xD800 := v
    omega
  · have : ch.val.toNat < 0x110000 := v
    omega
theorem th_text {i : Int} (h : i.natAbs ≤ 2000000) {m : Nat} : Th m 19212 0 0 (.str (toString i)) := by
  have l : (Str.ofString (toString i)).length ≤ 1921 := PyProof.Rows.int_text_len_1921 (log_small' h)
  exact ⟨⟨by omega, codes_ofString _⟩, by show 10 * (Str.ofString (toString i)).length + 2 ≤ 19212; omega, Nat.le_refl _, Nat.le_refl _⟩
end Pot

namespace Pot
open PySem PySem.Spec PyProof.Rows L2
/-! ### kinds of data -/
def tyD : PyData → String
  | .none => "NoneType"
  | .bool _ => "bool"
  | .int _ => "int"
  | .str _ => "str"
  | .list _ => "list"
  | .tuple _ => "tuple"
  | .dict _ => "dict"
def isIntD : PyData → Bool
  | .int _ => true
  | .bool _ => true
  | _ => false
def isBoolD : PyData → Bool
  | .bool _ => true
  | _ => false
def isStrD : PyData → Bool
  | .str _ => true
  | _ => false
def isListD : PyData → Bool
  | .list _ => true
  | _ => false
def isTupD : PyData → Bool
  | .tuple _ => true
  | _ => false
section
variable {K : PySem.W.Frag} {H : Hp} {x : V} {d : PyData} {Q : VK}
theorem tyx_dp (h : Dp K H x d) : TyX K H x (.type (tyD d)) := by
  cases h with
  | non => exact .base .non
  | bl b => exact .base (.bl b)
  | int i => exact .base (.int i)
  | str z => exact .base (.str z)
  | lst h _ => exact tyx_list h
  | tup h _ => exact tyx_tup h
theorem kit_int (h : Dp K H x d) : PySem.W.kitOne K (.type (tyD d)) (.type "int") = some (isIntD d) := by
  cases h with
  | non => exact kit_ty (show kitB "NoneType" "int" = some false by decide +kernel)
  | bl _ => exact kit_ty (show kitB "bool" "int" = some true by decide +kernel)
  | int _ => exact kit_ty (show kitB "int" "int" = some true by decide +kernel)
  | str _ => exact kit_ty (show kitB "str" "int" = some false by decide +kernel)
  | lst _ _ => exact kit_ty (show kitB "list" "int" = some false by decide +kernel)
  | tup _ _ => exact kit_ty (show kitB "tuple" "int" = some false by decide +kernel)
theorem kit_bool (h : Dp K H x d) : PySem.W.kitOne K (.type (tyD d)) (.type "bool") = some (isBoolD d) := by
  cases h with
  | non => exact kit_ty (show kitB "NoneType" "bool" = some false by decide +kernel)
  | bl _ => exact kit_ty (show kitB "bool" "bool" = some true by decide +kernel)
  | int _ => exact kit_ty (show kitB "int" "bool" = some false by decide +kernel)
  | str _ => exact kit_ty (show kitB "str" "bool" = some false by decide +kernel)
  | lst _ _ => exact kit_ty (show kitB "list" "bool" = some false by decide +kernel)
  | tup _ _ => exact kit_ty (show kitB "tuple" "bool" = some false by decide +kernel)
theorem kit_str (h : Dp K H x d) : PySem.W.kitOne K (.type (tyD d)) (.type "str") = some (isStrD d) := by
  cases h with
  | non => exact kit_ty (show kitB "NoneType" "str" = some false by decide +kernel)
  | bl _ => exact kit_ty (show kitB "bool" "str" = some false by decide +kernel)
  | int _ => exact kit_ty (show kitB "int" "str" = some false by decide +kernel)
  | str _ => exact kit_ty (show kitB "str" "str" = some true by decide +kernel)
  | lst _ _ => exact kit_ty (show kitB "list" "str" = some false by decide +kernel)
  | tup _ _ => exact kit_ty (show kitB "tuple" "str" = some false by decide +kernel)
theorem kit_list (h : Dp K H x d) : PySem.W.kitOne K (.type (tyD d)) (.type "list") = some (isListD d) := by
  cases h with
  | non => exact kit_ty (show kitB "NoneType" "list" = some false by decide +kernel)
  | bl _ => exact kit_ty (show kitB "bool" "list" = some false by decide +kernel)
  | int _ => exact kit_ty (show kitB "int" "list" = some false by decide +kernel)
  | str _ => exact kit_ty (show kitB "str" "list" = some false by decide +kernel)
  | lst _ _ => exact kit_ty (show kitB "list" "list" = some true by decide +kernel)
  | tup _ _ => exact kit_ty (show kitB "tuple" "list" = some false by decide +kernel)
theorem kit_tup (h : Dp K H x d) : PySem.W.kitOne K (.type (tyD d)) (.type "tuple") = some (isTupD d) := by
  cases h with
  | non => exact kit_ty (show kitB "NoneType" "tuple" = some false by decide +kernel)
  | bl _ => exact kit_ty (show kitB "bool" "tuple" = some false by decide +kernel)
  | int _ => exact kit_ty (show kitB "int" "tuple" = some false by decide +kernel)
  | str _ => exact kit_ty (show kitB "str" "tuple" = some false by decide +kernel)
  | lst _ _ => exact kit_ty (show kitB "list" "tuple" = some false by decide +kernel)
  | tup _ _ => exact kit_ty (show kitB "tuple" "tuple" = some true by decide +kernel)
theorem kit_lt (h : Dp K H x d) : PySem.W.kitAny K (.type (tyD d)) [.type "list", .type "tuple"] = some (isListD d || isTupD d) := by
  cases h <;> rfl
end
/-! ### numbers within bounds -/
def numD (lo hi : Int) : PyData → Bool
  | .int i => decide (lo ≤ i) && decide (i ≤ hi)
  | _ => false
def toI : PyData → Int
  | .int i => i
  | _ => 0
theorem numD_int {lo hi : Int} : ∀ {d : PyData}, numD lo hi d = true → d = .int (toI d) ∧ lo ≤ toI d ∧ toI d ≤ hi
  | .int i, h => by
    obtain ⟨h1, h2⟩ := Bool.and_eq_true_iff.mp (show (decide (lo ≤ i) && decide (i ≤ hi)) = true from h)
    exact ⟨rfl, of_decide_eq_true h1, of_decide_eq_true h2⟩
/-- rising -/
def risI : List Int → Bool
  | a :: b :: r => decide (a < b) && risI (b :: r)
  | _ => true
def risD (lo hi : Int) : PyData → Bool
  | .list ds => ds.all (numD lo hi) && risI (ds.map toI)
  | _ => false
theorem risI_pair : ∀ {ns : List Int}, risI ns = true ↔ ns.Pairwise (· < ·)
  | [] => by simp [risI]
  | [a] => by simp [risI]
  | a :: b :: r => by
    have ih := risI_pair (ns := b :: r)
    show (decide (a < b) && risI (b :: r)) = true ↔ _
    rw [Bool.and_eq_true_iff, decide_eq_true_eq, ih]
    constructor
    · rintro ⟨h1, h2⟩
      refine List.pairwise_cons.mpr ⟨fun x hx => ?_, h2⟩
      rcases List.mem_cons.mp hx with e | e
      · rw [e]; exact h1
      · exact Int.lt_trans h1 ((List.pairwise_cons.mp h2).1 x e)
    · intro h
      obtain ⟨h1, h2⟩ := List.pairwise_cons.mp h
      exact ⟨h1 b List.mem_cons_self, h2⟩
theorem nums_of {lo hi : Int} {ds : List PyData} (h : ds.all (numD lo hi) = true) : ds = (ds.map toI).map PyData.int ∧ ∀ k ∈ ds.map toI, lo ≤ k ∧ k ≤ hi := by
  rw [List.all_eq_true] at h
  constructor
  · rw [List.map_map]
    conv => lhs; rw [← List.map_id ds]
    exact List.map_congr_left fun d hd => (numD_int (h d hd)).1
  · intro k hk
    obtain ⟨d, hd, rfl⟩ := List.mem_map.mp hk
    exact (numD_int (h d hd)).2
section
variable {K : PySem.W.Frag} {H : Hp}
theorem dp_intsV : ∀ {xs : List V} {ns : List Int}, DpAll K H xs (ns.map PyData.int) → xs = ns.map V.int
  | [], [], _ => rfl
  | [], _ :: _, h => by cases h
  | _ :: _, [], h => by cases h
  | x :: xs, n :: ns, h => by
    cases h with
    | cons h t => cases h; rw [dp_intsV t]; rfl
end
/-- of a row that rises just the same: a row in which all stand in order, none twice -/
theorem sorted_uniq : ∀ {xs ys : List Int}, xs.Pairwise (· < ·) → ys.Pairwise (· < ·) → (∀ k, k ∈ xs ↔ k ∈ ys) → xs = ys
  | [], [], _, _, _ => rfl
  | [], y :: ys, _, _, h => by have := (h y).mpr List.mem_cons_self; simp at this
  | x :: xs, [], _, _, h => by have := (h x).mp List.mem_cons_self; simp at this
  | x :: xs, y :: ys, h1, h2, h => by
    rw [List.pairwise_cons] at h1 h2
    have e : x = y := by
      rcases List.mem_cons.mp ((h x).mp List.mem_cons_self) with e | e
      · exact e
      · rcases List.mem_cons.mp ((h y).mpr List.mem_cons_self) with e2 | e2
        · exact e2.symm
        · have := h2.1 x e; have := h1.1 y e2; omega
    subst e
    have : xs = ys := sorted_uniq h1.2 h2.2 fun k => by
      constructor
      · intro hk
        rcases List.mem_cons.mp ((h k).mp (List.mem_cons_of_mem _ hk)) with e | e
        · have := h1.1 k hk; omega
        · exact e
      · intro hk
        rcases List.mem_cons.mp ((h k).mpr (List.mem_cons_of_mem _ hk)) with e | e
        · have := h2.1 k hk; omega
        · exact e
    rw [this]
theorem eqv_ints : ∀ xs ys : List Int, PyData.eqv (.list (xs.map PyData.int)) (.list (ys.map PyData.int)) = decide (xs = ys)
  | [], [] => rfl
  | [], _ :: _ => rfl
  | _ :: _, [] => rfl
  | x :: xs, y :: ys => by
    have ih := eqv_ints xs ys
    show (PyData.eqv (.int x) (.int y) && PyData.eqvAll (xs.map PyData.int) (ys.map PyData.int)) = _
    rw [show PyData.eqvAll (xs.map PyData.int) (ys.map PyData.int) = decide (xs = ys) from ih]
    show ((x == y) && _) = _
    by_cases h : x = y
    · subst h; simp
    · simp [h]
/-- thing == sorted(set(thing)): just where it rises -/
theorem eq_sorted {ns zs : List Int} (h : zs.Pairwise (· < ·)) (m : ∀ k, k ∈ zs ↔ k ∈ ns) : decide (ns = zs) = risI ns := by
  by_cases e : ns = zs
  · rw [decide_eq_true e, e]; exact (risI_pair.mpr h).symm
  · rw [decide_eq_false e]
    cases hr : risI ns with
    | false => rfl
    | true => exact absurd (sorted_uniq (risI_pair.mp hr) h fun k => (m k).symm) e
theorem nodup_60 {ks : List Int} (h : ks.Nodup) (b : ∀ k ∈ ks, 0 ≤ k ∧ k ≤ 60) : ks.length < 64 := by
  have := nodup_le (l := (List.range 61).map fun (i : Nat) => (i : Int)) h fun k hk => by
    obtain ⟨h0, h1⟩ := b k hk
    exact List.mem_map.mpr ⟨k.toNat, List.mem_range.mpr (by omega), by omega⟩
  rw [List.length_map, List.length_range] at this
  omega
end Pot
namespace Pot
open PySem PySem.Spec PyProof.Rows L2
/-! ### a comprehension that changes nothing that stood: out i is what is told up to turn i -/
def PvL (H1 : Hp) (D : Addr) (out : Nat → List V) (i : Nat) (H2 : Hp) : Prop := Same H1 H2 ∧ H2 D = some (.lst (out i))
section
variable {H1 H2 H3 : Hp} {D : Addr} {out : Nat → List V} {i : Nat} {y : V}
theorem pv_start (nD : H1 D = none) (e : out 0 = []) : PvL H1 D out 0 (upd H1 D (.lst [])) := ⟨same_upd nD, by rw [e]; exact upd_same⟩
theorem pv_put (nD : H1 D = none) (p : PvL H1 D out i H2) (s : Same H2 H3) (e : out (i + 1) = out i ++ [y]) (l : (out i).length < sizeLine) : ∃ acc, H3 D = some (.lst acc) ∧ acc.length < sizeLine ∧ PvL H1 D out (i + 1) (upd H3 D (.lst (acc ++ [y]))) :=
  ⟨out i, s _ _ p.2, l, same_put (p.1.trans s) nD, by rw [e]; exact upd_same⟩
theorem pv_skip (p : PvL H1 D out i H2) (s : Same H2 H3) (e : out (i + 1) = out i) : PvL H1 D out (i + 1) H3 := ⟨p.1.trans s, by rw [e]; exact s _ _ p.2⟩
end
theorem take_map {α : Type} (f : α → V) {l : List α} {i : Nat} {x : α} (h : l[i]? = some x) : (l.take (i + 1)).map f = (l.take i).map f ++ [f x] := by
  rw [List.take_add_one, h, List.map_append]; rfl
theorem take_len_lt {α : Type} {f : α → V} {l : List α} {i : Nat} (h : i < 100000) : ((l.take i).map f).length < sizeLine := by
  rw [List.length_map, List.length_take, sizeLine_eq]; omega
theorem take_len_le {α : Type} {f : α → V} {l : List α} {i : Nat} (h : l.length < 100000) : ((l.take i).map f).length < sizeLine := by
  rw [List.length_map, List.length_take, sizeLine_eq]; omega
/-- each below the next -/
def rb : List Int → List Bool
  | a :: b :: r => decide (a < b) :: rb (b :: r)
  | _ => []
theorem rb_all : ∀ ns : List Int, (rb ns).all id = risI ns
  | [] => rfl
  | [_] => rfl
  | a :: b :: r => by show (decide (a < b) && (rb (b :: r)).all id) = _; rw [rb_all (b :: r)]; rfl
theorem rb_len : ∀ ns : List Int, (rb ns).length = ns.length - 1
  | [] => rfl
  | [_] => rfl
  | a :: b :: r => by show (rb (b :: r)).length + 1 = _; rw [rb_len (b :: r)]; simp
theorem rb_at : ∀ {ns : List Int} {i : Nat} {x y : Int}, ns[i]? = some x → ns[i + 1]? = some y → (rb ns)[i]? = some (decide (x < y))
  | [], _, _, _, h, _ => by simp at h
  | [_], i, _, _, _, h => by simp at h
  | a :: b :: r, 0, x, y, h, k => by
    have e1 : a = x := by simpa using h
    have e2 : b = y := by simpa using k
    subst e1 e2; rfl
  | a :: b :: r, i + 1, x, y, h, k => rb_at (ns := b :: r) (i := i) (by simpa using h) (by simpa using k)
/-- what is told of each of some data -/
theorem all_map {ds : List PyData} {f : PyData → Bool} : (ds.map f).all id = ds.all f := by
  rw [List.all_map]; rfl
end Pot
namespace Pot
open PySem PySem.Spec PyProof.Rows L2
theorem pv_end {H1 H2 : Hp} {D : Addr} {out : Nat → List V} {n : Nat} {zs : List V} (p : PvL H1 D out n H2) (e : out n = zs) : Same H1 H2 ∧ H2 D = some (.lst zs) := ⟨p.1, by rw [← e]; exact p.2⟩
theorem take_all {α : Type} {f : α → V} {l : List α} {n : Nat} (h : l.length ≤ n) : (l.take n).map f = l.map f := by rw [List.take_of_length_le h]
end Pot

namespace Pot
open PySem PySem.Spec PyProof.Rows L2
/-! ### palettes as data -/
abbrev Col := Str × Int × Int × Int
abbrev Wsh := Str × Str × Option Int
def colD (c : Col) : PyData := .tuple [.str c.1, .int c.2.1, .int c.2.2.1, .int c.2.2.2]
def optD : Option Int → PyData
  | none => .none
  | some i => .int i
def washD (r : Wsh) : PyData := .tuple [.str r.1, .str r.2.1, optD r.2.2]
def palD (cs : List Col) (ws : List Wsh) : PyData := .tuple [.tuple (cs.map colD), .tuple (ws.map washD)]
def optV : Option Int → V
  | none => .non
  | some i => .int i
def namV : Option Str → V
  | none => .non
  | some z => .str z
/-- the washing between two: the first row that tells -/
def washF (ws : List Wsh) (a : Option Str) (b : Str) : Option Int := match ws with
  | [] => some 0
  | r :: ws => if some r.1 = a ∧ r.2.1 = b then r.2.2 else washF ws a b
/-- the washing of a row -/
def sumF (ws : List Wsh) : Option Str → List Str → Int → Option Int
  | _, [], h => some h
  | a, b :: r, h => match washF ws a b with
    | none => none
    | some k => sumF ws (some b) r (h + k)
section
variable {K : PySem.W.Frag} {H : Hp}
theorem dp_tup {v : V} {ds : List PyData} (h : Dp K H v (.tuple ds)) : ∃ a xs, v = .ref a ∧ SqT K H a xs ∧ DpAll K H xs ds := by
  cases h with
  | tup h a => exact ⟨_, _, rfl, h, a⟩
theorem dp_lst {v : V} {ds : List PyData} (h : Dp K H v (.list ds)) : ∃ a xs, v = .ref a ∧ SqL K H a xs ∧ DpAll K H xs ds := by
  cases h with
  | lst h a => exact ⟨_, _, rfl, h, a⟩
theorem dp_str {v : V} {z : Str} (h : Dp K H v (.str z)) : v = .str z := by cases h; rfl
theorem dp_int {v : V} {z : Int} (h : Dp K H v (.int z)) : v = .int z := by cases h; rfl
theorem dp_opt {v : V} : ∀ {z : Option Int}, Dp K H v (optD z) → v = optV z
  | none, h => by cases h; rfl
  | some i, h => by cases h; rfl
theorem opt_dp : ∀ (z : Option Int), Dp K H (optV z) (optD z)
  | none => .non
  | some i => .int i
theorem dp_two {xs : List V} {d e : PyData} (h : DpAll K H xs [d, e]) : ∃ x y, xs = [x, y] ∧ Dp K H x d ∧ Dp K H y e := by
  cases h with
  | cons h1 t => cases t with
    | cons h2 t => cases t; exact ⟨_, _, rfl, h1, h2⟩
theorem dp_three {xs : List V} {d e f : PyData} (h : DpAll K H xs [d, e, f]) : ∃ x y z, xs = [x, y, z] ∧ Dp K H x d ∧ Dp K H y e ∧ Dp K H z f := by
  cases h with
  | cons h1 t => obtain ⟨y, z, rfl, h2, h3⟩ := dp_two t; exact ⟨_, _, _, rfl, h1, h2, h3⟩
theorem dp_four {xs : List V} {d e f g : PyData} (h : DpAll K H xs [d, e, f, g]) : ∃ x y z u, xs = [x, y, z, u] ∧ Dp K H x d ∧ Dp K H y e ∧ Dp K H z f ∧ Dp K H u g := by
  cases h with
  | cons h1 t => obtain ⟨y, z, u, rfl, h2, h3, h4⟩ := dp_three t; exact ⟨_, _, _, _, rfl, h1, h2, h3, h4⟩
/-- a colour's tuple -/
theorem col_dp {v : V} {c : Col} (h : Dp K H v (colD c)) : ∃ a, v = .ref a ∧ SqT K H a [.str c.1, .int c.2.1, .int c.2.2.1, .int c.2.2.2] := by
  obtain ⟨a, xs, rfl, hs, ha⟩ := dp_tup h
  obtain ⟨x, y, z, u, rfl, h1, h2, h3, h4⟩ := dp_four ha
  rw [dp_str h1, dp_int h2, dp_int h3, dp_int h4] at hs
  exact ⟨a, rfl, hs⟩
theorem wash_dp {v : V} {r : Wsh} (h : Dp K H v (washD r)) : ∃ a, v = .ref a ∧ SqT K H a [.str r.1, .str r.2.1, optV r.2.2] := by
  obtain ⟨a, xs, rfl, hs, ha⟩ := dp_tup h
  obtain ⟨x, y, z, rfl, h1, h2, h3⟩ := dp_three ha
  rw [dp_str h1, dp_str h2, dp_opt h3] at hs
  exact ⟨a, rfl, hs⟩
/-- a palette in the heap -/
theorem pal_dp {v : V} {cs : List Col} {ws : List Wsh} (h : Dp K H v (palD cs ws)) :
    ∃ p c w xs ys, v = .ref p ∧ SqT K H p [.ref c, .ref w] ∧ SqT K H c xs ∧ DpAll K H xs (cs.map colD) ∧ SqT K H w ys ∧ DpAll K H ys (ws.map washD) := by
  obtain ⟨p, zs, rfl, hp, hz⟩ := dp_tup h
  obtain ⟨x, y, rfl, h1, h2⟩ := dp_two hz
  obtain ⟨c, xs, rfl, hc, hx⟩ := dp_tup h1
  obtain ⟨w, ys, rfl, hw, hy⟩ := dp_tup h2
  exact ⟨p, c, w, xs, ys, rfl, hp, hc, hx, hw, hy⟩
theorem dpAll_map_at {α : Type} {f : α → PyData} {xs : List V} {l : List α} {i : Nat} {x : V} (h : DpAll K H xs (l.map f)) (e : xs[i]? = some x) : ∃ y, l[i]? = some y ∧ Dp K H x (f y) := by
  obtain ⟨d, g, p⟩ := dpAll_at h e
  rw [List.getElem?_map] at g
  obtain ⟨y, hy, rfl⟩ := Option.map_eq_some_iff.mp g
  exact ⟨y, hy, p⟩
theorem dpAll_map_len {α : Type} {f : α → PyData} {xs : List V} {l : List α} (h : DpAll K H xs (l.map f)) : xs.length = l.length := by
  rw [dpAll_len h, List.length_map]
end
theorem decS {a b : Str} : decide (V.str a = V.str b) = decide (a = b) := by
  by_cases h : a = b
  · subst h; rw [decide_eq_true rfl, decide_eq_true rfl]
  · rw [decide_eq_false h, decide_eq_false fun z => h (V.str.inj z)]
/-- behind rows that don't tell -/
theorem washF_skip {a : Option Str} {b : Str} : ∀ {ws : List Wsh} {i : Nat}, (∀ j r, j < i → ws[j]? = some r → ¬ (some r.1 = a ∧ r.2.1 = b)) → washF ws a b = washF (ws.drop i) a b
  | ws, 0, _ => rfl
  | [], i + 1, _ => rfl
  | r :: ws, i + 1, h => by
    show (if some r.1 = a ∧ r.2.1 = b then r.2.2 else washF ws a b) = washF (ws.drop i) a b
    rw [if_neg (h 0 r (Nat.succ_pos _) rfl)]
    exact washF_skip (a := a) (b := b) (ws := ws) (i := i) fun j q hj e => h (j + 1) q (Nat.succ_lt_succ hj) e
theorem washF_at {a : Option Str} {b : Str} {ws : List Wsh} {i : Nat} {r : Wsh} (h : ∀ j r, j < i → ws[j]? = some r → ¬ (some r.1 = a ∧ r.2.1 = b)) (e : ws[i]? = some r) (hr : some r.1 = a ∧ r.2.1 = b) : washF ws a b = r.2.2 := by
  rw [washF_skip h, List.drop_eq_getElem_cons (List.getElem?_eq_some_iff.mp e).1, (List.getElem?_eq_some_iff.mp e).2]
  unfold washF
  rw [if_pos hr]
theorem washF_none {a : Option Str} {b : Str} {ws : List Wsh} (h : ∀ j r, j < ws.length → ws[j]? = some r → ¬ (some r.1 = a ∧ r.2.1 = b)) : washF ws a b = some 0 := by
  rw [washF_skip h, List.drop_length]
  rfl
/-! ### data without lists stays while the law draws -/
def noLAll : List PyData → Prop
  | [] => True
  | x :: xs => noL x ∧ noLAll xs
where noL : PyData → Prop
  | .list _ => False
  | .dict _ => False
  | .tuple xs => noLAll xs
  | _ => True
section
variable {K : PySem.W.Frag}
theorem kp_tup {d c : Addr} {H H' : Hp} {n : Nat} {a : Addr} {xs : List V} (st : StAt H d c n) (k : Kp d c H H') (h : SqT K H a xs) : SqT K H' a xs := by
  obtain ⟨_, ys, t, h1, h2, _⟩ := st
  have go : ∀ o, (H a = some (.tup xs) ∨ H a = some (.frz o (.tup xs))) → a ≠ d ∧ a ≠ c := fun o e => by
    constructor
    · intro z; subst z; rw [h1] at e; rcases e with e | e <;> cases e
    · intro z; subst z; rw [h2] at e; rcases e with e | e <;> cases e
  rcases h with (h | ⟨o, h⟩) | h
  · have g := go ⟨.none, none, .fields #[], #[]⟩ (.inl h); exact .inl (.inl (k _ _ g.1 g.2 h))
  · have g := go o (.inr h); exact .inl (.inr ⟨o, k _ _ g.1 g.2 h⟩)
  · exact .inr h
mutual
theorem dp_kp {d c : Addr} {H H' : Hp} {n : Nat} (st : StAt H d c n) (k : Kp d c H H') : ∀ {v : V} {e : PyData}, noLAll.noL e → Dp K H v e → Dp K H' v e
  | _, _, _, .non => .non
  | _, _, _, .bl b => .bl b
  | _, _, _, .int i => .int i
  | _, _, _, .str x => .str x
  | _, _, h, .lst _ _ => h.elim
  | _, _, h, .tup s a => .tup (kp_tup st k s) (dpAll_kp st k h a)
theorem dpAll_kp {d c : Addr} {H H' : Hp} {n : Nat} (st : StAt H d c n) (k : Kp d c H H') : ∀ {vs : List V} {es : List PyData}, noLAll es → DpAll K H vs es → DpAll K H' vs es
  | _, _, _, .nil => .nil
  | _, _, h, .cons x t => .cons (dp_kp st k h.1 x) (dpAll_kp st k h.2 t)
end
mutual
theorem dp_go {H H' : Hp} (go : ∀ a us, SqT K H a us → SqT K H' a us) : ∀ {v : V} {e : PyData}, noLAll.noL e → Dp K H v e → Dp K H' v e
  | _, _, _, .non => .non
  | _, _, _, .bl b => .bl b
  | _, _, _, .int i => .int i
  | _, _, _, .str x => .str x
  | _, _, h, .lst _ _ => h.elim
  | _, _, h, .tup s a => .tup (go _ _ s) (dpAll_go go h a)
theorem dpAll_go {H H' : Hp} (go : ∀ a us, SqT K H a us → SqT K H' a us) : ∀ {vs : List V} {es : List PyData}, noLAll es → DpAll K H vs es → DpAll K H' vs es
  | _, _, _, .nil => .nil
  | _, _, h, .cons x t => .cons (dp_go go h.1 x) (dpAll_go go h.2 t)
end
theorem noL_map {α : Type} {f : α → PyData} (h : ∀ x, noLAll.noL (f x)) : ∀ l : List α, noLAll (l.map f)
  | [] => trivial
  | x :: r => ⟨h x, noL_map h r⟩
theorem noL_col (c : Col) : noLAll.noL (colD c) := ⟨trivial, trivial, trivial, trivial, trivial⟩
theorem noL_wash (r : Wsh) : noLAll.noL (washD r) := ⟨trivial, trivial, by cases r.2.2 <;> trivial, trivial⟩
theorem noL_pal (cs : List Col) (ws : List Wsh) : noLAll.noL (palD cs ws) := ⟨noL_map noL_col cs, noL_map noL_wash ws, trivial⟩
theorem dpAll_app {H : Hp} : ∀ {xs ys : List V} {ds es : List PyData}, DpAll K H xs ds → DpAll K H ys es → DpAll K H (xs ++ ys) (ds ++ es)
  | _, _, _, _, .nil, h => h
  | _, _, _, _, .cons h t, h2 => .cons h (dpAll_app t h2)
end
/-! ### how long a palette's text may be -/
structure PalOk (cs : List Col) (ws : List Wsh) : Prop where
  nc : cs.length ≤ 20
  nw : ws.length ≤ 60
  cn : ∀ c ∈ cs, c.1.length ≤ 9 ∧ (∀ x ∈ c.1.cps.toList, x < 1114112) ∧ c.2.1.natAbs < 10000 ∧ c.2.2.1.natAbs < 10000 ∧ c.2.2.2.natAbs < 10000
  wn : ∀ r ∈ ws, (r.1.length ≤ 9 ∧ ∀ x ∈ r.1.cps.toList, x < 1114112) ∧ (r.2.1.length ≤ 9 ∧ ∀ x ∈ r.2.1.cps.toList, x < 1114112) ∧ ∀ i, r.2.2 = some i → i.natAbs < 10000
theorem PalOk.addC {cs : List Col} {ws : List Wsh} {c : Col} (h : PalOk cs ws) (n : cs.length < 20) (ok : c.1.length ≤ 9 ∧ (∀ x ∈ c.1.cps.toList, x < 1114112) ∧ c.2.1.natAbs < 10000 ∧ c.2.2.1.natAbs < 10000 ∧ c.2.2.2.natAbs < 10000) : PalOk (cs ++ [c]) ws :=
  ⟨by rw [List.length_append]; exact n, h.nw, fun x hx => (List.mem_append.mp hx).elim (h.cn x) fun z => by rw [List.mem_singleton.mp z]; exact ok, h.wn⟩
theorem PalOk.addW {cs : List Col} {ws : List Wsh} {r : Wsh} (h : PalOk cs ws) (n : ws.length < 60) (ok : (r.1.length ≤ 9 ∧ ∀ x ∈ r.1.cps.toList, x < 1114112) ∧ (r.2.1.length ≤ 9 ∧ ∀ x ∈ r.2.1.cps.toList, x < 1114112) ∧ ∀ i, r.2.2 = some i → i.natAbs < 10000) : PalOk cs (ws ++ [r]) :=
  ⟨h.nc, by rw [List.length_append]; exact n, h.cn, fun x hx => (List.mem_append.mp hx).elim (h.wn x) fun z => by rw [List.mem_singleton.mp z]; exact ok⟩
theorem log_small {i : Int} (h : i.natAbs < 10000) : i.natAbs.log2 < 1920 := by
  by_cases z : i.natAbs = 0
  · rw [z]; decide
  · have := (Nat.log2_lt z).mpr (show i.natAbs < 2 ^ 14 from Nat.lt_of_lt_of_le h (by decide))
    omega
theorem fineAll_map {α : Type} {f : α → PyData} : ∀ {l : List α}, (∀ x ∈ l, fineAll.fine (f x)) → fineAll (l.map f)
  | [], _ => trivial
  | x :: r, h => ⟨h x List.mem_cons_self, fineAll_map fun y hy => h y (List.mem_cons_of_mem _ hy)⟩
theorem costAll_map {α : Type} {f : α → PyData} {b : Nat} : ∀ {l : List α}, (∀ x ∈ l, costAll.cost (f x) ≤ b) → costAll (l.map f) ≤ l.length * (b + 2)
  | [], _ => Nat.zero_le _
  | x :: r, h => by
    have h1 := h x List.mem_cons_self
    have h2 := costAll_map (l := r) fun y hy => h y (List.mem_cons_of_mem _ hy)
    show costAll.cost (f x) + 2 + costAll (r.map f) ≤ (r.length + 1) * (b + 2)
    rw [Nat.succ_mul]
    omega
theorem depthAll_map {α : Type} {f : α → PyData} {b : Nat} : ∀ {l : List α}, (∀ x ∈ l, (f x).depth ≤ b) → PyData.depthAll (l.map f) ≤ b
  | [], _ => Nat.zero_le _
  | x :: r, h => by
    show max (f x).depth (PyData.depthAll (r.map f)) ≤ b
    exact Nat.max_le.mpr ⟨h x List.mem_cons_self, depthAll_map fun y hy => h y (List.mem_cons_of_mem _ hy)⟩
theorem fine_col {c : Col} (h : c.1.length ≤ 9 ∧ (∀ x ∈ c.1.cps.toList, x < 1114112) ∧ c.2.1.natAbs < 10000 ∧ c.2.2.1.natAbs < 10000 ∧ c.2.2.2.natAbs < 10000) : fineAll.fine (colD c) :=
  ⟨fun x hx => Nat.lt_trans (h.2.1 x hx) (by decide), log_small h.2.2.1, log_small h.2.2.2.1, log_small h.2.2.2.2, trivial⟩
theorem fine_opt {o : Option Int} (h : ∀ i, o = some i → i.natAbs < 10000) : fineAll.fine (optD o) := by
  cases o with
  | none => trivial
  | some i => exact log_small (h i rfl)
theorem pal_fine {cs : List Col} {ws : List Wsh} (h : PalOk cs ws) : fineAll.fine (palD cs ws) :=
  ⟨fineAll_map fun c hc => fine_col (h.cn c hc), fineAll_map fun r hr => ⟨fun x hx => Nat.lt_trans ((h.wn r hr).1.2 x hx) (by decide), fun x hx => Nat.lt_trans ((h.wn r hr).2.1.2 x hx) (by decide), fine_opt (h.wn r hr).2.2, trivial⟩, trivial⟩
theorem cost_opt (o : Option Int) : costAll.cost (optD o) ≤ 1921 := by
  cases o with
  | none => decide
  | some i => exact Nat.le_refl _
theorem pal_cost {cs : List Col} {ws : List Wsh} (h : PalOk cs ws) : costAll.cost (palD cs ws) ≤ 1000000 := by
  have h1 : costAll (cs.map colD) ≤ cs.length * (10000 + 2) := costAll_map fun c hc => by
    have := (h.cn c hc).1
    show (10 * c.1.length + 2) + 2 + (1921 + 2 + (1921 + 2 + (1921 + 2 + 0))) + 3 ≤ 10000
    omega
  have h2 : costAll (ws.map washD) ≤ ws.length * (10000 + 2) := costAll_map fun r hr => by
    have a := (h.wn r hr).1.1
    have b := (h.wn r hr).2.1.1
    have c := cost_opt r.2.2
    show (10 * r.1.length + 2) + 2 + ((10 * r.2.1.length + 2) + 2 + (costAll.cost (optD r.2.2) + 2 + 0)) + 3 ≤ 10000
    omega
  have h3 := Nat.mul_le_mul_right 10002 h.nc
  have h4 := Nat.mul_le_mul_right 10002 h.nw
  show (costAll (cs.map colD) + 3) + 2 + ((costAll (ws.map washD) + 3) + 2 + 0) + 3 ≤ 1000000
  omega
theorem depth_opt (o : Option Int) : (optD o).depth = 0 := by cases o <;> rfl
theorem pal_depth (cs : List Col) (ws : List Wsh) : (palD cs ws).depth ≤ 3 := by
  have h1 : PyData.depthAll (cs.map colD) ≤ 1 := depthAll_map fun c _ => by show 1 ≤ 1; decide
  have h2 : PyData.depthAll (ws.map washD) ≤ 1 := depthAll_map fun r _ => by
    show max 0 (max 0 (max (optD r.2.2).depth 0)) + 1 ≤ 1
    rw [depth_opt]
    decide
  show max (PyData.depthAll (cs.map colD) + 1) (max (PyData.depthAll (ws.map washD) + 1) 0) + 1 ≤ 3
  omega
end Pot

namespace Pot
open PySem PySem.Spec PyProof.Rows L2
theorem Ths.parts2 {m C E D W a b : Nat} {ds es : List PyData} (h : Ths m C D W ds) (hab : a ≤ b) (k : Ths m E D W es) : Ths m (C + E) D W (ds.take a ++ es ++ ds.drop b) := by
  have mem : ∀ d, d ∈ ds.take a ++ es ++ ds.drop b → d ∈ ds ∨ d ∈ es := fun d hd => by
    rcases List.mem_append.mp hd with z | z
    · rcases List.mem_append.mp z with y | y
      · exact .inl (List.mem_of_mem_take y)
      · exact .inr y
    · exact .inl (List.mem_of_mem_drop z)
  refine ⟨fun d hd => (mem d hd).elim (h.g d) (k.g d), ?_, fun d hd => (mem d hd).elim (h.d d) (k.d d), fun d hd => (mem d hd).elim (h.w d) (k.w d)⟩
  rw [costAll_app, costAll_app]
  have e := costAll_app (ds.take a) (ds.drop a)
  rw [List.take_append_drop] at e
  have e2 : ds.drop b = (ds.drop a).drop (b - a) := by rw [List.drop_drop]; congr 1; omega
  have e3 := costAll_drop (b - a) (ds.drop a)
  rw [← e2] at e3
  have := h.c
  have := k.c
  omega
end Pot

namespace Pot
open PySem PySem.Spec PyProof.Rows L2
def topS (i : Nat) : Stmt := PySem.Challenge.pw_potround_k38_rows_shown_or_not.main.body.getD i (.Pass ⟨0, 0, 0, 0⟩)
section
variable {P : Program} {w : World} {K : PySem.W.Frag} {mg : Str → Option Value} {base : Heap}
abbrev s__law_take : Stmt := topS 11
def n__law_take : List Str := ["_law_box_here", "_law_many", "_law_found", "_law_mixed"]
theorem sc__law_take : FnScope n__law_take ["_law_box_here", "_law_many"] (defScope s__law_take) := ⟨rfl, rfl, rfl, by decide +kernel, rfl, by decide +kernel, by decide +kernel⟩
/-! ### _law_take -/
def spTake : Sp := fun vs H Q _ => ∃ (b : Addr) (m : Int), vs = [.ref b, .int m] ∧ 0 < m ∧ m < 1073741824 ∧ Bx H b ∧
  ∀ H' r, 0 ≤ r → r < m → Bx H' b → Sm [b] H H' → Q (.int r) H'
theorem ok_take {f : Addr} {fd : FuncData} {k : Nat} (F : Fun K "_law_take" "_law_take" s__law_take f fd) :
    FnOk P w K mg base CX0 (k + 1) f fd ["_law_box_here", "_law_many"] spTake := by
  refine F.ok sc__law_take (fun vs H Q E h => ?_) (fun cdv A outer s H vs Q E hr h => ?_)
  · obtain ⟨b, m, rfl, _⟩ := h
    rfl
  · obtain ⟨b, m, rfl, hm0, hm1, ⟨x, y, z, B⟩, q⟩ := h
    have nd := sc__law_take.nd
    refine ⟨_, (pss_cons (ps_if (pt_cmpR op_gt (pe_ix (kx_list (K := K)) (pv 0) pe_int (fun _ _ => rfl)) pe_int (nomark _))
          (pss_cons (ps_set (i := 2) nd rfl (.inl rfl) (pe_op op_mod (pe_ix (kx_list (K := K)) (pv 0) pe_int (fun _ _ => rfl)) (pv 1)))
          (pss_cons (ps_asg (pe_op op_fdiv (pe_ix (kx_list (K := K)) (pv 0) pe_int (fun _ _ => rfl)) (pv 1)) (pg_sub (pv 0) pe_int set_list))
          (pss_one (ps_ret (pv 2)))))
          pss_nil)
      (pss_cons (ps_asg (pe_op op_add (pe_ix (kx_list (K := K)) (pv 0) pe_int (fun _ _ => rfl)) pe_int) (pg_sub (pv 0) pe_int set_list))
      (pss_cons (ps_set (i := 3) nd rfl (.inl rfl) (pe_op op_mod (pe_op op_add (pe_ix (kx_list (K := K)) (pv 0) pe_int (fun _ _ => rfl)) (pe_op op_mul pe_int (pe_ix (kx_list (K := K)) (pv 0) pe_int (fun _ _ => rfl)))) pe_int))
      (pss_cons (ps_set (i := 3) nd rfl (.inl rfl) (pe_op op_mod (pe_op op_add (pe_op op_add (pe_op op_mul (pv 3) (pv 3)) (pe_op op_mul pe_int (pe_ix (kx_list (K := K)) (pv 0) pe_int (fun _ _ => rfl)))) pe_int) pe_int))
      (pss_cons (ps_set (i := 3) nd rfl (.inl rfl) (pe_op op_mod (pe_op op_add (pe_op op_mul (pv 3) (pe_op op_add (pe_op op_fdiv (pv 3) pe_int) pe_int)) (pe_ix (kx_list (K := K)) (pv 0) pe_int (fun _ _ => rfl))) pe_int))
      (pss_one (ps_ret (pe_op op_mod (pe_op op_fdiv (pv 3) pe_int) (pv 1))))))))), ?_⟩
    refine ⟨_, rfl, b, _, 0, .int x, rfl, rfl, SqL.of B, rfl, _, _, rfl, rfl, _, rfl, ite2 (fun hb => ?_) (fun hb => ?_)⟩
    · refine ⟨_, rfl, b, _, 0, .int x, rfl, rfl, SqL.of B, rfl, _, rfl, _, _, rfl, rfl, hm0, ?_⟩
      refine ⟨_, rfl, b, _, 0, .int x, rfl, rfl, SqL.of B, rfl, _, rfl, _, _, rfl, rfl, ⟨hm0, hm1⟩, _, rfl, b, _, 0, 0, rfl, rfl, B, rfl, ?_⟩
      refine ⟨_, rfl, q _ _ (Int.emod_nonneg _ (by omega)) (Int.emod_lt_of_pos _ hm0) ⟨_, _, _, upd_same⟩ (sm_wr List.mem_cons_self)⟩
    · refine ⟨_, rfl, b, _, 2, .int z, rfl, rfl, SqL.of B, rfl, _, _, rfl, rfl, _, rfl, b, _, 2, 2, rfl, rfl, B, rfl, ?_⟩
      have B2 : upd H b (.lst [.int x, .int y, .int (z + 1)]) b = some (.lst [.int x, .int y, .int (z + 1)]) := upd_same
      have s2 : Sm [b] H (upd H b (.lst [.int x, .int y, .int (z + 1)])) := sm_wr List.mem_cons_self
      show tSeq _ _ _ _ (upd H b (.lst [.int x, .int y, .int (z + 1)]))
      generalize upd H b (.lst [.int x, .int y, .int (z + 1)]) = H2 at B2 s2 ⊢
      refine ⟨_, rfl, b, _, 1, .int y, rfl, rfl, SqL.of B2, rfl, _, rfl, b, _, 2, .int (z + 1), rfl, rfl, SqL.of B2, rfl, _, _, rfl, rfl, .inl ⟨by decide, by decide⟩, _, _, rfl, rfl, _, _, rfl, rfl, (by show (0 : Int) < 2305843009213693951; decide), ?_⟩
      have u0 := Int.emod_nonneg (y + 1442695040888963407 * (z + 1)) (show (2305843009213693951 : Int) ≠ 0 by decide)
      have u1 := Int.emod_lt_of_pos (y + 1442695040888963407 * (z + 1)) (show (0 : Int) < 2305843009213693951 by decide)
      generalize (y + 1442695040888963407 * (z + 1)) % 2305843009213693951 = u at u0 u1 ⊢
      refine ⟨_, rfl, _, rfl, _, _, rfl, rfl, .inl ⟨by omega, by omega⟩, _, rfl, b, _, 2, .int (z + 1), rfl, rfl, SqL.of B2, rfl, _, _, rfl, rfl, .inl ⟨by decide, by decide⟩, _, _, rfl, rfl, _, _, rfl, rfl, _, _, rfl, rfl, (by show (0 : Int) < 2305843009213693921; decide), ?_⟩
      have v0 := Int.emod_nonneg (u * u + 39373 * (z + 1) + 7) (show (2305843009213693921 : Int) ≠ 0 by decide)
      have v1 := Int.emod_lt_of_pos (u * u + 39373 * (z + 1) + 7) (show (0 : Int) < 2305843009213693921 by decide)
      generalize (u * u + 39373 * (z + 1) + 7) % 2305843009213693921 = v at v0 v1 ⊢
      refine ⟨_, rfl, _, rfl, _, _, rfl, rfl, ⟨by decide, by decide⟩, _, _, rfl, rfl, _, _, rfl, rfl, .inl ⟨by omega, by omega⟩, _, rfl, b, _, 2, .int (z + 1), rfl, rfl, SqL.of B2, rfl, _, _, rfl, rfl, _, _, rfl, rfl, (by show (0 : Int) < 2305843009213693907; decide), ?_⟩
      refine ⟨_, rfl, _, _, rfl, rfl, ⟨by decide, by decide⟩, _, rfl, _, _, rfl, rfl, hm0, ?_⟩
      exact q _ _ (Int.emod_nonneg _ (by omega)) (Int.emod_lt_of_pos _ hm0) ⟨_, _, _, B2⟩ s2

end
end Pot

namespace Pot
open PySem PySem.Spec PyProof.Rows L2
section
variable {P : Program} {w : World} {K : PySem.W.Frag} {mg : Str → Option Value} {base : Heap}
theorem cmul_abs (i : Int) (b : Bool) : CMul i (if b = true then 1 else 0) := .inr (by cases b <;> decide)
abbrev s__law_box : Stmt := topS 10
def n__law_box : List Str := ["_law_cells_here", "_law_k", "_law_cell"]
theorem sc__law_box : FnScope n__law_box ["_law_cells_here", "_law_k"] (defScope s__law_box) := ⟨rfl, rfl, rfl, by decide +kernel, rfl, by decide +kernel, by decide +kernel⟩
def spBox (K : PySem.W.Frag) : Sp := fun vs H Q _ => ∃ (c : Addr) (ns : List Int) (i : Nat), vs = [.ref c, .int (i : Nat)] ∧ SqL K H c (ns.map V.int) ∧ i < ns.length ∧ i < 1000 ∧
  ∀ H' p, Same H H' → H p = none → Bx H' p → Q (.ref p) H'
theorem ok_box {f : Addr} {fd : FuncData} {k : Nat} (F : Fun K "_law_box" "_law_box" s__law_box f fd) (T : Txt mg) : FnOk P w K mg base CX0 (k + 1) f fd ["_law_cells_here", "_law_k"] (spBox K) := by
  refine F.ok sc__law_box (fun vs H Q E h => ?_) (fun cdv A outer s H vs Q E hr h => ?_)
  · obtain ⟨c, ns, i, rfl, _⟩ := h
    rfl
  · obtain ⟨c, ns, i, rfl, hS, hi, hi1, q⟩ := h
    have nd := sc__law_box.nd
    have e : (ns.map V.int)[i]? = some (.int ns[i]) := by rw [List.getElem?_map, List.getElem?_eq_getElem hi]; rfl
    refine ⟨_, (pss_cons (ps_set (i := 2) nd rfl (.inl rfl) (pe_ix (kx_list (K := K)) (pv 0) (pv 1) (fun _ _ => rfl)))
      (pss_one (ps_ret (pe_lst (pa_cons (pe_op op_mul (pe_callB call_abs (by rfl) T.abs (by decide +kernel) (pa_cons (pv 2) pa_nil)) (pe_callTy call_int1 (by rfl) T.int (by decide +kernel) (pa_cons (pe_cmpR op_ge (pe_callB call_abs (by rfl) T.abs (by decide +kernel) (pa_cons (pv 2) pa_nil)) (pe_op op_pow pe_int pe_int) (nomark _)) pa_nil))) (pa_cons (pe_op op_add (pe_op op_add (pe_op op_mod (pv 2) pe_int) (pe_op op_mul pe_int (pv 1))) pe_int) (pa_cons pe_int pa_nil))))))), ?_⟩
    refine ⟨_, rfl, _, rfl, c, _, _, _, rfl, rfl, hS, atI_nat e, ?_⟩
    refine ⟨_, rfl, _, rfl, _, rfl, _, rfl, _, _, rfl, rfl, ⟨by decide, by decide, by decide⟩, _, _, rfl, rfl, .inr ⟨_, rfl, _, _, rfl, rfl, cmul_abs _ _, ?_⟩⟩
    refine ⟨_, rfl, _, _, rfl, rfl, (by show (0 : Int) < 2305843009213693951; decide), _, rfl, _, _, rfl, rfl, .inl ⟨by decide, by decide⟩, _, _, rfl, rfl, _, _, rfl, rfl, (by show 3 ≤ sizeLine; decide), fun p hp => ?_⟩
    exact q _ p (same_upd hp) hp ⟨_, _, _, upd_same⟩
abbrev s__law_cells : Stmt := topS 12
def n__law_cells : List Str := ["_law_script", "_law_most", "_law_cells_here", "_law_k", "_law_cell"]
theorem sc__law_cells : FnScope n__law_cells ["_law_script", "_law_most"] (defScope s__law_cells) := ⟨rfl, rfl, rfl, by decide +kernel, rfl, by decide +kernel, by decide +kernel⟩
def spCells (K : PySem.W.Frag) : Sp := fun vs H Q _ => ∃ (a : Addr) (ns : List Int), vs = [.ref a, .int 2] ∧ SqL K H a (ns.map V.int) ∧ ns.length ≤ 63 ∧
  ∀ (H' : Hp) (p : Addr) (ms : List Int), Same H H' → H p = none → H' p = some (.lst (ms.map V.int)) → 1 ≤ ms.length → ms.length ≤ 2 → Q (.ref p) H'
theorem ok_cells {f : Addr} {fd : FuncData} {k : Nat} (F : Fun K "_law_cells" "_law_cells" s__law_cells f fd) (T : Txt mg) : FnOk P w K mg base CX0 (k + 1) f fd ["_law_script", "_law_most"] (spCells K) := by
  refine F.ok sc__law_cells (fun vs H Q E h => ?_) (fun cdv A outer s H vs Q E hr h => ?_)
  · obtain ⟨a, ns, rfl, _⟩ := h
    rfl
  · obtain ⟨a, ns, rfl, hS, h63, q⟩ := h
    have nd := sc__law_cells.nd
    refine ⟨_, (pss_cons (ps_set (i := 2) nd rfl (.inl rfl) (pe_orT (pe_callTy (kc_list (K := K)) (by rfl) T.list (by decide +kernel) (pa_cons (pe_slice (kl_list (K := K)) (pv 0) po_none (po_some (pv 1))) pa_nil)) (pe_one (pe_lst (pa_cons pe_int pa_nil)))))
      (pss_cons (ps_for PassesOwn.never rfl (ki_enum (K := K) (by rfl) T.enumerate (pa_cons (pe_slice (kl_list (K := K)) (pv 0) (po_some (pv 1)) (po_some pe_int)) pa_nil)) (kg_tup (K := K) (n := 2) (pgs_cons (pg_name (i := 3) nd rfl (.inl rfl)) (pgs_cons (pg_name (i := 4) nd rfl (.inl rfl)) pgs_nil)))
          (pss_one (ps_asg (pe_op op_add (pe_ix (kx_list (K := K)) (pv 2) (pe_op op_mod (pv 3) (pv 1)) (fun _ _ => rfl)) (pe_op op_mul (pv 4) (pe_op op_add (pv 3) pe_int))) (pg_sub (pv 2) (pe_op op_mod (pv 3) (pv 1)) set_list))))
      (pss_one (ps_ret (pv 2))))), ?_⟩
    refine ⟨_, rfl, _, rfl, 2, rfl, a, _, rfl, hS, fun p1 n1 => ?_⟩
    rw [show cutV (ns.map V.int) none (some 2) = (ns.take 2).map V.int by rw [show (2 : Int) = ((2 : Nat) : Int) from rfl, cut_head, List.map_take]]
    refine ⟨p1, _, rfl, .inl (SqL.of upd_same), fun p np => ?_⟩
    have s1 : Same H (upd (upd H p1 (.lst ((ns.take 2).map V.int))) p (.lst ((ns.take 2).map V.int))) := (same_upd n1).trans (same_upd np)
    have np0 : H p = none := (same_upd n1).free np
    have hp : upd (upd H p1 (.lst ((ns.take 2).map V.int))) p (.lst ((ns.take 2).map V.int)) p = some (.lst ((ns.take 2).map V.int)) := upd_same
    generalize upd (upd H p1 (.lst ((ns.take 2).map V.int))) p (.lst ((ns.take 2).map V.int)) = H1 at s1 hp ⊢
    by_cases hn : ns = []
    · refine ⟨false, .inl ⟨_, SqL.of hp, by rw [hn]; rfl⟩, ?_⟩
      rw [if_neg (by decide)]
      refine ⟨(by show 1 ≤ sizeLine; decide), fun c nc => ?_⟩
      have s2 := s1.trans (same_upd (o := .lst [.int 0]) nc)
      have nc := s1.free nc
      obtain ⟨ms, hc, l1, l2, l3⟩ : ∃ ms : List Int, upd H1 c (.lst [.int 0]) c = some (.lst (ms.map V.int)) ∧ 1 ≤ ms.length ∧ ms.length ≤ 2 ∧ (2 < ns.length → ms.length = 2) := ⟨[0], upd_same, by decide, by decide, fun h => by rw [hn] at h; simp at h⟩
      generalize upd H1 c (.lst [.int 0]) = H2 at s2 hc ⊢
      refine ⟨_, rfl, _, rfl, 2, rfl, 63, rfl, a, _, rfl, s2.seq hS, fun e ne => ?_⟩
      have ee : upd H2 e (.lst (cutV (ns.map V.int) (some 2) (some 63))) e = some (.lst (cutV (ns.map V.int) (some 2) (some 63))) := upd_same
      have s3 := same_upd (o := .lst (cutV (ns.map V.int) (some 2) (some 63))) ne
      have ce : c ≠ e := ne_of_none hc ne
      have hc := s3 _ _ hc
      have s2 := s2.trans s3
      generalize upd H2 e (.lst (cutV (ns.map V.int) (some 2) (some 63))) = H3 at ee s2 hc ⊢
      rw [cut_map] at ee
      have lcut : ((ns.drop (HT.sIx ns.length 0 (some 2))).take (HT.sIx ns.length ns.length (some 63) - HT.sIx ns.length 0 (some 2))).length ≤ ns.length - 2 := by
        rw [show HT.sIx ns.length 0 (some 2) = min 2 ns.length from HT.sIx_nat _ _ 2, List.length_take, List.length_drop]
        omega
      generalize (ns.drop (HT.sIx ns.length 0 (some 2))).take (HT.sIx ns.length ns.length (some 63) - HT.sIx ns.length 0 (some 2)) = es at ee lcut
      refine ⟨e, _, rfl, SqL.of ee, ?_⟩
      refine for_it (walk_enum (xs := es.map V.int)) (fun i σ H4 => ∃ v3 v4 ms, σ = [some (.ref a), some (.int 2), some (.ref c), v3, v4] ∧ Same H H4 ∧ H4 e = some (.lst (es.map V.int)) ∧ H4 c = some (.lst (ms.map V.int)) ∧ 1 ≤ ms.length ∧ ms.length ≤ 2 ∧ (2 < ns.length → ms.length = 2))
        ⟨none, none, ms, rfl, s2, ee, hc, l1, l2, l3⟩ (fun i σ H4 _ h => by obtain ⟨_, _, _, _, _, h, _⟩ := h; exact SqL.of h) ?_ ?_
      · rintro i x σ H4 H5 hi ⟨v3, v4, ms, rfl, s4, e4, c4, l1, l2, l3⟩ ⟨t, x1, x2, rfl, nt, rfl, g1, g2⟩
        cases g1
        replace g2 : (es.map V.int)[i]? = some x2 := g2
        rw [List.getElem?_map] at g2
        obtain ⟨y, gy, rfl⟩ := Option.map_eq_some_iff.mp g2
        rw [List.length_map] at hi
        have lm : ms.length = 2 := l3 (by omega)
        have s5 := same_upd (o := .tup [.int (i : Nat), .int y]) nt
        refine ⟨t, _, rfl, .inl (.inl upd_same), rfl, _, _, rfl, _, _, rfl, rfl, ?_⟩
        have e5 := s5 _ _ e4
        have c5 := s5 _ _ c4
        have s5 := s4.trans s5
        generalize upd H4 t (.tup [.int (i : Nat), .int y]) = H6 at e5 c5 s5 ⊢
        have em : ((i : Nat) : Int) % 2 = ((i % 2 : Nat) : Int) := by omega
        have lt : i % 2 < ms.length := by omega
        have ga : (ms.map V.int)[i % 2]? = some (.int ms[i % 2]) := by rw [List.getElem?_map, List.getElem?_eq_getElem lt]; rfl
        refine ⟨_, rfl, _, rfl, _, rfl, _, _, rfl, rfl, (by show (0 : Int) < 2; decide), c, _, _, _, rfl, rfl, SqL.of c5, (by rw [em]; exact atI_nat ga), ?_⟩
        refine ⟨_, rfl, _, rfl, _, _, rfl, rfl, _, _, rfl, rfl, .inr ⟨by omega, by omega⟩, _, _, rfl, rfl, ?_⟩
        refine ⟨_, rfl, _, rfl, _, rfl, _, _, rfl, rfl, (by show (0 : Int) < 2; decide), c, _, _, i % 2, rfl, rfl, c5, (by rw [em, List.length_map]; exact Evl.ixN_nat lt), ?_⟩
        refine ⟨_, _, ms.set (i % 2) (ms[i % 2] + y * ((i : Nat) + 2)), rfl, same_put s5 nc, (by rw [upd_ne ce.symm]; exact e5), (by rw [upd_same, List.map_set]), ?_, ?_, ?_⟩
        · rw [List.length_set]; exact l1
        · rw [List.length_set]; exact l2
        · rw [List.length_set]; exact l3
      · rintro σ H4 ⟨v3, v4, ms, rfl, s4, e4, c4, l1, l2, l3⟩
        exact ⟨_, rfl, q _ c ms s4 nc c4 l1 l2⟩
    · have lpos : 0 < ns.length := List.length_pos_iff.mpr hn
      refine ⟨true, .inl ⟨_, SqL.of hp, by cases ns with | nil => exact absurd rfl hn | cons _ _ => rfl⟩, ?_⟩
      rw [if_pos rfl]
      have s2 := s1
      have nc := np0
      obtain ⟨c, ec⟩ : ∃ c, c = p := ⟨p, rfl⟩
      rw [← ec] at hp nc ⊢
      obtain ⟨ms, hc, l1, l2, l3⟩ : ∃ ms : List Int, H1 c = some (.lst (ms.map V.int)) ∧ 1 ≤ ms.length ∧ ms.length ≤ 2 ∧ (2 < ns.length → ms.length = 2) := ⟨ns.take 2, hp, by rw [List.length_take]; omega, by rw [List.length_take]; omega, fun h => by rw [List.length_take]; omega⟩
      obtain ⟨H2, eH⟩ : ∃ H2, H2 = H1 := ⟨H1, rfl⟩
      rw [← eH] at s2 hc ⊢
      refine ⟨_, rfl, _, rfl, 2, rfl, 63, rfl, a, _, rfl, s2.seq hS, fun e ne => ?_⟩
      have ee : upd H2 e (.lst (cutV (ns.map V.int) (some 2) (some 63))) e = some (.lst (cutV (ns.map V.int) (some 2) (some 63))) := upd_same
      have s3 := same_upd (o := .lst (cutV (ns.map V.int) (some 2) (some 63))) ne
      have ce : c ≠ e := ne_of_none hc ne
      have hc := s3 _ _ hc
      have s2 := s2.trans s3
      generalize upd H2 e (.lst (cutV (ns.map V.int) (some 2) (some 63))) = H3 at ee s2 hc ⊢
      rw [cut_map] at ee
      have lcut : ((ns.drop (HT.sIx ns.length 0 (some 2))).take (HT.sIx ns.length ns.length (some 63) - HT.sIx ns.length 0 (some 2))).length ≤ ns.length - 2 := by
        rw [show HT.sIx ns.length 0 (some 2) = min 2 ns.length from HT.sIx_nat _ _ 2, List.length_take, List.length_drop]
        omega
      generalize (ns.drop (HT.sIx ns.length 0 (some 2))).take (HT.sIx ns.length ns.length (some 63) - HT.sIx ns.length 0 (some 2)) = es at ee lcut
      refine ⟨e, _, rfl, SqL.of ee, ?_⟩
      refine for_it (walk_enum (xs := es.map V.int)) (fun i σ H4 => ∃ v3 v4 ms, σ = [some (.ref a), some (.int 2), some (.ref c), v3, v4] ∧ Same H H4 ∧ H4 e = some (.lst (es.map V.int)) ∧ H4 c = some (.lst (ms.map V.int)) ∧ 1 ≤ ms.length ∧ ms.length ≤ 2 ∧ (2 < ns.length → ms.length = 2))
        ⟨none, none, ms, rfl, s2, ee, hc, l1, l2, l3⟩ (fun i σ H4 _ h => by obtain ⟨_, _, _, _, _, h, _⟩ := h; exact SqL.of h) ?_ ?_
      · rintro i x σ H4 H5 hi ⟨v3, v4, ms, rfl, s4, e4, c4, l1, l2, l3⟩ ⟨t, x1, x2, rfl, nt, rfl, g1, g2⟩
        cases g1
        replace g2 : (es.map V.int)[i]? = some x2 := g2
        rw [List.getElem?_map] at g2
        obtain ⟨y, gy, rfl⟩ := Option.map_eq_some_iff.mp g2
        rw [List.length_map] at hi
        have lm : ms.length = 2 := l3 (by omega)
        have s5 := same_upd (o := .tup [.int (i : Nat), .int y]) nt
        refine ⟨t, _, rfl, .inl (.inl upd_same), rfl, _, _, rfl, _, _, rfl, rfl, ?_⟩
        have e5 := s5 _ _ e4
        have c5 := s5 _ _ c4
        have s5 := s4.trans s5
        generalize upd H4 t (.tup [.int (i : Nat), .int y]) = H6 at e5 c5 s5 ⊢
        have em : ((i : Nat) : Int) % 2 = ((i % 2 : Nat) : Int) := by omega
        have lt : i % 2 < ms.length := by omega
        have ga : (ms.map V.int)[i % 2]? = some (.int ms[i % 2]) := by rw [List.getElem?_map, List.getElem?_eq_getElem lt]; rfl
        refine ⟨_, rfl, _, rfl, _, rfl, _, _, rfl, rfl, (by show (0 : Int) < 2; decide), c, _, _, _, rfl, rfl, SqL.of c5, (by rw [em]; exact atI_nat ga), ?_⟩
        refine ⟨_, rfl, _, rfl, _, _, rfl, rfl, _, _, rfl, rfl, .inr ⟨by omega, by omega⟩, _, _, rfl, rfl, ?_⟩
        refine ⟨_, rfl, _, rfl, _, rfl, _, _, rfl, rfl, (by show (0 : Int) < 2; decide), c, _, _, i % 2, rfl, rfl, c5, (by rw [em, List.length_map]; exact Evl.ixN_nat lt), ?_⟩
        refine ⟨_, _, ms.set (i % 2) (ms[i % 2] + y * ((i : Nat) + 2)), rfl, same_put s5 nc, (by rw [upd_ne ce.symm]; exact e5), (by rw [upd_same, List.map_set]), ?_, ?_, ?_⟩
        · rw [List.length_set]; exact l1
        · rw [List.length_set]; exact l2
        · rw [List.length_set]; exact l3
      · rintro σ H4 ⟨v3, v4, ms, rfl, s4, e4, c4, l1, l2, l3⟩
        exact ⟨_, rfl, q _ c ms s4 nc c4 l1 l2⟩

abbrev Off := Int × Int × Int
def offD (o : Off) : PyData := .tuple [.int o.1, .int o.2.1, .int o.2.2]
structure OffOk (o : Off) : Prop where
  a : 0 ≤ o.1
  b : o.1 < o.2.1
  c : o.2.1 ≤ 60
  d : 0 ≤ o.2.2
  e : o.2.2 ≤ 70
abbrev s__law_offers : Stmt := topS 13
def n__law_offers : List Str := ["_law_box_here", "_law_most", "_law_hours", "_law_found", "_law_k", "_law_first", "_law_last", "_law_way", "_law_gathers"]
theorem sc__law_offers : FnScope n__law_offers ["_law_box_here", "_law_most", "_law_hours"] (defScope s__law_offers) := ⟨rfl, rfl, rfl, by decide +kernel, rfl, by decide +kernel, by decide +kernel⟩
def spOffers (K : PySem.W.Frag) : Sp := fun vs H Q _ => ∃ (b : Addr) (hN : Nat), vs = [.ref b, .int 10, .int (hN : Nat)] ∧ 1 ≤ hN ∧ hN ≤ 60 ∧ Bx H b ∧
  ∀ (H' : Hp) (p : Addr) (os : List Off) (xs : List V), Bx H' b → Sm [b] H H' → H p = none → H' p = some (.lst xs) → DpAll K (off H' [p, b]) xs (os.map offD) → os.length ≤ 10 → (∀ o ∈ os, OffOk o) → Q (.ref p) H'
theorem ok_offers {f : Addr} {fd : FuncData} {k : Nat} (F : Fun K "_law_offers" "_law_offers" s__law_offers f fd) (T : Txt mg) (c__law_take : Cl P w K mg base (k + 1) "_law_take" spTake) : FnOk P w K mg base CX0 (k + 2) f fd ["_law_box_here", "_law_most", "_law_hours"] (spOffers K) := by
  refine F.ok sc__law_offers (fun vs H Q E h => ?_) (fun cdv A outer s H vs Q E hr h => ?_)
  · obtain ⟨b, hN, rfl, _⟩ := h
    rfl
  · obtain ⟨b, hN, rfl, h1, h60, B, q⟩ := h
    have nd := sc__law_offers.nd
    refine ⟨_, (pss_cons (ps_set (i := 3) nd rfl (.inl rfl) (pe_lst pa_nil))
      (pss_cons (ps_for PassesOwn.never rfl (pi_range1 (by rfl) T.range (pa_cons (pe_cl c__law_take hr (by omega) (by rfl) (pa_cons (pv 0) (pa_cons (pe_op op_add (pv 1) pe_int) pa_nil))) pa_nil)) (pg_name (i := 4) nd rfl (.inl rfl))
          (pss_cons (ps_set (i := 5) nd rfl (.inl rfl) (pe_cl c__law_take hr (by omega) (by rfl) (pa_cons (pv 0) (pa_cons (pv 2) pa_nil))))
          (pss_cons (ps_set (i := 6) nd rfl (.inl rfl) (pe_op op_add (pe_op op_add (pv 5) pe_int) (pe_cl c__law_take hr (by omega) (by rfl) (pa_cons (pv 0) (pa_cons (pe_op op_sub (pv 2) (pv 5)) pa_nil)))))
          (pss_cons (ps_set (i := 7) nd rfl (.inl rfl) (pe_cl c__law_take hr (by omega) (by rfl) (pa_cons (pv 0) (pa_cons pe_int pa_nil))))
          (pss_cons (ps_set (i := 8) nd rfl (.inl rfl) (pe_ifExp (pt_cmpR op_eq (pv 7) pe_int (nomark _)) (pe_op op_sub (pv 6) (pv 5)) (pe_cl c__law_take hr (by omega) (by rfl) (pa_cons (pv 0) (pa_cons (pe_ix (kx_list (K := K)) (pe_lst (pa_cons pe_int (pa_cons pe_int (pa_cons pe_int (pa_cons (pe_op op_add (pv 2) pe_int) pa_nil))))) (pv 7) (fun _ _ => rfl)) pa_nil)))))
          (pss_one (ps_expr (pe_bm PySem.F.plainAttrs_list PySem.F.slot_list_append PySem.F.type_list_append mt_append (pv 3) (pa_cons (pe_tup (pa_cons (pv 5) (pa_cons (pv 6) (pa_cons (pv 8) pa_nil)))) pa_nil)))))))))
      (pss_one (ps_ret (pv 3))))), ?_⟩
    refine ⟨Nat.zero_le _, fun p np => ?_⟩
    have pb := B.ne np
    have B1 := B.put (o := .lst []) np
    have s1 := sm_put (S := [b]) (o := .lst []) np
    have hp : upd H p (.lst []) p = some (.lst []) := upd_same
    generalize upd H p (.lst []) = H1 at B1 s1 hp ⊢
    refine ⟨_, rfl, _, rfl, _, _, rfl, rfl, b, 11, rfl, (by decide), (by decide), B1, fun H2 r r0 r1 B2 s2 => ⟨_, rfl, (by omega), (by omega), ?_⟩⟩
    refine for_it walk_range (fun i σ H3 => ∃ v4 v5 v6 v7 v8 xs os, σ = [some (.ref b), some (.int 10), some (.int (hN : Nat)), some (.ref p), v4, v5, v6, v7, v8] ∧ Bx H3 b ∧ Sm [b] H H3 ∧ H3 p = some (.lst xs) ∧ DpAll K (off H3 [p, b]) xs (os.map offD) ∧ os.length = i ∧ ∀ o ∈ os, OffOk o)
      ⟨_, _, _, _, _, [], [], rfl, B2, s1.trans s2, sm1_at s2 pb hp, .nil, rfl, fun _ h => (List.not_mem_nil h).elim⟩ (fun _ _ _ _ _ => trivial) ?_ ?_
    · rintro i x σ H3 H4 hi ⟨v4, v5, v6, v7, v8, xs, os, rfl, B3, s3, p3, d3, lo, ok⟩ ⟨rfl, rfl⟩
      -- first
      refine ⟨_, rfl, _, rfl, b, _, rfl, (by omega), (by omega), B3, fun H5 fi f0 f1 B5 s5 => ?_⟩
      have s3 := s3.trans s5
      have p3 := sm1_at s5 pb p3
      have d3 := dpAll_same (sm_one (S := [p, b]) (by simp) s5) d3
      -- last
      refine ⟨_, rfl, _, _, rfl, rfl, _, rfl, _, rfl, _, rfl, _, _, rfl, rfl, b, _, rfl, (by omega), (by omega), B5, fun H6 la l0 l1 B6 s6 => ⟨_, _, rfl, rfl, ?_⟩⟩
      have s3 := s3.trans s6
      have p3 := sm1_at s6 pb p3
      have d3 := dpAll_same (sm_one (S := [p, b]) (by simp) s6) d3
      -- way
      refine ⟨_, rfl, b, 4, rfl, (by decide), (by decide), B6, fun H7 wa w0 w1 B7 s7 => ?_⟩
      have s3 := s3.trans s7
      have p3 := sm1_at s7 pb p3
      have d3 := dpAll_same (sm_one (S := [p, b]) (by simp) s7) d3
      refine ⟨_, rfl, rfl, _, rfl, ite2 (fun hw => ?_) (fun hw => ?_)⟩
      · refine ⟨_, rfl, _, rfl, _, _, rfl, rfl, ?_⟩
        obtain ⟨ga, eg⟩ : ∃ ga, ga = fi + 1 + la - fi := ⟨_, rfl⟩
        show gName 8 (V.int (fi + 1 + la - fi)) _ _ _
        rw [← eg]
        have g0 : 0 ≤ ga := by omega
        have g1 : ga ≤ 70 := by omega
        obtain ⟨H8, e8⟩ : ∃ H8, H8 = H7 := ⟨_, rfl⟩
        rw [← e8] at B7 s3 p3 d3 ⊢
        have B8 := B7
        -- append
        refine ⟨_, rfl, .inl ⟨rfl, _, SqL.of p3⟩, _, rfl, _, rfl, _, rfl, (by show 3 ≤ sizeLine; decide), fun t nt => ?_⟩
        have tp : t ≠ p := fun e => by rw [e, p3] at nt; cases nt
        have lv : Live [p, b] H8 := (Live.one B8).cons p3
        have ht := off_new (o := .tup [.int fi, .int (fi + 1 + la), .int ga]) lv nt
        have d3 := dpAll_same (sm_put (S := [p, b]) (o := .tup [.int fi, .int (fi + 1 + la), .int ga]) nt) d3
        have p3 := same_upd (o := .tup [.int fi, .int (fi + 1 + la), .int ga]) nt _ _ p3
        have B8 := B8.put (o := .tup [.int fi, .int (fi + 1 + la), .int ga]) nt
        have s3 := s3.trans (sm_put (S := [b]) (o := .tup [.int fi, .int (fi + 1 + la), .int ga]) nt)
        generalize upd H8 t (.tup [.int fi, .int (fi + 1 + la), .int ga]) = H9 at ht d3 p3 B8 s3 ⊢
        refine ⟨p, _, _, rfl, rfl, p3, ?_, ?_⟩
        · rw [dpAll_len d3, List.length_map, lo]; exact Nat.lt_of_lt_of_le (show i < 11 by omega) (by decide)
        refine ⟨_, _, _, _, _, _, os ++ [(fi, fi + 1 + la, ga)], rfl, B8.wr pb, smp s3 np, upd_same, ?_, by rw [List.length_append, lo]; rfl, fun o ho => ?_⟩
        · rw [List.map_append]
          exact dpAll_same (sm_wr (by simp)) (dpAll_app' d3 (.cons (.tup (.inl (.inl ht)) (.cons (.int _) (.cons (.int _) (.cons (.int _) .nil)))) .nil))
        · rcases List.mem_append.mp ho with h | h
          · exact ok o h
          · rw [List.mem_singleton.mp h]
            exact ⟨f0, by show fi < fi + 1 + la; omega, by show fi + 1 + la ≤ 60; omega, g0, g1⟩
      · have wn : wa ≠ 0 := fun z => hw (decide_eq_true (by rw [z]))
        refine ⟨_, rfl, _, rfl, _, _, rfl, rfl, (by show 4 ≤ sizeLine; decide), fun e ne => ?_⟩
        have ep : p ≠ e := ne_of_none p3 ne
        have he : upd H7 e (.lst [.int 0, .int 3, .int 7, .int ((hN : Nat) + 3)]) e = _ := upd_same
        have s3 := s3.trans (sm_put (S := [b]) (o := .lst [.int 0, .int 3, .int 7, .int ((hN : Nat) + 3)]) ne)
        have p3 := same_upd (o := .lst [.int 0, .int 3, .int 7, .int ((hN : Nat) + 3)]) ne _ _ p3
        have d3 := dpAll_same (sm_put (S := [p, b]) (o := .lst [.int 0, .int 3, .int 7, .int ((hN : Nat) + 3)]) ne) d3
        have B7 := B7.put (o := .lst [.int 0, .int 3, .int 7, .int ((hN : Nat) + 3)]) ne
        generalize upd H7 e (.lst [.int 0, .int 3, .int 7, .int ((hN : Nat) + 3)]) = H7' at he s3 p3 d3 B7 ⊢
        obtain ⟨mo, em, m0, m1⟩ : ∃ mo : Int, atI [V.int 0, .int 3, .int 7, .int ((hN : Nat) + 3)] wa = some (.int mo) ∧ 0 < mo ∧ mo ≤ 70 := by
          have h : wa = 1 ∨ wa = 2 ∨ wa = 3 := by omega
          rcases h with rfl | rfl | rfl
          · exact ⟨3, rfl, by decide, by decide⟩
          · exact ⟨7, rfl, by decide, by decide⟩
          · exact ⟨(hN : Nat) + 3, rfl, by omega, by omega⟩
        refine ⟨_, rfl, e, _, wa, .int mo, rfl, rfl, SqL.of he, em, b, mo, rfl, m0, by omega, B7, fun H8 ga g0 g1 B8 s8 => ?_⟩
        have s3 := s3.trans s8
        have p3 := sm1_at s8 pb p3
        have d3 := dpAll_same (sm_one (S := [p, b]) (by simp) s8) d3
        replace g1 : ga ≤ 70 := by omega
        -- append
        refine ⟨_, rfl, .inl ⟨rfl, _, SqL.of p3⟩, _, rfl, _, rfl, _, rfl, (by show 3 ≤ sizeLine; decide), fun t nt => ?_⟩
        have tp : t ≠ p := fun e => by rw [e, p3] at nt; cases nt
        have lv : Live [p, b] H8 := (Live.one B8).cons p3
        have ht := off_new (o := .tup [.int fi, .int (fi + 1 + la), .int ga]) lv nt
        have d3 := dpAll_same (sm_put (S := [p, b]) (o := .tup [.int fi, .int (fi + 1 + la), .int ga]) nt) d3
        have p3 := same_upd (o := .tup [.int fi, .int (fi + 1 + la), .int ga]) nt _ _ p3
        have B8 := B8.put (o := .tup [.int fi, .int (fi + 1 + la), .int ga]) nt
        have s3 := s3.trans (sm_put (S := [b]) (o := .tup [.int fi, .int (fi + 1 + la), .int ga]) nt)
        generalize upd H8 t (.tup [.int fi, .int (fi + 1 + la), .int ga]) = H9 at ht d3 p3 B8 s3 ⊢
        refine ⟨p, _, _, rfl, rfl, p3, ?_, ?_⟩
        · rw [dpAll_len d3, List.length_map, lo]; exact Nat.lt_of_lt_of_le (show i < 11 by omega) (by decide)
        refine ⟨_, _, _, _, _, _, os ++ [(fi, fi + 1 + la, ga)], rfl, B8.wr pb, smp s3 np, upd_same, ?_, by rw [List.length_append, lo]; rfl, fun o ho => ?_⟩
        · rw [List.map_append]
          exact dpAll_same (sm_wr (by simp)) (dpAll_app' d3 (.cons (.tup (.inl (.inl ht)) (.cons (.int _) (.cons (.int _) (.cons (.int _) .nil)))) .nil))
        · rcases List.mem_append.mp ho with h | h
          · exact ok o h
          · rw [List.mem_singleton.mp h]
            exact ⟨f0, by show fi < fi + 1 + la; omega, by show fi + 1 + la ≤ 60; omega, g0, g1⟩
    · rintro σ H3 ⟨v4, v5, v6, v7, v8, xs, os, rfl, B3, s3, p3, d3, lo, ok⟩
      exact ⟨_, rfl, q _ p os xs B3 s3 np p3 d3 (by omega) ok⟩

end
end Pot

namespace Pot
open PySem PySem.Spec PyProof.Rows L2
section
variable {P : Program} {w : World} {K : PySem.W.Frag} {mg : Str → Option Value} {base : Heap}
def spNum (K : PySem.W.Frag) : Sp := fun vs H Q _ => ∃ (x : V) (d : PyData) (lo hi : Int), vs = [x, .int lo, .int hi] ∧ Dp K H x d ∧ Q (.bl (numD lo hi d)) H
/-! ### is_number: whether it's a number within bounds -/
abbrev s_is_number : Stmt := topS 1
def n_is_number : List Str := ["thing", "low", "high"]
theorem sc_is_number : FnScope n_is_number ["thing", "low", "high"] (defScope s_is_number) := ⟨rfl, rfl, rfl, by decide +kernel, rfl, by decide +kernel, by decide +kernel⟩
theorem ok_num {f : Addr} {fd : FuncData} {k : Nat} (F : Fun K "is_number" "is_number" s_is_number f fd) (T : Txt mg) : FnOk P w K mg base CX0 (k + 1) f fd ["thing", "low", "high"] (spNum K) := by
  refine F.ok sc_is_number (fun vs H Q E h => ?_) (fun cdv A outer s H vs Q E hr h => ?_)
  · obtain ⟨x, d, lo, hi, rfl, _⟩ := h
    rfl
  · obtain ⟨x, d, lo, hi, rfl, dp, q⟩ := h
    have nd := sc_is_number.nd
    refine ⟨_, (pss_one (ps_ret (pe_and (pe_callB (kc_isi (K := K)) (by rfl) T.isinstance (by decide +kernel) (pa_cons (pv 0) (pa_cons (pe_bltn (v := .ty "int") (by rfl) T.int (by decide +kernel) rfl) pa_nil))) (pe_and (pe_not (pe_callB (kc_isi (K := K)) (by rfl) T.isinstance (by decide +kernel) (pa_cons (pv 0) (pa_cons (pe_bltn (v := .ty "bool") (by rfl) T.bool (by decide +kernel) rfl) pa_nil)))) (pe_one (pe_chain op_le op_le (pv 1) (pv 0) (pv 2))))))), ?_⟩
    refine ⟨_, rfl, _, .ty _, _, _, isIntD _, rfl, .ty _, tyx_dp dp, kit_int dp, _, rfl, ?_⟩
    have dp2 := dp
    cases dp with
    | int i =>
      refine iteT ⟨_, rfl, _, .ty _, _, _, isBoolD _, rfl, .ty _, tyx_dp dp2, kit_bool dp2, _, rfl, _, rfl, iteT ?_⟩
      refine ⟨_, rfl, _, rfl, _, _, rfl, rfl, _, rfl, ite2 (fun h1 => ⟨_, rfl, _, _, rfl, rfl, ?_⟩) (fun h1 => ?_)⟩
      · have e : numD lo hi (.int i) = decide (i ≤ hi) := by show (decide (lo ≤ i) && _) = _; rw [h1]; rfl
        rw [e] at q; exact q
      · have e : numD lo hi (.int i) = false := by show (decide (lo ≤ i) && _) = _; rw [Bool.not_eq_true _ |>.mp h1]; rfl
        rw [e] at q; exact q
    | bl b =>
      refine iteT ⟨_, rfl, _, .ty _, _, _, isBoolD _, rfl, .ty _, tyx_dp dp2, kit_bool dp2, _, rfl, _, rfl, iteF q⟩
    | non => exact iteF q
    | str _ => exact iteF q
    | lst _ _ => exact iteF q
    | tup _ _ => exact iteF q

/-! ### is_rising of numbers -/
abbrev s_is_rising : Stmt := topS 2
def n_is_rising : List Str := ["keys", "one", "other"]
theorem sc_is_rising : FnScope n_is_rising ["keys"] (defScope s_is_rising) := ⟨rfl, rfl, rfl, by decide +kernel, rfl, by decide +kernel, by decide +kernel⟩
def spRis (K : PySem.W.Frag) : Sp := fun vs H Q _ => ∃ (a : Addr) (ns : List Int), vs = [.ref a] ∧ SqL K H a (ns.map V.int) ∧ ns.length ≤ 4000 ∧ ∀ H', Same H H' → Q (.bl (risI ns)) H'
theorem ok_ris {f : Addr} {fd : FuncData} {k : Nat} (F : Fun K "is_rising" "is_rising" s_is_rising f fd) (T : Txt mg) : FnOk P w K mg base CX0 (k + 1) f fd ["keys"] (spRis K) := by
  refine F.ok sc_is_rising (fun vs H Q E h => ?_) (fun cdv A outer s H vs Q E hr h => ?_)
  · obtain ⟨a, ns, rfl, _⟩ := h
    rfl
  · obtain ⟨a, ns, rfl, hS, h4, q⟩ := h
    have nd := sc_is_rising.nd
    refine ⟨_, (pss_one (ps_ret (pe_callB (kc_all (K := K)) (by rfl) T.all (by decide +kernel) (pa_cons (pe_lc (own := [("one", 1), ("other", 2)]) rfl nd (ki_zip (K := K) (by rfl) T.zip (pa_cons (pv 0) (pa_cons (pe_slice (kl_list (K := K)) (pv 0) (po_some pe_int) po_none) pa_nil))) (blkOk_by (N := n_is_rising) (sc := defScope s_is_rising) (by decide +kernel)) (fun _ _ _ _ _ => (kg_tup (K := K) (n := 2) (pgs_cons (pg_name (i := 1) nd rfl (.inl rfl)) (pgs_cons (pg_name (i := 2) nd rfl (.inl rfl)) pgs_nil)))) (fun _ _ _ _ _ => pts_nil) (fun _ _ _ _ _ => (pe_cmpR op_lt (pv 1) (pv 2) (nomark _)))) pa_nil)))), ?_⟩
    refine ⟨_, rfl, _, rfl, 1, rfl, a, _, rfl, hS, fun e ne => ?_⟩
    have ce : cutV (ns.map V.int) (some 1) none = (ns.drop 1).map V.int := by rw [show (1 : Int) = ((1 : Nat) : Int) from rfl, cut_tail, List.map_drop]
    have he : upd H e (.lst (cutV (ns.map V.int) (some 1) none)) e = some (.lst ((ns.drop 1).map V.int)) := by rw [upd_same, ce]
    have s1 := same_upd (o := .lst (cutV (ns.map V.int) (some 1) none)) ne
    generalize upd H e (.lst (cutV (ns.map V.int) (some 1) none)) = H1 at he s1 ⊢
    have hS := s1.seq hS
    refine ⟨a, e, _, _, rfl, .inl ⟨hS, SqL.of he, fun D nD => ?_⟩⟩
    refine lc_it (walk_zip (xs := ns.map V.int) (ys := (ns.drop 1).map V.int) (n := (rb ns).length) (by rw [rb_len, List.length_map, List.length_map, List.length_drop]; omega)) (PvL H1 D fun i => ((rb ns).take i).map V.bl)
      (pv_start nD rfl) (fun i H2 _ h => ⟨h.1.seq hS, SqL.of (h.1 _ _ he)⟩) ?_ ?_
    · rintro i v H2 H3 hi p ⟨u, x1, y1, rfl, hu, rfl, gx, gy⟩
      replace gx : (ns.map V.int)[i]? = some x1 := gx
      replace gy : ((ns.drop 1).map V.int)[i]? = some y1 := gy
      rw [List.getElem?_map] at gx gy
      obtain ⟨x, gx1, rfl⟩ := Option.map_eq_some_iff.mp gx
      obtain ⟨y, gy1, rfl⟩ := Option.map_eq_some_iff.mp gy
      rw [List.getElem?_drop, Nat.add_comm] at gy1
      refine ⟨u, _, rfl, .inl (.inl upd_same), rfl, _, _, rfl, _, _, rfl, rfl, rfl, tYes_at ?_⟩
      rw [if_pos rfl]
      refine ⟨_, rfl, _, rfl, _, _, rfl, rfl, ?_⟩
      exact pv_put nD p (same_upd hu) (take_map V.bl (rb_at gx1 gy1)) (take_len_le (by rw [rb_len]; omega))
    · intro H2 p
      obtain ⟨sm, hD⟩ := pv_end p (take_all (Nat.le_refl _))
      refine ⟨D, _, rfl, SqL.of hD, ?_⟩
      rw [rb_all]
      exact q _ (s1.trans sm)

/-! ### are_rising -/
abbrev s_are_rising : Stmt := topS 3
def n_are_rising : List Str := ["thing", "low", "high", "part"]
theorem sc_are_rising : FnScope n_are_rising ["thing", "low", "high"] (defScope s_are_rising) := ⟨rfl, rfl, rfl, by decide +kernel, rfl, by decide +kernel, by decide +kernel⟩
def spAre (K : PySem.W.Frag) : Sp := fun vs H Q _ => ∃ (x : V) (d : PyData) (lo hi : Int), vs = [x, .int lo, .int hi] ∧ Dp K H x d ∧ widAll.wid d ≤ 4000 ∧ ∀ H', Same H H' → Q (.bl (risD lo hi d)) H'
theorem ok_are {f : Addr} {fd : FuncData} {k : Nat} (F : Fun K "are_rising" "are_rising" s_are_rising f fd) (T : Txt mg) (c_is_number : Cl P w K mg base (k + 1) "is_number" (spNum K)) (c_is_rising : Cl P w K mg base (k + 1) "is_rising" (spRis K)) : FnOk P w K mg base CX0 (k + 2) f fd ["thing", "low", "high"] (spAre K) := by
  refine F.ok sc_are_rising (fun vs H Q E h => ?_) (fun cdv A outer s H vs Q E hr h => ?_)
  · obtain ⟨x, d, lo, hi, rfl, _⟩ := h
    rfl
  · obtain ⟨x, d, lo, hi, rfl, dp, hw, q⟩ := h
    have nd := sc_are_rising.nd
    refine ⟨_, (pss_one (ps_ret (pe_and (pe_callB (kc_isi (K := K)) (by rfl) T.isinstance (by decide +kernel) (pa_cons (pv 0) (pa_cons (pe_bltn (v := .ty "list") (by rfl) T.list (by decide +kernel) rfl) pa_nil))) (pe_and (pe_callB (kc_all (K := K)) (by rfl) T.all (by decide +kernel) (pa_cons (pe_lc (own := [("part", 3)]) rfl nd (ki_list (K := K) (pv 0)) (blkOk_by (N := n_are_rising) (sc := defScope s_are_rising) (by decide +kernel)) (fun _ _ _ _ _ => (pg_name (i := 3) nd rfl (.inl rfl))) (fun _ _ _ _ _ => pts_nil) (fun _ _ _ _ _ => (pe_cl c_is_number hr (by omega) (by rfl) (pa_cons (pv 3) (pa_cons (pv 1) (pa_cons (pv 2) pa_nil)))))) pa_nil)) (pe_one (pe_cl c_is_rising hr (by omega) (by rfl) (pa_cons (pv 0) pa_nil))))))), ?_⟩
    refine ⟨_, rfl, _, .ty _, _, _, isListD _, rfl, .ty _, tyx_dp dp, kit_list dp, _, rfl, ?_⟩
    cases dp with
    | @lst a xs ds hS hx =>
      have l4 : ds.length ≤ 4000 := Nat.le_trans (Nat.le_max_left ..) hw
      refine iteT ⟨_, rfl, a, rfl, ⟨_, hS⟩, fun D nD => ?_⟩
      refine lc_it (walk_list (xs := xs)) (PvL H D fun i => ((ds.map (numD lo hi)).take i).map V.bl) (pv_start nD rfl) (fun i H2 _ h => h.1.seq hS) ?_ ?_
      · rintro i x H2 H3 hi2 p ⟨rfl, gx⟩
        obtain ⟨d, gd, pd⟩ := dpAll_at hx gx
        refine ⟨rfl, tYes_at ?_⟩
        rw [if_pos rfl]
        refine ⟨_, rfl, _, rfl, _, rfl, x, d, lo, hi, rfl, dp_same p.1 pd, ?_⟩
        exact pv_put nD p (Same.refl _) (take_map V.bl (by rw [List.getElem?_map, gd]; rfl)) (take_len_le (by rw [List.length_map]; omega))
      · intro H2 p
        obtain ⟨sm, hD⟩ := pv_end p (take_all (by rw [List.length_map, dpAll_len hx]; exact Nat.le_refl _))
        refine ⟨D, _, rfl, SqL.of hD, ?_⟩
        rw [all_map]
        refine ⟨_, rfl, ?_⟩
        cases ha : ds.all (numD lo hi) with
        | false =>
          refine iteF ?_
          have e : risD lo hi (.list ds) = false := by show (ds.all (numD lo hi) && _) = _; rw [ha]; rfl
          rw [e] at q; exact q _ sm
        | true =>
          refine iteT ?_
          obtain ⟨en, bn⟩ := nums_of ha
          rw [en] at hx
          have ex := dp_intsV hx
          rw [ex] at hS
          refine ⟨_, rfl, a, ds.map toI, rfl, sm.seq hS, by rw [List.length_map]; exact l4, fun H3 s3 => ?_⟩
          have e : risD lo hi (.list ds) = risI (ds.map toI) := by show (ds.all (numD lo hi) && _) = _; rw [ha]; rfl
          rw [e] at q; exact q _ (sm.trans s3)
    | int i => exact iteF (q _ (Same.refl _))
    | bl b => exact iteF (q _ (Same.refl _))
    | non => exact iteF (q _ (Same.refl _))
    | str _ => exact iteF (q _ (Same.refl _))
    | tup _ _ => exact iteF (q _ (Same.refl _))

theorem off_dp {H : Hp} {v : V} {o : Off} (h : Dp K H v (offD o)) : ∃ a, v = .ref a ∧ SqT K H a [.int o.1, .int o.2.1, .int o.2.2] := by
  cases h with
  | tup h a =>
    cases a with
    | cons h1 t => cases t with
      | cons h2 t => cases t with
        | cons h3 t => cases t; cases h1; cases h2; cases h3; exact ⟨_, rfl, h⟩
def inO (o : Off) (h : Int) : Bool := decide (o.1 ≤ h) && decide (h < o.2.1)
abbrev s_is_in : Stmt := topS 8
def n_is_in : List Str := ["offer", "hour"]
theorem sc_is_in : FnScope n_is_in ["offer", "hour"] (defScope s_is_in) := ⟨rfl, rfl, rfl, by decide +kernel, rfl, by decide +kernel, by decide +kernel⟩
def spIn (K : PySem.W.Frag) : Sp := fun vs H Q _ => ∃ (x : V) (o : Off) (n : Int), vs = [x, .int n] ∧ Dp K H x (offD o) ∧ Q (.bl (inO o n)) H
theorem ok_in {f : Addr} {fd : FuncData} {k : Nat} (F : Fun K "is_in" "is_in" s_is_in f fd) : FnOk P w K mg base CX0 (k + 1) f fd ["offer", "hour"] (spIn K) := by
  refine F.ok sc_is_in (fun vs H Q E h => ?_) (fun cdv A outer s H vs Q E hr h => ?_)
  · obtain ⟨x, d, n, rfl, _⟩ := h
    rfl
  · obtain ⟨x, o, n, rfl, dp, q⟩ := h
    have nd := sc_is_in.nd
    obtain ⟨a, rfl, hS⟩ := off_dp dp
    refine ⟨_, (pss_one (ps_ret (pe_chain op_le op_lt (pe_ix (kx_tup (K := K)) (pv 0) pe_int (fun _ _ => rfl)) (pv 1) (pe_ix (kx_tup (K := K)) (pv 0) pe_int (fun _ _ => rfl))))), ?_⟩
    refine ⟨_, rfl, a, _, 0, _, rfl, rfl, hS, rfl, _, rfl, _, _, rfl, rfl, _, rfl, ite2 (fun h1 => ⟨_, rfl, a, _, 1, _, rfl, rfl, hS, rfl, _, _, rfl, rfl, ?_⟩) (fun h1 => ?_)⟩
    · have e : inO o n = decide (n < o.2.1) := by unfold inO; rw [h1]; rfl
      rw [e] at q; exact q
    · have e : inO o n = false := by unfold inO; rw [Bool.not_eq_true _ |>.mp h1]; rfl
      rw [e] at q; exact q

def intsD : PyData → List Int
  | .list ds => ds.map toI
  | _ => []
theorem want_at {ws : List Int} {h : Int} (h0 : 0 ≤ h) (h1 : h ≤ (ws.length : Nat) - 1) : atI (ws.map V.int) h = some (.int (ws.getD h.toNat 0)) := by
  obtain ⟨n, rfl⟩ : ∃ n : Nat, h = (n : Int) := ⟨h.toNat, by omega⟩
  have hn : n < ws.length := by omega
  rw [Int.toNat_natCast, List.getD_eq_getElem?_getD, List.getElem?_eq_getElem hn]
  exact atI_nat (by rw [List.getElem?_map, List.getElem?_eq_getElem hn]; rfl)
theorem ris_list {lo hi : Int} {d : PyData} (h : risD lo hi d = true) : ∃ ds, d = .list ds ∧ ds.all (numD lo hi) = true := by
  cases d with
  | list ds => exact ⟨ds, rfl, (Bool.and_eq_true_iff.mp h).1⟩
  | _ => cases h

theorem inV_ints (k : Int) (ns : List Int) : inV (.int k) (ns.map V.int) = decide (k ∈ ns) := by
  unfold inV
  rw [List.any_map]
  cases h : decide (k ∈ ns) with
  | true =>
    rw [List.any_eq_true]
    exact ⟨k, of_decide_eq_true h, by simp [eqV]⟩
  | false =>
    rw [List.any_eq_false]
    intro x hx e
    have : x = k := by simpa [eqV] using e
    subst this
    exact of_decide_eq_false h hx
def o0 : Off := (0, 0, 0)
/-- an hour's row: offers' numbers, rising, as many as are wanted, all of that hour -/
def serveD (os : List Off) (w h : Int) (r : PyData) : Bool := risD 0 (((os.length : Nat) : Int) - 1) r && (decide ((((intsD r).length : Nat) : Int) = w) && (intsD r).all fun n => inO (os.getD n.toNat o0) h)
/-- in how many rows a number stands -/
def oft (rs : List PyData) (j : Int) : Nat := (rs.filter fun r => decide (j ∈ intsD r)).length
def rowsD (os : List Off) (ws : List Int) : PyData → Bool
  | .list rs => decide (((rs.length : Nat) : Int) = ((ws.length : Nat) : Int)) && (((List.range rs.length).map fun i => serveD os (ws.getD i 0) ((i : Nat) : Int) (rs.getD i .none)).all id && ((List.range os.length).map fun j => decide (((oft rs ((j : Nat) : Int) : Nat) : Int) ≤ (os.getD j o0).2.2)).all id)
  | _ => false
abbrev s_serves_hour : Stmt := topS 6
def n_serves_hour : List Str := ["offers", "wants", "hour", "thing", "number"]
theorem sc_serves_hour : FnScope n_serves_hour ["offers", "wants", "hour", "thing"] (defScope s_serves_hour) := ⟨rfl, rfl, rfl, by decide +kernel, rfl, by decide +kernel, by decide +kernel⟩
def spServe (K : PySem.W.Frag) : Sp := fun vs H Q _ => ∃ (a c : Addr) (xs : List V) (os : List Off) (ws : List Int) (i : Nat) (x : V) (d : PyData), vs = [.ref a, .ref c, .int (i : Nat), x] ∧ SqL K H a xs ∧ DpAll K H xs (os.map offD) ∧ os.length ≤ 60 ∧ SqL K H c (ws.map V.int) ∧ i < ws.length ∧ Dp K H x d ∧ widAll.wid d ≤ 4000 ∧ ∀ H', Same H H' → Q (.bl (serveD os (ws.getD i 0) (i : Nat) d)) H'
theorem ok_serve {f : Addr} {fd : FuncData} {k : Nat} (F : Fun K "serves_hour" "serves_hour" s_serves_hour f fd) (T : Txt mg) (c_is_in : Cl P w K mg base (k + 1) "is_in" (spIn K)) (c_are_rising : Cl P w K mg base (k + 2) "are_rising" (spAre K)) : FnOk P w K mg base CX0 (k + 3) f fd ["offers", "wants", "hour", "thing"] (spServe K) := by
  refine F.ok sc_serves_hour (fun vs H Q E h => ?_) (fun cdv A outer s H vs Q E hr h => ?_)
  · obtain ⟨a, c, xs, os, ws, i, x, d, rfl, _⟩ := h
    rfl
  · obtain ⟨a, c, xs, os, ws, i, x, d, rfl, hS, hx, lo, hW, hi, dp, hw, q⟩ := h
    have nd := sc_serves_hour.nd
    have lx : xs.length = os.length := by rw [dpAll_len hx, List.length_map]
    refine ⟨_, (pss_one (ps_ret (pe_and (pe_cl c_are_rising hr (by omega) (by rfl) (pa_cons (pv 3) (pa_cons pe_int (pa_cons (pe_op op_sub (pe_callB (kc_len (K := K)) (by rfl) T.len PySem.boot_len (pa_cons (pv 0) pa_nil)) pe_int) pa_nil)))) (pe_and (pe_cmpR op_eq (pe_callB (kc_len (K := K)) (by rfl) T.len PySem.boot_len (pa_cons (pv 3) pa_nil)) (pe_ix (kx_list (K := K)) (pv 1) (pv 2) (fun _ _ => rfl)) (nomark _)) (pe_one (pe_callB (kc_all (K := K)) (by rfl) T.all (by decide +kernel) (pa_cons (pe_lc (own := [("number", 4)]) rfl nd (ki_list (K := K) (pv 3)) (blkOk_by (N := n_serves_hour) (sc := defScope s_serves_hour) (by decide +kernel)) (fun _ _ _ _ _ => (pg_name (i := 4) nd rfl (.inl rfl))) (fun _ _ _ _ _ => pts_nil) (fun _ _ _ _ _ => (pe_cl c_is_in hr (by omega) (by rfl) (pa_cons (pe_ix (kx_list (K := K)) (pv 0) (pv 4) (fun _ _ => rfl)) (pa_cons (pv 2) pa_nil))))) pa_nil))))))), ?_⟩
    refine ⟨_, rfl, _, rfl, _, _, rfl, .inl ⟨_, hS, rfl⟩, _, _, rfl, rfl, x, d, 0, _, rfl, dp, hw, fun H1 s1 => ⟨_, rfl, ?_⟩⟩
    rw [lx]
    refine ite2 (fun h1 => ?_) (fun h1 => ?_)
    rotate_left
    · have e : serveD os (ws.getD i 0) (i : Nat) d = false := by unfold serveD; rw [Bool.not_eq_true _ |>.mp h1]; rfl
      rw [e] at q; exact q _ s1
    obtain ⟨ds, rfl, hall⟩ := ris_list h1
    obtain ⟨en, bn⟩ := nums_of hall
    obtain ⟨eL, zs, rfl, hE, hz⟩ := dp_lst' dp
    have lds : ds.length ≤ 4000 := Nat.le_trans (Nat.le_max_left ..) hw
    rw [en] at hz
    rw [dp_intsV hz] at hE
    have ln : (ds.map toI).length ≤ 4000 := by rw [List.length_map]; exact lds
    have e : serveD os (ws.getD i 0) (i : Nat) (.list ds) = (decide ((((ds.map toI).length : Nat) : Int) = ws.getD i 0) && (ds.map toI).all fun n => inO (os.getD n.toNat o0) ((i : Nat) : Int)) := by
      show (risD 0 (((os.length : Nat) : Int) - 1) (.list ds) && _) = _
      rw [h1, Bool.true_and]; rfl
    rw [e] at q
    generalize ds.map toI = ns at q hE bn ln
    have gw : (ws.map V.int)[i]? = some (.int (ws.getD i 0)) := by rw [List.getElem?_map, List.getD_eq_getElem?_getD, List.getElem?_eq_getElem hi]; rfl
    refine ⟨_, rfl, _, _, rfl, .inl ⟨_, s1.seq hE, rfl⟩, _, rfl, _, rfl, c, _, _, _, rfl, rfl, s1.seq hW, atI_nat gw, rfl, _, rfl, ?_⟩
    have ed : decide (V.int (((ns.map V.int).length : Nat) : Int) = V.int (ws.getD i 0)) = decide (((ns.length : Nat) : Int) = ws.getD i 0) := by
      rw [List.length_map]
      by_cases h : ((ns.length : Nat) : Int) = ws.getD i 0
      · rw [decide_eq_true h, decide_eq_true (by rw [h])]
      · rw [decide_eq_false h, decide_eq_false fun z => h (V.int.inj z)]
    rw [ed]
    refine ite2 (fun h2 => ?_) (fun h2 => ?_)
    rotate_left
    · rw [Bool.not_eq_true _ |>.mp h2, Bool.false_and] at q; exact q _ s1
    rw [h2, Bool.true_and] at q
    refine ⟨_, rfl, eL, rfl, ⟨_, s1.seq hE⟩, fun D nD => ?_⟩
    refine lc_it (walk_list (xs := ns.map V.int)) (PvL H1 D fun j => ((ns.map fun n => inO (os.getD n.toNat o0) ((i : Nat) : Int)).take j).map V.bl) (pv_start nD rfl) (fun j H2 _ h => (s1.trans h.1).seq hE) ?_ ?_
    · rintro j y H2 H3 hj p ⟨rfl, gy⟩
      rw [List.getElem?_map] at gy
      obtain ⟨n, gn, rfl⟩ := Option.map_eq_some_iff.mp gy
      obtain ⟨n0, n1⟩ := bn n (List.mem_of_getElem? gn)
      obtain ⟨m, rfl⟩ : ∃ m : Nat, n = (m : Int) := ⟨n.toNat, by omega⟩
      have hm : m < os.length := by omega
      obtain ⟨v, gv⟩ : ∃ v, xs[m]? = some v := ⟨xs[m]'(by omega), List.getElem?_eq_getElem (by omega)⟩
      obtain ⟨dv, gd, pv⟩ := dpAll_at hx gv
      rw [List.getElem?_map] at gd
      obtain ⟨o, go, rfl⟩ := Option.map_eq_some_iff.mp gd
      have eo : os.getD (m : Int).toNat o0 = o := by rw [Int.toNat_natCast, List.getD_eq_getElem?_getD, go]; rfl
      have s13 := s1.trans p.1
      refine ⟨rfl, tYes_at ?_⟩
      rw [if_pos rfl]
      refine ⟨_, rfl, _, rfl, a, _, _, v, rfl, rfl, s13.seq hS, atI_nat gv, _, rfl, v, o, _, rfl, dp_same s13 pv, ?_⟩
      exact pv_put nD p (Same.refl _) (take_map V.bl (by rw [List.getElem?_map, gn]; show some (inO (os.getD (m : Int).toNat o0) _) = _; rw [eo])) (take_len_le (by rw [List.length_map]; omega))
    · intro H2 p
      obtain ⟨s2, hD⟩ := pv_end p (take_all (by rw [List.length_map, List.length_map]; exact Nat.le_refl _))
      refine ⟨D, _, rfl, SqL.of hD, ?_⟩
      have e2 : (ns.map fun n => inO (os.getD n.toNat o0) ((i : Nat) : Int)).all id = ns.all fun n => inO (os.getD n.toNat o0) ((i : Nat) : Int) := by rw [List.all_map]; rfl
      rw [e2]
      exact q _ (s1.trans s2)
abbrev s_often_in : Stmt := topS 7
def n_often_in : List Str := ["rows", "number", "row"]
theorem sc_often_in : FnScope n_often_in ["rows", "number"] (defScope s_often_in) := ⟨rfl, rfl, rfl, by decide +kernel, rfl, by decide +kernel, by decide +kernel⟩
/-- rows of numbers -/
def IntRows (rs : List PyData) : Prop := ∀ r ∈ rs, ∃ ns : List Int, r = .list (ns.map PyData.int)
def spOft (K : PySem.W.Frag) : Sp := fun vs H Q _ => ∃ (t : Addr) (zs : List V) (rs : List PyData) (j : Int), vs = [.ref t, .int j] ∧ SqL K H t zs ∧ DpAll K H zs rs ∧ IntRows rs ∧ rs.length ≤ 4000 ∧ ∀ H', Same H H' → Q (.int ((oft rs j : Nat) : Int)) H'
theorem oft_take {rs : List PyData} {j : Int} {i : Nat} {r : PyData} (g : rs[i]? = some r) : oft (rs.take (i + 1)) j = oft (rs.take i) j + if j ∈ intsD r then 1 else 0 := by
  unfold oft
  rw [List.take_add_one, g, Option.toList_some, List.filter_append, List.length_append]
  by_cases h : j ∈ intsD r
  · simp [h]
  · simp [h]
theorem intsD_ints (ns : List Int) : intsD (.list (ns.map PyData.int)) = ns := by
  show (ns.map PyData.int).map toI = ns
  rw [List.map_map]
  conv => rhs; rw [← List.map_id ns]
  rfl
theorem ok_oft {f : Addr} {fd : FuncData} {k : Nat} (F : Fun K "often_in" "often_in" s_often_in f fd) (T : Txt mg) : FnOk P w K mg base CX0 (k + 1) f fd ["rows", "number"] (spOft K) := by
  refine F.ok sc_often_in (fun vs H Q E h => ?_) (fun cdv A outer s H vs Q E hr h => ?_)
  · obtain ⟨t, zs, rs, j, rfl, _⟩ := h
    rfl
  · obtain ⟨t, zs, rs, j, rfl, hS, hz, ir, l4, q⟩ := h
    have nd := sc_often_in.nd
    refine ⟨_, (pss_one (ps_ret (pe_callB (kc_len (K := K)) (by rfl) T.len PySem.boot_len (pa_cons (pe_lc (own := [("row", 2)]) rfl nd (ki_list (K := K) (pv 0)) (blkOk_by (N := n_often_in) (sc := defScope s_often_in) (by decide +kernel)) (fun _ _ _ _ _ => (pg_name (i := 2) nd rfl (.inl rfl))) (fun _ _ _ _ _ => (pts_one (pt_cmpR (ko_in (K := K)) (pv 1) (pv 2) rfl))) (fun _ _ _ _ _ => (pv 2))) pa_nil)))), ?_⟩
    refine ⟨_, rfl, t, rfl, ⟨_, hS⟩, fun D nD => ?_⟩
    have lz := dpAll_len hz
    refine lc_it (walk_list (xs := zs)) (fun i H2 => Same H H2 ∧ ∃ acc : List V, H2 D = some (.lst acc) ∧ acc.length = oft (rs.take i) j ∧ acc.length ≤ i) ⟨same_upd nD, [], upd_same, rfl, Nat.le_refl _⟩ (fun i H2 _ h => h.1.seq hS) ?_ ?_
    · rintro i x H2 H3 hi ⟨sm, acc, hD, la, li⟩ ⟨rfl, gx⟩
      obtain ⟨r, gr, pr⟩ := dpAll_at hz gx
      obtain ⟨ns, rfl⟩ := ir r (List.mem_of_getElem? gr)
      obtain ⟨e, ys, rfl, hE, hy⟩ := dp_lst' pr
      rw [dp_intsV hy] at hE
      have et := oft_take (j := j) gr
      rw [intsD_ints] at et
      refine ⟨rfl, _, rfl, _, rfl, e, _, rfl, .inl (sm.seq hE), rfl, flat_ints ns, _, rfl, ?_⟩
      show if inV (V.int j) (ns.map V.int) = true then _ else _
      rw [inV_ints]
      refine ite2 (fun h => ?_) (fun h => ?_)
      · rw [if_pos (of_decide_eq_true h)] at et
        refine ⟨_, rfl, acc, hD, by rw [sizeLine_eq]; omega, same_put sm nD, _, upd_same, by rw [List.length_append, et, la]; rfl, by rw [List.length_append]; simp only [List.length_cons, List.length_nil]; omega⟩
      · rw [if_neg (of_decide_eq_false (Bool.not_eq_true _ |>.mp h))] at et
        exact ⟨sm, acc, hD, by rw [et, la]; rfl, by omega⟩
    · rintro H2 ⟨sm, acc, hD, la, li⟩
      rw [lz, List.take_length] at la
      refine ⟨_, oft rs j, rfl, .inl ⟨_, SqL.of hD, la.symm⟩, ?_⟩
      exact q _ sm

end
end Pot

namespace Pot
open PySem PySem.Spec PyProof.Rows L2
section
variable {P : Program} {w : World} {K : PySem.W.Frag} {mg : Str → Option Value} {base : Heap}
abbrev s_shows_rows : Stmt := topS 5
def n_shows_rows : List Str := ["offers", "wants", "thing", "hour", "row", "number", "offer"]
theorem sc_shows_rows : FnScope n_shows_rows ["offers", "wants", "thing"] (defScope s_shows_rows) := ⟨rfl, rfl, rfl, by decide +kernel, rfl, by decide +kernel, by decide +kernel⟩
def spShows (K : PySem.W.Frag) : Sp := fun vs H Q _ => ∃ (a c : Addr) (xs : List V) (os : List Off) (ws : List Int) (x : V) (d : PyData), vs = [.ref a, .ref c, x] ∧ SqL K H a xs ∧ DpAll K H xs (os.map offD) ∧ os.length ≤ 60 ∧ SqL K H c (ws.map V.int) ∧ ws.length ≤ 60 ∧ Dp K H x d ∧ widAll.wid d ≤ 4000 ∧ ∀ H', Same H H' → Q (.bl (rowsD os ws d)) H'
theorem serve_ris {os : List Off} {w h : Int} {r : PyData} (e : serveD os w h r = true) : ∃ ns : List Int, r = .list (ns.map PyData.int) ∧ risI ns = true ∧ (∀ n ∈ ns, 0 ≤ n ∧ n ≤ ((os.length : Nat) : Int) - 1) ∧ ((ns.length : Nat) : Int) = w ∧ ∀ n ∈ ns, inO (os.getD n.toNat o0) h = true := by
  obtain ⟨h1, h2⟩ := Bool.and_eq_true_iff.mp e
  obtain ⟨h2, h3⟩ := Bool.and_eq_true_iff.mp h2
  obtain ⟨ds, rfl, ha⟩ := ris_list h1
  obtain ⟨en, bn⟩ := nums_of ha
  exact ⟨ds.map toI, by rw [← en], (Bool.and_eq_true_iff.mp h1).2, bn, of_decide_eq_true h2, List.all_eq_true.mp h3⟩
theorem all_range {n : Nat} {f : Nat → Bool} : ((List.range n).map f).all id = true ↔ ∀ i, i < n → f i = true := by
  rw [List.all_map, List.all_eq_true]
  exact ⟨fun h i hi => h i (List.mem_range.mpr hi), fun h i hi => h i (List.mem_range.mp hi)⟩
theorem getD_at {α : Type} {l : List α} {i : Nat} {x d : α} (h : l[i]? = some x) : l.getD i d = x := by rw [List.getD_eq_getElem?_getD, h]; rfl
theorem range_at {n i : Nat} {α : Type} {f : Nat → α} (h : i < n) : ((List.range n).map f)[i]? = some (f i) := by rw [List.getElem?_map, List.getElem?_range h]; rfl
theorem ok_shows {f : Addr} {fd : FuncData} {k : Nat} (F : Fun K "shows_rows" "shows_rows" s_shows_rows f fd) (T : Txt mg) (c_serves_hour : Cl P w K mg base (k + 3) "serves_hour" (spServe K)) (c_often_in : Cl P w K mg base (k + 1) "often_in" (spOft K)) : FnOk P w K mg base CX0 (k + 4) f fd ["offers", "wants", "thing"] (spShows K) := by
  refine F.ok sc_shows_rows (fun vs H Q E h => ?_) (fun cdv A outer s H vs Q E hr h => ?_)
  · obtain ⟨a, c, xs, os, ws, x, d, rfl, _⟩ := h
    rfl
  · obtain ⟨a, c, xs, os, ws, x, d, rfl, hS, hx, lo, hW, lw, dp, hw, q⟩ := h
    have nd := sc_shows_rows.nd
    have lx : xs.length = os.length := by rw [dpAll_len hx, List.length_map]
    refine ⟨_, (pss_one (ps_ret (pe_and (pe_callB (kc_isi (K := K)) (by rfl) T.isinstance (by decide +kernel) (pa_cons (pv 2) (pa_cons (pe_bltn (v := .ty "list") (by rfl) T.list (by decide +kernel) rfl) pa_nil))) (pe_and (pe_cmpR op_eq (pe_callB (kc_len (K := K)) (by rfl) T.len PySem.boot_len (pa_cons (pv 2) pa_nil)) (pe_callB (kc_len (K := K)) (by rfl) T.len PySem.boot_len (pa_cons (pv 1) pa_nil)) (nomark _)) (pe_and (pe_callB (kc_all (K := K)) (by rfl) T.all (by decide +kernel) (pa_cons (pe_lc (own := [("hour", 3), ("row", 4)]) rfl nd (ki_enum (K := K) (by rfl) T.enumerate (pa_cons (pv 2) pa_nil)) (blkOk_by (N := n_shows_rows) (sc := defScope s_shows_rows) (by decide +kernel)) (fun _ _ _ _ _ => (kg_tup (K := K) (n := 2) (pgs_cons (pg_name (i := 3) nd rfl (.inl rfl)) (pgs_cons (pg_name (i := 4) nd rfl (.inl rfl)) pgs_nil)))) (fun _ _ _ _ _ => pts_nil) (fun _ _ _ _ _ => (pe_cl c_serves_hour hr (by omega) (by rfl) (pa_cons (pv 0) (pa_cons (pv 1) (pa_cons (pv 3) (pa_cons (pv 4) pa_nil))))))) pa_nil)) (pe_one (pe_callB (kc_all (K := K)) (by rfl) T.all (by decide +kernel) (pa_cons (pe_lc (own := [("number", 5), ("offer", 6)]) rfl nd (ki_enum (K := K) (by rfl) T.enumerate (pa_cons (pv 0) pa_nil)) (blkOk_by (N := n_shows_rows) (sc := defScope s_shows_rows) (by decide +kernel)) (fun _ _ _ _ _ => (kg_tup (K := K) (n := 2) (pgs_cons (pg_name (i := 5) nd rfl (.inl rfl)) (pgs_cons (pg_name (i := 6) nd rfl (.inl rfl)) pgs_nil)))) (fun _ _ _ _ _ => pts_nil) (fun _ _ _ _ _ => (pe_cmpR op_le (pe_cl c_often_in hr (by omega) (by rfl) (pa_cons (pv 2) (pa_cons (pv 5) pa_nil))) (pe_ix (kx_tup (K := K)) (pv 6) pe_int (fun _ _ => rfl)) (nomark _)))) pa_nil)))))))), ?_⟩
    refine ⟨_, rfl, _, .ty _, _, _, isListD _, rfl, .ty _, tyx_dp dp, kit_list dp, _, rfl, ?_⟩
    have out : ∀ H', Same H H' → rowsD os ws d = false → Q (.bl false) H' := fun H' s e => by rw [e] at q; exact q _ s
    cases dp with
    | @lst t zs rs hT hz =>
      have l4 : rs.length ≤ 4000 := Nat.le_trans (Nat.le_max_left ..) hw
      have lz := dpAll_len hz
      refine iteT ⟨_, rfl, _, _, rfl, .inl ⟨_, hT, rfl⟩, _, rfl, _, _, rfl, .inl ⟨_, hW, rfl⟩, rfl, _, rfl, ?_⟩
      have ed : decide (V.int ((zs.length : Nat) : Int) = V.int (((ws.map V.int).length : Nat) : Int)) = decide (((rs.length : Nat) : Int) = ((ws.length : Nat) : Int)) := by
        rw [List.length_map, lz]
        by_cases h : ((rs.length : Nat) : Int) = ((ws.length : Nat) : Int)
        · rw [decide_eq_true h, decide_eq_true (by rw [h])]
        · rw [decide_eq_false h, decide_eq_false fun z => h (V.int.inj z)]
      rw [ed]
      refine ite2 (fun h1 => ?_) (fun h1 => ?_)
      rotate_left
      · exact out _ (Same.refl _) (by show (decide _ && _) = false; rw [Bool.not_eq_true _ |>.mp h1]; rfl)
      have el : rs.length = ws.length := by have := of_decide_eq_true h1; omega
      refine ⟨_, rfl, t, _, rfl, hT, fun D nD => ?_⟩
      refine lc_it (walk_enum (xs := zs)) (PvL H D fun i => (((List.range rs.length).map fun i => serveD os (ws.getD i 0) ((i : Nat) : Int) (rs.getD i .none)).take i).map V.bl) (pv_start nD rfl) (fun i H2 _ h => h.1.seq hT) ?_ ?_
      · rintro i y H2 H3 hi p ⟨u, x1, x2, rfl, nu, rfl, g1, g2⟩
        cases g1
        replace g2 : zs[i]? = some x2 := g2
        obtain ⟨r, gr, pr⟩ := dpAll_at hz g2
        have hi2 : i < rs.length := by omega
        have su := same_upd (o := .tup [.int (i : Nat), x2]) nu
        have sm := p.1.trans su
        refine ⟨u, _, rfl, .inl (.inl upd_same), rfl, _, _, rfl, _, _, rfl, rfl, rfl, tYes_at ?_⟩
        rw [if_pos rfl]
        refine ⟨_, rfl, _, rfl, _, rfl, _, rfl, a, c, xs, os, ws, i, x2, r, rfl, sm.seq hS, dpAll_same sm hx, lo, sm.seq hW, by omega, dp_same sm pr, Nat.le_trans (wid_at gr) (Nat.le_trans (Nat.le_max_right ..) hw), fun H4 s4 => ?_⟩
        refine pv_put nD p (su.trans s4) (take_map V.bl (by rw [range_at hi2, getD_at gr])) (take_len_le (by rw [List.length_map, List.length_range]; omega))
      · intro H2 p
        obtain ⟨s2, hD⟩ := pv_end p (take_all (by rw [List.length_map, List.length_range]; omega))
        refine ⟨D, _, rfl, SqL.of hD, _, rfl, ?_⟩
        refine ite2 (fun h2 => ?_) (fun h2 => ?_)
        rotate_left
        · exact out _ s2 (by show (decide _ && (((List.range rs.length).map _).all id && _)) = false; rw [Bool.not_eq_true _ |>.mp h2, Bool.false_and, Bool.and_false])
        have ir : IntRows rs := fun r hr => by
          obtain ⟨i, hi, e⟩ := List.mem_iff_getElem.mp hr
          have := all_range.mp h2 i hi
          rw [getD_at (List.getElem?_eq_getElem hi)] at this
          obtain ⟨ns, en, _⟩ := serve_ris this
          exact ⟨ns, by rw [← e]; exact en⟩
        have e : rowsD os ws (.list rs) = ((List.range os.length).map fun j => decide (((oft rs ((j : Nat) : Int) : Nat) : Int) ≤ (os.getD j o0).2.2)).all id := by
          show (decide _ && (((List.range rs.length).map _).all id && _)) = _
          rw [h1, h2, Bool.true_and, Bool.true_and]
        rw [e] at q
        refine ⟨_, rfl, a, _, rfl, s2.seq hS, fun D2 nD2 => ?_⟩
        refine lc_it (walk_enum (xs := xs)) (PvL H2 D2 fun i => (((List.range os.length).map fun j => decide (((oft rs ((j : Nat) : Int) : Nat) : Int) ≤ (os.getD j o0).2.2)).take i).map V.bl) (pv_start nD2 rfl) (fun i H3 _ h => (s2.trans h.1).seq hS) ?_ ?_
        · rintro i y H3 H4 hi p ⟨u, x1, x2, rfl, nu, rfl, g1, g2⟩
          cases g1
          replace g2 : xs[i]? = some x2 := g2
          obtain ⟨dv, gd, pv⟩ := dpAll_at hx g2
          rw [List.getElem?_map] at gd
          obtain ⟨o, go, rfl⟩ := Option.map_eq_some_iff.mp gd
          have hi2 : i < os.length := by omega
          have su := same_upd (o := .tup [.int (i : Nat), x2]) nu
          have sm := s2.trans (p.1.trans su)
          obtain ⟨tv, rfl, hV⟩ := off_dp pv
          refine ⟨u, _, rfl, .inl (.inl upd_same), rfl, _, _, rfl, _, _, rfl, rfl, rfl, tYes_at ?_⟩
          rw [if_pos rfl]
          refine ⟨_, rfl, _, rfl, t, zs, rs, _, rfl, sm.seq hT, dpAll_same sm hz, ir, l4, fun H5 s5 => ?_⟩
          refine ⟨_, rfl, tv, _, 2, _, rfl, rfl, same_tup (sm.trans s5) hV, rfl, _, _, rfl, rfl, ?_⟩
          refine pv_put nD2 p (su.trans s5) (take_map V.bl (by rw [range_at hi2, getD_at go])) (take_len_le (by rw [List.length_map, List.length_range]; omega))
        · intro H3 p
          obtain ⟨s3, hD3⟩ := pv_end p (take_all (by rw [List.length_map, List.length_range]; omega))
          exact ⟨D2, _, rfl, SqL.of hD3, q _ (s2.trans s3)⟩
    | int i => exact iteF (out _ (Same.refl _) rfl)
    | bl b => exact iteF (out _ (Same.refl _) rfl)
    | non => exact iteF (out _ (Same.refl _) rfl)
    | str _ => exact iteF (out _ (Same.refl _) rfl)
    | tup _ _ => exact iteF (out _ (Same.refl _) rfl)

end
end Pot

namespace Pot
open PySem PySem.Spec PyProof.Rows L2
section
variable {P : Program} {w : World} {K : PySem.W.Frag} {mg : Str → Option Value} {base : Heap}
/-! ### _law_is_number: whether it's a number within bounds -/
abbrev s__law_is_number : Stmt := topS 14
def n__law_is_number : List Str := ["_law_thing", "_law_least", "_law_most"]
theorem sc__law_is_number : FnScope n__law_is_number ["_law_thing", "_law_least", "_law_most"] (defScope s__law_is_number) := ⟨rfl, rfl, rfl, by decide +kernel, rfl, by decide +kernel, by decide +kernel⟩
theorem ok_lnum {f : Addr} {fd : FuncData} {k : Nat} (F : Fun K "_law_is_number" "_law_is_number" s__law_is_number f fd) (T : Txt mg) : FnOk P w K mg base CX0 (k + 1) f fd ["_law_thing", "_law_least", "_law_most"] (spNum K) := by
  refine F.ok sc__law_is_number (fun vs H Q E h => ?_) (fun cdv A outer s H vs Q E hr h => ?_)
  · obtain ⟨x, d, lo, hi, rfl, _⟩ := h
    rfl
  · obtain ⟨x, d, lo, hi, rfl, dp, q⟩ := h
    have nd := sc__law_is_number.nd
    refine ⟨_, (pss_one (ps_ret (pe_and (pe_callB (kc_isi (K := K)) (by rfl) T.isinstance (by decide +kernel) (pa_cons (pv 0) (pa_cons (pe_bltn (v := .ty "int") (by rfl) T.int (by decide +kernel) rfl) pa_nil))) (pe_and (pe_not (pe_callB (kc_isi (K := K)) (by rfl) T.isinstance (by decide +kernel) (pa_cons (pv 0) (pa_cons (pe_bltn (v := .ty "bool") (by rfl) T.bool (by decide +kernel) rfl) pa_nil)))) (pe_one (pe_chain op_le op_le (pv 1) (pv 0) (pv 2))))))), ?_⟩
    refine ⟨_, rfl, _, .ty _, _, _, isIntD _, rfl, .ty _, tyx_dp dp, kit_int dp, _, rfl, ?_⟩
    have dp2 := dp
    cases dp with
    | int i =>
      refine iteT ⟨_, rfl, _, .ty _, _, _, isBoolD _, rfl, .ty _, tyx_dp dp2, kit_bool dp2, _, rfl, _, rfl, iteT ?_⟩
      refine ⟨_, rfl, _, rfl, _, _, rfl, rfl, _, rfl, ite2 (fun h1 => ⟨_, rfl, _, _, rfl, rfl, ?_⟩) (fun h1 => ?_)⟩
      · have e : numD lo hi (.int i) = decide (i ≤ hi) := by show (decide (lo ≤ i) && _) = _; rw [h1]; rfl
        rw [e] at q; exact q
      · have e : numD lo hi (.int i) = false := by show (decide (lo ≤ i) && _) = _; rw [Bool.not_eq_true _ |>.mp h1]; rfl
        rw [e] at q; exact q
    | bl b =>
      refine iteT ⟨_, rfl, _, .ty _, _, _, isBoolD _, rfl, .ty _, tyx_dp dp2, kit_bool dp2, _, rfl, _, rfl, iteF q⟩
    | non => exact iteF q
    | str _ => exact iteF q
    | lst _ _ => exact iteF q
    | tup _ _ => exact iteF q

abbrev s__law_are_rising : Stmt := topS 15
def n__law_are_rising : List Str := ["_law_thing", "_law_most", "_law_one"]
theorem sc__law_are_rising : FnScope n__law_are_rising ["_law_thing", "_law_most"] (defScope s__law_are_rising) := ⟨rfl, rfl, rfl, by decide +kernel, rfl, by decide +kernel, by decide +kernel⟩
def spLAre (K : PySem.W.Frag) : Sp := fun vs H Q _ => ∃ (x : V) (d : PyData) (hi : Int), vs = [x, .int hi] ∧ Dp K H x d ∧ widAll.wid d ≤ 4000 ∧ hi ≤ 60 ∧ ∀ H', Same H H' → Q (.bl (risD 0 hi d)) H'
theorem ok_lare {f : Addr} {fd : FuncData} {k : Nat} (F : Fun K "_law_are_rising" "_law_are_rising" s__law_are_rising f fd) (T : Txt mg) (c__law_is_number : Cl P w K mg base (k + 1) "_law_is_number" (spNum K)) : FnOk P w K mg base CX0 (k + 2) f fd ["_law_thing", "_law_most"] (spLAre K) := by
  refine F.ok sc__law_are_rising (fun vs H Q E h => ?_) (fun cdv A outer s H vs Q E hr h => ?_)
  · obtain ⟨x, d, hi, rfl, _⟩ := h
    rfl
  · obtain ⟨x, d, hi, rfl, dp, hw, h60, q⟩ := h
    have nd := sc__law_are_rising.nd
    have hu64 := hr.units
    refine ⟨_, (pss_cons (ps_if ((pw_or (pt_not (pt_val (pe_callB (kc_isi (K := K)) (by rfl) T.isinstance (by decide +kernel) (pa_cons (pv 0) (pa_cons (pe_bltn (v := .ty "list") (by rfl) T.list (by decide +kernel) rfl) pa_nil))))) (pw_or1 (pt_not (pt_val (pe_callB (kc_all (K := K)) (by rfl) T.all (by decide +kernel) (pa_cons (pe_lc (own := [("_law_one", 2)]) rfl nd (ki_list (K := K) (pv 0)) (blkOk_by (N := n__law_are_rising) (sc := defScope s__law_are_rising) (by decide +kernel)) (fun _ _ _ _ _ => (pg_name (i := 2) nd rfl (.inl rfl))) (fun _ _ _ _ _ => pts_nil) (fun _ _ _ _ _ => (pe_cl c__law_is_number hr (by omega) (by rfl) (pa_cons (pv 2) (pa_cons pe_int (pa_cons (pv 1) pa_nil)))))) pa_nil))))))).pt
          (pss_one (ps_ret pe_bl))
          pss_nil)
      (pss_one (ps_ret (pe_cmpR (ko_eq (K := K) hu64) (pv 0) (pe_callB (kc_sortedSet (w := w)) (by rfl) T.sorted (by decide +kernel) (pa_cons (pe_callTy (kc_setLj (K := K) (w := w)) (by rfl) T.set (by decide +kernel) (pa_cons (pv 0) pa_nil)) pa_nil)) (nomark _))))), ?_⟩
    refine ⟨_, rfl, _, .ty _, _, _, isListD _, rfl, .ty _, tyx_dp dp, kit_list dp, _, rfl, ?_⟩
    have dp0 := dp
    cases dp with
    | @lst a xs ds hS hx =>
      have l4 : ds.length ≤ 4000 := Nat.le_trans (Nat.le_max_left ..) hw
      refine iteF ⟨_, rfl, a, rfl, ⟨_, hS⟩, fun D nD => ?_⟩
      refine lc_it (walk_list (xs := xs)) (PvL H D fun i => ((ds.map (numD 0 hi)).take i).map V.bl) (pv_start nD rfl) (fun i H2 _ h => h.1.seq hS) ?_ ?_
      · rintro i x H2 H3 hi2 p ⟨rfl, gx⟩
        obtain ⟨d, gd, pd⟩ := dpAll_at hx gx
        refine ⟨rfl, tYes_at ?_⟩
        rw [if_pos rfl]
        refine ⟨_, rfl, _, rfl, x, d, 0, hi, rfl, dp_same p.1 pd, ?_⟩
        exact pv_put nD p (Same.refl _) (take_map V.bl (by rw [List.getElem?_map, gd]; rfl)) (take_len_le (by rw [List.length_map]; omega))
      · intro H2 p
        obtain ⟨sm, hD⟩ := pv_end p (take_all (by rw [List.length_map, dpAll_len hx]; exact Nat.le_refl _))
        refine ⟨D, _, rfl, SqL.of hD, ?_⟩
        rw [all_map]
        refine ⟨_, rfl, ?_⟩
        cases ha : ds.all (numD 0 hi) with
        | false =>
          refine iteT ?_
          have e : risD 0 hi (.list ds) = false := by show (ds.all (numD 0 hi) && _) = _; rw [ha]; rfl
          rw [e] at q; exact q _ sm
        | true =>
          refine iteF ?_
          obtain ⟨en, bn⟩ := nums_of ha
          rw [en] at hx
          have ex := dp_intsV hx
          rw [ex] at hS
          have e : risD 0 hi (.list ds) = risI (ds.map toI) := by show (ds.all (numD 0 hi) && _) = _; rw [ha]; rfl
          rw [e] at q
          have ln : (ds.map toI).length ≤ 4000 := by rw [List.length_map]; exact l4
          generalize ds.map toI = ns at q hS bn ln
          refine ⟨_, rfl, _, rfl, a, ns, rfl, sm.seq hS, ln, fun p1 ks np1 nod mem => ?_⟩
          refine ⟨p1, _, _, rfl, upd_same, nodup_60 nod (fun k hk => by have := bn k ((mem k).mp hk); omega), fun zs p2 hz hm hl np2 => ?_⟩
          have s2 := (sm.trans (same_upd (o := SetO w p1 (fun k => decide (k ∈ ns)) ks.length) np1)).trans (same_upd (o := .lst (zs.map V.int)) np2)
          have h2 : upd (upd H2 p1 (SetO w p1 (fun k => decide (k ∈ ns)) ks.length)) p2 (.lst (zs.map V.int)) p2 = _ := upd_same
          generalize upd (upd H2 p1 (SetO w p1 (fun k => decide (k ∈ ns)) ks.length)) p2 (.lst (zs.map V.int)) = H3 at s2 h2 ⊢
          refine ⟨.list (ns.map PyData.int), .list (zs.map PyData.int), .lst (s2.seq hS) (dp_ints ns), .lst (SqL.of h2) (dp_ints zs), PySem.W.ke_shaped_ints ns, PySem.W.ke_shaped_ints zs, ?_⟩
          rw [eqv_ints, eq_sorted hz (fun k => by rw [hm k, decide_eq_true_eq])]
          exact q _ s2
    | int i => exact iteT (q _ (Same.refl _))
    | bl b => exact iteT (q _ (Same.refl _))
    | non => exact iteT (q _ (Same.refl _))
    | str _ => exact iteT (q _ (Same.refl _))
    | tup _ _ => exact iteT (q _ (Same.refl _))

theorem rep0 : ∀ n : Nat, (List.replicate n [V.int 0]).flatten = List.replicate n (V.int 0)
  | 0 => rfl
  | n + 1 => by rw [List.replicate_succ, List.flatten_cons, rep0 n]; rfl
theorem range_set {N n : Nat} {g g' : Nat → V} (h : n < N) (hd : ∀ j, j ≠ n → g' j = g j) : ((List.range N).map g).set n (g' n) = (List.range N).map g' := by
  apply List.ext_getElem?
  intro j
  rw [List.getElem?_set, List.getElem?_map, List.getElem?_map]
  by_cases hj : n = j
  · subst hj
    rw [if_pos rfl, if_pos (by rw [List.length_map, List.length_range]; exact h), List.getElem?_range h]; rfl
  · rw [if_neg hj]
    by_cases hN : j < N
    · rw [List.getElem?_range hN]
      show some (g j) = some (g' j)
      rw [hd j (fun e => hj e.symm)]
    · rw [List.getElem?_eq_none (by rw [List.length_range]; omega)]; rfl
theorem ris_new {ns : List Int} {m : Nat} {n : Int} (h : risI ns = true) (g : ns[m]? = some n) : n ∉ ns.take m := fun hm => by
  obtain ⟨i, hi, e⟩ := List.mem_iff_getElem.mp hm
  have hm2 : m < ns.length := (List.getElem?_eq_some_iff.mp g).1
  rw [List.length_take] at hi
  rw [List.getElem_take] at e
  have := List.pairwise_iff_getElem.mp (risI_pair.mp h) i m (by omega) hm2 (by omega)
  rw [e, (List.getElem?_eq_some_iff.mp g).2] at this
  omega
theorem rows_false {os : List Off} {ws : List Int} {rs : List PyData} {i : Nat} {r : PyData} (g : rs[i]? = some r) (h : serveD os (ws.getD i 0) ((i : Nat) : Int) r = false) : rowsD os ws (.list rs) = false := by
  show (decide _ && (((List.range rs.length).map _).all id && _)) = false
  have e : ((List.range rs.length).map fun i => serveD os (ws.getD i 0) ((i : Nat) : Int) (rs.getD i .none)).all id = false := by
    cases hh : ((List.range rs.length).map fun i => serveD os (ws.getD i 0) ((i : Nat) : Int) (rs.getD i .none)).all id with
    | false => rfl
    | true =>
      have := all_range.mp hh i (List.getElem?_eq_some_iff.mp g).1
      rw [getD_at g, h] at this
      cases this
  rw [e, Bool.false_and, Bool.and_false]
abbrev s__law_are_rows : Stmt := topS 16
def n__law_are_rows : List Str := ["_law_offers_here", "_law_wants", "_law_thing", "_law_taken", "_law_hour", "_law_row", "_law_number", "_law_many", "_law_offer"]
theorem sc__law_are_rows : FnScope n__law_are_rows ["_law_offers_here", "_law_wants", "_law_thing"] (defScope s__law_are_rows) := ⟨rfl, rfl, rfl, by decide +kernel, rfl, by decide +kernel, by decide +kernel⟩
theorem ok_lrows {f : Addr} {fd : FuncData} {k : Nat} (F : Fun K "_law_are_rows" "_law_are_rows" s__law_are_rows f fd) (T : Txt mg) (c__law_are_rising : Cl P w K mg base (k + 2) "_law_are_rising" (spLAre K)) : FnOk P w K mg base CX0 (k + 4) f fd ["_law_offers_here", "_law_wants", "_law_thing"] (spShows K) := by
  refine F.ok sc__law_are_rows (fun vs H Q E h => ?_) (fun cdv A outer s H vs Q E hr h => ?_)
  · obtain ⟨a, c, xs, os, ws, x, d, rfl, _⟩ := h
    rfl
  · obtain ⟨a, c, xs, os, ws, x, d, rfl, hS, hx, lo, hW, lw, dp, hw, q⟩ := h
    have nd := sc__law_are_rows.nd
    have lx : xs.length = os.length := by rw [dpAll_len hx, List.length_map]
    refine ⟨_, (pss_cons (ps_if ((pw_or (pt_not (pt_val (pe_callB (kc_isi (K := K)) (by rfl) T.isinstance (by decide +kernel) (pa_cons (pv 2) (pa_cons (pe_bltn (v := .ty "list") (by rfl) T.list (by decide +kernel) rfl) pa_nil))))) (pw_or1 (pt_cmpR op_ne (pe_callB (kc_len (K := K)) (by rfl) T.len PySem.boot_len (pa_cons (pv 2) pa_nil)) (pe_callB (kc_len (K := K)) (by rfl) T.len PySem.boot_len (pa_cons (pv 1) pa_nil)) (nomark _))))).pt
          (pss_one (ps_ret pe_bl))
          pss_nil)
      (pss_cons (ps_set (i := 3) nd rfl (.inl rfl) (pe_op op_rep (pe_lst (pa_cons pe_int pa_nil)) (pe_callB (kc_len (K := K)) (by rfl) T.len PySem.boot_len (pa_cons (pv 0) pa_nil))))
      (pss_cons (ps_for PassesOwn.never rfl (ki_enum (K := K) (by rfl) T.enumerate (pa_cons (pv 2) pa_nil)) (kg_tup (K := K) (n := 2) (pgs_cons (pg_name (i := 4) nd rfl (.inl rfl)) (pgs_cons (pg_name (i := 5) nd rfl (.inl rfl)) pgs_nil)))
          (pss_cons (ps_if ((pw_or (pt_not (pt_val (pe_cl c__law_are_rising hr (by omega) (by rfl) (pa_cons (pv 5) (pa_cons (pe_op op_sub (pe_callB (kc_len (K := K)) (by rfl) T.len PySem.boot_len (pa_cons (pv 0) pa_nil)) pe_int) pa_nil))))) (pw_or1 (pt_cmpR op_ne (pe_callB (kc_len (K := K)) (by rfl) T.len PySem.boot_len (pa_cons (pv 5) pa_nil)) (pe_ix (kx_list (K := K)) (pv 1) (pv 4) (fun _ _ => rfl)) (nomark _))))).pt
              (pss_one (ps_ret pe_bl))
              pss_nil)
          (pss_one (ps_for PassesOwn.never rfl (ki_list (K := K) (pv 5)) (pg_name (i := 6) nd rfl (.inl rfl))
              (pss_cons (ps_asg (pe_op op_add (pe_ix (kx_list (K := K)) (pv 3) (pv 6) (fun _ _ => rfl)) pe_int) (pg_sub (pv 3) (pv 6) set_list))
              (pss_one (ps_if (pt_not (pt_chain op_le op_lt (pe_ix (kx_tup (K := K)) (pe_ix (kx_list (K := K)) (pv 0) (pv 6) (fun _ _ => rfl)) pe_int (fun _ _ => rfl)) (pv 4) (pe_ix (kx_tup (K := K)) (pe_ix (kx_list (K := K)) (pv 0) (pv 6) (fun _ _ => rfl)) pe_int (fun _ _ => rfl))))
                  (pss_one (ps_ret pe_bl))
                  pss_nil)))))))
      (pss_one (ps_ret (pe_callB (kc_all (K := K)) (by rfl) T.all (by decide +kernel) (pa_cons (pe_lc (own := [("_law_many", 7), ("_law_offer", 8)]) rfl nd (ki_zip (K := K) (by rfl) T.zip (pa_cons (pv 3) (pa_cons (pv 0) pa_nil))) (blkOk_by (N := n__law_are_rows) (sc := defScope s__law_are_rows) (by decide +kernel)) (fun _ _ _ _ _ => (kg_tup (K := K) (n := 2) (pgs_cons (pg_name (i := 7) nd rfl (.inl rfl)) (pgs_cons (pg_name (i := 8) nd rfl (.inl rfl)) pgs_nil)))) (fun _ _ _ _ _ => pts_nil) (fun _ _ _ _ _ => (pe_cmpR op_le (pv 7) (pe_ix (kx_tup (K := K)) (pv 8) pe_int (fun _ _ => rfl)) (nomark _)))) pa_nil))))))), ?_⟩
    refine ⟨_, rfl, _, .ty _, _, _, isListD _, rfl, .ty _, tyx_dp dp, kit_list dp, _, rfl, ?_⟩
    have out : ∀ H', Same H H' → rowsD os ws d = false → Q (.bl false) H' := fun H' s e => by rw [e] at q; exact q _ s
    cases dp with
    | @lst t zs rs hT hz =>
      have l4 : rs.length ≤ 4000 := Nat.le_trans (Nat.le_max_left ..) hw
      have lz := dpAll_len hz
      refine iteF ⟨_, rfl, _, _, rfl, .inl ⟨_, hT, rfl⟩, _, rfl, _, _, rfl, .inl ⟨_, hW, rfl⟩, rfl, _, rfl, ?_⟩
      by_cases el : rs.length = ws.length
      rotate_left
      · have ed : decide (V.int ((zs.length : Nat) : Int) = V.int (((ws.map V.int).length : Nat) : Int)) = false := decide_eq_false fun z => el (by have := V.int.inj z; rw [List.length_map, lz] at this; omega)
        rw [ed]
        refine iteT (out _ (Same.refl _) ?_)
        show (decide _ && _) = false
        rw [decide_eq_false (by omega)]; rfl
      have ed : decide (V.int ((zs.length : Nat) : Int) = V.int (((ws.map V.int).length : Nat) : Int)) = true := decide_eq_true (by rw [List.length_map, lz, el])
      rw [ed]
      refine iteF ?_
      -- taken
      refine ⟨(by show 1 ≤ sizeLine; decide), fun e0 ne0 => ⟨_, rfl, _, _, rfl, .inl ⟨_, (same_upd ne0).seq hS, rfl⟩, e0, _, _, rfl, rfl, upd_same, (by omega), (by omega), (by rw [sizeLine_eq]; show 1 * _ ≤ _; omega), fun tk ntk => ?_⟩⟩
      have ek : (List.replicate (((xs.length : Nat) : Int)).toNat [V.int 0]).flatten = (List.range os.length).map fun j => V.int ((oft (rs.take 0) ((j : Nat) : Int) : Nat) : Int) := by
        rw [rep0, Int.toNat_natCast, lx]
        apply List.ext_getElem?
        intro j
        rw [List.getElem?_map]
        by_cases hj : j < os.length
        · rw [List.getElem?_range hj, List.getElem?_replicate, if_pos hj]; rfl
        · rw [List.getElem?_eq_none (by rw [List.length_replicate]; omega), List.getElem?_eq_none (by rw [List.length_range]; omega)]; rfl
      have sm := (same_upd (o := .lst [.int 0]) ne0).trans (same_upd (o := .lst (List.replicate (((xs.length : Nat) : Int)).toNat [V.int 0]).flatten) ntk)
      have htk : upd (upd H e0 (.lst [.int 0])) tk (.lst (List.replicate (((xs.length : Nat) : Int)).toNat [V.int 0]).flatten) tk = some (.lst ((List.range os.length).map fun j => V.int ((oft (rs.take 0) ((j : Nat) : Int) : Nat) : Int))) := by rw [upd_same, ek]
      have nk : H tk = none := (same_upd ne0).free ntk
      generalize upd (upd H e0 (.lst [.int 0])) tk (.lst (List.replicate (((xs.length : Nat) : Int)).toNat [V.int 0]).flatten) = H1 at sm htk ⊢
      refine ⟨_, rfl, t, _, rfl, sm.seq hT, ?_⟩
      refine for_it (walk_enum (xs := zs)) (fun i σ H2 => ∃ v4 v5 v6, σ = [some (.ref a), some (.ref c), some (.ref t), some (.ref tk), v4, v5, v6, none, none] ∧ Same H H2 ∧ H2 tk = some (.lst ((List.range os.length).map fun j => V.int ((oft (rs.take i) ((j : Nat) : Int) : Nat) : Int))) ∧ ∀ j r, j < i → rs[j]? = some r → serveD os (ws.getD j 0) ((j : Nat) : Int) r = true)
        ⟨none, none, none, rfl, sm, htk, fun j r hj => absurd hj (Nat.not_lt_zero _)⟩ (fun i σ H2 _ h => by obtain ⟨_, _, _, _, s2, _⟩ := h; exact s2.seq hT) ?_ ?_
      · rintro i y σ H2 H3 hi ⟨v4, v5, v6, rfl, s2, htk, old⟩ ⟨u, x1, x2, rfl, nu, rfl, g1, g2⟩
        cases g1
        replace g2 : zs[i]? = some x2 := g2
        obtain ⟨r, gr, pr⟩ := dpAll_at hz g2
        have hi2 : i < rs.length := by omega
        have su := same_upd (o := .tup [.int (i : Nat), x2]) nu
        refine ⟨u, _, rfl, .inl (.inl upd_same), rfl, _, _, rfl, _, _, rfl, rfl, ?_⟩
        have htk := su _ _ htk
        have s3 := s2.trans su
        generalize upd H2 u (.tup [.int (i : Nat), x2]) = H3 at htk s3 ⊢
        have wr : widAll.wid r ≤ 4000 := Nat.le_trans (wid_at gr) (Nat.le_trans (Nat.le_max_right ..) hw)
        refine ⟨_, rfl, _, rfl, _, _, rfl, .inl ⟨_, s3.seq hS, rfl⟩, _, _, rfl, rfl, x2, r, _, rfl, dp_same s3 pr, wr, (by omega), fun H4 s4 => ⟨_, rfl, ?_⟩⟩
        rw [lx]
        have htk := s4 _ _ htk
        have s4 := s3.trans s4
        cases hr1 : risD 0 (((os.length : Nat) : Int) - 1) r with
        | false =>
          refine iteT (iteT (out _ s4 (rows_false gr ?_)))
          unfold serveD; rw [hr1]; rfl
        | true =>
        refine iteF ?_
        obtain ⟨ds, rfl, hall⟩ := ris_list hr1
        obtain ⟨en, bn⟩ := nums_of hall
        obtain ⟨eL, zs2, rfl, hE, hz2⟩ := dp_lst' pr
        have hri : risI (ds.map toI) = true := (Bool.and_eq_true_iff.mp hr1).2
        rw [en] at hz2
        rw [dp_intsV hz2] at hE
        have eser : serveD os (ws.getD i 0) ((i : Nat) : Int) (.list ds) = (decide ((((ds.map toI).length : Nat) : Int) = ws.getD i 0) && (ds.map toI).all fun n => inO (os.getD n.toNat o0) ((i : Nat) : Int)) := by
          show (risD 0 (((os.length : Nat) : Int) - 1) (.list ds) && _) = _
          rw [hr1, Bool.true_and]; rfl
        have eints : intsD (.list ds) = ds.map toI := rfl
        have gr := gr
        generalize hns : ds.map toI = ns at hE bn hri eser eints
        have gw : (ws.map V.int)[i]? = some (.int (ws.getD i 0)) := by rw [List.getElem?_map, List.getD_eq_getElem?_getD, List.getElem?_eq_getElem (by omega)]; rfl
        refine ⟨_, rfl, _, _, rfl, .inl ⟨_, s4.seq hE, rfl⟩, _, rfl, _, rfl, c, _, _, _, rfl, rfl, s4.seq hW, atI_nat gw, rfl, _, rfl, ?_⟩
        by_cases hl : ((ns.length : Nat) : Int) = ws.getD i 0
        rotate_left
        · rw [decide_eq_false (fun z => hl (by have := V.int.inj z; rw [List.length_map] at this; exact this))]
          refine iteT (out _ s4 (rows_false gr ?_))
          rw [eser, decide_eq_false hl]; rfl
        rw [decide_eq_true (by rw [List.length_map, hl])]
        refine iteF ?_
        refine ⟨_, rfl, eL, rfl, ⟨_, s4.seq hE⟩, ?_⟩
        refine for_it (walk_list (xs := ns.map V.int)) (fun m σ H5 => ∃ v6, σ = [some (.ref a), some (.ref c), some (.ref t), some (.ref tk), some (.int (i : Nat)), some (.ref eL), v6, none, none] ∧ Same H H5 ∧ H5 tk = some (.lst ((List.range os.length).map fun j => V.int (((oft (rs.take i) ((j : Nat) : Int) : Nat) : Int) + if ((j : Nat) : Int) ∈ ns.take m then 1 else 0))) ∧ ∀ n ∈ ns.take m, inO (os.getD n.toNat o0) ((i : Nat) : Int) = true)
          ⟨_, rfl, s4, (by rw [htk]; simp), fun n hn => by simp at hn⟩ (fun m σ H5 _ h => by obtain ⟨_, _, s5, _⟩ := h; exact s5.seq hE) ?_ ?_
        · rintro m y σ H5 H6 hm ⟨v6, rfl, s5, htk, ins⟩ ⟨rfl, gy⟩
          rw [List.getElem?_map] at gy
          obtain ⟨n, gn, rfl⟩ := Option.map_eq_some_iff.mp gy
          obtain ⟨n0, n1⟩ := bn n (List.mem_of_getElem? gn)
          have nn := ris_new hri gn
          obtain ⟨b, rfl⟩ : ∃ b : Nat, n = (b : Int) := ⟨n.toNat, by omega⟩
          have hb : b < os.length := by omega
          obtain ⟨v, gv⟩ : ∃ v, xs[b]? = some v := ⟨xs[b]'(by omega), List.getElem?_eq_getElem (by omega)⟩
          obtain ⟨dv, gd, pv⟩ := dpAll_at hx gv
          rw [List.getElem?_map] at gd
          obtain ⟨o, go, rfl⟩ := Option.map_eq_some_iff.mp gd
          obtain ⟨tv, rfl, hV⟩ := off_dp pv
          have eo : os.getD (b : Int).toNat o0 = o := by rw [Int.toNat_natCast]; exact getD_at go
          refine ⟨_, rfl, _, rfl, tk, _, _, _, rfl, rfl, SqL.of htk, atI_nat (range_at hb), _, _, rfl, rfl, ?_⟩
          refine ⟨_, rfl, _, rfl, tk, _, _, b, rfl, rfl, htk, Evl.ixN_nat (by rw [List.length_map, List.length_range]; exact hb), ?_⟩
          have memS : ∀ z : Int, z ∈ ns.take (m + 1) ↔ z ∈ ns.take m ∨ z = (b : Int) := fun z => by
            rw [List.take_add_one, gn]; simp
          have es := range_set (g := fun j => V.int (((oft (rs.take i) ((j : Nat) : Int) : Nat) : Int) + if ((j : Nat) : Int) ∈ ns.take m then 1 else 0)) (g' := fun j => V.int (((oft (rs.take i) ((j : Nat) : Int) : Nat) : Int) + if ((j : Nat) : Int) ∈ ns.take (m + 1) then 1 else 0)) hb (fun j hj => by
            have : (((j : Nat) : Int) ∈ ns.take (m + 1)) ↔ ((j : Nat) : Int) ∈ ns.take m := by
              rw [memS]; exact ⟨fun h => h.resolve_right (by omega), .inl⟩
            simp only [this])
          have ev : V.int (((oft (rs.take i) ((b : Nat) : Int) : Nat) : Int) + if ((b : Nat) : Int) ∈ ns.take (m + 1) then 1 else 0) = V.int (((oft (rs.take i) ((b : Nat) : Int) : Nat) : Int) + (if ((b : Nat) : Int) ∈ ns.take m then 1 else 0) + 1) := by
            rw [if_pos ((memS _).mpr (.inr rfl)), if_neg nn]; simp
          rw [ev] at es
          have htk2 : upd H6 tk (.lst (((List.range os.length).map fun j => V.int (((oft (rs.take i) ((j : Nat) : Int) : Nat) : Int) + if ((j : Nat) : Int) ∈ ns.take m then 1 else 0)).set b (V.int (((oft (rs.take i) ((b : Nat) : Int) : Nat) : Int) + (if ((b : Nat) : Int) ∈ ns.take m then 1 else 0) + 1)))) tk = some (.lst ((List.range os.length).map fun j => V.int (((oft (rs.take i) ((j : Nat) : Int) : Nat) : Int) + if ((j : Nat) : Int) ∈ ns.take (m + 1) then 1 else 0))) := by rw [upd_same, es]
          have s6 : Same H (upd H6 tk (.lst (((List.range os.length).map fun j => V.int (((oft (rs.take i) ((j : Nat) : Int) : Nat) : Int) + if ((j : Nat) : Int) ∈ ns.take m then 1 else 0)).set b (V.int (((oft (rs.take i) ((b : Nat) : Int) : Nat) : Int) + (if ((b : Nat) : Int) ∈ ns.take m then 1 else 0) + 1))))) := same_put s5 nk
          generalize hH7 : upd H6 tk (.lst (((List.range os.length).map fun j => V.int (((oft (rs.take i) ((j : Nat) : Int) : Nat) : Int) + if ((j : Nat) : Int) ∈ ns.take m then 1 else 0)).set b ((fun (i j : Int) => V.int (i + j)) (((oft (rs.take i) ((b : Nat) : Int) : Nat) : Int) + (if ((b : Nat) : Int) ∈ ns.take m then 1 else 0)) 1))) = H7
          have htk2 : H7 tk = some (.lst ((List.range os.length).map fun j => V.int (((oft (rs.take i) ((j : Nat) : Int) : Nat) : Int) + if ((j : Nat) : Int) ∈ ns.take (m + 1) then 1 else 0))) := by rw [← hH7]; exact htk2
          have s6 : Same H H7 := by rw [← hH7]; exact s6
          have no : inO o ((i : Nat) : Int) = false → Q (.bl false) H7 := fun z => out _ s6 (rows_false gr (by
            rw [eser]
            have : (ns.all fun n => inO (os.getD n.toNat o0) ((i : Nat) : Int)) = false := by
              rw [List.all_eq_false]
              exact ⟨_, List.mem_of_getElem? gn, by rw [eo, z]; decide⟩
            rw [this, Bool.and_false]))
          refine ⟨_, rfl, _, rfl, a, _, _, _, rfl, rfl, s6.seq hS, atI_nat gv, tv, _, 0, _, rfl, rfl, same_tup s6 hV, rfl, _, rfl, _, _, rfl, rfl, _, rfl, ite2 (fun h1 => ?_) (fun h1 => ?_)⟩
          rotate_left
          · exact ⟨_, rfl, iteT (no (by unfold inO; rw [Bool.not_eq_true _ |>.mp h1, Bool.false_and]))⟩
          refine ⟨_, rfl, _, rfl, a, _, _, _, rfl, rfl, s6.seq hS, atI_nat gv, tv, _, 1, _, rfl, rfl, same_tup s6 hV, rfl, _, _, rfl, rfl, _, rfl, ?_⟩
          cases h2 : decide (((i : Nat) : Int) < o.2.1) with
          | false => exact iteT (no (by unfold inO; rw [h2, Bool.and_false]))
          | true =>
          refine iteF ⟨_, rfl, s6, htk2, fun z hz => ?_⟩
          rcases (memS z).mp hz with h | h
          · exact ins z h
          · rw [h, eo]; unfold inO; rw [h1, h2]; rfl
        · rintro σ H5 ⟨v6, rfl, s5, htk, ins⟩
          rw [List.length_map, List.take_length] at htk ins
          refine ⟨_, _, _, rfl, s5, ?_, fun j r hj gj => ?_⟩
          · rw [htk]
            congr 2
            apply List.map_congr_left
            intro j _
            rw [oft_take gr, eints]
            split <;> simp
          · by_cases hji : j = i
            · subst hji
              rw [gr] at gj
              cases gj
              rw [eser, decide_eq_true hl, Bool.true_and]
              exact List.all_eq_true.mpr ins
            · exact old j r (by omega) gj
      · rintro σ H2 ⟨v4, v5, v6, rfl, s2, htk, old⟩
        rw [lz, List.take_length] at htk
        have h2 : ((List.range rs.length).map fun i => serveD os (ws.getD i 0) ((i : Nat) : Int) (rs.getD i .none)).all id = true := all_range.mpr fun i hi => by
          rw [getD_at (List.getElem?_eq_getElem hi)]
          exact old i _ (by omega) (List.getElem?_eq_getElem hi)
        have e : rowsD os ws (.list rs) = ((List.range os.length).map fun j => decide (((oft rs ((j : Nat) : Int) : Nat) : Int) ≤ (os.getD j o0).2.2)).all id := by
          show (decide _ && (((List.range rs.length).map _).all id && _)) = _
          rw [h2, decide_eq_true (by omega), Bool.true_and, Bool.true_and]
        rw [e] at q
        refine ⟨_, rfl, _, rfl, tk, a, _, _, rfl, .inl ⟨SqL.of htk, s2.seq hS, fun D nD => ?_⟩⟩
        refine lc_it (walk_zip (xs := (List.range os.length).map fun j => V.int ((oft rs ((j : Nat) : Int) : Nat) : Int)) (ys := xs) (n := os.length) (by rw [List.length_map, List.length_range, lx, Nat.min_self])) (PvL H2 D fun i => (((List.range os.length).map fun j => decide (((oft rs ((j : Nat) : Int) : Nat) : Int) ≤ (os.getD j o0).2.2)).take i).map V.bl) (pv_start nD rfl) (fun i H3 _ h => ⟨SqL.of (h.1 _ _ htk), (s2.trans h.1).seq hS⟩) ?_ ?_
        · rintro i v H3 H4 hi p ⟨u, x1, y1, rfl, hu, rfl, gx, gy⟩
          replace gx : ((List.range os.length).map fun j => V.int ((oft rs ((j : Nat) : Int) : Nat) : Int))[i]? = some x1 := gx
          replace gy : xs[i]? = some y1 := gy
          rw [range_at hi] at gx
          cases gx
          obtain ⟨dv, gd, pv⟩ := dpAll_at hx gy
          rw [List.getElem?_map] at gd
          obtain ⟨o, go, rfl⟩ := Option.map_eq_some_iff.mp gd
          obtain ⟨tv, rfl, hV⟩ := off_dp pv
          have su := same_upd (o := .tup [V.int ((oft rs ((i : Nat) : Int) : Nat) : Int), .ref tv]) hu
          refine ⟨u, _, rfl, .inl (.inl upd_same), rfl, _, _, rfl, _, _, rfl, rfl, rfl, tYes_at ?_⟩
          rw [if_pos rfl]
          refine ⟨_, rfl, _, rfl, tv, _, 2, _, rfl, rfl, same_tup (s2.trans (p.1.trans su)) hV, rfl, _, _, rfl, rfl, ?_⟩
          exact pv_put nD p su (take_map V.bl (by rw [range_at hi, getD_at go])) (take_len_le (by rw [List.length_map, List.length_range]; omega))
        · intro H3 p
          obtain ⟨s3, hD3⟩ := pv_end p (take_all (by rw [List.length_map, List.length_range]; exact Nat.le_refl _))
          exact ⟨D, _, rfl, SqL.of hD3, q _ (s2.trans s3)⟩
    | int i => exact iteT (out _ (Same.refl _) rfl)
    | bl b => exact iteT (out _ (Same.refl _) rfl)
    | non => exact iteT (out _ (Same.refl _) rfl)
    | str _ => exact iteT (out _ (Same.refl _) rfl)
    | tup _ _ => exact iteT (out _ (Same.refl _) rfl)

end
end Pot

namespace Pot
open PySem PySem.Spec PyProof.Rows L2
section
variable {P : Program} {w : World} {K : PySem.W.Frag} {mg : Str → Option Value} {base : Heap}
abbrev s__law_odd : Stmt := topS 17
def n__law_odd : List Str := ["_law_box_here", "_law_some"]
theorem sc__law_odd : FnScope n__law_odd ["_law_box_here"] (defScope s__law_odd) := ⟨rfl, rfl, rfl, by decide +kernel, rfl, by decide +kernel, by decide +kernel⟩
def spOdd (K : PySem.W.Frag) : Sp := fun vs H Q _ => ∃ (b : Addr) (S : List Addr), vs = [.ref b] ∧ b ∈ S ∧ Live S H ∧ Bx H b ∧ ∀ H' r d, Bx H' b → Sm [b] H H' → Dp K (off H' S) r d → Th 60 20000 2 2 d → Q r H'
theorem ok_odd {f : Addr} {fd : FuncData} {k : Nat} (F : Fun K "_law_odd" "_law_odd" s__law_odd f fd) (T : Txt mg) (c__law_take : Cl P w K mg base (k + 1) "_law_take" spTake) : FnOk P w K mg base CX0 (k + 2) f fd ["_law_box_here"] (spOdd K) := by
  refine F.ok sc__law_odd (fun vs H Q E h => ?_) (fun cdv A outer s H vs Q E hr h => ?_)
  · obtain ⟨b, S, rfl, _⟩ := h
    rfl
  · obtain ⟨b, S, rfl, hb, lv, B, q⟩ := h
    have nd := sc__law_odd.nd
    refine ⟨_, (pss_cons (ps_set (i := 1) nd rfl (.inl rfl) (pe_lst (pa_cons pe_non (pa_cons pe_bl (pa_cons pe_bl (pa_cons pe_int (pa_cons (pe_un un_neg pe_int) (pa_cons pe_int (pa_cons pe_int (pa_cons pe_str (pa_cons pe_str (pa_cons pe_str (pa_cons (pe_tup pa_nil) (pa_cons (pe_lst pa_nil) (pa_cons (pe_tup (pa_cons pe_int pa_nil)) (pa_cons (pe_lst (pa_cons pe_int pa_nil)) (pa_cons (pe_lst (pa_cons (pe_lst pa_nil) pa_nil)) (pa_cons (pe_tup (pa_cons pe_non pa_nil)) pa_nil))))))))))))))))))
      (pss_one (ps_ret (pe_ix (kx_list (K := K)) (pv 1) (pe_cl c__law_take hr (by omega) (by rfl) (pa_cons (pv 0) (pa_cons pe_int pa_nil))) (fun _ _ => rfl))))), ?_⟩
    have sc : Sm [b] H H := Same.refl _
    refine ⟨1, rfl, Nat.zero_le _, fun p1 n1 => ?_⟩
    have f1 := off_new (o := .tup []) lv n1
    have lv := lv.put (o := .tup []) n1
    have B := B.put (o := .tup []) n1
    have sc := sc.trans (sm_put (S := [b]) (o := .tup []) n1)
    generalize upd H p1 (.tup []) = H1 at f1 lv B sc  ⊢
    refine ⟨Nat.zero_le _, fun p2 n2 => ?_⟩
    have f2 := off_new (o := .lst []) lv n2
    have lv := lv.put (o := .lst []) n2
    have B := B.put (o := .lst []) n2
    have sc := sc.trans (sm_put (S := [b]) (o := .lst []) n2)
    have f1 := (sm_put (S := S) (o := .lst []) n2) _ _ f1
    generalize upd H1 p2 (.lst []) = H2 at f2 lv B sc f1 ⊢
    refine ⟨(by show 1 ≤ sizeLine; decide), fun p3 n3 => ?_⟩
    have f3 := off_new (o := .tup [.int 0]) lv n3
    have lv := lv.put (o := .tup [.int 0]) n3
    have B := B.put (o := .tup [.int 0]) n3
    have sc := sc.trans (sm_put (S := [b]) (o := .tup [.int 0]) n3)
    have f1 := (sm_put (S := S) (o := .tup [.int 0]) n3) _ _ f1
    have f2 := (sm_put (S := S) (o := .tup [.int 0]) n3) _ _ f2
    generalize upd H2 p3 (.tup [.int 0]) = H3 at f3 lv B sc f1 f2 ⊢
    refine ⟨(by show 1 ≤ sizeLine; decide), fun p4 n4 => ?_⟩
    have f4 := off_new (o := .lst [.int 0]) lv n4
    have lv := lv.put (o := .lst [.int 0]) n4
    have B := B.put (o := .lst [.int 0]) n4
    have sc := sc.trans (sm_put (S := [b]) (o := .lst [.int 0]) n4)
    have f1 := (sm_put (S := S) (o := .lst [.int 0]) n4) _ _ f1
    have f2 := (sm_put (S := S) (o := .lst [.int 0]) n4) _ _ f2
    have f3 := (sm_put (S := S) (o := .lst [.int 0]) n4) _ _ f3
    generalize upd H3 p4 (.lst [.int 0]) = H4 at f4 lv B sc f1 f2 f3 ⊢
    refine ⟨Nat.zero_le _, fun p5 n5 => ?_⟩
    have f5 := off_new (o := .lst []) lv n5
    have lv := lv.put (o := .lst []) n5
    have B := B.put (o := .lst []) n5
    have sc := sc.trans (sm_put (S := [b]) (o := .lst []) n5)
    have f1 := (sm_put (S := S) (o := .lst []) n5) _ _ f1
    have f2 := (sm_put (S := S) (o := .lst []) n5) _ _ f2
    have f3 := (sm_put (S := S) (o := .lst []) n5) _ _ f3
    have f4 := (sm_put (S := S) (o := .lst []) n5) _ _ f4
    generalize upd H4 p5 (.lst []) = H5 at f5 lv B sc f1 f2 f3 f4 ⊢
    refine ⟨(by show 1 ≤ sizeLine; decide), fun p6 n6 => ?_⟩
    have f6 := off_new (o := .lst [.ref p5]) lv n6
    have lv := lv.put (o := .lst [.ref p5]) n6
    have B := B.put (o := .lst [.ref p5]) n6
    have sc := sc.trans (sm_put (S := [b]) (o := .lst [.ref p5]) n6)
    have f1 := (sm_put (S := S) (o := .lst [.ref p5]) n6) _ _ f1
    have f2 := (sm_put (S := S) (o := .lst [.ref p5]) n6) _ _ f2
    have f3 := (sm_put (S := S) (o := .lst [.ref p5]) n6) _ _ f3
    have f4 := (sm_put (S := S) (o := .lst [.ref p5]) n6) _ _ f4
    have f5 := (sm_put (S := S) (o := .lst [.ref p5]) n6) _ _ f5
    generalize upd H5 p6 (.lst [.ref p5]) = H6 at f6 lv B sc f1 f2 f3 f4 f5 ⊢
    refine ⟨(by show 1 ≤ sizeLine; decide), fun p7 n7 => ?_⟩
    have f7 := off_new (o := .tup [.non]) lv n7
    have lv := lv.put (o := .tup [.non]) n7
    have B := B.put (o := .tup [.non]) n7
    have sc := sc.trans (sm_put (S := [b]) (o := .tup [.non]) n7)
    have f1 := (sm_put (S := S) (o := .tup [.non]) n7) _ _ f1
    have f2 := (sm_put (S := S) (o := .tup [.non]) n7) _ _ f2
    have f3 := (sm_put (S := S) (o := .tup [.non]) n7) _ _ f3
    have f4 := (sm_put (S := S) (o := .tup [.non]) n7) _ _ f4
    have f5 := (sm_put (S := S) (o := .tup [.non]) n7) _ _ f5
    have f6 := (sm_put (S := S) (o := .tup [.non]) n7) _ _ f6
    generalize upd H6 p7 (.tup [.non]) = H7 at f7 lv B sc f1 f2 f3 f4 f5 f6 ⊢
    refine ⟨(by show 16 ≤ sizeLine; decide), fun p8 n8 => ?_⟩
    have f8 := off_new (o := .lst [.non, .bl true, .bl false, .int 0, .int (-1), .int 1, .int 60, .str "", .str "0", .str "a", .ref p1, .ref p2, .ref p3, .ref p4, .ref p6, .ref p7]) lv n8
    have lv := lv.put (o := .lst [.non, .bl true, .bl false, .int 0, .int (-1), .int 1, .int 60, .str "", .str "0", .str "a", .ref p1, .ref p2, .ref p3, .ref p4, .ref p6, .ref p7]) n8
    have B := B.put (o := .lst [.non, .bl true, .bl false, .int 0, .int (-1), .int 1, .int 60, .str "", .str "0", .str "a", .ref p1, .ref p2, .ref p3, .ref p4, .ref p6, .ref p7]) n8
    have sc := sc.trans (sm_put (S := [b]) (o := .lst [.non, .bl true, .bl false, .int 0, .int (-1), .int 1, .int 60, .str "", .str "0", .str "a", .ref p1, .ref p2, .ref p3, .ref p4, .ref p6, .ref p7]) n8)
    have f1 := (sm_put (S := S) (o := .lst [.non, .bl true, .bl false, .int 0, .int (-1), .int 1, .int 60, .str "", .str "0", .str "a", .ref p1, .ref p2, .ref p3, .ref p4, .ref p6, .ref p7]) n8) _ _ f1
    have f2 := (sm_put (S := S) (o := .lst [.non, .bl true, .bl false, .int 0, .int (-1), .int 1, .int 60, .str "", .str "0", .str "a", .ref p1, .ref p2, .ref p3, .ref p4, .ref p6, .ref p7]) n8) _ _ f2
    have f3 := (sm_put (S := S) (o := .lst [.non, .bl true, .bl false, .int 0, .int (-1), .int 1, .int 60, .str "", .str "0", .str "a", .ref p1, .ref p2, .ref p3, .ref p4, .ref p6, .ref p7]) n8) _ _ f3
    have f4 := (sm_put (S := S) (o := .lst [.non, .bl true, .bl false, .int 0, .int (-1), .int 1, .int 60, .str "", .str "0", .str "a", .ref p1, .ref p2, .ref p3, .ref p4, .ref p6, .ref p7]) n8) _ _ f4
    have f5 := (sm_put (S := S) (o := .lst [.non, .bl true, .bl false, .int 0, .int (-1), .int 1, .int 60, .str "", .str "0", .str "a", .ref p1, .ref p2, .ref p3, .ref p4, .ref p6, .ref p7]) n8) _ _ f5
    have f6 := (sm_put (S := S) (o := .lst [.non, .bl true, .bl false, .int 0, .int (-1), .int 1, .int 60, .str "", .str "0", .str "a", .ref p1, .ref p2, .ref p3, .ref p4, .ref p6, .ref p7]) n8) _ _ f6
    have f7 := (sm_put (S := S) (o := .lst [.non, .bl true, .bl false, .int 0, .int (-1), .int 1, .int 60, .str "", .str "0", .str "a", .ref p1, .ref p2, .ref p3, .ref p4, .ref p6, .ref p7]) n8) _ _ f7
    generalize upd H7 p8 (.lst [.non, .bl true, .bl false, .int 0, .int (-1), .int 1, .int 60, .str "", .str "0", .str "a", .ref p1, .ref p2, .ref p3, .ref p4, .ref p6, .ref p7]) = H8 at f8 lv B sc f1 f2 f3 f4 f5 f6 f7 ⊢
    refine ⟨_, rfl, _, rfl, b, 16, rfl, (by decide), (by decide), B, fun H9 r r0 r1 B9 s9 => ?_⟩
    have lv := lv.box B9 s9
    have sc := sc.trans s9
    have B := B9
    have f1 := (sm_one hb s9) _ _ f1
    have f2 := (sm_one hb s9) _ _ f2
    have f3 := (sm_one hb s9) _ _ f3
    have f4 := (sm_one hb s9) _ _ f4
    have f5 := (sm_one hb s9) _ _ f5
    have f6 := (sm_one hb s9) _ _ f6
    have f7 := (sm_one hb s9) _ _ f7
    have f8 := (sm_one hb s9) _ _ f8
    obtain ⟨v, d, ev, dv, td⟩ : ∃ v d, atI [V.non, .bl true, .bl false, .int 0, .int (-1), .int 1, .int 60, .str "", .str "0", .str "a", .ref p1, .ref p2, .ref p3, .ref p4, .ref p6, .ref p7] r = some v ∧ Dp K (off H9 S) v d ∧ Th 60 20000 2 2 d := by
      have h : r = 0 ∨ r = 1 ∨ r = 2 ∨ r = 3 ∨ r = 4 ∨ r = 5 ∨ r = 6 ∨ r = 7 ∨ r = 8 ∨ r = 9 ∨ r = 10 ∨ r = 11 ∨ r = 12 ∨ r = 13 ∨ r = 14 ∨ r = 15 := by omega
      have i0 : ∀ i : Int, i.natAbs ≤ 60 → Th 60 1921 0 0 (.int i) := fun i h => ⟨h, Nat.le_refl _, Nat.le_refl _, Nat.le_refl _⟩
      have e0 : Th 60 3 1 0 (.list []) := ⟨trivial, by decide, by decide, by decide⟩
      rcases h with rfl | rfl | rfl | rfl | rfl | rfl | rfl | rfl | rfl | rfl | rfl | rfl | rfl | rfl | rfl | rfl
      · exact ⟨_, .none, rfl, .non, trivial, by decide, by decide, by decide⟩
      · exact ⟨_, .bool true, rfl, .bl _, trivial, by decide, by decide, by decide⟩
      · exact ⟨_, .bool false, rfl, .bl _, trivial, by decide, by decide, by decide⟩
      · exact ⟨_, .int 0, rfl, .int _, (i0 0 (by decide)).mono (by decide) (by decide) (by decide) (by decide)⟩
      · exact ⟨_, .int (-1), rfl, .int _, (i0 (-1) (by decide)).mono (by decide) (by decide) (by decide) (by decide)⟩
      · exact ⟨_, .int 1, rfl, .int _, (i0 1 (by decide)).mono (by decide) (by decide) (by decide) (by decide)⟩
      · exact ⟨_, .int 60, rfl, .int _, (i0 60 (by decide)).mono (by decide) (by decide) (by decide) (by decide)⟩
      · exact ⟨_, .str "", rfl, .str _, ⟨by decide +kernel, by decide +kernel⟩, by decide +kernel, by decide, by decide⟩
      · exact ⟨_, .str "0", rfl, .str _, ⟨by decide +kernel, by decide +kernel⟩, by decide +kernel, by decide, by decide⟩
      · exact ⟨_, .str "a", rfl, .str _, ⟨by decide +kernel, by decide +kernel⟩, by decide +kernel, by decide, by decide⟩
      · exact ⟨_, .tuple [], rfl, .tup (.inl (.inl f1)) .nil, trivial, by decide, by decide, by decide⟩
      · exact ⟨_, .list [], rfl, .lst (SqL.of f2) .nil, trivial, by decide, by decide, by decide⟩
      · exact ⟨_, .tuple [.int 0], rfl, .tup (.inl (.inl f3)) (.cons (.int _) .nil), ((Ths.one (i0 0 (by decide))).mono (Nat.le_refl _) (Nat.le_refl _) (Nat.le_refl _) (Nat.zero_le 1)).tuple (Nat.le_refl _) |>.mono (by decide) (by decide) (by decide) (by decide)⟩
      · exact ⟨_, .list [.int 0], rfl, .lst (SqL.of f4) (.cons (.int _) .nil), ((Ths.one (i0 0 (by decide))).mono (Nat.le_refl _) (Nat.le_refl _) (Nat.le_refl _) (Nat.zero_le 1)).list (Nat.le_refl _) |>.mono (by decide) (by decide) (by decide) (by decide)⟩
      · exact ⟨_, .list [.list []], rfl, .lst (SqL.of f6) (.cons (.lst (SqL.of f5) .nil) .nil), ((Ths.one e0).mono (Nat.le_refl _) (Nat.le_refl _) (Nat.le_refl _) (Nat.zero_le 1)).list (Nat.le_refl _) |>.mono (by decide) (by decide) (by decide) (by decide)⟩
      · exact ⟨_, .tuple [.none], rfl, .tup (.inl (.inl f7)) (.cons .non .nil), ((Ths.one (x := .none) (m := 60) (C := 4) (D := 0) (W := 0) ⟨trivial, by decide, by decide, by decide⟩).mono (Nat.le_refl _) (Nat.le_refl _) (Nat.le_refl _) (Nat.zero_le 1)).tuple (Nat.le_refl _) |>.mono (by decide) (by decide) (by decide) (by decide)⟩
    exact ⟨p8, _, r, v, rfl, rfl, SqL.of (at_off f8), ev, q _ _ _ B sc dv td⟩
abbrev s__law_bent_row : Stmt := topS 19
def n__law_bent_row : List Str := ["_law_box_here", "_law_thing", "_law_way", "_law_at", "_law_some"]
theorem sc__law_bent_row : FnScope n__law_bent_row ["_law_box_here", "_law_thing"] (defScope s__law_bent_row) := ⟨rfl, rfl, rfl, by decide +kernel, rfl, by decide +kernel, by decide +kernel⟩
def spBrow (K : PySem.W.Frag) : Sp := fun vs H Q _ => ∃ (b : Addr) (S : List Addr) (x : V) (d : PyData) (ds : List PyData) (m C D W : Nat), vs = [.ref b, x] ∧ b ∈ S ∧ Live S H ∧ Bx H b ∧ Dp K (off H S) x d ∧ (d = .list ds ∨ d = .tuple ds) ∧ Th m C D W d ∧ 60 ≤ m ∧ m ≤ 1000 ∧ C ≤ 6000000 ∧ W ≤ 1000 ∧ ∀ H' r d', Bx H' b → Sm [b] H H' → Dp K (off H' S) r d' → Th m (2 * C + 30000) (D + 2) (3 * W + 3) d' → Q r H'
theorem ok_brow {f : Addr} {fd : FuncData} {k : Nat} (F : Fun K "_law_bent_row" "_law_bent_row" s__law_bent_row f fd) (T : Txt mg) (c__law_take : Cl P w K mg base (k + 1) "_law_take" spTake) (c__law_odd : Cl P w K mg base (k + 2) "_law_odd" (spOdd K)) : FnOk P w K mg base CX0 (k + 3) f fd ["_law_box_here", "_law_thing"] (spBrow K) := by
  refine F.ok sc__law_bent_row (fun vs H Q E h => ?_) (fun cdv A outer s H vs Q E hr h => ?_)
  · obtain ⟨b, S, x, d, ds, m, C, D, W, rfl, _⟩ := h
    rfl
  · obtain ⟨b, S, x, d, ds, m, C, D, W, rfl, hb, lv, B, dp, hd, th, m0, m1, hC, hW, q⟩ := h
    have nd := sc__law_bent_row.nd
    refine ⟨_, (pss_cons (ps_par3 (i := 2) (j := 3) (l := 4) rfl nd rfl rfl rfl (by decide) (by decide) (by decide) rfl rfl rfl (pa_cons (pe_cl c__law_take hr (by omega) (by rfl) (pa_cons (pv 0) (pa_cons pe_int pa_nil))) (pa_cons (pe_cl c__law_take hr (by omega) (by rfl) (pa_cons (pv 0) (pa_cons (pe_op op_add (pe_callB (kc_len (K := K)) (by rfl) T.len PySem.boot_len (pa_cons (pv 1) pa_nil)) pe_int) pa_nil))) (pa_cons (pe_callTy (kc_list (K := K)) (by rfl) T.list (by decide +kernel) (pa_cons (pv 1) pa_nil)) pa_nil))) rfl)
      (pss_cons (ps_if (pt_cmpR op_eq (pv 2) pe_int (nomark _))
          (pss_one (ps_set (i := 4) nd rfl (.inl rfl) (pe_op op_cat (pe_slice (kl_list (K := K)) (pv 4) po_none (po_some (pv 3))) (pe_slice (kl_list (K := K)) (pv 4) (po_some (pe_op op_add (pv 3) pe_int)) po_none))))
          (pss_one (ps_if (pt_cmpR op_eq (pv 2) pe_int (nomark _))
              (pss_one (ps_set (i := 4) nd rfl (.inl rfl) (pe_op op_cat (pe_op op_cat (pe_slice (kl_list (K := K)) (pv 4) po_none (po_some (pv 3))) (pe_slice (kl_list (K := K)) (pv 4) (po_some (pv 3)) (po_some (pe_op op_add (pv 3) pe_int)))) (pe_slice (kl_list (K := K)) (pv 4) (po_some (pv 3)) po_none))))
              (pss_one (ps_if (pt_cmpR op_eq (pv 2) pe_int (nomark _))
                  (pss_one (ps_expr (pe_bm PySem.F.plainAttrs_list PySem.F.slot_list_insert PySem.F.type_list_insert mt_insert (pv 4) (pa_cons (pv 3) (pa_cons (pe_cl c__law_odd hr (by omega) (by rfl) (pa_cons (pv 0) pa_nil)) pa_nil)))))
                  (pss_one (ps_if (pt_cmpR op_eq (pv 2) pe_int (nomark _))
                      (pss_one (ps_set (i := 4) nd rfl (.inl rfl) (pe_op op_cat (pe_op op_cat (pe_slice (kl_list (K := K)) (pv 4) po_none (po_some (pv 3))) (pe_revL (pe_slice (kl_list (K := K)) (pv 4) (po_some (pv 3)) (po_some (pe_op op_add (pv 3) pe_int))))) (pe_slice (kl_list (K := K)) (pv 4) (po_some (pe_op op_add (pv 3) pe_int)) po_none))))
                      (pss_one (ps_if (pt_cmpR op_eq (pv 2) pe_int (nomark _))
                          (pss_one (ps_expr (pe_bm0 PySem.F.plainAttrs_list PySem.F.slot_list_reverse PySem.F.type_list_reverse mt_reverse (pv 4))))
                          (pss_one (ps_if (pt_cmpR op_eq (pv 2) pe_int (nomark _))
                              (pss_one (ps_ret (pe_ifExp (pt_val (pe_callB (kc_isi (K := K)) (by rfl) T.isinstance (by decide +kernel) (pa_cons (pv 1) (pa_cons (pe_bltn (v := .ty "list") (by rfl) T.list (by decide +kernel) rfl) pa_nil)))) (pe_callTy (kc_tuple (K := K)) (by rfl) T.tuple (by decide +kernel) (pa_cons (pv 4) pa_nil)) (pv 4))))
                              (pss_one (ps_ret (pe_cl c__law_odd hr (by omega) (by rfl) (pa_cons (pv 0) pa_nil)))))))))))))))
      (pss_one (ps_ret (pe_ifExp (pt_val (pe_callB (kc_isi (K := K)) (by rfl) T.isinstance (by decide +kernel) (pa_cons (pv 1) (pa_cons (pe_bltn (v := .ty "list") (by rfl) T.list (by decide +kernel) rfl) pa_nil)))) (pv 4) (pe_callTy (kc_tuple (K := K)) (by rfl) T.tuple (by decide +kernel) (pa_cons (pv 4) pa_nil))))))), ?_⟩
    have sc : Sm [b] H H := Same.refl _
    obtain ⟨ths, lds, c3, d1⟩ := th.parts hd
    obtain ⟨t, zs0, rfl, _, _⟩ := seq_dp dp hd
    -- way
    refine ⟨_, rfl, b, 7, rfl, (by decide), (by decide), B, fun H1 wa w0 w1 B1 s1 => ?_⟩
    have lv := lv.box B1 s1
    have sc := sc.trans s1
    have B := B1
    have dp := dp_same ((sm_one hb s1)) dp
    -- at
    refine ⟨_, rfl, _, rfl, _, _, rfl, len_dp (dp_off dp) hd, _, _, rfl, rfl, b, _, rfl, (by omega), (by omega), B, fun H2 at_ a0 a1 B2 s2 => ?_⟩
    have lv := lv.box B2 s2
    have sc := sc.trans s2
    have B := B2
    have dp := dp_same ((sm_one hb s2)) dp
    obtain ⟨t', ys, et, sq, day⟩ := seq_dp dp hd
    obtain rfl : t = t' := V.ref.inj et
    have ly : ys.length = ds.length := dpAll_len day
    -- some
    refine ⟨_, rfl, t, ys, rfl, (by rcases sq with z | z; exact .inl (sq_off z); exact .inr (sqt_off z)), fun l nl => ⟨_, _, _, rfl, ?_⟩⟩
    have lS := lv.out nl
    have lb : l ≠ b := B.ne nl
    have dal : DpAll K (off (upd H2 l (.lst ys)) (l :: S)) ys ds := by rw [off_fresh nl]; exact day
    have dpl : Dp K (off (upd H2 l (.lst ys)) (l :: S)) (.ref t) d := by rw [off_fresh nl]; exact dp
    have fl := off_new (o := .lst ys) lv nl
    have lv := lv.put (o := .lst ys) nl
    have B := B.put (o := .lst ys) nl
    have nl0 : H l = none := sm_free sc B2 nl
    have sc := sc.trans (sm_put (S := [b]) (o := .lst ys) nl)
    have dp := dp_same (sm_put (S := S) (o := .lst ys) nl) dp
    have day := dpAll_same (sm_put (S := S) (o := .lst ys) nl) day
    generalize upd H2 l (.lst ys) = H3 at dal dpl fl lv B sc dp day ⊢
    have fin : ∀ (Hc : Hp) (l' : Addr) (ys' : List V) (es : List PyData), Bx Hc b → Sm [b] H Hc → Live S Hc → Dp K (off Hc S) (.ref t) d → off Hc S l' = some (.lst ys') → DpAll K (off Hc S) ys' es → Ths m (2 * C + 20010) (D + 1) (3 * W + 3) es → es.length ≤ 3 * W + 3 →
        tRet (tIf (tB (tCB (rIsi K) (tCons (tVar 1) (tCons (tC (V.ty "list")) tNil)))) (tVar 4) (tCB (rTupleOf K) (tCons (tVar 4) tNil))) { nx := fun x H' => Q V.non H', rt := Q } [some (.ref b), some (.ref t), some (.int wa), some (.int at_), some (.ref l')] Hc := by
      intro Hc l' ys' es B sc lv dp f da ths le
      have dp0 := dp_off dp
      refine ⟨_, rfl, _, .ty _, _, _, isListD _, rfl, .ty _, tyx_dp dp0, kit_list dp0, _, rfl, ?_⟩
      rcases hd with rfl | rfl
      · refine iteT ⟨_, rfl, ?_⟩
        exact q _ _ _ B sc (.lst (SqL.of f) da) ((ths.list le).mono (Nat.le_refl _) (by omega) (Nat.le_refl _) (Nat.le_refl _))
      · refine iteF ⟨_, rfl, l', _, rfl, .inl ⟨SqL.of (at_off f), fun p np => ?_⟩⟩
        have fp := off_new (o := .tup ys') lv np
        have lv := lv.put (o := .tup ys') np
        have B := B.put (o := .tup ys') np
        have sc := sc.trans (sm_put (S := [b]) (o := .tup ys') np)
        have da := dpAll_same ((sm_put (S := S) (o := .tup ys') np)) da
        generalize upd Hc p (.tup ys') = Hd at fp lv B sc da ⊢
        exact q _ _ _ B sc (.tup (.inl (.inl fp)) da) ((ths.tuple le).mono (Nat.le_refl _) (by omega) (Nat.le_refl _) (Nat.le_refl _))
    have cb : ∀ {es : List PyData}, Ths m (C - 3) (D - 1) W es → Ths m C (D + 1) (3 * W + 3) es := fun h => h.mono (Nat.le_refl _) (by omega) (by omega) (by omega)
    have big : ∀ n : Nat, n ≤ 3 * W + 3 → n ≤ sizeLine := fun n h => by rw [sizeLine_eq]; omega
    have ea : some at_ = some ((at_.toNat : Nat) : Int) := by congr 1; omega
    have ea2 : some (at_ + 2) = some ((at_.toNat + 2 : Nat) : Int) := by congr 1; omega
    -- way 0
    refine ⟨_, rfl, rfl, _, rfl, ite2 (fun _ => ?_) (fun _ => ?_)⟩
    · refine ⟨_, rfl, _, rfl, at_, rfl, l, _, rfl, SqL.of (at_off fl), fun p1 n1 => ?_⟩
      obtain ⟨e1, da1, t1, l1⟩ := dp_cut (lo := none) (hi := some at_) day ths
      have f1 := off_new (o := .lst (cutV ys none (some at_))) lv n1
      have lv := lv.put (o := .lst (cutV ys none (some at_))) n1
      have B := B.put (o := .lst (cutV ys none (some at_))) n1
      have sc := sc.trans (sm_put (S := [b]) (o := .lst (cutV ys none (some at_))) n1)
      have fl := (sm_put (S := S) (o := .lst (cutV ys none (some at_))) n1) _ _ fl
      have dp := dp_same ((sm_put (S := S) (o := .lst (cutV ys none (some at_))) n1)) dp
      have day := dpAll_same ((sm_put (S := S) (o := .lst (cutV ys none (some at_))) n1)) day
      have da1 := dpAll_same ((sm_put (S := S) (o := .lst (cutV ys none (some at_))) n1)) da1
      generalize upd H3 p1 (.lst (cutV ys none (some at_))) = H4 at f1 lv B sc fl dp day da1 ⊢
      refine ⟨_, rfl, _, rfl, _, _, rfl, rfl, _, rfl, l, _, rfl, SqL.of (at_off fl), fun p2 n2 => ?_⟩
      obtain ⟨e2, da2, t2, l2⟩ := dp_cut (lo := some (at_ + 1)) (hi := none) day ths
      have f2 := off_new (o := .lst (cutV ys (some (at_ + 1)) none)) lv n2
      have lv := lv.put (o := .lst (cutV ys (some (at_ + 1)) none)) n2
      have B := B.put (o := .lst (cutV ys (some (at_ + 1)) none)) n2
      have sc := sc.trans (sm_put (S := [b]) (o := .lst (cutV ys (some (at_ + 1)) none)) n2)
      have f1 := (sm_put (S := S) (o := .lst (cutV ys (some (at_ + 1)) none)) n2) _ _ f1
      have dp := dp_same ((sm_put (S := S) (o := .lst (cutV ys (some (at_ + 1)) none)) n2)) dp
      have da1 := dpAll_same ((sm_put (S := S) (o := .lst (cutV ys (some (at_ + 1)) none)) n2)) da1
      have da2 := dpAll_same ((sm_put (S := S) (o := .lst (cutV ys (some (at_ + 1)) none)) n2)) da2
      generalize upd H4 p2 (.lst (cutV ys (some (at_ + 1)) none)) = H5 at f2 lv B sc f1 dp da1 da2 ⊢
      have l1' := dpAll_len da1
      have l2' := dpAll_len da2
      refine ⟨p1, p2, _, _, rfl, rfl, at_off f1, at_off f2, big _ (by omega), fun p3 n3 => ?_⟩
      have f3 := off_new (o := .lst (cutV ys none (some at_) ++ cutV ys (some (at_ + 1)) none)) lv n3
      have lv := lv.put (o := .lst (cutV ys none (some at_) ++ cutV ys (some (at_ + 1)) none)) n3
      have B := B.put (o := .lst (cutV ys none (some at_) ++ cutV ys (some (at_ + 1)) none)) n3
      have sc := sc.trans (sm_put (S := [b]) (o := .lst (cutV ys none (some at_) ++ cutV ys (some (at_ + 1)) none)) n3)
      have dp := dp_same ((sm_put (S := S) (o := .lst (cutV ys none (some at_) ++ cutV ys (some (at_ + 1)) none)) n3)) dp
      have da1 := dpAll_same ((sm_put (S := S) (o := .lst (cutV ys none (some at_) ++ cutV ys (some (at_ + 1)) none)) n3)) da1
      have da2 := dpAll_same ((sm_put (S := S) (o := .lst (cutV ys none (some at_) ++ cutV ys (some (at_ + 1)) none)) n3)) da2
      generalize upd H5 p3 (.lst (cutV ys none (some at_) ++ cutV ys (some (at_ + 1)) none)) = H6 at f3 lv B sc dp da1 da2 ⊢
      exact fin _ p3 _ (e1 ++ e2) B sc lv dp f3 (dpAll_app' da1 da2) (((cb t1).app (cb t2)).mono (Nat.le_refl _) (by omega) (Nat.le_refl _) (Nat.le_refl _)) (by rw [List.length_append]; omega)
    -- way 1
    refine ⟨_, rfl, rfl, _, rfl, ite2 (fun _ => ?_) (fun _ => ?_)⟩
    · refine ⟨_, rfl, _, rfl, at_, rfl, l, _, rfl, SqL.of (at_off fl), fun p1 n1 => ?_⟩
      have da1 : DpAll K (off H3 S) (cutV ys none (some at_)) (ds.take at_.toNat) := by rw [ea, cut_head]; exact dpAll_take _ day
      have f1 := off_new (o := .lst (cutV ys none (some at_))) lv n1
      have lv := lv.put (o := .lst (cutV ys none (some at_))) n1
      have B := B.put (o := .lst (cutV ys none (some at_))) n1
      have sc := sc.trans (sm_put (S := [b]) (o := .lst (cutV ys none (some at_))) n1)
      have fl := (sm_put (S := S) (o := .lst (cutV ys none (some at_))) n1) _ _ fl
      have dp := dp_same ((sm_put (S := S) (o := .lst (cutV ys none (some at_))) n1)) dp
      have day := dpAll_same ((sm_put (S := S) (o := .lst (cutV ys none (some at_))) n1)) day
      have da1 := dpAll_same ((sm_put (S := S) (o := .lst (cutV ys none (some at_))) n1)) da1
      generalize upd H3 p1 (.lst (cutV ys none (some at_))) = H4 at f1 lv B sc fl dp day da1 ⊢
      refine ⟨_, rfl, _, rfl, at_, rfl, _, rfl, _, _, rfl, rfl, _, rfl, l, _, rfl, SqL.of (at_off fl), fun p2 n2 => ?_⟩
      obtain ⟨e2, da2, t2, l2⟩ := dp_cut (lo := some at_) (hi := some (at_ + 1)) day ths
      have f2 := off_new (o := .lst (cutV ys (some at_) (some (at_ + 1)))) lv n2
      have lv := lv.put (o := .lst (cutV ys (some at_) (some (at_ + 1)))) n2
      have B := B.put (o := .lst (cutV ys (some at_) (some (at_ + 1)))) n2
      have sc := sc.trans (sm_put (S := [b]) (o := .lst (cutV ys (some at_) (some (at_ + 1)))) n2)
      have fl := (sm_put (S := S) (o := .lst (cutV ys (some at_) (some (at_ + 1)))) n2) _ _ fl
      have f1 := (sm_put (S := S) (o := .lst (cutV ys (some at_) (some (at_ + 1)))) n2) _ _ f1
      have dp := dp_same ((sm_put (S := S) (o := .lst (cutV ys (some at_) (some (at_ + 1)))) n2)) dp
      have day := dpAll_same ((sm_put (S := S) (o := .lst (cutV ys (some at_) (some (at_ + 1)))) n2)) day
      have da1 := dpAll_same ((sm_put (S := S) (o := .lst (cutV ys (some at_) (some (at_ + 1)))) n2)) da1
      have da2 := dpAll_same ((sm_put (S := S) (o := .lst (cutV ys (some at_) (some (at_ + 1)))) n2)) da2
      generalize upd H4 p2 (.lst (cutV ys (some at_) (some (at_ + 1)))) = H5 at f2 lv B sc fl f1 dp day da1 da2 ⊢
      have l1' := dpAll_len da1
      rw [List.length_take] at l1'
      have l2' := dpAll_len da2
      refine ⟨p1, p2, _, _, rfl, rfl, at_off f1, at_off f2, big _ (by omega), fun p3 n3 => ?_⟩
      have f3 := off_new (o := .lst (cutV ys none (some at_) ++ cutV ys (some at_) (some (at_ + 1)))) lv n3
      have lv := lv.put (o := .lst (cutV ys none (some at_) ++ cutV ys (some at_) (some (at_ + 1)))) n3
      have B := B.put (o := .lst (cutV ys none (some at_) ++ cutV ys (some at_) (some (at_ + 1)))) n3
      have sc := sc.trans (sm_put (S := [b]) (o := .lst (cutV ys none (some at_) ++ cutV ys (some at_) (some (at_ + 1)))) n3)
      have fl := (sm_put (S := S) (o := .lst (cutV ys none (some at_) ++ cutV ys (some at_) (some (at_ + 1)))) n3) _ _ fl
      have dp := dp_same ((sm_put (S := S) (o := .lst (cutV ys none (some at_) ++ cutV ys (some at_) (some (at_ + 1)))) n3)) dp
      have day := dpAll_same ((sm_put (S := S) (o := .lst (cutV ys none (some at_) ++ cutV ys (some at_) (some (at_ + 1)))) n3)) day
      have da1 := dpAll_same ((sm_put (S := S) (o := .lst (cutV ys none (some at_) ++ cutV ys (some at_) (some (at_ + 1)))) n3)) da1
      have da2 := dpAll_same ((sm_put (S := S) (o := .lst (cutV ys none (some at_) ++ cutV ys (some at_) (some (at_ + 1)))) n3)) da2
      generalize upd H5 p3 (.lst (cutV ys none (some at_) ++ cutV ys (some at_) (some (at_ + 1)))) = H6 at f3 lv B sc fl dp day da1 da2 ⊢
      refine ⟨_, rfl, _, rfl, at_, rfl, l, _, rfl, SqL.of (at_off fl), fun p4 n4 => ?_⟩
      have da4 : DpAll K (off H6 S) (cutV ys (some at_) none) (ds.drop at_.toNat) := by rw [ea, cut_tail]; exact dpAll_drop _ day
      have f4 := off_new (o := .lst (cutV ys (some at_) none)) lv n4
      have lv := lv.put (o := .lst (cutV ys (some at_) none)) n4
      have B := B.put (o := .lst (cutV ys (some at_) none)) n4
      have sc := sc.trans (sm_put (S := [b]) (o := .lst (cutV ys (some at_) none)) n4)
      have f3 := (sm_put (S := S) (o := .lst (cutV ys (some at_) none)) n4) _ _ f3
      have dp := dp_same ((sm_put (S := S) (o := .lst (cutV ys (some at_) none)) n4)) dp
      have da1 := dpAll_same ((sm_put (S := S) (o := .lst (cutV ys (some at_) none)) n4)) da1
      have da2 := dpAll_same ((sm_put (S := S) (o := .lst (cutV ys (some at_) none)) n4)) da2
      have da4 := dpAll_same ((sm_put (S := S) (o := .lst (cutV ys (some at_) none)) n4)) da4
      generalize upd H6 p4 (.lst (cutV ys (some at_) none)) = H7 at f4 lv B sc f3 dp da1 da2 da4 ⊢
      have l4' := dpAll_len da4
      rw [List.length_drop] at l4'
      refine ⟨p3, p4, _, _, rfl, rfl, at_off f3, at_off f4, big _ (by rw [List.length_append]; omega), fun p5 n5 => ?_⟩
      have f5 := off_new (o := .lst (cutV ys none (some at_) ++ cutV ys (some at_) (some (at_ + 1)) ++ cutV ys (some at_) none)) lv n5
      have lv := lv.put (o := .lst (cutV ys none (some at_) ++ cutV ys (some at_) (some (at_ + 1)) ++ cutV ys (some at_) none)) n5
      have B := B.put (o := .lst (cutV ys none (some at_) ++ cutV ys (some at_) (some (at_ + 1)) ++ cutV ys (some at_) none)) n5
      have sc := sc.trans (sm_put (S := [b]) (o := .lst (cutV ys none (some at_) ++ cutV ys (some at_) (some (at_ + 1)) ++ cutV ys (some at_) none)) n5)
      have dp := dp_same ((sm_put (S := S) (o := .lst (cutV ys none (some at_) ++ cutV ys (some at_) (some (at_ + 1)) ++ cutV ys (some at_) none)) n5)) dp
      have da1 := dpAll_same ((sm_put (S := S) (o := .lst (cutV ys none (some at_) ++ cutV ys (some at_) (some (at_ + 1)) ++ cutV ys (some at_) none)) n5)) da1
      have da2 := dpAll_same ((sm_put (S := S) (o := .lst (cutV ys none (some at_) ++ cutV ys (some at_) (some (at_ + 1)) ++ cutV ys (some at_) none)) n5)) da2
      have da4 := dpAll_same ((sm_put (S := S) (o := .lst (cutV ys none (some at_) ++ cutV ys (some at_) (some (at_ + 1)) ++ cutV ys (some at_) none)) n5)) da4
      generalize upd H7 p5 (.lst (cutV ys none (some at_) ++ cutV ys (some at_) (some (at_ + 1)) ++ cutV ys (some at_) none)) = H8 at f5 lv B sc dp da1 da2 da4 ⊢
      exact fin _ p5 _ (ds.take at_.toNat ++ e2 ++ ds.drop at_.toNat) B sc lv dp f5 (dpAll_app' (dpAll_app' da1 da2) da4) (((cb ths).parts2 (Nat.le_refl _) (cb t2)).mono (Nat.le_refl _) (by omega) (Nat.le_refl _) (Nat.le_refl _)) (by rw [List.length_append, List.length_append, List.length_take, List.length_drop]; omega)
    -- way 2
    refine ⟨_, rfl, rfl, _, rfl, ite2 (fun _ => ?_) (fun _ => ?_)⟩
    · refine ⟨_, rfl, .inl ⟨rfl, _, SqL.of (at_off fl)⟩, _, rfl, _, rfl, b, l :: S, rfl, List.mem_cons_of_mem _ hb, lv.cons (at_off fl), B, fun H4 r dr B4 s4 pr tr => ?_⟩
      have hbl : b ∈ l :: S := List.mem_cons_of_mem _ hb
      have hl4 := sm1_at s4 lb (at_off fl)
      have dal := dpAll_same (sm_one hbl s4) dal
      have dpl := dp_same (sm_one hbl s4) dpl
      have lv := lv.box B4 s4
      have sc := sc.trans s4
      refine ⟨l, _, at_, r, rfl, rfl, hl4, (by rw [sizeLine_eq]; omega), a0, (by omega), ?_⟩
      obtain ⟨i, ei⟩ : ∃ i, i = at_.toNat := ⟨_, rfl⟩
      have dnew := dpAll_app' (dpAll_app' (dpAll_take i dal) (.cons pr .nil)) (dpAll_drop i dal)
      have sw : Sm (l :: S) H4 (upd H4 l (.lst (ys.take i ++ [r] ++ ys.drop i))) := sm_wr List.mem_cons_self
      have mo : Same (off (upd H4 l (.lst (ys.take i ++ [r] ++ ys.drop i))) (l :: S)) (off (upd H4 l (.lst (ys.take i ++ [r] ++ ys.drop i))) S) := off_mono fun x hx => List.mem_cons_of_mem _ hx
      rw [← ei]
      refine fin _ l _ _ (B4.wr lb) (smp sc nl0) lv.wr (dp_same (sw.trans mo) dpl) (off_upd lS) (dpAll_same (sw.trans mo) dnew) ?_ ?_
      · exact (((cb (ths.take i)).app ((Ths.one tr).mono m0 (Nat.le_refl _) (by omega) (by omega))).app (cb (ths.drop i))).mono (Nat.le_refl _) (by omega) (Nat.le_refl _) (Nat.le_refl _)
      · rw [List.length_append, List.length_append, List.length_take, List.length_drop, List.length_cons, List.length_nil]; omega
    -- way 3
    refine ⟨_, rfl, rfl, _, rfl, ite2 (fun _ => ?_) (fun _ => ?_)⟩
    · refine ⟨_, rfl, _, rfl, at_, rfl, l, _, rfl, SqL.of (at_off fl), fun p1 n1 => ?_⟩
      have da1 : DpAll K (off H3 S) (cutV ys none (some at_)) (ds.take at_.toNat) := by rw [ea, cut_head]; exact dpAll_take _ day
      have f1 := off_new (o := .lst (cutV ys none (some at_))) lv n1
      have lv := lv.put (o := .lst (cutV ys none (some at_))) n1
      have B := B.put (o := .lst (cutV ys none (some at_))) n1
      have sc := sc.trans (sm_put (S := [b]) (o := .lst (cutV ys none (some at_))) n1)
      have fl := (sm_put (S := S) (o := .lst (cutV ys none (some at_))) n1) _ _ fl
      have dp := dp_same ((sm_put (S := S) (o := .lst (cutV ys none (some at_))) n1)) dp
      have day := dpAll_same ((sm_put (S := S) (o := .lst (cutV ys none (some at_))) n1)) day
      have da1 := dpAll_same ((sm_put (S := S) (o := .lst (cutV ys none (some at_))) n1)) da1
      generalize upd H3 p1 (.lst (cutV ys none (some at_))) = H4 at f1 lv B sc fl dp day da1 ⊢
      refine ⟨_, rfl, _, rfl, at_, rfl, _, rfl, _, _, rfl, rfl, _, rfl, l, _, rfl, SqL.of (at_off fl), fun p2 n2 => ?_⟩
      obtain ⟨e2, da2, t2, l2⟩ := dp_cut (lo := some at_) (hi := some (at_ + 2)) day ths
      have f2 := off_new (o := .lst (cutV ys (some at_) (some (at_ + 2)))) lv n2
      have lv := lv.put (o := .lst (cutV ys (some at_) (some (at_ + 2)))) n2
      have B := B.put (o := .lst (cutV ys (some at_) (some (at_ + 2)))) n2
      have sc := sc.trans (sm_put (S := [b]) (o := .lst (cutV ys (some at_) (some (at_ + 2)))) n2)
      have fl := (sm_put (S := S) (o := .lst (cutV ys (some at_) (some (at_ + 2)))) n2) _ _ fl
      have f1 := (sm_put (S := S) (o := .lst (cutV ys (some at_) (some (at_ + 2)))) n2) _ _ f1
      have dp := dp_same ((sm_put (S := S) (o := .lst (cutV ys (some at_) (some (at_ + 2)))) n2)) dp
      have day := dpAll_same ((sm_put (S := S) (o := .lst (cutV ys (some at_) (some (at_ + 2)))) n2)) day
      have da1 := dpAll_same ((sm_put (S := S) (o := .lst (cutV ys (some at_) (some (at_ + 2)))) n2)) da1
      have da2 := dpAll_same ((sm_put (S := S) (o := .lst (cutV ys (some at_) (some (at_ + 2)))) n2)) da2
      generalize upd H4 p2 (.lst (cutV ys (some at_) (some (at_ + 2)))) = H5 at f2 lv B sc fl f1 dp day da1 da2 ⊢
      refine ⟨p2, _, rfl, SqL.of (at_off f2), fun p3 n3 => ?_⟩
      have da2 := dpAll_rev da2
      have f3 := off_new (o := .lst (cutV ys (some at_) (some (at_ + 2))).reverse) lv n3
      have lv := lv.put (o := .lst (cutV ys (some at_) (some (at_ + 2))).reverse) n3
      have B := B.put (o := .lst (cutV ys (some at_) (some (at_ + 2))).reverse) n3
      have sc := sc.trans (sm_put (S := [b]) (o := .lst (cutV ys (some at_) (some (at_ + 2))).reverse) n3)
      have fl := (sm_put (S := S) (o := .lst (cutV ys (some at_) (some (at_ + 2))).reverse) n3) _ _ fl
      have f1 := (sm_put (S := S) (o := .lst (cutV ys (some at_) (some (at_ + 2))).reverse) n3) _ _ f1
      have dp := dp_same ((sm_put (S := S) (o := .lst (cutV ys (some at_) (some (at_ + 2))).reverse) n3)) dp
      have day := dpAll_same ((sm_put (S := S) (o := .lst (cutV ys (some at_) (some (at_ + 2))).reverse) n3)) day
      have da1 := dpAll_same ((sm_put (S := S) (o := .lst (cutV ys (some at_) (some (at_ + 2))).reverse) n3)) da1
      have da2 := dpAll_same ((sm_put (S := S) (o := .lst (cutV ys (some at_) (some (at_ + 2))).reverse) n3)) da2
      generalize upd H5 p3 (.lst (cutV ys (some at_) (some (at_ + 2))).reverse) = H6 at f3 lv B sc fl f1 dp day da1 da2 ⊢
      have l1' := dpAll_len da1
      rw [List.length_take] at l1'
      have l2' := (dpAll_len da2).trans List.length_reverse
      refine ⟨p1, p3, _, _, rfl, rfl, at_off f1, at_off f3, big _ (by omega), fun p4 n4 => ?_⟩
      have f4 := off_new (o := .lst (cutV ys none (some at_) ++ (cutV ys (some at_) (some (at_ + 2))).reverse)) lv n4
      have lv := lv.put (o := .lst (cutV ys none (some at_) ++ (cutV ys (some at_) (some (at_ + 2))).reverse)) n4
      have B := B.put (o := .lst (cutV ys none (some at_) ++ (cutV ys (some at_) (some (at_ + 2))).reverse)) n4
      have sc := sc.trans (sm_put (S := [b]) (o := .lst (cutV ys none (some at_) ++ (cutV ys (some at_) (some (at_ + 2))).reverse)) n4)
      have fl := (sm_put (S := S) (o := .lst (cutV ys none (some at_) ++ (cutV ys (some at_) (some (at_ + 2))).reverse)) n4) _ _ fl
      have dp := dp_same ((sm_put (S := S) (o := .lst (cutV ys none (some at_) ++ (cutV ys (some at_) (some (at_ + 2))).reverse)) n4)) dp
      have day := dpAll_same ((sm_put (S := S) (o := .lst (cutV ys none (some at_) ++ (cutV ys (some at_) (some (at_ + 2))).reverse)) n4)) day
      have da1 := dpAll_same ((sm_put (S := S) (o := .lst (cutV ys none (some at_) ++ (cutV ys (some at_) (some (at_ + 2))).reverse)) n4)) da1
      have da2 := dpAll_same ((sm_put (S := S) (o := .lst (cutV ys none (some at_) ++ (cutV ys (some at_) (some (at_ + 2))).reverse)) n4)) da2
      generalize upd H6 p4 (.lst (cutV ys none (some at_) ++ (cutV ys (some at_) (some (at_ + 2))).reverse)) = H7 at f4 lv B sc fl dp day da1 da2 ⊢
      refine ⟨_, rfl, _, rfl, _, _, rfl, rfl, _, rfl, l, _, rfl, SqL.of (at_off fl), fun p5 n5 => ?_⟩
      have da5 : DpAll K (off H7 S) (cutV ys (some (at_ + 2)) none) (ds.drop (at_.toNat + 2)) := by rw [ea2, cut_tail]; exact dpAll_drop _ day
      have f5 := off_new (o := .lst (cutV ys (some (at_ + 2)) none)) lv n5
      have lv := lv.put (o := .lst (cutV ys (some (at_ + 2)) none)) n5
      have B := B.put (o := .lst (cutV ys (some (at_ + 2)) none)) n5
      have sc := sc.trans (sm_put (S := [b]) (o := .lst (cutV ys (some (at_ + 2)) none)) n5)
      have f4 := (sm_put (S := S) (o := .lst (cutV ys (some (at_ + 2)) none)) n5) _ _ f4
      have dp := dp_same ((sm_put (S := S) (o := .lst (cutV ys (some (at_ + 2)) none)) n5)) dp
      have da1 := dpAll_same ((sm_put (S := S) (o := .lst (cutV ys (some (at_ + 2)) none)) n5)) da1
      have da2 := dpAll_same ((sm_put (S := S) (o := .lst (cutV ys (some (at_ + 2)) none)) n5)) da2
      have da5 := dpAll_same ((sm_put (S := S) (o := .lst (cutV ys (some (at_ + 2)) none)) n5)) da5
      generalize upd H7 p5 (.lst (cutV ys (some (at_ + 2)) none)) = H8 at f5 lv B sc f4 dp da1 da2 da5 ⊢
      have l5' := dpAll_len da5
      rw [List.length_drop] at l5'
      refine ⟨p4, p5, _, _, rfl, rfl, at_off f4, at_off f5, big _ (by rw [List.length_append]; omega), fun p6 n6 => ?_⟩
      have f6 := off_new (o := .lst (cutV ys none (some at_) ++ (cutV ys (some at_) (some (at_ + 2))).reverse ++ cutV ys (some (at_ + 2)) none)) lv n6
      have lv := lv.put (o := .lst (cutV ys none (some at_) ++ (cutV ys (some at_) (some (at_ + 2))).reverse ++ cutV ys (some (at_ + 2)) none)) n6
      have B := B.put (o := .lst (cutV ys none (some at_) ++ (cutV ys (some at_) (some (at_ + 2))).reverse ++ cutV ys (some (at_ + 2)) none)) n6
      have sc := sc.trans (sm_put (S := [b]) (o := .lst (cutV ys none (some at_) ++ (cutV ys (some at_) (some (at_ + 2))).reverse ++ cutV ys (some (at_ + 2)) none)) n6)
      have dp := dp_same ((sm_put (S := S) (o := .lst (cutV ys none (some at_) ++ (cutV ys (some at_) (some (at_ + 2))).reverse ++ cutV ys (some (at_ + 2)) none)) n6)) dp
      have da1 := dpAll_same ((sm_put (S := S) (o := .lst (cutV ys none (some at_) ++ (cutV ys (some at_) (some (at_ + 2))).reverse ++ cutV ys (some (at_ + 2)) none)) n6)) da1
      have da2 := dpAll_same ((sm_put (S := S) (o := .lst (cutV ys none (some at_) ++ (cutV ys (some at_) (some (at_ + 2))).reverse ++ cutV ys (some (at_ + 2)) none)) n6)) da2
      have da5 := dpAll_same ((sm_put (S := S) (o := .lst (cutV ys none (some at_) ++ (cutV ys (some at_) (some (at_ + 2))).reverse ++ cutV ys (some (at_ + 2)) none)) n6)) da5
      generalize upd H8 p6 (.lst (cutV ys none (some at_) ++ (cutV ys (some at_) (some (at_ + 2))).reverse ++ cutV ys (some (at_ + 2)) none)) = H9 at f6 lv B sc dp da1 da2 da5 ⊢
      exact fin _ p6 _ (ds.take at_.toNat ++ e2.reverse ++ ds.drop (at_.toNat + 2)) B sc lv dp f6 (dpAll_app' (dpAll_app' da1 da2) da5) (((cb ths).parts2 (by omega) (cb t2.rev)).mono (Nat.le_refl _) (by omega) (Nat.le_refl _) (Nat.le_refl _)) (by rw [List.length_append, List.length_append, List.length_reverse, List.length_take, List.length_drop]; omega)
    -- way 4
    refine ⟨_, rfl, rfl, _, rfl, ite2 (fun _ => ?_) (fun _ => ?_)⟩
    · refine ⟨_, rfl, .inl ⟨rfl, _, SqL.of (at_off fl)⟩, l, _, rfl, rfl, at_off fl, ?_⟩
      have sw : Sm (l :: S) H3 (upd H3 l (.lst ys.reverse)) := sm_wr List.mem_cons_self
      have mo : Same (off (upd H3 l (.lst ys.reverse)) (l :: S)) (off (upd H3 l (.lst ys.reverse)) S) := off_mono fun x hx => List.mem_cons_of_mem _ hx
      exact fin _ l _ _ (B.wr lb) (smp sc nl0) lv.wr (dp_same (sw.trans mo) dpl) (off_upd lS) (dpAll_same (sw.trans mo) (dpAll_rev dal)) ((cb ths.rev).mono (Nat.le_refl _) (by omega) (Nat.le_refl _) (Nat.le_refl _)) (by rw [List.length_reverse]; omega)
    -- way 5
    refine ⟨_, rfl, rfl, _, rfl, ite2 (fun _ => ?_) (fun _ => ?_)⟩
    · have dp0 := dp_off dp
      refine ⟨_, rfl, _, .ty _, _, _, isListD _, rfl, .ty _, tyx_dp dp0, kit_list dp0, _, rfl, ?_⟩
      rcases hd with rfl | rfl
      · refine iteT ⟨_, rfl, l, _, rfl, .inl ⟨SqL.of (at_off fl), fun p np => ?_⟩⟩
        have fp := off_new (o := .tup ys) lv np
        have lv := lv.put (o := .tup ys) np
        have B := B.put (o := .tup ys) np
        have sc := sc.trans (sm_put (S := [b]) (o := .tup ys) np)
        have day := dpAll_same ((sm_put (S := S) (o := .tup ys) np)) day
        generalize upd H3 p (.tup ys) = H4 at fp lv B sc day ⊢
        exact q _ _ _ B sc (.tup (.inl (.inl fp)) day) ((ths.tuple lds).mono (Nat.le_refl _) (by omega) (by omega) (by omega))
      · refine iteF ⟨_, rfl, ?_⟩
        exact q _ _ _ B sc (.lst (SqL.of fl) day) ((ths.list lds).mono (Nat.le_refl _) (by omega) (by omega) (by omega))
    -- way 6
    refine ⟨_, rfl, b, S, rfl, hb, lv, B, fun H4 r dr B4 s4 pr tr => ?_⟩
    exact q _ _ _ B4 (sc.trans s4) pr (tr.mono m0 (by omega) (by omega) (by omega))
abbrev s__law_bent : Stmt := topS 18
def n__law_bent : List Str := ["_law_box_here", "_law_thing", "_law_some", "_law_at"]
theorem sc__law_bent : FnScope n__law_bent ["_law_box_here", "_law_thing"] (defScope s__law_bent) := ⟨rfl, rfl, rfl, by decide +kernel, rfl, by decide +kernel, by decide +kernel⟩
def spBent (K : PySem.W.Frag) (k : Nat) : Sp := fun vs H Q _ => ∃ (b : Addr) (S : List Addr) (x : V) (d : PyData) (m C D W : Nat), vs = [.ref b, x] ∧ b ∈ S ∧ Live S H ∧ Bx H b ∧ Dp K (off H S) x d ∧ Th m C D W d ∧ 60 ≤ m ∧ m ≤ 1000 ∧ C ≤ 6000000 ∧ W ≤ 1000 ∧ d.depth < k ∧ ∀ H' r d', Bx H' b → Sm [b] H H' → Dp K (off H' S) r d' → Th (m + 1) (2 * C + 30000) (D + 2) (3 * W + 3) d' → Q r H'
theorem ok_bent {f : Addr} {fd : FuncData} {k0 : Nat} (F : Fun K "_law_bent" "_law_bent" s__law_bent f fd) (T : Txt mg) (bF : Binds K fd ["_law_box_here", "_law_thing"] []) (gF : mg "_law_bent" = some (.ref f)) (c__law_take : Cl P w K mg base (k0 + 1) "_law_take" spTake) (c__law_odd : Cl P w K mg base (k0 + 2) "_law_odd" (spOdd K)) (c__law_bent_row : Cl P w K mg base (k0 + 3) "_law_bent_row" (spBrow K)) :
    ∀ k : Nat, FnOk P w K mg base CX0 (k0 + k + 4) f fd ["_law_box_here", "_law_thing"] (spBent K k) := by
  intro k
  induction k with
  | zero =>
    refine F.ok sc__law_bent (fun vs H Q E h => ?_) (fun cdv A outer s H vs Q E hr h => ?_)
    · obtain ⟨b, S, x, d, m, C, D, W, rfl, _⟩ := h
      rfl
    · obtain ⟨b, S, x, d, m, C, D, W, rfl, hb, lv, B, dp, th, m0, m1, hC, hW, hk, q⟩ := h
      exact absurd hk (Nat.not_lt_zero _)
  | succ k G =>
    refine F.ok sc__law_bent (fun vs H Q E h => ?_) (fun cdv A outer s H vs Q E hr h => ?_)
    · obtain ⟨b, S, x, d, m, C, D, W, rfl, _⟩ := h
      rfl
    · obtain ⟨b, S, x, d, m, C, D, W, rfl, hb, lv, B, dp, th, m0, m1, hC, hW, hk, q⟩ := h
      have nd := sc__law_bent.nd
      have c__law_bent : Cl P w K mg base (k0 + k + 4) "_law_bent" (spBent K k) := ⟨_, _, _, G, gF, F.kp, bF⟩
      refine ⟨_, (pss_cons (ps_if ((pw_and (pt_val (pe_callB (kc_isi (K := K)) (by rfl) T.isinstance (by decide +kernel) (pa_cons (pv 1) (pa_cons (pe_bltn (v := .ty "int") (by rfl) T.int (by decide +kernel) rfl) pa_nil)))) (pw_and1 (pt_not (pt_val (pe_callB (kc_isi (K := K)) (by rfl) T.isinstance (by decide +kernel) (pa_cons (pv 1) (pa_cons (pe_bltn (v := .ty "bool") (by rfl) T.bool (by decide +kernel) rfl) pa_nil)))))))).pt
          (pss_one (ps_ret (pe_ix (kx_list (K := K)) (pe_lst (pa_cons (pe_op op_add (pv 1) pe_int) (pa_cons (pe_op op_sub (pv 1) pe_int) (pa_cons (pe_op op_sub pe_int (pv 1)) (pa_cons (pe_cmpR op_eq (pv 1) pe_int (nomark _)) (pa_cons (pe_callTy call_str_int (by rfl) T.str (by decide +kernel) (pa_cons (pv 1) pa_nil)) (pa_cons (pe_cl c__law_odd hr (by omega) (by rfl) (pa_cons (pv 0) pa_nil)) pa_nil))))))) (pe_cl c__law_take hr (by omega) (by rfl) (pa_cons (pv 0) (pa_cons pe_int pa_nil))) (fun _ _ => rfl))))
          pss_nil)
      (pss_cons (ps_if (pt_not (pt_val (pe_callB (kc_isiT (K := K)) (by rfl) T.isinstance (by decide +kernel) (pa_cons (pv 1) (pa_cons (pe_tup (pa_cons (pe_bltn (v := .ty "list") (by rfl) T.list (by decide +kernel) rfl) (pa_cons (pe_bltn (v := .ty "tuple") (by rfl) T.tuple (by decide +kernel) rfl) pa_nil))) pa_nil)))))
          (pss_one (ps_ret (pe_cl c__law_odd hr (by omega) (by rfl) (pa_cons (pv 0) pa_nil))))
          pss_nil)
      (pss_cons (ps_if ((pw_or (pt_cmpR op_eq (pe_callB (kc_len (K := K)) (by rfl) T.len PySem.boot_len (pa_cons (pv 1) pa_nil)) pe_int (nomark _)) (pw_or1 (pt_cmpR op_eq (pe_cl c__law_take hr (by omega) (by rfl) (pa_cons (pv 0) (pa_cons pe_int pa_nil))) pe_int (nomark _))))).pt
          (pss_one (ps_ret (pe_cl c__law_bent_row hr (by omega) (by rfl) (pa_cons (pv 0) (pa_cons (pv 1) pa_nil)))))
          pss_nil)
      (pss_cons (ps_set (i := 2) nd rfl (.inl rfl) (pe_callTy (kc_list (K := K)) (by rfl) T.list (by decide +kernel) (pa_cons (pv 1) pa_nil)))
      (pss_cons (ps_set (i := 3) nd rfl (.inl rfl) (pe_ifExp (pt_cmpR op_eq (pe_cl c__law_take hr (by omega) (by rfl) (pa_cons (pv 0) (pa_cons pe_int pa_nil))) pe_int (nomark _)) (pe_op op_sub (pe_callB (kc_len (K := K)) (by rfl) T.len PySem.boot_len (pa_cons (pv 2) pa_nil)) pe_int) (pe_cl c__law_take hr (by omega) (by rfl) (pa_cons (pv 0) (pa_cons (pe_callB (kc_len (K := K)) (by rfl) T.len PySem.boot_len (pa_cons (pv 2) pa_nil)) pa_nil)))))
      (pss_cons (ps_asg (pe_cl c__law_bent hr (by omega) (by rfl) (pa_cons (pv 0) (pa_cons (pe_ix (kx_list (K := K)) (pv 2) (pv 3) (fun _ _ => rfl)) pa_nil))) (pg_sub (pv 2) (pv 3) set_list))
      (pss_one (ps_ret (pe_ifExp (pt_val (pe_callB (kc_isi (K := K)) (by rfl) T.isinstance (by decide +kernel) (pa_cons (pv 1) (pa_cons (pe_bltn (v := .ty "list") (by rfl) T.list (by decide +kernel) rfl) pa_nil)))) (pv 2) (pe_callTy (kc_tuple (K := K)) (by rfl) T.tuple (by decide +kernel) (pa_cons (pv 2) pa_nil))))))))))), ?_⟩
      have sc : Sm [b] H H := Same.refl _
      have dp0 := dp_off dp
      refine ⟨_, rfl, _, .ty _, _, _, isIntD _, rfl, .ty _, tyx_dp dp0, kit_int dp0, _, rfl, ?_⟩
      cases dpc : d with
      | int i =>
        subst dpc
        obtain rfl : x = .int i := by cases dp; rfl
        refine iteT ⟨_, rfl, _, .ty _, _, _, isBoolD _, rfl, .ty _, tyx_dp dp0, kit_bool dp0, _, rfl, iteT ?_⟩
        have gi : i.natAbs ≤ m := th.g
        refine ⟨_, rfl, _, _, rfl, rfl, _, rfl, _, _, rfl, rfl, _, rfl, _, _, rfl, rfl, _, rfl, rfl, _, rfl, i, rfl, log_small' (by omega), _, rfl, b, S, rfl, hb, lv, B, fun H1 r dr B1 s1 pr tr => ⟨(by show 6 ≤ sizeLine; decide), fun p np => ?_⟩⟩
        have lv := lv.box B1 s1
        have sc := sc.trans s1
        have B := B1
        have fp := off_new (o := .lst [.int (i + 1), .int (i - 1), .int (0 - i), .bl (decide (V.int i = V.int 1)), .str (toString i), r]) lv np
        have lv := lv.put (o := .lst [.int (i + 1), .int (i - 1), .int (0 - i), .bl (decide (V.int i = V.int 1)), .str (toString i), r]) np
        have B := B.put (o := .lst [.int (i + 1), .int (i - 1), .int (0 - i), .bl (decide (V.int i = V.int 1)), .str (toString i), r]) np
        have sc := sc.trans (sm_put (S := [b]) (o := .lst [.int (i + 1), .int (i - 1), .int (0 - i), .bl (decide (V.int i = V.int 1)), .str (toString i), r]) np)
        have pr := dp_same ((sm_put (S := S) (o := .lst [.int (i + 1), .int (i - 1), .int (0 - i), .bl (decide (V.int i = V.int 1)), .str (toString i), r]) np)) pr
        generalize upd H1 p (.lst [.int (i + 1), .int (i - 1), .int (0 - i), .bl (decide (V.int i = V.int 1)), .str (toString i), r]) = H2 at fp lv B sc pr ⊢
        refine ⟨_, rfl, b, 6, rfl, (by decide), (by decide), B, fun H3 r6 c0 c1 B3 s3 => ?_⟩
        have lv := lv.box B3 s3
        have sc := sc.trans s3
        have B := B3
        have fp := (sm_one hb s3) _ _ fp
        have pr := dp_same ((sm_one hb s3)) pr
        obtain ⟨v, e, ev, pv, te⟩ : ∃ v e, atI [.int (i + 1), .int (i - 1), .int (0 - i), .bl (decide (V.int i = V.int 1)), .str (toString i), r] r6 = some v ∧ Dp K (off H3 S) v e ∧ Th (m + 1) (2 * C + 30000) (D + 2) (3 * W + 3) e := by
          have ti : ∀ j : Int, j.natAbs ≤ m + 1 → Th (m + 1) (2 * C + 30000) (D + 2) (3 * W + 3) (.int j) := fun j hj => ⟨hj, by show 1921 ≤ _; omega, Nat.zero_le _, Nat.zero_le _⟩
          have h : r6 = 0 ∨ r6 = 1 ∨ r6 = 2 ∨ r6 = 3 ∨ r6 = 4 ∨ r6 = 5 := by omega
          rcases h with rfl | rfl | rfl | rfl | rfl | rfl
          · exact ⟨_, .int (i + 1), rfl, .int _, ti _ (by omega)⟩
          · exact ⟨_, .int (i - 1), rfl, .int _, ti _ (by omega)⟩
          · exact ⟨_, .int (0 - i), rfl, .int _, ti _ (by omega)⟩
          · exact ⟨_, .bool _, rfl, .bl _, trivial, by show 5 ≤ _; omega, Nat.zero_le _, Nat.zero_le _⟩
          · exact ⟨_, .str _, rfl, .str _, (th_text (by omega)).mono (Nat.le_refl _) (by omega) (Nat.zero_le _) (Nat.zero_le _)⟩
          · exact ⟨_, _, rfl, pr, tr.mono (by omega) (by omega) (by omega) (by omega)⟩
        exact ⟨p, _, r6, v, rfl, rfl, SqL.of (at_off fp), ev, q _ _ _ B sc pv te⟩
      | bool z =>
        subst dpc
        refine iteT ⟨_, rfl, _, .ty _, _, _, isBoolD _, rfl, .ty _, tyx_dp dp0, kit_bool dp0, _, rfl, iteF ?_⟩
        refine ⟨_, rfl, (by show 2 ≤ sizeLine; decide), fun tt nt => ?_⟩
        have dp2 := dp_same (same_upd (o := .tup [.ty "list", .ty "tuple"]) nt) dp0
        refine ⟨_, tt, _, _, _, _, rfl, upd_same, .cons (.ty _) (.cons (.ty _) .nil), tyx_dp dp2, kit_lt dp2, _, rfl, iteT ?_⟩
        refine ⟨_, rfl, b, S, rfl, hb, lv.put nt, B.put nt, fun H1 r dr B1 s1 pr tr => ?_⟩
        exact q _ _ _ B1 ((sm_put nt).trans s1) pr (tr.mono (by omega) (by omega) (by omega) (by omega))
      | none =>
        subst dpc
        refine iteF (iteF ?_)
        refine ⟨_, rfl, (by show 2 ≤ sizeLine; decide), fun tt nt => ?_⟩
        have dp2 := dp_same (same_upd (o := .tup [.ty "list", .ty "tuple"]) nt) dp0
        refine ⟨_, tt, _, _, _, _, rfl, upd_same, .cons (.ty _) (.cons (.ty _) .nil), tyx_dp dp2, kit_lt dp2, _, rfl, iteT ?_⟩
        refine ⟨_, rfl, b, S, rfl, hb, lv.put nt, B.put nt, fun H1 r dr B1 s1 pr tr => ?_⟩
        exact q _ _ _ B1 ((sm_put nt).trans s1) pr (tr.mono (by omega) (by omega) (by omega) (by omega))
      | str z =>
        subst dpc
        refine iteF (iteF ?_)
        refine ⟨_, rfl, (by show 2 ≤ sizeLine; decide), fun tt nt => ?_⟩
        have dp2 := dp_same (same_upd (o := .tup [.ty "list", .ty "tuple"]) nt) dp0
        refine ⟨_, tt, _, _, _, _, rfl, upd_same, .cons (.ty _) (.cons (.ty _) .nil), tyx_dp dp2, kit_lt dp2, _, rfl, iteT ?_⟩
        refine ⟨_, rfl, b, S, rfl, hb, lv.put nt, B.put nt, fun H1 r dr B1 s1 pr tr => ?_⟩
        exact q _ _ _ B1 ((sm_put nt).trans s1) pr (tr.mono (by omega) (by omega) (by omega) (by omega))
      | dict z => subst dpc; exact (show False from th.g).elim
      | list ds =>
        subst dpc
        refine iteF (iteF ?_)
        obtain ⟨d, ed⟩ : ∃ d, d = PyData.list ds := ⟨_, rfl⟩
        have hd : d = .list ds ∨ d = .tuple ds := .inl ed
        rw [← ed] at dp dp0 th hk
        obtain ⟨ths, lds, c3, d1⟩ := th.parts hd
        obtain ⟨t, zs0, rfl, _, _⟩ := seq_dp dp hd
        refine ⟨_, rfl, (by show 2 ≤ sizeLine; decide), fun tt nt => ?_⟩
        have dp2 := dp_same (same_upd (o := .tup [.ty "list", .ty "tuple"]) nt) dp0
        refine ⟨_, tt, _, _, _, true, rfl, upd_same, .cons (.ty _) (.cons (.ty _) .nil), tyx_dp dp2, (kit_lt dp2).trans (by rcases hd with e | e <;> rw [e] <;> rfl), _, rfl, iteF ?_⟩
        have ft := off_new (o := .tup [.ty "list", .ty "tuple"]) lv nt
        have lv := lv.put (o := .tup [.ty "list", .ty "tuple"]) nt
        have B := B.put (o := .tup [.ty "list", .ty "tuple"]) nt
        have sc := sc.trans (sm_put (S := [b]) (o := .tup [.ty "list", .ty "tuple"]) nt)
        have dp := dp_same ((sm_put (S := S) (o := .tup [.ty "list", .ty "tuple"]) nt)) dp
        generalize upd H tt (.tup [.ty "list", .ty "tuple"]) = H1 at ft lv B sc dp ⊢
        -- bent_row, or further within
        have row : ∀ (Hc : Hp), Bx Hc b → Sm [b] H Hc → Live S Hc → Dp K (off Hc S) (.ref t) d → tRet (tCall (spBrow K) [] E0 (tCons (tVar 0) (tCons (tVar 1) tNil))) { nx := fun x H' => Q V.non H', rt := Q } [some (.ref b), some (.ref t), none, none] Hc := fun Hc B sc lv dp =>
          ⟨_, rfl, _, rfl, b, S, .ref t, d, ds, m, C, D, W, rfl, hb, lv, B, dp, hd, th, m0, m1, hC, hW, fun H' r d' B' s' pr tr => q _ _ _ B' (sc.trans s') pr (tr.mono (by omega) (by omega) (by omega) (by omega))⟩
        refine ⟨_, rfl, _, _, rfl, len_dp (dp_off dp) hd, rfl, _, rfl, ite2 (fun h0 => iteT (row _ B sc lv dp)) (fun h0 => ?_)⟩
        have pos : 0 < ds.length := by
          rcases Nat.eq_zero_or_pos ds.length with z | z
          · exact absurd (decide_eq_true (by rw [z]; rfl)) h0
          · exact z
        refine ⟨_, rfl, b, 3, rfl, (by decide), (by decide), B, fun H2 r2 _ _ B2 s2 => ⟨rfl, _, rfl, ?_⟩⟩
        have lv := lv.box B2 s2
        have sc := sc.trans s2
        have B := B2
        have dp := dp_same ((sm_one hb s2)) dp
        refine ite2 (fun _ => row _ B sc lv dp) (fun _ => ?_)
        obtain ⟨t', ys, et, sq, day⟩ := seq_dp dp hd
        obtain rfl : t = t' := V.ref.inj et
        have ly : ys.length = ds.length := dpAll_len day
        -- some
        refine ⟨_, rfl, t, ys, rfl, (by rcases sq with z | z; exact .inl (sq_off z); exact .inr (sqt_off z)), fun l nl => ?_⟩
        have lS := lv.out nl
        have lb : l ≠ b := B.ne nl
        have dal : DpAll K (off (upd H2 l (.lst ys)) (l :: S)) ys ds := by rw [off_fresh nl]; exact day
        have dpl : Dp K (off (upd H2 l (.lst ys)) (l :: S)) (.ref t) d := by rw [off_fresh nl]; exact dp
        have fl := off_new (o := .lst ys) lv nl
        have nl0 : H l = none := sm_free sc B nl
        have lv := lv.put (o := .lst ys) nl
        have B := B.put (o := .lst ys) nl
        have sc := sc.trans (sm_put (S := [b]) (o := .lst ys) nl)
        generalize upd H2 l (.lst ys) = H3 at dal dpl fl lv B sc ⊢
        have hbl : b ∈ l :: S := List.mem_cons_of_mem _ hb
        have fl := at_off fl
        -- at
        refine ⟨_, rfl, b, 4, rfl, (by decide), (by decide), B, fun H4 r4 _ _ B4 s4 => ⟨rfl, _, rfl, ?_⟩⟩
        have lv := lv.box B4 s4
        have sc := sc.trans s4
        have fl := sm1_at s4 lb fl
        have dal := dpAll_same (sm_one hbl s4) dal
        have dpl := dp_same (sm_one hbl s4) dpl
        have go : ∀ (Hc : Hp) (i : Nat), i < ds.length → Bx Hc b → Sm [b] H Hc → Live S Hc → Hc l = some (.lst ys) → DpAll K (off Hc (l :: S)) ys ds → Dp K (off Hc (l :: S)) (.ref t) d →
            tSeq (tAsg (tCall (spBent K k) [] E0 (tCons (tVar 0) (tCons (tOp (rIxL K) (tVar 2) (tVar 3)) tNil))) (gSub (tVar 2) (tVar 3) rSetL))
              (tRet (tIf (tB (tCB (rIsi K) (tCons (tVar 1) (tCons (tC (V.ty "list")) tNil)))) (tVar 2) (tCB (rTupleOf K) (tCons (tVar 2) tNil)))) { nx := fun x H' => Q V.non H', rt := Q } [some (.ref b), some (.ref t), some (.ref l), some (.int (i : Nat))] Hc := by
          intro Hc i hi B sc lv fl dal dpl
          obtain ⟨v, gv⟩ : ∃ v, ys[i]? = some v := ⟨ys[i]'(by omega), List.getElem?_eq_getElem (by omega)⟩
          obtain ⟨dv, gd, pv⟩ := dpAll_at dal gv
          have tv := ths.mem (List.mem_of_getElem? gd)
          have tv2 : Th m (costAll.cost dv) (D - 1) W dv := ⟨tv.g, Nat.le_refl _, tv.d, tv.w⟩
          have cv := cost_mem (List.mem_of_getElem? gd)
          have cds := ths.c
          have dk : dv.depth < k := by
            have h1 := depth_at gd
            have h2 : PyData.depthAll ds + 1 < k + 1 := by rcases hd with rfl | rfl <;> exact hk
            omega
          refine ⟨_, rfl, _, rfl, _, rfl, l, _, _, v, rfl, rfl, SqL.of fl, atI_nat gv, b, l :: S, v, dv, m, _, _, W, rfl, hbl, lv.cons fl, B, pv, tv2, m0, m1, by omega, hW, dk, fun H5 r d' B5 s5 pr tr => ?_⟩
          have lv := lv.box B5 s5
          have sc := sc.trans s5
          have fl := sm1_at s5 lb fl
          have dal := dpAll_same (sm_one hbl s5) dal
          have dpl := dp_same (sm_one hbl s5) dpl
          refine ⟨_, rfl, _, rfl, l, _, _, i, rfl, rfl, fl, Evl.ixN_nat (by omega), ?_⟩
          have dnew := dpAll_set (i := i) dal pr
          have sw : Sm (l :: S) H5 (upd H5 l (.lst (ys.set i r))) := sm_wr List.mem_cons_self
          have mo : Same (off (upd H5 l (.lst (ys.set i r))) (l :: S)) (off (upd H5 l (.lst (ys.set i r))) S) := off_mono fun x hx => List.mem_cons_of_mem _ hx
          have B := B5.wr (o := .lst (ys.set i r)) lb
          have sc := smp (o := .lst (ys.set i r)) sc nl0
          have lv := lv.wr (p := l) (o := .lst (ys.set i r))
          have dp := dp_same (sw.trans mo) dpl
          have dan := dpAll_same (sw.trans mo) dnew
          have fl := off_upd (H := H5) (o := .lst (ys.set i r)) lS
          generalize upd H5 l (.lst (ys.set i r)) = H6 at B sc lv dp dan fl ⊢
          have ce := costAll_set_eq (x := d') gd
          have trc := tr.c
          have tn : Ths (m + 1) (2 * C + 29992) (D + 1) (3 * W + 3) (ds.set i d') := by
            refine ⟨fun x hx => ?_, by omega, fun x hx => ?_, fun x hx => ?_⟩
            · rcases List.mem_or_eq_of_mem_set hx with h | h
              · exact gd_mono (by omega) x (ths.g x h)
              · rw [h]; exact tr.g
            · rcases List.mem_or_eq_of_mem_set hx with h | h
              · have := ths.d x h; omega
              · rw [h]; have := tr.d; omega
            · rcases List.mem_or_eq_of_mem_set hx with h | h
              · have := ths.w x h; omega
              · rw [h]; exact tr.w
          have ln : (ds.set i d').length ≤ 3 * W + 3 := by rw [List.length_set]; omega
          have dp0 := dp_off dp
          refine ⟨_, rfl, _, .ty _, _, _, isListD _, rfl, .ty _, tyx_dp dp0, kit_list dp0, _, rfl, ?_⟩
          rcases hd with rfl | rfl
          · refine iteT ⟨_, rfl, ?_⟩
            exact q _ _ _ B sc (.lst (SqL.of fl) dan) ((tn.list ln).mono (Nat.le_refl _) (by omega) (Nat.le_refl _) (Nat.le_refl _))
          · refine iteF ⟨_, rfl, l, _, rfl, .inl ⟨SqL.of (at_off fl), fun p np => ?_⟩⟩
            have fp := off_new (o := .tup (ys.set i r)) lv np
            have lv := lv.put (o := .tup (ys.set i r)) np
            have B := B.put (o := .tup (ys.set i r)) np
            have sc := sc.trans (sm_put (S := [b]) (o := .tup (ys.set i r)) np)
            have dan := dpAll_same ((sm_put (S := S) (o := .tup (ys.set i r)) np)) dan
            generalize upd H6 p (.tup (ys.set i r)) = H7 at fp lv B sc dan ⊢
            exact q _ _ _ B sc (.tup (.inl (.inl fp)) dan) ((tn.tuple ln).mono (Nat.le_refl _) (by omega) (Nat.le_refl _) (Nat.le_refl _))
        refine ite2 (fun _ => ?_) (fun _ => ?_)
        · refine ⟨_, rfl, _, _, rfl, .inl ⟨_, SqL.of fl, rfl⟩, _, _, rfl, rfl, ?_⟩
          have g := go H4 (ds.length - 1) (by omega) B4 sc lv fl dal dpl
          rw [show ((ds.length - 1 : Nat) : Int) = (ys.length : Nat) - 1 by omega] at g
          exact g
        · refine ⟨_, rfl, _, rfl, _, _, rfl, .inl ⟨_, SqL.of fl, rfl⟩, b, _, rfl, (by omega), (by omega), B4, fun H5 r5 c0 c1 B5 s5 => ?_⟩
          have g := go H5 r5.toNat (by omega) B5 (sc.trans s5) (lv.box B5 s5) (sm1_at s5 lb fl) (dpAll_same (sm_one hbl s5) dal) (dp_same (sm_one hbl s5) dpl)
          rw [show ((r5.toNat : Nat) : Int) = r5 by omega] at g
          exact g
      | tuple ds =>
        subst dpc
        refine iteF (iteF ?_)
        obtain ⟨d, ed⟩ : ∃ d, d = PyData.tuple ds := ⟨_, rfl⟩
        have hd : d = .list ds ∨ d = .tuple ds := .inr ed
        rw [← ed] at dp dp0 th hk
        obtain ⟨ths, lds, c3, d1⟩ := th.parts hd
        obtain ⟨t, zs0, rfl, _, _⟩ := seq_dp dp hd
        refine ⟨_, rfl, (by show 2 ≤ sizeLine; decide), fun tt nt => ?_⟩
        have dp2 := dp_same (same_upd (o := .tup [.ty "list", .ty "tuple"]) nt) dp0
        refine ⟨_, tt, _, _, _, true, rfl, upd_same, .cons (.ty _) (.cons (.ty _) .nil), tyx_dp dp2, (kit_lt dp2).trans (by rcases hd with e | e <;> rw [e] <;> rfl), _, rfl, iteF ?_⟩
        have ft := off_new (o := .tup [.ty "list", .ty "tuple"]) lv nt
        have lv := lv.put (o := .tup [.ty "list", .ty "tuple"]) nt
        have B := B.put (o := .tup [.ty "list", .ty "tuple"]) nt
        have sc := sc.trans (sm_put (S := [b]) (o := .tup [.ty "list", .ty "tuple"]) nt)
        have dp := dp_same ((sm_put (S := S) (o := .tup [.ty "list", .ty "tuple"]) nt)) dp
        generalize upd H tt (.tup [.ty "list", .ty "tuple"]) = H1 at ft lv B sc dp ⊢
        -- bent_row, or further within
        have row : ∀ (Hc : Hp), Bx Hc b → Sm [b] H Hc → Live S Hc → Dp K (off Hc S) (.ref t) d → tRet (tCall (spBrow K) [] E0 (tCons (tVar 0) (tCons (tVar 1) tNil))) { nx := fun x H' => Q V.non H', rt := Q } [some (.ref b), some (.ref t), none, none] Hc := fun Hc B sc lv dp =>
          ⟨_, rfl, _, rfl, b, S, .ref t, d, ds, m, C, D, W, rfl, hb, lv, B, dp, hd, th, m0, m1, hC, hW, fun H' r d' B' s' pr tr => q _ _ _ B' (sc.trans s') pr (tr.mono (by omega) (by omega) (by omega) (by omega))⟩
        refine ⟨_, rfl, _, _, rfl, len_dp (dp_off dp) hd, rfl, _, rfl, ite2 (fun h0 => iteT (row _ B sc lv dp)) (fun h0 => ?_)⟩
        have pos : 0 < ds.length := by
          rcases Nat.eq_zero_or_pos ds.length with z | z
          · exact absurd (decide_eq_true (by rw [z]; rfl)) h0
          · exact z
        refine ⟨_, rfl, b, 3, rfl, (by decide), (by decide), B, fun H2 r2 _ _ B2 s2 => ⟨rfl, _, rfl, ?_⟩⟩
        have lv := lv.box B2 s2
        have sc := sc.trans s2
        have B := B2
        have dp := dp_same ((sm_one hb s2)) dp
        refine ite2 (fun _ => row _ B sc lv dp) (fun _ => ?_)
        obtain ⟨t', ys, et, sq, day⟩ := seq_dp dp hd
        obtain rfl : t = t' := V.ref.inj et
        have ly : ys.length = ds.length := dpAll_len day
        -- some
        refine ⟨_, rfl, t, ys, rfl, (by rcases sq with z | z; exact .inl (sq_off z); exact .inr (sqt_off z)), fun l nl => ?_⟩
        have lS := lv.out nl
        have lb : l ≠ b := B.ne nl
        have dal : DpAll K (off (upd H2 l (.lst ys)) (l :: S)) ys ds := by rw [off_fresh nl]; exact day
        have dpl : Dp K (off (upd H2 l (.lst ys)) (l :: S)) (.ref t) d := by rw [off_fresh nl]; exact dp
        have fl := off_new (o := .lst ys) lv nl
        have nl0 : H l = none := sm_free sc B nl
        have lv := lv.put (o := .lst ys) nl
        have B := B.put (o := .lst ys) nl
        have sc := sc.trans (sm_put (S := [b]) (o := .lst ys) nl)
        generalize upd H2 l (.lst ys) = H3 at dal dpl fl lv B sc ⊢
        have hbl : b ∈ l :: S := List.mem_cons_of_mem _ hb
        have fl := at_off fl
        -- at
        refine ⟨_, rfl, b, 4, rfl, (by decide), (by decide), B, fun H4 r4 _ _ B4 s4 => ⟨rfl, _, rfl, ?_⟩⟩
        have lv := lv.box B4 s4
        have sc := sc.trans s4
        have fl := sm1_at s4 lb fl
        have dal := dpAll_same (sm_one hbl s4) dal
        have dpl := dp_same (sm_one hbl s4) dpl
        have go : ∀ (Hc : Hp) (i : Nat), i < ds.length → Bx Hc b → Sm [b] H Hc → Live S Hc → Hc l = some (.lst ys) → DpAll K (off Hc (l :: S)) ys ds → Dp K (off Hc (l :: S)) (.ref t) d →
            tSeq (tAsg (tCall (spBent K k) [] E0 (tCons (tVar 0) (tCons (tOp (rIxL K) (tVar 2) (tVar 3)) tNil))) (gSub (tVar 2) (tVar 3) rSetL))
              (tRet (tIf (tB (tCB (rIsi K) (tCons (tVar 1) (tCons (tC (V.ty "list")) tNil)))) (tVar 2) (tCB (rTupleOf K) (tCons (tVar 2) tNil)))) { nx := fun x H' => Q V.non H', rt := Q } [some (.ref b), some (.ref t), some (.ref l), some (.int (i : Nat))] Hc := by
          intro Hc i hi B sc lv fl dal dpl
          obtain ⟨v, gv⟩ : ∃ v, ys[i]? = some v := ⟨ys[i]'(by omega), List.getElem?_eq_getElem (by omega)⟩
          obtain ⟨dv, gd, pv⟩ := dpAll_at dal gv
          have tv := ths.mem (List.mem_of_getElem? gd)
          have tv2 : Th m (costAll.cost dv) (D - 1) W dv := ⟨tv.g, Nat.le_refl _, tv.d, tv.w⟩
          have cv := cost_mem (List.mem_of_getElem? gd)
          have cds := ths.c
          have dk : dv.depth < k := by
            have h1 := depth_at gd
            have h2 : PyData.depthAll ds + 1 < k + 1 := by rcases hd with rfl | rfl <;> exact hk
            omega
          refine ⟨_, rfl, _, rfl, _, rfl, l, _, _, v, rfl, rfl, SqL.of fl, atI_nat gv, b, l :: S, v, dv, m, _, _, W, rfl, hbl, lv.cons fl, B, pv, tv2, m0, m1, by omega, hW, dk, fun H5 r d' B5 s5 pr tr => ?_⟩
          have lv := lv.box B5 s5
          have sc := sc.trans s5
          have fl := sm1_at s5 lb fl
          have dal := dpAll_same (sm_one hbl s5) dal
          have dpl := dp_same (sm_one hbl s5) dpl
          refine ⟨_, rfl, _, rfl, l, _, _, i, rfl, rfl, fl, Evl.ixN_nat (by omega), ?_⟩
          have dnew := dpAll_set (i := i) dal pr
          have sw : Sm (l :: S) H5 (upd H5 l (.lst (ys.set i r))) := sm_wr List.mem_cons_self
          have mo : Same (off (upd H5 l (.lst (ys.set i r))) (l :: S)) (off (upd H5 l (.lst (ys.set i r))) S) := off_mono fun x hx => List.mem_cons_of_mem _ hx
          have B := B5.wr (o := .lst (ys.set i r)) lb
          have sc := smp (o := .lst (ys.set i r)) sc nl0
          have lv := lv.wr (p := l) (o := .lst (ys.set i r))
          have dp := dp_same (sw.trans mo) dpl
          have dan := dpAll_same (sw.trans mo) dnew
          have fl := off_upd (H := H5) (o := .lst (ys.set i r)) lS
          generalize upd H5 l (.lst (ys.set i r)) = H6 at B sc lv dp dan fl ⊢
          have ce := costAll_set_eq (x := d') gd
          have trc := tr.c
          have tn : Ths (m + 1) (2 * C + 29992) (D + 1) (3 * W + 3) (ds.set i d') := by
            refine ⟨fun x hx => ?_, by omega, fun x hx => ?_, fun x hx => ?_⟩
            · rcases List.mem_or_eq_of_mem_set hx with h | h
              · exact gd_mono (by omega) x (ths.g x h)
              · rw [h]; exact tr.g
            · rcases List.mem_or_eq_of_mem_set hx with h | h
              · have := ths.d x h; omega
              · rw [h]; have := tr.d; omega
            · rcases List.mem_or_eq_of_mem_set hx with h | h
              · have := ths.w x h; omega
              · rw [h]; exact tr.w
          have ln : (ds.set i d').length ≤ 3 * W + 3 := by rw [List.length_set]; omega
          have dp0 := dp_off dp
          refine ⟨_, rfl, _, .ty _, _, _, isListD _, rfl, .ty _, tyx_dp dp0, kit_list dp0, _, rfl, ?_⟩
          rcases hd with rfl | rfl
          · refine iteT ⟨_, rfl, ?_⟩
            exact q _ _ _ B sc (.lst (SqL.of fl) dan) ((tn.list ln).mono (Nat.le_refl _) (by omega) (Nat.le_refl _) (Nat.le_refl _))
          · refine iteF ⟨_, rfl, l, _, rfl, .inl ⟨SqL.of (at_off fl), fun p np => ?_⟩⟩
            have fp := off_new (o := .tup (ys.set i r)) lv np
            have lv := lv.put (o := .tup (ys.set i r)) np
            have B := B.put (o := .tup (ys.set i r)) np
            have sc := sc.trans (sm_put (S := [b]) (o := .tup (ys.set i r)) np)
            have dan := dpAll_same ((sm_put (S := S) (o := .tup (ys.set i r)) np)) dan
            generalize upd H6 p (.tup (ys.set i r)) = H7 at fp lv B sc dan ⊢
            exact q _ _ _ B sc (.tup (.inl (.inl fp)) dan) ((tn.tuple ln).mono (Nat.le_refl _) (by omega) (Nat.le_refl _) (Nat.le_refl _))
        refine ite2 (fun _ => ?_) (fun _ => ?_)
        · refine ⟨_, rfl, _, _, rfl, .inl ⟨_, SqL.of fl, rfl⟩, _, _, rfl, rfl, ?_⟩
          have g := go H4 (ds.length - 1) (by omega) B4 sc lv fl dal dpl
          rw [show ((ds.length - 1 : Nat) : Int) = (ys.length : Nat) - 1 by omega] at g
          exact g
        · refine ⟨_, rfl, _, rfl, _, _, rfl, .inl ⟨_, SqL.of fl, rfl⟩, b, _, rfl, (by omega), (by omega), B4, fun H5 r5 c0 c1 B5 s5 => ?_⟩
          have g := go H5 r5.toNat (by omega) B5 (sc.trans s5) (lv.box B5 s5) (sm1_at s5 lb fl) (dpAll_same (sm_one hbl s5) dal) (dp_same (sm_one hbl s5) dpl)
          rw [show ((r5.toNat : Nat) : Int) = r5 by omega] at g
          exact g

end
end Pot

namespace Pot
open PySem PySem.Spec PyProof.Rows L2
section
variable {P : Program} {w : World} {K : PySem.W.Frag} {mg : Str → Option Value} {base : Heap}
abbrev s__law_told_right : Stmt := topS 22
def n__law_told_right : List Str := ["_law_offers_here", "_law_wants", "_law_thing", "_law_handed", "_law_kept", "_law_found"]
theorem sc__law_told_right : FnScope n__law_told_right ["_law_offers_here", "_law_wants", "_law_thing"] (defScope s__law_told_right) := ⟨rfl, rfl, rfl, by decide +kernel, rfl, by decide +kernel, by decide +kernel⟩
def spTold (K : PySem.W.Frag) : Sp := fun vs H Q _ => ∃ (a c : Addr) (xs : List V) (os : List Off) (ws : List Int) (x : V) (d : PyData), vs = [.ref a, .ref c, x] ∧ SqL K H a xs ∧ DpAll K H xs (os.map offD) ∧ os.length ≤ 10 ∧ (∀ o ∈ os, OffOk o) ∧ SqL K H c (ws.map V.int) ∧ ws.length ≤ 60 ∧ (∀ n ∈ ws, 0 ≤ n ∧ n ≤ 10) ∧ Dp K H x d ∧ Th 1000 6000000 20 1000 d ∧ ∀ H', Same H H' → Q (.bl true) H'
theorem ok_told {f : Addr} {fd : FuncData} {k : Nat} (F : Fun K "_law_told_right" "_law_told_right" s__law_told_right f fd) (T : Txt mg) (c_shows_rows : Cl P w K mg base (k + 4) "shows_rows" (spShows K)) (c__law_are_rows : Cl P w K mg base (k + 4) "_law_are_rows" (spShows K)) : FnG P w K mg base (k + 5) f fd ["_law_offers_here", "_law_wants", "_law_thing"] (spTold K) := by
  refine okG F sc__law_told_right (fun vs H Q E h => ?_) (fun cdv A outer s H vs Q gd hr h => ?_)
  · obtain ⟨a, c, xs, os, ws, x, d, rfl, _⟩ := h
    rfl
  · obtain ⟨a, c, xs, os, ws, x, d, rfl, hS, hx, lo, oo, hW, lw, bw, dp, th, q⟩ := h
    have nd := sc__law_told_right.nd
    have hu64 := hr.units
    refine ⟨_, (pss_cons (ps_set (i := 3) nd rfl (.inl rfl) (pe_lst (pa_cons (pe_callTy (kc_list (K := K)) (by rfl) T.list (by decide +kernel) (pa_cons (pv 0) pa_nil)) (pa_cons (pe_callTy (kc_list (K := K)) (by rfl) T.list (by decide +kernel) (pa_cons (pv 1) pa_nil)) pa_nil))))
      (pss_cons (ps_par (i := 4) (j := 5) rfl nd rfl rfl (by decide) rfl rfl (pa_cons (pe_callB (kc_repr (K := K) gd hu64) (by rfl) T.repr (by decide +kernel) (pa_cons (pe_lst (pa_cons (pv 0) (pa_cons (pv 1) (pa_cons (pv 2) pa_nil)))) pa_nil)) (pa_cons (pe_cl c_shows_rows hr (by omega) (by rfl) (pa_cons (pe_ix (kx_list (K := K)) (pv 3) pe_int (fun _ _ => rfl)) (pa_cons (pe_ix (kx_list (K := K)) (pv 3) pe_int (fun _ _ => rfl)) (pa_cons (pv 2) pa_nil)))) pa_nil)) rfl)
      (pss_cons (ps_if ((pw_or (pt_cmpR op_ne (pe_callB (kc_repr (K := K) gd hu64) (by rfl) T.repr (by decide +kernel) (pa_cons (pe_op op_cat (pv 3) (pe_lst (pa_cons (pv 2) pa_nil))) pa_nil)) (pv 4) (nomark _)) (pw_or1 (pt_not (pt_val (pe_callB (kc_isi (K := K)) (by rfl) T.isinstance (by decide +kernel) (pa_cons (pv 5) (pa_cons (pe_bltn (v := .ty "bool") (by rfl) T.bool (by decide +kernel) rfl) pa_nil)))))))).pt
          pss_never
          pss_nil)
      (pss_one (ps_ret (pe_cmpR op_eq (pv 5) (pe_cl c__law_are_rows hr (by omega) (by rfl) (pa_cons (pv 0) (pa_cons (pv 1) (pa_cons (pv 2) pa_nil)))) (nomark _))))))), ?_⟩
    have l3 : widAll.wid d ≤ 4000 := Nat.le_trans th.w (by decide)
    have fin : fineAll.fine (.list [.list (os.map offD), .list (ws.map PyData.int), d]) := by
      refine ⟨fineAll_map (fun o ho => ?_), fineAll_map (fun n hn => ?_), gd_fine (by decide) d th.g, trivial⟩
      · obtain ⟨oa, ob, oc, od, oe⟩ := oo o ho
        exact ⟨log_small' (by omega), log_small' (by omega), log_small' (by omega), trivial⟩
      · exact log_small' (by have := bw n hn; omega)
    have dep : (PyData.list [.list (os.map offD), .list (ws.map PyData.int), d]).depth ≤ 60 := by
      have h1 : PyData.depthAll (os.map offD) ≤ 1 := depthAll_map fun o _ => by show 1 ≤ 1; decide
      have h2 : PyData.depthAll (ws.map PyData.int) ≤ 0 := depthAll_map fun o _ => by show 0 ≤ 0; decide
      have h3 := th.d
      show max (PyData.depthAll (os.map offD) + 1) (max (PyData.depthAll (ws.map PyData.int) + 1) (max d.depth 0)) + 1 ≤ 60
      omega
    have cst : costAll.cost (.list [.list (os.map offD), .list (ws.map PyData.int), d]) ≤ 16777216 := by
      have h1 : costAll (os.map offD) ≤ os.length * (6000 + 2) := costAll_map fun o _ => by show (1921 + 2 + (1921 + 2 + (1921 + 2 + 0))) + 3 ≤ 6000; decide
      have h2 : costAll (ws.map PyData.int) ≤ ws.length * (1921 + 2) := costAll_map fun o _ => by show 1921 ≤ 1921; decide
      have h3 := th.c
      have h4 := Nat.mul_le_mul_right 6002 lo
      have h5 := Nat.mul_le_mul_right 1923 lw
      show (costAll (os.map offD) + 3) + 2 + ((costAll (ws.map PyData.int) + 3) + 2 + (costAll.cost d + 2 + 0)) + 3 ≤ 16777216
      omega
    have l10 : os.length ≤ 60 := by omega
    have lx : xs.length = os.length := by rw [dpAll_len hx, List.length_map]
    -- handed
    refine ⟨_, rfl, a, xs, rfl, .inl hS, fun h1 n1 => ?_⟩
    have f1 : upd H h1 (.lst xs) h1 = some (.lst xs) := upd_same
    have sm := same_upd (o := .lst xs) n1
    generalize upd H h1 (.lst xs) = H1 at f1 sm ⊢
    refine ⟨_, rfl, c, _, rfl, .inl (sm.seq hW), fun h2 n2 => ?_⟩
    have f2 : upd H1 h2 (.lst (ws.map V.int)) h2 = some (.lst (ws.map V.int)) := upd_same
    have f1 := same_upd (o := .lst (ws.map V.int)) n2 _ _ f1
    have sm := sm.trans (same_upd (o := .lst (ws.map V.int)) n2)
    generalize upd H1 h2 (.lst (ws.map V.int)) = H2 at f1 f2 sm ⊢
    refine ⟨(by show 2 ≤ sizeLine; decide), fun h3 n3 => ?_⟩
    have f3 : upd H2 h3 (.lst [.ref h1, .ref h2]) h3 = some (.lst [.ref h1, .ref h2]) := upd_same
    have f1 := same_upd (o := .lst [.ref h1, .ref h2]) n3 _ _ f1
    have f2 := same_upd (o := .lst [.ref h1, .ref h2]) n3 _ _ f2
    have sm := sm.trans (same_upd (o := .lst [.ref h1, .ref h2]) n3)
    generalize upd H2 h3 (.lst [.ref h1, .ref h2]) = H3 at f1 f2 f3 sm ⊢
    -- kept
    refine ⟨_, rfl, _, rfl, _, rfl, (by show 3 ≤ sizeLine; decide), fun h4 n4 => ?_⟩
    have f4 : upd H3 h4 (.lst [.ref a, .ref c, x]) h4 = some (.lst [.ref a, .ref c, x]) := upd_same
    have s4 := same_upd (o := .lst [.ref a, .ref c, x]) n4
    have f1 := s4 _ _ f1
    have f2 := s4 _ _ f2
    have f3 := s4 _ _ f3
    have sm := sm.trans s4
    generalize upd H3 h4 (.lst [.ref a, .ref c, x]) = H4 at f1 f2 f3 f4 sm ⊢
    refine ⟨h4, _, rfl, .lst (SqL.of f4) (.cons (.lst (sm.seq hS) (dpAll_same sm hx)) (.cons (.lst (sm.seq hW) (dp_ints ws)) (.cons (dp_same sm dp) .nil))), fin, dep, cst, ?_⟩
    -- found
    refine ⟨_, rfl, h3, _, 0, .ref h1, rfl, rfl, SqL.of f3, rfl, _, rfl, h3, _, 1, .ref h2, rfl, rfl, SqL.of f3, rfl, _, rfl, h1, h2, xs, os, ws, x, d, rfl, SqL.of f1, dpAll_same sm hx, l10, SqL.of f2, lw, dp_same sm dp, l3, fun H5 s5 => ⟨_, _, rfl, ?_⟩⟩
    have f1 := s5 _ _ f1
    have f2 := s5 _ _ f2
    have f3 := s5 _ _ f3
    have sm := sm.trans s5
    refine ⟨_, rfl, _, rfl, (by show 1 ≤ sizeLine; decide), fun h6 n6 => ?_⟩
    have f6 : upd H5 h6 (.lst [x]) h6 = some (.lst [x]) := upd_same
    have s6 := same_upd (o := .lst [x]) n6
    have f1 := s6 _ _ f1
    have f2 := s6 _ _ f2
    have f3 := s6 _ _ f3
    have sm := sm.trans s6
    generalize upd H5 h6 (.lst [x]) = H6 at f1 f2 f3 f6 sm ⊢
    refine ⟨h3, h6, _, _, rfl, rfl, f3, f6, (by show 3 ≤ sizeLine; decide), fun h7 n7 => ?_⟩
    have f7 : upd H6 h7 (.lst ([.ref h1, .ref h2] ++ [x])) h7 = some (.lst [.ref h1, .ref h2, x]) := upd_same
    have s7 := same_upd (o := .lst ([.ref h1, .ref h2] ++ [x])) n7
    have f1 := s7 _ _ f1
    have f2 := s7 _ _ f2
    have sm := sm.trans s7
    generalize upd H6 h7 (.lst ([.ref h1, .ref h2] ++ [x])) = H7 at f1 f2 f7 sm ⊢
    refine ⟨h7, _, rfl, .lst (SqL.of f7) (.cons (.lst (SqL.of f1) (dpAll_same sm hx)) (.cons (.lst (SqL.of f2) (dp_ints ws)) (.cons (dp_same sm dp) .nil))), fin, dep, cst, _, rfl, rfl, _, rfl, ?_⟩
    rw [decide_eq_true rfl]
    refine iteF ?_
    have dpb : Dp K H7 (.bl (rowsD os ws d)) (.bool (rowsD os ws d)) := .bl _
    refine ⟨_, rfl, _, .ty _, _, _, isBoolD _, rfl, .ty _, tyx_dp dpb, kit_bool dpb, _, rfl, iteF ?_⟩
    refine ⟨_, rfl, _, rfl, _, rfl, _, rfl, a, c, xs, os, ws, x, d, rfl, sm.seq hS, dpAll_same sm hx, l10, sm.seq hW, lw, dp_same sm dp, l3, fun H8 s8 => ⟨rfl, ?_⟩⟩
    rw [decide_eq_true rfl]
    exact q _ (sm.trans s8)

abbrev s__law_drawn_rows : Stmt := topS 20
def n__law_drawn_rows : List Str := ["_law_box_here", "_law_offers_here", "_law_hours", "_law_left", "_law_found", "_law_more", "_law_hour", "_law_row", "_law_number", "_law_first", "_law_last", "_law_gathers", "_law_offer"]
theorem sc__law_drawn_rows : FnScope n__law_drawn_rows ["_law_box_here", "_law_offers_here", "_law_hours"] (defScope s__law_drawn_rows) := ⟨rfl, rfl, rfl, by decide +kernel, rfl, by decide +kernel, by decide +kernel⟩
def intRow (r : List Int) : PyData := .list (r.map PyData.int)
/-- rows of numbers: each rises, its offers are of its hour, none too often -/
structure Drawn (os : List Off) (rss : List (List Int)) : Prop where
  ris : ∀ i r, rss[i]? = some r → risI r = true ∧ ∀ n ∈ r, 0 ≤ n ∧ n ≤ ((os.length : Nat) : Int) - 1 ∧ inO (os.getD n.toNat o0) ((i : Nat) : Int) = true
  few : ∀ j, j < os.length → ((oft (rss.map intRow) ((j : Nat) : Int) : Nat) : Int) ≤ (os.getD j o0).2.2
/-- what is left of an offer behind rows, and a row under way -/
def lf (os : List Off) (rss : List (List Int)) (r : List Int) (k : Nat) : Int := (os.getD k o0).2.2 - ((oft (rss.map intRow) ((k : Nat) : Int) : Nat) : Int) - (if ((k : Nat) : Int) ∈ r then 1 else 0)
structure DS (K : PySem.W.Frag) (os : List Off) (b a L F R : Addr) (xs zs : List V) (rss : List (List Int)) (r : List Int) (H0 H : Hp) : Prop where
  B : Bx H b
  sm : Sm [b] H0 H
  hL : H L = some (.lst ((List.range os.length).map fun k => V.int (lf os rss r k)))
  hF : H F = some (.lst zs)
  hR : H R = some (.lst (r.map V.int))
  sl : SqL K (off H [R, L, F, b]) a xs
  da : DpAll K (off H [R, L, F, b]) xs (os.map offD)
  dz : DpAll K (off H [R, L, F, b]) zs (rss.map intRow)
structure DA (b L F R : Addr) (H0 : Hp) : Prop where
  Lb : L ≠ b
  Fb : F ≠ b
  Rb : R ≠ b
  LF : L ≠ F
  RL : R ≠ L
  RF : R ≠ F
  nL : H0 L = none
  nF : H0 F = none
  nR : H0 R = none
section
variable {os : List Off} {b a L F R p : Addr} {xs zs : List V} {rss : List (List Int)} {r : List Int} {H0 H H' : Hp} {o : HO}
theorem DS.draw (S : DS K os b a L F R xs zs rss r H0 H) (A : DA b L F R H0) (B : Bx H' b) (s : Sm [b] H H') : DS K os b a L F R xs zs rss r H0 H' :=
  ⟨B, S.sm.trans s, sm1_at s A.Lb S.hL, sm1_at s A.Fb S.hF, sm1_at s A.Rb S.hR, (sm_one (by simp) s).seq S.sl, dpAll_same (sm_one (by simp) s) S.da, dpAll_same (sm_one (by simp) s) S.dz⟩
theorem DS.put (S : DS K os b a L F R xs zs rss r H0 H) (h : H p = none) : DS K os b a L F R xs zs rss r H0 (upd H p o) :=
  ⟨S.B.put h, S.sm.trans (sm_put h), same_upd h _ _ S.hL, same_upd h _ _ S.hF, same_upd h _ _ S.hR, (sm_put h).seq S.sl, dpAll_same (sm_put h) S.da, dpAll_same (sm_put h) S.dz⟩
theorem DS.take (S : DS K os b a L F R xs zs rss r H0 H) (A : DA b L F R H0) {j : Nat} (hj : j < os.length) (nj : ((j : Nat) : Int) ∉ r) :
    DS K os b a L F R xs zs rss (r ++ [((j : Nat) : Int)]) H0 (upd (upd H L (.lst (((List.range os.length).map fun k => V.int (lf os rss r k)).set j (V.int (lf os rss r j - 1))))) R (.lst (r.map V.int ++ [.int (j : Nat)]))) := by
  have e : ((List.range os.length).map fun k => V.int (lf os rss r k)).set j (V.int (lf os rss r j - 1)) = (List.range os.length).map fun k => V.int (lf os rss (r ++ [((j : Nat) : Int)]) k) := by
    have h := range_set (g := fun k => V.int (lf os rss r k)) (g' := fun k => V.int (lf os rss (r ++ [((j : Nat) : Int)]) k)) hj (fun k hk => by
      have : (((k : Nat) : Int) ∈ r ++ [((j : Nat) : Int)]) ↔ ((k : Nat) : Int) ∈ r := by
        rw [List.mem_append, List.mem_singleton]; exact ⟨fun h => h.resolve_right (by omega), .inl⟩
      show V.int (lf os rss (r ++ [((j : Nat) : Int)]) k) = V.int (lf os rss r k)
      unfold lf; simp only [this])
    rw [← h]
    congr 1
    show V.int _ = V.int (lf os rss (r ++ [((j : Nat) : Int)]) j)
    unfold lf
    rw [if_neg nj, if_pos (List.mem_append_right _ List.mem_cons_self)]
    congr 1
    omega
  have w1 : Sm [R, L, F, b] H (upd H L (.lst (((List.range os.length).map fun k => V.int (lf os rss r k)).set j (V.int (lf os rss r j - 1))))) := sm_wr (by simp)
  have w2 : Sm [R, L, F, b] (upd H L (.lst (((List.range os.length).map fun k => V.int (lf os rss r k)).set j (V.int (lf os rss r j - 1))))) (upd (upd H L (.lst (((List.range os.length).map fun k => V.int (lf os rss r k)).set j (V.int (lf os rss r j - 1))))) R (.lst (r.map V.int ++ [.int (j : Nat)]))) := sm_wr (by simp)
  refine ⟨(S.B.wr A.Lb).wr A.Rb, smp (smp S.sm A.nL) A.nR, ?_, ?_, ?_, (w1.trans w2).seq S.sl, dpAll_same (w1.trans w2) S.da, dpAll_same (w1.trans w2) S.dz⟩
  · rw [upd_ne A.RL.symm, upd_same, e]
  · rw [upd_ne A.RF.symm, upd_ne A.LF.symm]; exact S.hF
  · rw [upd_same, List.map_append]; rfl
end
theorem ris_snoc {r : List Int} {j : Int} (h : risI r = true) (b : ∀ n ∈ r, n < j) : risI (r ++ [j]) = true :=
  risI_pair.mpr (List.pairwise_append.mpr ⟨risI_pair.mp h, by simp, fun x hx y hy => by rw [List.mem_singleton.mp hy]; exact b x hx⟩)
theorem oft_app {rs : List PyData} {r : List Int} {k : Int} : oft (rs ++ [intRow r]) k = oft rs k + if k ∈ r then 1 else 0 := by
  unfold oft
  rw [List.filter_append, List.length_append]
  have : intsD (intRow r) = r := intsD_ints r
  by_cases h : k ∈ r
  · simp [this, h]
  · simp [this, h]
def spDrawn (K : PySem.W.Frag) : Sp := fun vs H Q _ => ∃ (b a : Addr) (hN : Nat) (xs : List V) (os : List Off), vs = [.ref b, .ref a, .int (hN : Nat)] ∧ Bx H b ∧ SqL K (off H [b]) a xs ∧ DpAll K (off H [b]) xs (os.map offD) ∧ os.length ≤ 10 ∧ (∀ o ∈ os, OffOk o) ∧ hN ≤ 60 ∧
  ∀ (H' : Hp) (p : Addr) (rss : List (List Int)) (zs : List V), Bx H' b → Sm [b] H H' → H p = none → H' p = some (.lst zs) → DpAll K (off H' [p, b]) zs (rss.map intRow) → rss.length = hN → Drawn os rss → Q (.ref p) H'
theorem ok_drawn {f : Addr} {fd : FuncData} {k : Nat} (F : Fun K "_law_drawn_rows" "_law_drawn_rows" s__law_drawn_rows f fd) (T : Txt mg) (c__law_take : Cl P w K mg base (k + 1) "_law_take" spTake) : FnOk P w K mg base CX0 (k + 2) f fd ["_law_box_here", "_law_offers_here", "_law_hours"] (spDrawn K) := by
  refine F.ok sc__law_drawn_rows (fun vs H Q E h => ?_) (fun cdv A outer s H vs Q E hr h => ?_)
  · obtain ⟨b, a, hN, xs, os, rfl, _⟩ := h
    rfl
  · obtain ⟨b, a, hN, xs, os, rfl, B, hS, hx, lo, oo, h60, q⟩ := h
    have nd := sc__law_drawn_rows.nd
    refine ⟨_, (pss_cons (ps_par (i := 3) (j := 4) rfl nd rfl rfl (by decide) rfl rfl (pa_cons (pe_lc (own := [("_law_offer", 12)]) rfl nd (ki_list (K := K) (pv 1)) (blkOk_by (N := n__law_drawn_rows) (sc := defScope s__law_drawn_rows) (by decide +kernel)) (fun _ _ _ _ _ => (pg_name (i := 12) nd rfl (.inl rfl))) (fun _ _ _ _ _ => pts_nil) (fun _ _ _ _ _ => (pe_ix (kx_tup (K := K)) (pv 12) pe_int (fun _ _ => rfl)))) (pa_cons (pe_lst pa_nil) pa_nil)) rfl)
      (pss_cons (ps_set (i := 5) nd rfl (.inl rfl) (pe_op op_add pe_int (pe_cl c__law_take hr (by omega) (by rfl) (pa_cons (pv 0) (pa_cons pe_int pa_nil)))))
      (pss_cons (ps_for PassesOwn.never rfl (pi_range1 (by rfl) T.range (pa_cons (pv 2) pa_nil)) (pg_name (i := 6) nd rfl (.inl rfl))
          (pss_cons (ps_set (i := 7) nd rfl (.inl rfl) (pe_lst pa_nil))
          (pss_cons (ps_for PassesOwn.never rfl (ki_enum (K := K) (by rfl) T.enumerate (pa_cons (pv 1) pa_nil)) (kg_tup (K := K) (n := 2) (pgs_cons (pg_name (i := 8) nd rfl (.inl rfl)) (pgs_cons (kg_tup (K := K) (n := 3) (pgs_cons (pg_name (i := 9) nd rfl (.inl rfl)) (pgs_cons (pg_name (i := 10) nd rfl (.inl rfl)) (pgs_cons (pg_name (i := 11) nd rfl (.inl rfl)) pgs_nil)))) pgs_nil)))
              (pss_one (ps_if ((pw_and (pt_chain op_le op_lt (pv 9) (pv 6) (pv 10)) (pw_and (pt_cmpR op_gt (pe_ix (kx_list (K := K)) (pv 3) (pv 8) (fun _ _ => rfl)) pe_int (nomark _)) (pw_and1 (pt_cmpR op_lt (pe_cl c__law_take hr (by omega) (by rfl) (pa_cons (pv 0) (pa_cons pe_int pa_nil))) (pv 5) (nomark _)))))).pt
                  (pss_cons (ps_asg (pe_op op_sub (pe_ix (kx_list (K := K)) (pv 3) (pv 8) (fun _ _ => rfl)) pe_int) (pg_sub (pv 3) (pv 8) set_list))
                  (pss_one (ps_expr (pe_bm PySem.F.plainAttrs_list PySem.F.slot_list_append PySem.F.type_list_append mt_append (pv 7) (pa_cons (pv 8) pa_nil)))))
                  pss_nil)))
          (pss_one (ps_expr (pe_bm PySem.F.plainAttrs_list PySem.F.slot_list_append PySem.F.type_list_append mt_append (pv 4) (pa_cons (pv 7) pa_nil)))))))
      (pss_one (ps_ret (pv 4)))))), ?_⟩
    have lx : xs.length = os.length := by rw [dpAll_len hx, List.length_map]
    have sc : Sm [b] H H := Same.refl _
    -- left, found
    refine ⟨_, rfl, a, rfl, ⟨_, sq_off hS⟩, fun L nL => ?_⟩
    refine lc_it (walk_list (xs := xs)) (PvL H L fun i => ((List.range os.length).map fun k => (os.getD k o0).2.2).take i |>.map V.int) (pv_start nL rfl) (fun i H2 _ h => h.1.seq (sq_off hS)) ?_ ?_
    · rintro i x H2 H3 hi p ⟨rfl, gx⟩
      obtain ⟨d, gd, dp⟩ := dpAll_at (dpAll_same off_sub hx) gx
      rw [List.getElem?_map] at gd
      obtain ⟨o, go, rfl⟩ := Option.map_eq_some_iff.mp gd
      obtain ⟨tv, rfl, hV⟩ := off_dp dp
      refine ⟨rfl, tYes_at ?_⟩
      rw [if_pos rfl]
      refine ⟨_, rfl, tv, _, 2, _, rfl, rfl, same_tup p.1 hV, rfl, ?_⟩
      exact pv_put nL p (Same.refl _) (take_map V.int (by rw [range_at (by omega), getD_at go])) (take_len_le (by rw [List.length_map, List.length_range]; omega))
    intro H2 p
    obtain ⟨s2, hL⟩ := pv_end p (take_all (by rw [List.length_map, List.length_range, lx]; exact Nat.le_refl _))
    have B2 := B.same s2
    have Lb : L ≠ b := B.ne nL
    refine ⟨Nat.zero_le _, fun F nF => ⟨_, _, rfl, ?_⟩⟩
    have Fb : F ≠ b := B2.ne nF
    have nF0 : H F = none := s2.free nF
    have LF : L ≠ F := ne_of_none hL nF
    have hF : upd H2 F (.lst []) F = some (.lst []) := upd_same
    have s3 := s2.trans (same_upd (o := .lst []) nF)
    have hL := same_upd (o := .lst []) nF _ _ hL
    generalize upd H2 F (.lst []) = H3 at hF s3 hL ⊢
    have B3 := B.same s3
    -- more
    refine ⟨_, rfl, b, 3, rfl, (by decide), (by decide), B3, fun H4 mo _ _ B4 s4 => ⟨_, _, rfl, rfl, ?_⟩⟩
    have hL := sm1_at s4 Lb hL
    have hF := sm1_at s4 Fb hF
    have sc4 : Sm [b] H H4 := (sm_of s3).trans s4
    have slA : SqL K (off H4 [L, F, b]) a xs ∧ DpAll K (off H4 [L, F, b]) xs (os.map offD) := by
      have e : Same (off H [b]) (off H4 [L, F, b]) := fun z o hz => by
        have nz := off_mem hz
        have zL : z ≠ L := fun e => by rw [e] at hz; rw [off_sub _ _ hz] at nL; cases nL
        have zF : z ≠ F := fun e => by rw [e] at hz; rw [off_sub _ _ hz] at nF0; cases nF0
        have zb : z ≠ b := fun e => nz (by rw [e]; exact List.mem_cons_self)
        have h4 := sc4 _ _ hz
        rw [off_out (by simp [zL, zF, zb])]
        exact off_sub _ _ h4
      exact ⟨e.seq hS, dpAll_same e hx⟩
    have lf0 : (List.range os.length).map (fun k => V.int (lf os [] [] k)) = ((List.range os.length).map fun k => (os.getD k o0).2.2).map V.int := by
      rw [List.map_map]
      apply List.map_congr_left
      intro k _
      show V.int (lf os [] [] k) = V.int _
      unfold lf
      congr 1
      show _ - ((0 : Nat) : Int) - _ = _
      simp
    rw [← lf0] at hL
    have g0 : ∀ k, k < os.length → 0 ≤ lf os [] [] k := fun k hk => by
      unfold lf
      have := (oo _ (List.getElem_mem hk)).d
      rw [List.getD_eq_getElem?_getD, List.getElem?_eq_getElem hk]
      show 0 ≤ (os[k]).2.2 - ((0 : Nat) : Int) - _
      simp
      exact this
    refine ⟨_, rfl, _, rfl, (by omega), (by omega), ?_⟩
    refine for_it walk_range (fun i σ H5 => ∃ v6 v7 v8 v9 v10 v11 zs rss, σ = [some (.ref b), some (.ref a), some (.int (hN : Nat)), some (.ref L), some (.ref F), some (.int (1 + mo)), v6, v7, v8, v9, v10, v11, none] ∧ Bx H5 b ∧ Sm [b] H H5 ∧ H5 L = some (.lst ((List.range os.length).map fun k => V.int (lf os rss [] k))) ∧ H5 F = some (.lst zs) ∧ SqL K (off H5 [L, F, b]) a xs ∧ DpAll K (off H5 [L, F, b]) xs (os.map offD) ∧ DpAll K (off H5 [L, F, b]) zs (rss.map intRow) ∧ rss.length = i ∧ (∀ j r, rss[j]? = some r → risI r = true ∧ ∀ n ∈ r, 0 ≤ n ∧ n ≤ ((os.length : Nat) : Int) - 1 ∧ inO (os.getD n.toNat o0) ((j : Nat) : Int) = true) ∧ ∀ k, k < os.length → 0 ≤ lf os rss [] k)
      ⟨_, _, _, _, _, _, [], [], rfl, B4, sc4, hL, hF, slA.1, slA.2, .nil, rfl, (fun j r h => by simp at h), g0⟩ (fun _ _ _ _ _ => trivial) ?_ ?_
    · rintro i x σ H5 H6 hi ⟨v6, v7, v8, v9, v10, v11, zs, rss, rfl, B5, s5, hL, hF, sl, da, dz, lr, old, g5⟩ ⟨rfl, rfl⟩
      refine ⟨Nat.zero_le _, fun R nR => ?_⟩
      have AA : DA b L F R H := ⟨Lb, Fb, B5.ne nR, LF, (ne_of_none hL nR).symm, (ne_of_none hF nR).symm, nL, nF0, sm_free s5 B5 nR⟩
      have D0 : DS K os b a L F R xs zs rss [] H (upd H6 R (.lst [])) :=
        ⟨B5.put nR, s5.trans (sm_put nR), same_upd nR _ _ hL, same_upd nR _ _ hF, upd_same, by rw [off_fresh nR]; exact sl, by rw [off_fresh nR]; exact da, by rw [off_fresh nR]; exact dz⟩
      generalize upd H6 R (.lst []) = H7 at D0 ⊢
      refine ⟨_, rfl, a, _, rfl, sq_off D0.sl, ?_⟩
      have ei : (0 : Int) + (i : Nat) = ((i : Nat) : Int) := Int.zero_add _
      refine for_it (walk_enum (xs := xs)) (fun j σ H8 => ∃ v8 v9 v10 v11 r, σ = [some (.ref b), some (.ref a), some (.int (hN : Nat)), some (.ref L), some (.ref F), some (.int (1 + mo)), some (.int (0 + (i : Nat))), some (.ref R), v8, v9, v10, v11, none] ∧ DS K os b a L F R xs zs rss r H H8 ∧ risI r = true ∧ (∀ n ∈ r, 0 ≤ n ∧ n < ((j : Nat) : Int) ∧ n ≤ ((os.length : Nat) : Int) - 1 ∧ inO (os.getD n.toNat o0) ((i : Nat) : Int) = true) ∧ (∀ k, k < os.length → 0 ≤ lf os rss r k) ∧ r.length ≤ j)
        ⟨_, _, _, _, [], rfl, D0, rfl, (fun _ h => (List.not_mem_nil h).elim), g5, Nat.le_refl _⟩ (fun j σ H8 _ h => by obtain ⟨_, _, _, _, _, _, h, _⟩ := h; exact sq_off h.sl) ?_ ?_
      · rintro j y σ H8 H9 hj ⟨v8, v9, v10, v11, r, rfl, D, rr, br, gr, lj⟩ ⟨u, x1, x2, rfl, nu, rfl, g1, g2⟩
        cases g1
        replace g2 : xs[j]? = some x2 := g2
        have hj2 : j < os.length := by omega
        obtain ⟨d, gd, dp⟩ := dpAll_at D.da g2
        rw [List.getElem?_map] at gd
        obtain ⟨o, go, rfl⟩ := Option.map_eq_some_iff.mp gd
        have D := D.put (o := .tup [.int (j : Nat), x2]) nu
        have hu : upd H8 u (.tup [.int (j : Nat), x2]) u = some (.tup [.int (j : Nat), x2]) := upd_same
        have dp := dp_same (sm_put (S := [R, L, F, b]) (o := .tup [.int (j : Nat), x2]) nu) dp
        generalize upd H8 u (.tup [.int (j : Nat), x2]) = H9 at D hu dp ⊢
        obtain ⟨tv, rfl, hV⟩ := off_dp (dp_off dp)
        refine ⟨u, _, rfl, .inl (.inl hu), rfl, _, _, rfl, _, _, rfl, tv, _, rfl, hV, rfl, _, _, rfl, _, _, rfl, _, _, rfl, rfl, rfl, ?_⟩
        have nj : ((j : Nat) : Int) ∉ r := fun z => by have := (br _ z).2.1; omega
        have next : ∀ Hc, DS K os b a L F R xs zs rss r H Hc → ∃ v8 v9 v10 v11 r, [some (V.ref b), some (.ref a), some (.int (hN : Nat)), some (.ref L), some (.ref F), some (.int (1 + mo)), some (.int (0 + (i : Nat))), some (.ref R), some (.int (j : Nat)), some (.int o.1), some (.int o.2.1), some (.int o.2.2), none] = [some (.ref b), some (.ref a), some (.int (hN : Nat)), some (.ref L), some (.ref F), some (.int (1 + mo)), some (.int (0 + (i : Nat))), some (.ref R), v8, v9, v10, v11, none] ∧ DS K os b a L F R xs zs rss r H Hc ∧ risI r = true ∧ (∀ n ∈ r, 0 ≤ n ∧ n < ((j + 1 : Nat) : Int) ∧ n ≤ ((os.length : Nat) : Int) - 1 ∧ inO (os.getD n.toNat o0) ((i : Nat) : Int) = true) ∧ (∀ k, k < os.length → 0 ≤ lf os rss r k) ∧ r.length ≤ j + 1 := fun Hc Dc =>
          ⟨_, _, _, _, r, rfl, Dc, rr, (fun n hn => ⟨(br n hn).1, by have := (br n hn).2.1; omega, (br n hn).2.2⟩), gr, by omega⟩
        refine ⟨_, rfl, _, rfl, _, _, rfl, rfl, _, rfl, ite2 (fun h1 => ⟨_, rfl, _, _, rfl, rfl, _, rfl, ite2 (fun h2 => ?_) (fun h2 => iteF (next _ D))⟩) (fun h1 => ⟨_, rfl, iteF (iteF (next _ D))⟩)⟩
        refine ⟨_, rfl, _, rfl, L, _, _, _, rfl, rfl, SqL.of D.hL, atI_nat (range_at hj2), _, _, rfl, rfl, _, rfl, ite2 (fun h3 => ?_) (fun h3 => iteF (next _ D))⟩
        refine ⟨_, rfl, b, 4, rfl, (by decide), (by decide), D.B, fun H10 r10 _ _ B10 s10 => ⟨_, rfl, _, _, rfl, rfl, _, rfl, ite2 (fun h4 => ?_) (fun h4 => next _ (D.draw AA B10 s10))⟩⟩
        have D := D.draw AA B10 s10
        refine ⟨_, rfl, _, rfl, L, _, _, _, rfl, rfl, SqL.of D.hL, atI_nat (range_at hj2), _, _, rfl, rfl, _, rfl, _, rfl, L, _, _, j, rfl, rfl, D.hL, Evl.ixN_nat (by rw [List.length_map, List.length_range]; exact hj2), ?_⟩
        have hR2 := D.hR
        have D2 := D.take AA hj2 nj
        refine ⟨_, rfl, .inl ⟨rfl, _, SqL.of (by rw [upd_ne AA.RL]; exact hR2)⟩, _, rfl, R, _, _, rfl, rfl, (by rw [upd_ne AA.RL]; exact hR2), (by rw [List.length_map, sizeLine_eq]; omega), ?_⟩
        have p3 : 0 < lf os rss r j := of_decide_eq_true h3
        refine ⟨_, _, _, _, r ++ [((j : Nat) : Int)], rfl, D2, ris_snoc rr (fun n hn => (br n hn).2.1), fun n hn => ?_, fun k hk => ?_, by rw [List.length_append]; simp only [List.length_cons, List.length_nil]; omega⟩
        · rcases List.mem_append.mp hn with h | h
          · exact ⟨(br n h).1, by have := (br n h).2.1; omega, (br n h).2.2⟩
          · rw [List.mem_singleton.mp h]
            refine ⟨by omega, by omega, by omega, ?_⟩
            rw [Int.toNat_natCast, getD_at go]
            unfold inO
            rw [ei] at h1 h2
            rw [h1, h2]; rfl
        · by_cases hkj : k = j
          · subst hkj
            unfold lf at p3 ⊢
            rw [if_neg nj] at p3
            rw [if_pos (List.mem_append_right _ List.mem_cons_self)]
            omega
          · have := gr k hk
            unfold lf at this ⊢
            have e : (((k : Nat) : Int) ∈ r ++ [((j : Nat) : Int)]) ↔ ((k : Nat) : Int) ∈ r := by
              rw [List.mem_append, List.mem_singleton]; exact ⟨fun h => h.resolve_right (by omega), .inl⟩
            simp only [e]
            exact this
      · rintro σ H8 ⟨v8, v9, v10, v11, r, rfl, D, rr, br, gr, lj⟩
        refine ⟨_, rfl, .inl ⟨rfl, _, SqL.of D.hF⟩, _, rfl, F, _, _, rfl, rfl, D.hF, (by rw [dpAll_len D.dz, List.length_map, sizeLine_eq]; omega), ?_⟩
        have RF := AA.RF
        have RL := AA.RL
        have Rb := AA.Rb
        have sw : Sm [L, F, b] H8 (upd H8 F (.lst (zs ++ [.ref R]))) := sm_wr (by simp)
        have mo8 : Same (off H8 [R, L, F, b]) (off H8 [L, F, b]) := off_mono fun x hx => List.mem_cons_of_mem _ hx
        have hRo : off H8 [L, F, b] R = some (.lst (r.map V.int)) := by rw [off_out (by simp [RL, RF, Rb])]; exact D.hR
        refine ⟨_, _, _, _, _, _, zs ++ [.ref R], rss ++ [r], rfl, D.B.wr Fb, smp D.sm nF0, ?_, upd_same, (mo8.trans sw).seq D.sl, dpAll_same (mo8.trans sw) D.da, ?_, by rw [List.length_append, lr]; rfl, fun j2 r2 g => ?_, fun k hk => ?_⟩
        · rw [upd_ne LF, D.hL]
          congr 2
          apply List.map_congr_left
          intro k _
          congr 1
          unfold lf
          rw [List.map_append]
          show _ = _ - ((oft (rss.map intRow ++ [intRow r]) ((k : Nat) : Int) : Nat) : Int) - _
          rw [oft_app]
          by_cases h : ((k : Nat) : Int) ∈ r
          · simp [h]; omega
          · simp [h]
        · rw [List.map_append]
          exact dpAll_same sw (dpAll_app' (dpAll_same mo8 D.dz) (.cons (.lst (SqL.of hRo) (dp_ints r)) .nil))
        · by_cases h : j2 < rss.length
          · rw [List.getElem?_append_left h] at g
            exact old j2 r2 g
          · rw [List.getElem?_append_right (by omega)] at g
            have e2 : j2 - rss.length = 0 := by
              rcases Nat.eq_zero_or_pos (j2 - rss.length) with z | z
              · exact z
              · rw [List.getElem?_eq_none (by simp; omega)] at g; cases g
            rw [e2] at g
            have : r = r2 := by simpa using g
            subst this
            have ej : j2 = i := by omega
            subst ej
            exact ⟨rr, fun n hn => ⟨(br n hn).1, (br n hn).2.2⟩⟩
        · have := gr k hk
          unfold lf at this ⊢
          rw [List.map_append]
          show 0 ≤ _ - ((oft (rss.map intRow ++ [intRow r]) ((k : Nat) : Int) : Nat) : Int) - _
          rw [oft_app]
          by_cases h : ((k : Nat) : Int) ∈ r
          · simp [h] at this ⊢; omega
          · simp [h] at this ⊢; omega
    · rintro σ H5 ⟨v6, v7, v8, v9, v10, v11, zs, rss, rfl, B5, s5, hL, hF, sl, da, dz, lr, old, g5⟩
      refine ⟨_, rfl, q _ F rss zs B5 s5 nF0 hF (dpAll_same (off_mono (by simp)) dz) (by omega) ⟨old, fun k hk => ?_⟩⟩
      have := g5 k hk
      unfold lf at this
      rw [if_neg List.not_mem_nil] at this
      omega
abbrev s__law_other_rows : Stmt := topS 21
def n__law_other_rows : List Str := ["_law_box_here", "_law_offers_here", "_law_rows", "_law_hour", "_law_number", "_law_row", "_law_one"]
theorem sc__law_other_rows : FnScope n__law_other_rows ["_law_box_here", "_law_offers_here", "_law_rows"] (defScope s__law_other_rows) := ⟨rfl, rfl, rfl, by decide +kernel, rfl, by decide +kernel, by decide +kernel⟩
theorem lay_ints : ∀ r : List Int, PyData.canLayAll0 (r.map PyData.int) = true
  | [] => rfl
  | _ :: r => lay_ints r
theorem shaped_rows (rss : List (List Int)) : SeqAt.shaped (.list (rss.map intRow)) = true := by
  have h1 : ∀ l : List (List Int), PyData.canLayAll0 (l.map intRow) = true := by
    intro l
    induction l with
    | nil => rfl
    | cons r l ih =>
      show (PyData.canLayAll0 (r.map PyData.int) && PyData.canLayAll0 (l.map intRow)) = true
      rw [ih, lay_ints]; rfl
  have h2 : PyData.depthAll (rss.map intRow) ≤ 1 := depthAll_map fun r _ => by
    show PyData.depthAll (r.map PyData.int) + 1 ≤ 1
    have : PyData.depthAll (r.map PyData.int) ≤ 0 := depthAll_map fun o _ => Nat.le_refl _
    omega
  show (PyData.canLayAll0 (rss.map intRow) && decide (PyData.depthAll (rss.map intRow) + 1 ≤ 64)) = true
  rw [h1, decide_eq_true (by omega)]; rfl
theorem b01 (b : Bool) : 1 * (if b = true then (1 : Int) else 0).toNat ≤ 16777216 := by cases b <;> decide
theorem rep01 (b : Bool) (n : Int) : (List.replicate (if b = true then (1 : Int) else 0).toNat [V.int n]).flatten = (if b = true then [n] else []).map V.int := by
  cases b <;> rfl
def spOther (K : PySem.W.Frag) : Sp := fun vs H Q _ => ∃ (b a t : Addr) (xs zs : List V) (os : List Off) (rss : List (List Int)), vs = [.ref b, .ref a, .ref t] ∧ Bx H b ∧ SqL K (off H [b]) a xs ∧ xs.length = os.length ∧ os.length ≤ 10 ∧ SqL K (off H [b]) t zs ∧ DpAll K (off H [b]) zs (rss.map intRow) ∧ rss.length ≤ 60 ∧ (∀ r ∈ rss, r.length ≤ 10 ∧ ∀ n ∈ r, 0 ≤ n ∧ n ≤ 10) ∧
  ∀ (H' : Hp) (p : Addr) (rss' : List (List Int)) (zs' : List V), Bx H' b → Sm [b] H H' → off H' [b] p = some (.lst zs') → DpAll K (off H' [b]) zs' (rss'.map intRow) → rss'.length ≤ 60 → (∀ r ∈ rss', r.length ≤ 11 ∧ ∀ n ∈ r, 0 ≤ n ∧ n ≤ 10) → Q (.ref p) H'
theorem ok_other {f : Addr} {fd : FuncData} {k : Nat} (F : Fun K "_law_other_rows" "_law_other_rows" s__law_other_rows f fd) (T : Txt mg) (c__law_take : Cl P w K mg base (k + 1) "_law_take" spTake) : FnOk P w K mg base CX0 (k + 2) f fd ["_law_box_here", "_law_offers_here", "_law_rows"] (spOther K) := by
  refine F.ok sc__law_other_rows (fun vs H Q E h => ?_) (fun cdv A outer s H vs Q E hr h => ?_)
  · obtain ⟨b, a, t, xs, zs, os, rss, rfl, _⟩ := h
    rfl
  · obtain ⟨b, a, t, xs, zs, os, rss, rfl, B, hS, lx, lo, hT, hz, lr, br, q⟩ := h
    have nd := sc__law_other_rows.nd
    have hu64 := hr.units
    refine ⟨_, (pss_cons (ps_if (pt_cmpR (ko_eq (K := K) hu64) (pv 2) (pe_lst pa_nil) (nomark _))
          (pss_one (ps_ret (pe_lst (pa_cons (pe_lst (pa_cons pe_int pa_nil)) pa_nil))))
          pss_nil)
      (pss_cons (ps_asg (pe_tup (pa_cons (pe_cl c__law_take hr (by omega) (by rfl) (pa_cons (pv 0) (pa_cons (pe_callB (kc_len (K := K)) (by rfl) T.len PySem.boot_len (pa_cons (pv 2) pa_nil)) pa_nil))) (pa_cons (pe_cl c__law_take hr (by omega) (by rfl) (pa_cons (pv 0) (pa_cons (pe_op op_add (pe_callB (kc_len (K := K)) (by rfl) T.len PySem.boot_len (pa_cons (pv 1) pa_nil)) pe_int) pa_nil))) pa_nil))) (kg_tup (K := K) (n := 2) (pgs_cons (pg_name (i := 3) nd rfl (.inl rfl)) (pgs_cons (pg_name (i := 4) nd rfl (.inr rfl)) pgs_nil))))
      (pss_cons (ps_set (i := 5) nd rfl (.inl rfl) (pe_op op_cat (pe_lc (own := [("_law_one", 6)]) rfl nd (ki_list (K := K) (pe_ix (kx_list (K := K)) (pv 2) (pv 3) (fun _ _ => rfl))) (blkOk_by (N := n__law_other_rows) (sc := defScope s__law_other_rows) (by decide +kernel)) (fun _ _ _ _ _ => (pg_name (i := 6) nd rfl (.inl rfl))) (fun _ _ _ _ _ => (pts_one (pt_cmpR op_ne (pv 6) (pv 4) (nomark _)))) (fun _ _ _ _ _ => (pv 6))) (pe_op op_rep (pe_lst (pa_cons (pv 4) pa_nil)) (pe_callTy call_int1 (by rfl) T.int (by decide +kernel) (pa_cons (pe_cmpR (ko_notIn (K := K)) (pv 4) (pe_ix (kx_list (K := K)) (pv 2) (pv 3) (fun _ _ => rfl)) rfl) pa_nil)))))
      (pss_one (ps_ret (pe_op op_cat (pe_op op_cat (pe_slice (kl_list (K := K)) (pv 2) po_none (po_some (pv 3))) (pe_lst (pa_cons (pe_callB (kc_sorted (K := K)) (by rfl) T.sorted (by decide +kernel) (pa_cons (pv 5) pa_nil)) pa_nil))) (pe_slice (kl_list (K := K)) (pv 2) (po_some (pe_op op_add (pv 3) pe_int)) po_none))))))), ?_⟩
    have lv := Live.one B
    have sc : Sm [b] H H := Same.refl _
    obtain ⟨S, eS⟩ : ∃ S, S = [b] := ⟨_, rfl⟩
    have hb : b ∈ S := by rw [eS]; exact List.mem_cons_self
    rw [← eS] at hS hT hz lv
    have slS := hS
    have slT := hT
    have daz := hz
    rw [← eS] at q
    have lz : zs.length = rss.length := by rw [dpAll_len daz, List.length_map]
    refine ⟨_, rfl, Nat.zero_le _, fun e0 ne0 => ?_⟩
    have f0 := off_new (o := .lst []) lv ne0
    have lv := lv.put (o := .lst []) ne0
    have B := B.put (o := .lst []) ne0
    have sc := sc.trans (sm_put (S := [b]) (o := .lst []) ne0)
    have slS := Same.seq ((sm_put (S := S) (o := .lst []) ne0)) slS
    have slT := Same.seq ((sm_put (S := S) (o := .lst []) ne0)) slT
    have daz := dpAll_same ((sm_put (S := S) (o := .lst []) ne0)) daz
    generalize upd H e0 (.lst []) = H1 at f0 lv B sc slS slT daz ⊢
    refine ⟨.list (rss.map intRow), .list [], .lst (sq_off slT) (dpAll_same off_sub daz), .lst (SqL.of (at_off f0)) .nil, shaped_rows rss, shaped_rows [], _, rfl, ?_⟩
    by_cases he : rss = []
    · have ee : PyData.eqv (.list (rss.map intRow)) (.list []) = true := by rw [he]; rfl
      rw [ee]
      refine iteT ?_
      refine ⟨(by show 1 ≤ sizeLine; decide), fun e1 ne1 => ?_⟩
      have f1 := off_new (o := .lst [.int 0]) lv ne1
      have lv := lv.put (o := .lst [.int 0]) ne1
      have B := B.put (o := .lst [.int 0]) ne1
      have sc := sc.trans (sm_put (S := [b]) (o := .lst [.int 0]) ne1)
      generalize upd H1 e1 (.lst [.int 0]) = H2 at f1 lv B sc  ⊢
      refine ⟨(by show 1 ≤ sizeLine; decide), fun e2 ne2 => ?_⟩
      have f2 := off_new (o := .lst [.ref e1]) lv ne2
      have lv := lv.put (o := .lst [.ref e1]) ne2
      have B := B.put (o := .lst [.ref e1]) ne2
      have sc := sc.trans (sm_put (S := [b]) (o := .lst [.ref e1]) ne2)
      have f1 := (sm_put (S := S) (o := .lst [.ref e1]) ne2) _ _ f1
      generalize upd H2 e2 (.lst [.ref e1]) = H3 at f2 lv B sc f1 ⊢
      exact q _ e2 [[0]] _ B (sm_one hb sc) f2 (.cons (.lst (SqL.of f1) (.cons (.int 0) .nil)) .nil) (by decide) (fun r hr => by rw [List.mem_singleton.mp hr]; exact ⟨by decide, fun n hn => by rw [List.mem_singleton.mp hn]; decide⟩)
    have ee : PyData.eqv (.list (rss.map intRow)) (.list []) = false := by
      cases rss with
      | nil => exact absurd rfl he
      | cons _ _ => rfl
    rw [ee]
    refine iteF ?_
    have pos : 0 < rss.length := List.length_pos_iff.mpr he
    -- hour, number
    refine ⟨_, rfl, _, rfl, _, _, rfl, .inl ⟨_, sq_off slT, rfl⟩, b, _, rfl, (by omega), (by omega), B, fun H2 ho c20 c21 B2 s2 => ?_⟩
    have lv := lv.box B2 s2
    have sc := sc.trans s2
    have B := B2
    have slS := Same.seq ((sm_one hb s2)) slS
    have slT := Same.seq ((sm_one hb s2)) slT
    have daz := dpAll_same ((sm_one hb s2)) daz
    refine ⟨_, rfl, _, rfl, _, _, rfl, .inl ⟨_, sq_off slS, rfl⟩, _, _, rfl, rfl, b, _, rfl, (by omega), (by omega), B, fun H3 nu c30 c31 B3 s3 => ⟨(by show 2 ≤ sizeLine; decide), fun t0 nt0 => ?_⟩⟩
    have lv := lv.box B3 s3
    have sc := sc.trans s3
    have B := B3
    have slS := Same.seq ((sm_one hb s3)) slS
    have slT := Same.seq ((sm_one hb s3)) slT
    have daz := dpAll_same ((sm_one hb s3)) daz
    have ft0 := off_new (o := .tup [.int ho, .int nu]) lv nt0
    have lv := lv.put (o := .tup [.int ho, .int nu]) nt0
    have B := B.put (o := .tup [.int ho, .int nu]) nt0
    have sc := sc.trans (sm_put (S := [b]) (o := .tup [.int ho, .int nu]) nt0)
    have slT := Same.seq ((sm_put (S := S) (o := .tup [.int ho, .int nu]) nt0)) slT
    have daz := dpAll_same ((sm_put (S := S) (o := .tup [.int ho, .int nu]) nt0)) daz
    generalize upd H3 t0 (.tup [.int ho, .int nu]) = H4 at ft0 lv B sc slT daz ⊢
    refine ⟨t0, _, rfl, .inl (.inl (at_off ft0)), rfl, _, _, rfl, _, _, rfl, rfl, ?_⟩
    obtain ⟨h, rfl⟩ : ∃ h : Nat, ho = (h : Int) := ⟨ho.toNat, by omega⟩
    have hh : h < rss.length := by omega
    obtain ⟨v, gv⟩ : ∃ v, zs[h]? = some v := ⟨zs[h]'(by omega), List.getElem?_eq_getElem (by omega)⟩
    obtain ⟨dv, gd, dpv⟩ := dpAll_at daz gv
    rw [List.getElem?_map] at gd
    obtain ⟨ns, gns, rfl⟩ := Option.map_eq_some_iff.mp gd
    obtain ⟨e, ys, rfl, hE, hy⟩ := dp_lst' dpv
    rw [dp_intsV hy] at hE
    have slE := hE
    obtain ⟨lns, bns⟩ := br ns (List.mem_of_getElem? gns)
    -- row
    refine ⟨_, rfl, _, rfl, t, _, _, _, rfl, rfl, sq_off slT, atI_nat gv, e, rfl, ⟨_, sq_off slE⟩, fun D nD => ?_⟩
    refine lc_it (walk_list (xs := ns.map V.int)) (PvL H4 D fun i => ((ns.take i).filter (fun n => decide (n ≠ nu))).map V.int) (pv_start nD rfl) (fun i H16 _ h => h.1.seq (sq_off slE)) ?_ ?_
    · rintro i y H16 H17 hi p ⟨rfl, gy⟩
      rw [List.getElem?_map] at gy
      obtain ⟨n, gn, rfl⟩ := Option.map_eq_some_iff.mp gy
      refine ⟨rfl, _, rfl, _, rfl, rfl, _, rfl, ?_⟩
      have ne : (!decide (V.int n = V.int nu)) = decide (n ≠ nu) := by
        by_cases h : n = nu
        · rw [h]; simp
        · rw [decide_eq_true h, decide_eq_false (fun z => h (V.int.inj z))]; rfl
      rw [ne]
      refine ite2 (fun h => ⟨_, rfl, pv_put nD p (Same.refl _) ?_ ?_⟩) (fun h => pv_skip p (Same.refl _) ?_)
      · show ((ns.take (i + 1)).filter _).map _ = _
        rw [List.take_add_one, gn, Option.toList_some, List.filter_append, List.map_append]
        simp [of_decide_eq_true h]
      · show (((ns.take i).filter _).map V.int).length < _
        rw [List.length_map, sizeLine_eq]
        have h1 := List.length_filter_le (fun n => decide (n ≠ nu)) (ns.take i)
        have h2 := List.length_take_le' i ns
        omega
      · show ((ns.take (i + 1)).filter _).map _ = _
        rw [List.take_add_one, gn, Option.toList_some, List.filter_append, List.map_append]
        have : n = nu := by simpa using h
        simp [this]
    intro H5 p
    obtain ⟨s5, hD⟩ := pv_end (zs := (ns.filter (fun n => decide (n ≠ nu))).map V.int) p (by show ((ns.take _).filter _).map _ = _; rw [List.length_map, List.take_length])
    have Dn : D ∉ S := lv.out nD
    have lfl := List.length_filter_le (fun n => decide (n ≠ nu)) ns
    have bfl : ∀ n ∈ ns.filter (fun n => decide (n ≠ nu)), 0 ≤ n ∧ n ≤ 10 := fun n hn => bns n (List.mem_filter.mp hn).1
    generalize ns.filter (fun n => decide (n ≠ nu)) = fs at hD lfl bfl
    have lv := lv.same s5
    have sc := sc.trans (sm_of (S := [b]) s5)
    have B := B.same s5
    have slT := Same.seq ((sm_of (S := S) s5)) slT
    have daz := dpAll_same ((sm_of (S := S) s5)) daz
    have slE := Same.seq ((sm_of (S := S) s5)) slE
    have fD : off H5 S D = some (.lst (fs.map V.int)) := by rw [off_out Dn]; exact hD
    refine ⟨_, rfl, (by show 1 ≤ sizeLine; decide), fun e1 ne1 => ?_⟩
    have f1 := off_new (o := .lst [.int nu]) lv ne1
    have lv := lv.put (o := .lst [.int nu]) ne1
    have B := B.put (o := .lst [.int nu]) ne1
    have sc := sc.trans (sm_put (S := [b]) (o := .lst [.int nu]) ne1)
    have fD := (sm_put (S := S) (o := .lst [.int nu]) ne1) _ _ fD
    have slT := Same.seq ((sm_put (S := S) (o := .lst [.int nu]) ne1)) slT
    have daz := dpAll_same ((sm_put (S := S) (o := .lst [.int nu]) ne1)) daz
    have slE := Same.seq ((sm_put (S := S) (o := .lst [.int nu]) ne1)) slE
    generalize upd H5 e1 (.lst [.int nu]) = H6 at f1 lv B sc fD slT daz slE ⊢
    refine ⟨_, rfl, _, rfl, _, rfl, t, _, _, _, rfl, rfl, sq_off slT, atI_nat gv, e, _, rfl, .inl (sq_off slE), rfl, flat_ints ns, .inr ⟨_, rfl, e1, _, _, rfl, rfl, at_off f1, (by split <;> omega), (by split <;> omega), (by rw [sizeLine_eq]; exact b01 _), fun e2 ne2 => ?_⟩⟩
    rw [rep01]
    have key : ∀ bb : Bool, ∃ ex : List Int, (if bb = true then [nu] else []) = ex ∧ ex.length ≤ 1 ∧ ∀ n ∈ ex, 0 ≤ n ∧ n ≤ 10 := fun bb => by
      cases bb with
      | true => exact ⟨[nu], rfl, Nat.le_refl _, fun n hn => by rw [List.mem_singleton.mp hn]; omega⟩
      | false => exact ⟨[], rfl, by decide, fun n hn => (List.not_mem_nil hn).elim⟩
    obtain ⟨ex, eex, lex, bex⟩ := key (if true = true then !inV (V.int nu) (ns.map V.int) else inV (V.int nu) (ns.map V.int))
    rw [eex]
    have f2 := off_new (o := .lst (ex.map V.int)) lv ne2
    have lv := lv.put (o := .lst (ex.map V.int)) ne2
    have B := B.put (o := .lst (ex.map V.int)) ne2
    have sc := sc.trans (sm_put (S := [b]) (o := .lst (ex.map V.int)) ne2)
    have fD := (sm_put (S := S) (o := .lst (ex.map V.int)) ne2) _ _ fD
    have slT := Same.seq ((sm_put (S := S) (o := .lst (ex.map V.int)) ne2)) slT
    have daz := dpAll_same ((sm_put (S := S) (o := .lst (ex.map V.int)) ne2)) daz
    generalize upd H6 e2 (.lst (ex.map V.int)) = H7 at f2 lv B sc fD slT daz ⊢
    refine ⟨D, e2, _, _, rfl, rfl, at_off fD, at_off f2, (by rw [List.length_map, List.length_map, sizeLine_eq]; omega), fun rw_ nrw => ?_⟩
    have frw := off_new (o := .lst (fs.map V.int ++ ex.map V.int)) lv nrw
    have lv := lv.put (o := .lst (fs.map V.int ++ ex.map V.int)) nrw
    have B := B.put (o := .lst (fs.map V.int ++ ex.map V.int)) nrw
    have sc := sc.trans (sm_put (S := [b]) (o := .lst (fs.map V.int ++ ex.map V.int)) nrw)
    have slT := Same.seq ((sm_put (S := S) (o := .lst (fs.map V.int ++ ex.map V.int)) nrw)) slT
    have daz := dpAll_same ((sm_put (S := S) (o := .lst (fs.map V.int ++ ex.map V.int)) nrw)) daz
    generalize upd H7 rw_ (.lst (fs.map V.int ++ ex.map V.int)) = H8 at frw lv B sc slT daz ⊢
    rw [← List.map_append] at frw
    have lrow : (fs ++ ex).length ≤ 11 := by rw [List.length_append]; omega
    have brow : ∀ n ∈ fs ++ ex, 0 ≤ n ∧ n ≤ 10 := fun n hn => (List.mem_append.mp hn).elim (bfl n) (bex n)
    generalize fs ++ ex = row at frw lrow brow
    -- the rows
    refine ⟨_, rfl, _, rfl, _, rfl, t, _, rfl, sq_off slT, fun p1 n1 => ?_⟩
    have da1 : DpAll K (off H8 S) (cutV zs none (some (h : Int))) ((rss.take h).map intRow) := by rw [cut_head, List.map_take]; exact dpAll_take _ daz
    have fp1 := off_new (o := .lst (cutV zs none (some (h : Int)))) lv n1
    have lv := lv.put (o := .lst (cutV zs none (some (h : Int)))) n1
    have B := B.put (o := .lst (cutV zs none (some (h : Int)))) n1
    have sc := sc.trans (sm_put (S := [b]) (o := .lst (cutV zs none (some (h : Int)))) n1)
    have frw := (sm_put (S := S) (o := .lst (cutV zs none (some (h : Int)))) n1) _ _ frw
    have slT := Same.seq ((sm_put (S := S) (o := .lst (cutV zs none (some (h : Int)))) n1)) slT
    have daz := dpAll_same ((sm_put (S := S) (o := .lst (cutV zs none (some (h : Int)))) n1)) daz
    have da1 := dpAll_same ((sm_put (S := S) (o := .lst (cutV zs none (some (h : Int)))) n1)) da1
    generalize upd H8 p1 (.lst (cutV zs none (some (h : Int)))) = H9 at fp1 lv B sc frw slT daz da1 ⊢
    refine ⟨_, rfl, rw_, row, rfl, SqL.of (at_off frw), (by omega), fun so p2 hp hs n2 => ?_⟩
    have fp2 := off_new (o := .lst (so.map V.int)) lv n2
    have lv := lv.put (o := .lst (so.map V.int)) n2
    have B := B.put (o := .lst (so.map V.int)) n2
    have sc := sc.trans (sm_put (S := [b]) (o := .lst (so.map V.int)) n2)
    have fp1 := (sm_put (S := S) (o := .lst (so.map V.int)) n2) _ _ fp1
    have slT := Same.seq ((sm_put (S := S) (o := .lst (so.map V.int)) n2)) slT
    have daz := dpAll_same ((sm_put (S := S) (o := .lst (so.map V.int)) n2)) daz
    have da1 := dpAll_same ((sm_put (S := S) (o := .lst (so.map V.int)) n2)) da1
    generalize upd H9 p2 (.lst (so.map V.int)) = H10 at fp2 lv B sc fp1 slT daz da1 ⊢
    refine ⟨(by show 1 ≤ sizeLine; decide), fun p3 n3 => ?_⟩
    have fp3 := off_new (o := .lst [.ref p2]) lv n3
    have lv := lv.put (o := .lst [.ref p2]) n3
    have B := B.put (o := .lst [.ref p2]) n3
    have sc := sc.trans (sm_put (S := [b]) (o := .lst [.ref p2]) n3)
    have fp1 := (sm_put (S := S) (o := .lst [.ref p2]) n3) _ _ fp1
    have fp2 := (sm_put (S := S) (o := .lst [.ref p2]) n3) _ _ fp2
    have slT := Same.seq ((sm_put (S := S) (o := .lst [.ref p2]) n3)) slT
    have daz := dpAll_same ((sm_put (S := S) (o := .lst [.ref p2]) n3)) daz
    have da1 := dpAll_same ((sm_put (S := S) (o := .lst [.ref p2]) n3)) da1
    generalize upd H10 p3 (.lst [.ref p2]) = H11 at fp3 lv B sc fp1 fp2 slT daz da1 ⊢
    have l1 := dpAll_len da1
    rw [List.length_map, List.length_take] at l1
    refine ⟨p1, p3, _, _, rfl, rfl, at_off fp1, at_off fp3, (by rw [l1, sizeLine_eq]; simp only [List.length_cons, List.length_nil]; omega), fun p4 n4 => ?_⟩
    have fp4 := off_new (o := .lst (cutV zs none (some (h : Int)) ++ [.ref p2])) lv n4
    have lv := lv.put (o := .lst (cutV zs none (some (h : Int)) ++ [.ref p2])) n4
    have B := B.put (o := .lst (cutV zs none (some (h : Int)) ++ [.ref p2])) n4
    have sc := sc.trans (sm_put (S := [b]) (o := .lst (cutV zs none (some (h : Int)) ++ [.ref p2])) n4)
    have fp2 := (sm_put (S := S) (o := .lst (cutV zs none (some (h : Int)) ++ [.ref p2])) n4) _ _ fp2
    have slT := Same.seq ((sm_put (S := S) (o := .lst (cutV zs none (some (h : Int)) ++ [.ref p2])) n4)) slT
    have daz := dpAll_same ((sm_put (S := S) (o := .lst (cutV zs none (some (h : Int)) ++ [.ref p2])) n4)) daz
    have da1 := dpAll_same ((sm_put (S := S) (o := .lst (cutV zs none (some (h : Int)) ++ [.ref p2])) n4)) da1
    generalize upd H11 p4 (.lst (cutV zs none (some (h : Int)) ++ [.ref p2])) = H12 at fp4 lv B sc fp2 slT daz da1 ⊢
    refine ⟨_, rfl, _, rfl, _, _, rfl, rfl, _, rfl, t, _, rfl, sq_off slT, fun p5 n5 => ?_⟩
    have da5 : DpAll K (off H12 S) (cutV zs (some ((h : Int) + 1)) none) ((rss.drop (h + 1)).map intRow) := by
      rw [show some ((h : Int) + 1) = some (((h + 1 : Nat)) : Int) by congr 1, cut_tail, List.map_drop]; exact dpAll_drop _ daz
    have fp5 := off_new (o := .lst (cutV zs (some ((h : Int) + 1)) none)) lv n5
    have lv := lv.put (o := .lst (cutV zs (some ((h : Int) + 1)) none)) n5
    have B := B.put (o := .lst (cutV zs (some ((h : Int) + 1)) none)) n5
    have sc := sc.trans (sm_put (S := [b]) (o := .lst (cutV zs (some ((h : Int) + 1)) none)) n5)
    have fp2 := (sm_put (S := S) (o := .lst (cutV zs (some ((h : Int) + 1)) none)) n5) _ _ fp2
    have fp4 := (sm_put (S := S) (o := .lst (cutV zs (some ((h : Int) + 1)) none)) n5) _ _ fp4
    have da1 := dpAll_same ((sm_put (S := S) (o := .lst (cutV zs (some ((h : Int) + 1)) none)) n5)) da1
    have da5 := dpAll_same ((sm_put (S := S) (o := .lst (cutV zs (some ((h : Int) + 1)) none)) n5)) da5
    generalize upd H12 p5 (.lst (cutV zs (some ((h : Int) + 1)) none)) = H13 at fp5 lv B sc fp2 fp4 da1 da5 ⊢
    have l5 := dpAll_len da5
    rw [List.length_map, List.length_drop] at l5
    refine ⟨p4, p5, _, _, rfl, rfl, at_off fp4, at_off fp5, (by rw [List.length_append, l1, l5, sizeLine_eq]; simp only [List.length_cons, List.length_nil]; omega), fun p6 n6 => ?_⟩
    have fp6 := off_new (o := .lst (cutV zs none (some (h : Int)) ++ [.ref p2] ++ cutV zs (some ((h : Int) + 1)) none)) lv n6
    have lv := lv.put (o := .lst (cutV zs none (some (h : Int)) ++ [.ref p2] ++ cutV zs (some ((h : Int) + 1)) none)) n6
    have B := B.put (o := .lst (cutV zs none (some (h : Int)) ++ [.ref p2] ++ cutV zs (some ((h : Int) + 1)) none)) n6
    have sc := sc.trans (sm_put (S := [b]) (o := .lst (cutV zs none (some (h : Int)) ++ [.ref p2] ++ cutV zs (some ((h : Int) + 1)) none)) n6)
    have fp2 := (sm_put (S := S) (o := .lst (cutV zs none (some (h : Int)) ++ [.ref p2] ++ cutV zs (some ((h : Int) + 1)) none)) n6) _ _ fp2
    have da1 := dpAll_same ((sm_put (S := S) (o := .lst (cutV zs none (some (h : Int)) ++ [.ref p2] ++ cutV zs (some ((h : Int) + 1)) none)) n6)) da1
    have da5 := dpAll_same ((sm_put (S := S) (o := .lst (cutV zs none (some (h : Int)) ++ [.ref p2] ++ cutV zs (some ((h : Int) + 1)) none)) n6)) da5
    generalize upd H13 p6 (.lst (cutV zs none (some (h : Int)) ++ [.ref p2] ++ cutV zs (some ((h : Int) + 1)) none)) = H14 at fp6 lv B sc fp2 da1 da5 ⊢
    refine q _ p6 (rss.take h ++ [so] ++ rss.drop (h + 1)) _ B (sm_one hb sc) fp6 ?_ ?_ ?_
    · rw [List.map_append, List.map_append]
      exact dpAll_app' (dpAll_app' da1 (.cons (.lst (SqL.of fp2) (dp_ints so)) .nil)) da5
    · rw [List.length_append, List.length_append, List.length_take, List.length_drop]; simp only [List.length_cons, List.length_nil]; omega
    · intro r hr
      rcases List.mem_append.mp hr with z | z
      · rcases List.mem_append.mp z with y | y
        · have := br r (List.mem_of_mem_take y); exact ⟨by omega, this.2⟩
        · rw [List.mem_singleton.mp y]
          exact ⟨by rw [hp.length_eq]; exact lrow, fun n hn => brow n (hp.mem_iff.mp hn)⟩
      · have := br r (List.mem_of_mem_drop z); exact ⟨by omega, this.2⟩
abbrev s__law_wants_other : Stmt := topS 23
def n__law_wants_other : List Str := ["_law_box_here", "_law_wants", "_law_hour"]
theorem sc__law_wants_other : FnScope n__law_wants_other ["_law_box_here", "_law_wants"] (defScope s__law_wants_other) := ⟨rfl, rfl, rfl, by decide +kernel, rfl, by decide +kernel, by decide +kernel⟩
def spWother (K : PySem.W.Frag) : Sp := fun vs H Q _ => ∃ (b c : Addr) (ws : List Int), vs = [.ref b, .ref c] ∧ Bx H b ∧ off H [b] c = some (.lst (ws.map V.int)) ∧ ws.length ≤ 60 ∧ (∀ n ∈ ws, 0 ≤ n ∧ n ≤ 10) ∧
  ∀ (H' : Hp) (p : Addr) (us : List Int), Bx H' b → Sm [b] H H' → off H' [b] p = some (.lst (us.map V.int)) → us.length ≤ 60 → (∀ n ∈ us, 0 ≤ n ∧ n ≤ 10) → Q (.ref p) H'
theorem ok_wother {f : Addr} {fd : FuncData} {k : Nat} (F : Fun K "_law_wants_other" "_law_wants_other" s__law_wants_other f fd) (T : Txt mg) (c__law_take : Cl P w K mg base (k + 1) "_law_take" spTake) : FnOk P w K mg base CX0 (k + 2) f fd ["_law_box_here", "_law_wants"] (spWother K) := by
  refine F.ok sc__law_wants_other (fun vs H Q E h => ?_) (fun cdv A outer s H vs Q E hr h => ?_)
  · obtain ⟨b, c, ws, rfl, _⟩ := h
    rfl
  · obtain ⟨b, c, ws, rfl, B, fw, lw, bw, q⟩ := h
    have nd := sc__law_wants_other.nd
    have hu64 := hr.units
    refine ⟨_, (pss_cons (ps_if ((pw_or (pt_cmpR (ko_eq (K := K) hu64) (pv 1) (pe_lst pa_nil) (nomark _)) (pw_or1 (pt_cmpR op_eq (pe_cl c__law_take hr (by omega) (by rfl) (pa_cons (pv 0) (pa_cons pe_int pa_nil))) pe_int (nomark _))))).pt
          (pss_one (ps_ret (pe_ix (kx_list (K := K)) (pe_lst (pa_cons (pe_slice (kl_list (K := K)) (pe_op op_cat (pv 1) (pe_lst (pa_cons pe_int pa_nil))) po_none (po_some pe_int)) (pa_cons (pe_slice (kl_list (K := K)) (pv 1) po_none (po_some (pe_un un_neg pe_int))) pa_nil))) (pe_cl c__law_take hr (by omega) (by rfl) (pa_cons (pv 0) (pa_cons pe_int pa_nil))) (fun _ _ => rfl))))
          pss_nil)
      (pss_cons (ps_set (i := 2) nd rfl (.inl rfl) (pe_cl c__law_take hr (by omega) (by rfl) (pa_cons (pv 0) (pa_cons (pe_callB (kc_len (K := K)) (by rfl) T.len PySem.boot_len (pa_cons (pv 1) pa_nil)) pa_nil))))
      (pss_one (ps_ret (pe_op op_cat (pe_op op_cat (pe_slice (kl_list (K := K)) (pv 1) po_none (po_some (pv 2))) (pe_lst (pa_cons (pe_callB (call_min2 rfl) (by rfl) T.min (by decide +kernel) (pa_cons pe_int (pa_cons (pe_callB (call_max2 rfl) (by rfl) T.max (by decide +kernel) (pa_cons pe_int (pa_cons (pe_op op_add (pe_ix (kx_list (K := K)) (pv 1) (pv 2) (fun _ _ => rfl)) (pe_ix (kx_list (K := K)) (pe_lst (pa_cons pe_int (pa_cons (pe_un un_neg pe_int) pa_nil))) (pe_cl c__law_take hr (by omega) (by rfl) (pa_cons (pv 0) (pa_cons pe_int pa_nil))) (fun _ _ => rfl))) pa_nil))) pa_nil))) pa_nil))) (pe_slice (kl_list (K := K)) (pv 1) (po_some (pe_op op_add (pv 2) pe_int)) po_none)))))), ?_⟩
    have lv := Live.one B
    have sc : Sm [b] H H := Same.refl _
    obtain ⟨S, eS⟩ : ∃ S, S = [b] := ⟨_, rfl⟩
    have hb : b ∈ S := by rw [eS]; exact List.mem_cons_self
    rw [← eS] at fw lv q
    have cuts : ∀ (us : List Int) (lo hi : Option Int), ∃ vs : List Int, cutV (us.map V.int) lo hi = vs.map V.int ∧ (∀ n ∈ vs, n ∈ us) ∧ vs.length ≤ us.length := fun us lo hi =>
      ⟨_, cut_map V.int us lo hi, fun n hn => List.mem_of_mem_drop (List.mem_of_mem_take hn), by rw [List.length_take, List.length_drop]; omega⟩
    refine ⟨_, rfl, Nat.zero_le _, fun e0 ne0 => ?_⟩
    have f0 := off_new (o := .lst []) lv ne0
    have lv := lv.put (o := .lst []) ne0
    have B := B.put (o := .lst []) ne0
    have sc := sc.trans (sm_put (S := [b]) (o := .lst []) ne0)
    have fw := (sm_put (S := S) (o := .lst []) ne0) _ _ fw
    generalize upd H e0 (.lst []) = H1 at f0 lv B sc fw ⊢
    refine ⟨.list (ws.map PyData.int), .list [], .lst (SqL.of (at_off fw)) (dp_ints ws), .lst (SqL.of (at_off f0)) .nil, PySem.W.ke_shaped_ints ws, PySem.W.ke_shaped_ints [], _, rfl, ?_⟩
    by_cases he : ws = []
    · have ee : PyData.eqv (.list (ws.map PyData.int)) (.list []) = true := by rw [he]; rfl
      rw [ee]
      refine iteT (iteT ?_)
      obtain ⟨H2, eH⟩ : ∃ H2, H2 = H1 := ⟨_, rfl⟩
      rw [← eH] at fw lv B sc ⊢
      refine ⟨_, rfl, (by show 1 ≤ sizeLine; decide), fun e1 ne1 => ?_⟩
      have f1 := off_new (o := .lst [.int 0]) lv ne1
      have lv := lv.put (o := .lst [.int 0]) ne1
      have B := B.put (o := .lst [.int 0]) ne1
      have sc := sc.trans (sm_put (S := [b]) (o := .lst [.int 0]) ne1)
      have fw := (sm_put (S := S) (o := .lst [.int 0]) ne1) _ _ fw
      generalize upd H2 e1 (.lst [.int 0]) = H3 at f1 lv B sc fw ⊢
      refine ⟨c, e1, _, _, rfl, rfl, at_off fw, at_off f1, (by rw [List.length_map, sizeLine_eq]; simp only [List.length_cons, List.length_nil]; omega), fun e2 ne2 => ?_⟩
      have f2 := off_new (o := .lst (ws.map V.int ++ [.int 0])) lv ne2
      have lv := lv.put (o := .lst (ws.map V.int ++ [.int 0])) ne2
      have B := B.put (o := .lst (ws.map V.int ++ [.int 0])) ne2
      have sc := sc.trans (sm_put (S := [b]) (o := .lst (ws.map V.int ++ [.int 0])) ne2)
      have fw := (sm_put (S := S) (o := .lst (ws.map V.int ++ [.int 0])) ne2) _ _ fw
      generalize upd H3 e2 (.lst (ws.map V.int ++ [.int 0])) = H4 at f2 lv B sc fw ⊢
      have e20 : ws.map V.int ++ [V.int 0] = (ws ++ [0]).map V.int := by rw [List.map_append]; rfl
      rw [e20] at f2
      refine ⟨60, rfl, e2, _, rfl, SqL.of (at_off f2), fun e3 ne3 => ?_⟩
      obtain ⟨v3, ev3, m3, l3⟩ := cuts (ws ++ [0]) none (some 60)
      have l360 : v3.length ≤ 60 := by
        have : (cutV ((ws ++ [0]).map V.int) none (some 60)).length ≤ 60 := by
          rw [show (60 : Int) = ((60 : Nat) : Int) from rfl, cut_head]; exact List.length_take_le ..
        rw [ev3, List.length_map] at this
        exact this
      rw [ev3]
      have f3 := off_new (o := .lst (v3.map V.int)) lv ne3
      have lv := lv.put (o := .lst (v3.map V.int)) ne3
      have B := B.put (o := .lst (v3.map V.int)) ne3
      have sc := sc.trans (sm_put (S := [b]) (o := .lst (v3.map V.int)) ne3)
      have fw := (sm_put (S := S) (o := .lst (v3.map V.int)) ne3) _ _ fw
      generalize upd H4 e3 (.lst (v3.map V.int)) = H5 at f3 lv B sc fw ⊢
      refine ⟨_, rfl, 1, rfl, _, rfl, c, _, rfl, SqL.of (at_off fw), fun e4 ne4 => ?_⟩
      obtain ⟨v4, ev4, m4, l4⟩ := cuts ws none (some (-1))
      rw [ev4]
      have f4 := off_new (o := .lst (v4.map V.int)) lv ne4
      have lv := lv.put (o := .lst (v4.map V.int)) ne4
      have B := B.put (o := .lst (v4.map V.int)) ne4
      have sc := sc.trans (sm_put (S := [b]) (o := .lst (v4.map V.int)) ne4)
      have f3 := (sm_put (S := S) (o := .lst (v4.map V.int)) ne4) _ _ f3
      generalize upd H5 e4 (.lst (v4.map V.int)) = H6 at f4 lv B sc f3 ⊢
      refine ⟨(by show 2 ≤ sizeLine; decide), fun e5 ne5 => ?_⟩
      have f5 := off_new (o := .lst [.ref e3, .ref e4]) lv ne5
      have lv := lv.put (o := .lst [.ref e3, .ref e4]) ne5
      have B := B.put (o := .lst [.ref e3, .ref e4]) ne5
      have sc := sc.trans (sm_put (S := [b]) (o := .lst [.ref e3, .ref e4]) ne5)
      have f3 := (sm_put (S := S) (o := .lst [.ref e3, .ref e4]) ne5) _ _ f3
      have f4 := (sm_put (S := S) (o := .lst [.ref e3, .ref e4]) ne5) _ _ f4
      generalize upd H6 e5 (.lst [.ref e3, .ref e4]) = H7 at f5 lv B sc f3 f4 ⊢
      refine ⟨_, rfl, b, 2, rfl, (by decide), (by decide), B, fun H8 r8 c80 c81 B8 s8 => ?_⟩
      have lv := lv.box B8 s8
      have sc := sc.trans s8
      have B := B8
      have f3 := (sm_one hb s8) _ _ f3
      have f4 := (sm_one hb s8) _ _ f4
      have f5 := (sm_one hb s8) _ _ f5
      have hr : r8 = 0 ∨ r8 = 1 := by omega
      rcases hr with rfl | rfl
      · refine ⟨e5, _, 0, .ref e3, rfl, rfl, SqL.of (at_off f5), rfl, ?_⟩
        refine q _ e3 v3 B (sm_one hb sc) f3 l360 (fun n hn => ?_)
        rcases List.mem_append.mp (m3 n hn) with h | h
        · exact bw n h
        · rw [List.mem_singleton.mp h]; decide
      · refine ⟨e5, _, 1, .ref e4, rfl, rfl, SqL.of (at_off f5), rfl, ?_⟩
        exact q _ e4 v4 B (sm_one hb sc) f4 (by omega) (fun n hn => bw n (m4 n hn))
    have ee : PyData.eqv (.list (ws.map PyData.int)) (.list []) = false := by
      cases ws with
      | nil => exact absurd rfl he
      | cons _ _ => rfl
    rw [ee]
    have pos : 0 < ws.length := List.length_pos_iff.mpr he
    refine iteF ⟨_, rfl, b, 4, rfl, (by decide), (by decide), B, fun H2 r2 _ _ B2 s2 => ⟨rfl, _, rfl, ?_⟩⟩
    have lv := lv.box B2 s2
    have sc := sc.trans s2
    have B := B2
    have fw := (sm_one hb s2) _ _ fw
    refine ite2 (fun _ => ?_) (fun _ => ?_)
    ·
      refine ⟨_, rfl, (by show 1 ≤ sizeLine; decide), fun e1 ne1 => ?_⟩
      have f1 := off_new (o := .lst [.int 0]) lv ne1
      have lv := lv.put (o := .lst [.int 0]) ne1
      have B := B.put (o := .lst [.int 0]) ne1
      have sc := sc.trans (sm_put (S := [b]) (o := .lst [.int 0]) ne1)
      have fw := (sm_put (S := S) (o := .lst [.int 0]) ne1) _ _ fw
      generalize upd H2 e1 (.lst [.int 0]) = H3 at f1 lv B sc fw ⊢
      refine ⟨c, e1, _, _, rfl, rfl, at_off fw, at_off f1, (by rw [List.length_map, sizeLine_eq]; simp only [List.length_cons, List.length_nil]; omega), fun e2 ne2 => ?_⟩
      have f2 := off_new (o := .lst (ws.map V.int ++ [.int 0])) lv ne2
      have lv := lv.put (o := .lst (ws.map V.int ++ [.int 0])) ne2
      have B := B.put (o := .lst (ws.map V.int ++ [.int 0])) ne2
      have sc := sc.trans (sm_put (S := [b]) (o := .lst (ws.map V.int ++ [.int 0])) ne2)
      have fw := (sm_put (S := S) (o := .lst (ws.map V.int ++ [.int 0])) ne2) _ _ fw
      generalize upd H3 e2 (.lst (ws.map V.int ++ [.int 0])) = H4 at f2 lv B sc fw ⊢
      have e20 : ws.map V.int ++ [V.int 0] = (ws ++ [0]).map V.int := by rw [List.map_append]; rfl
      rw [e20] at f2
      refine ⟨60, rfl, e2, _, rfl, SqL.of (at_off f2), fun e3 ne3 => ?_⟩
      obtain ⟨v3, ev3, m3, l3⟩ := cuts (ws ++ [0]) none (some 60)
      have l360 : v3.length ≤ 60 := by
        have : (cutV ((ws ++ [0]).map V.int) none (some 60)).length ≤ 60 := by
          rw [show (60 : Int) = ((60 : Nat) : Int) from rfl, cut_head]; exact List.length_take_le ..
        rw [ev3, List.length_map] at this
        exact this
      rw [ev3]
      have f3 := off_new (o := .lst (v3.map V.int)) lv ne3
      have lv := lv.put (o := .lst (v3.map V.int)) ne3
      have B := B.put (o := .lst (v3.map V.int)) ne3
      have sc := sc.trans (sm_put (S := [b]) (o := .lst (v3.map V.int)) ne3)
      have fw := (sm_put (S := S) (o := .lst (v3.map V.int)) ne3) _ _ fw
      generalize upd H4 e3 (.lst (v3.map V.int)) = H5 at f3 lv B sc fw ⊢
      refine ⟨_, rfl, 1, rfl, _, rfl, c, _, rfl, SqL.of (at_off fw), fun e4 ne4 => ?_⟩
      obtain ⟨v4, ev4, m4, l4⟩ := cuts ws none (some (-1))
      rw [ev4]
      have f4 := off_new (o := .lst (v4.map V.int)) lv ne4
      have lv := lv.put (o := .lst (v4.map V.int)) ne4
      have B := B.put (o := .lst (v4.map V.int)) ne4
      have sc := sc.trans (sm_put (S := [b]) (o := .lst (v4.map V.int)) ne4)
      have f3 := (sm_put (S := S) (o := .lst (v4.map V.int)) ne4) _ _ f3
      generalize upd H5 e4 (.lst (v4.map V.int)) = H6 at f4 lv B sc f3 ⊢
      refine ⟨(by show 2 ≤ sizeLine; decide), fun e5 ne5 => ?_⟩
      have f5 := off_new (o := .lst [.ref e3, .ref e4]) lv ne5
      have lv := lv.put (o := .lst [.ref e3, .ref e4]) ne5
      have B := B.put (o := .lst [.ref e3, .ref e4]) ne5
      have sc := sc.trans (sm_put (S := [b]) (o := .lst [.ref e3, .ref e4]) ne5)
      have f3 := (sm_put (S := S) (o := .lst [.ref e3, .ref e4]) ne5) _ _ f3
      have f4 := (sm_put (S := S) (o := .lst [.ref e3, .ref e4]) ne5) _ _ f4
      generalize upd H6 e5 (.lst [.ref e3, .ref e4]) = H7 at f5 lv B sc f3 f4 ⊢
      refine ⟨_, rfl, b, 2, rfl, (by decide), (by decide), B, fun H8 r8 c80 c81 B8 s8 => ?_⟩
      have lv := lv.box B8 s8
      have sc := sc.trans s8
      have B := B8
      have f3 := (sm_one hb s8) _ _ f3
      have f4 := (sm_one hb s8) _ _ f4
      have f5 := (sm_one hb s8) _ _ f5
      have hr : r8 = 0 ∨ r8 = 1 := by omega
      rcases hr with rfl | rfl
      · refine ⟨e5, _, 0, .ref e3, rfl, rfl, SqL.of (at_off f5), rfl, ?_⟩
        refine q _ e3 v3 B (sm_one hb sc) f3 l360 (fun n hn => ?_)
        rcases List.mem_append.mp (m3 n hn) with h | h
        · exact bw n h
        · rw [List.mem_singleton.mp h]; decide
      · refine ⟨e5, _, 1, .ref e4, rfl, rfl, SqL.of (at_off f5), rfl, ?_⟩
        exact q _ e4 v4 B (sm_one hb sc) f4 (by omega) (fun n hn => bw n (m4 n hn))
    refine ⟨_, rfl, _, rfl, _, _, rfl, .inl ⟨_, SqL.of (at_off fw), rfl⟩, b, _, rfl, (by rw [List.length_map]; omega), (by rw [List.length_map]; omega), B, fun H3 ho c30 c31 B3 s3 => ?_⟩
    have lv := lv.box B3 s3
    have sc := sc.trans s3
    have B := B3
    have fw := (sm_one hb s3) _ _ fw
    rw [List.length_map] at c31
    obtain ⟨h, rfl⟩ : ∃ h : Nat, ho = (h : Int) := ⟨ho.toNat, by omega⟩
    have hh : h < ws.length := by omega
    refine ⟨_, rfl, _, rfl, _, rfl, c, _, rfl, SqL.of (at_off fw), fun p1 n1 => ?_⟩
    have e1 : cutV (ws.map V.int) none (some (h : Int)) = (ws.take h).map V.int := by rw [cut_head, List.map_take]
    rw [e1]
    have f1 := off_new (o := .lst ((ws.take h).map V.int)) lv n1
    have lv := lv.put (o := .lst ((ws.take h).map V.int)) n1
    have B := B.put (o := .lst ((ws.take h).map V.int)) n1
    have sc := sc.trans (sm_put (S := [b]) (o := .lst ((ws.take h).map V.int)) n1)
    have fw := (sm_put (S := S) (o := .lst ((ws.take h).map V.int)) n1) _ _ fw
    generalize upd H3 p1 (.lst ((ws.take h).map V.int)) = H4 at f1 lv B sc fw ⊢
    have gw : (ws.map V.int)[h]? = some (.int ws[h]) := by rw [List.getElem?_map, List.getElem?_eq_getElem hh]; rfl
    refine ⟨_, rfl, _, rfl, c, _, _, _, rfl, rfl, SqL.of (at_off fw), atI_nat gw, 1, rfl, (by show 2 ≤ sizeLine; decide), fun e2 ne2 => ?_⟩
    have f2 := off_new (o := .lst [.int 1, .int (-1)]) lv ne2
    have lv := lv.put (o := .lst [.int 1, .int (-1)]) ne2
    have B := B.put (o := .lst [.int 1, .int (-1)]) ne2
    have sc := sc.trans (sm_put (S := [b]) (o := .lst [.int 1, .int (-1)]) ne2)
    have fw := (sm_put (S := S) (o := .lst [.int 1, .int (-1)]) ne2) _ _ fw
    have f1 := (sm_put (S := S) (o := .lst [.int 1, .int (-1)]) ne2) _ _ f1
    generalize upd H4 e2 (.lst [.int 1, .int (-1)]) = H5 at f2 lv B sc fw f1 ⊢
    refine ⟨_, rfl, b, 2, rfl, (by decide), (by decide), B, fun H6 r6 c60 c61 B6 s6 => ?_⟩
    have lv := lv.box B6 s6
    have sc := sc.trans s6
    have B := B6
    have fw := (sm_one hb s6) _ _ fw
    have f1 := (sm_one hb s6) _ _ f1
    have f2 := (sm_one hb s6) _ _ f2
    obtain ⟨st, est⟩ : ∃ st : Int, atI [V.int 1, .int (-1)] r6 = some (.int st) := by
      have hr : r6 = 0 ∨ r6 = 1 := by omega
      rcases hr with rfl | rfl
      · exact ⟨1, rfl⟩
      · exact ⟨-1, rfl⟩
    refine ⟨e2, _, r6, _, rfl, rfl, SqL.of (at_off f2), est, _, _, rfl, rfl, _, _, rfl, _, _, rfl, (by show 1 ≤ sizeLine; decide), fun e3 ne3 => ?_⟩
    obtain ⟨nv, env, bnv⟩ : ∃ nv : Int, (if (if ws[h] + st > 0 then ws[h] + st else 0) < 10 then (if ws[h] + st > 0 then ws[h] + st else 0) else 10) = nv ∧ 0 ≤ nv ∧ nv ≤ 10 := ⟨_, rfl, by split <;> (try split) <;> omega, by split <;> (try split) <;> omega⟩
    rw [env]
    have f3 := off_new (o := .lst [.int nv]) lv ne3
    have lv := lv.put (o := .lst [.int nv]) ne3
    have B := B.put (o := .lst [.int nv]) ne3
    have sc := sc.trans (sm_put (S := [b]) (o := .lst [.int nv]) ne3)
    have fw := (sm_put (S := S) (o := .lst [.int nv]) ne3) _ _ fw
    have f1 := (sm_put (S := S) (o := .lst [.int nv]) ne3) _ _ f1
    generalize upd H6 e3 (.lst [.int nv]) = H7 at f3 lv B sc fw f1 ⊢
    refine ⟨p1, e3, _, _, rfl, rfl, at_off f1, at_off f3, (by rw [List.length_map, List.length_take, sizeLine_eq]; simp only [List.length_cons, List.length_nil]; omega), fun p4 n4 => ?_⟩
    have f4 := off_new (o := .lst ((ws.take h).map V.int ++ [.int nv])) lv n4
    have lv := lv.put (o := .lst ((ws.take h).map V.int ++ [.int nv])) n4
    have B := B.put (o := .lst ((ws.take h).map V.int ++ [.int nv])) n4
    have sc := sc.trans (sm_put (S := [b]) (o := .lst ((ws.take h).map V.int ++ [.int nv])) n4)
    have fw := (sm_put (S := S) (o := .lst ((ws.take h).map V.int ++ [.int nv])) n4) _ _ fw
    generalize upd H7 p4 (.lst ((ws.take h).map V.int ++ [.int nv])) = H8 at f4 lv B sc fw ⊢
    refine ⟨_, rfl, _, rfl, _, _, rfl, rfl, _, rfl, c, _, rfl, SqL.of (at_off fw), fun p5 n5 => ?_⟩
    have e5 : cutV (ws.map V.int) (some ((h : Int) + 1)) none = (ws.drop (h + 1)).map V.int := by
      rw [show some ((h : Int) + 1) = some (((h + 1 : Nat)) : Int) by congr 1, cut_tail, List.map_drop]
    rw [e5]
    have f5 := off_new (o := .lst ((ws.drop (h + 1)).map V.int)) lv n5
    have lv := lv.put (o := .lst ((ws.drop (h + 1)).map V.int)) n5
    have B := B.put (o := .lst ((ws.drop (h + 1)).map V.int)) n5
    have sc := sc.trans (sm_put (S := [b]) (o := .lst ((ws.drop (h + 1)).map V.int)) n5)
    have f4 := (sm_put (S := S) (o := .lst ((ws.drop (h + 1)).map V.int)) n5) _ _ f4
    generalize upd H8 p5 (.lst ((ws.drop (h + 1)).map V.int)) = H9 at f5 lv B sc f4 ⊢
    refine ⟨p4, p5, _, _, rfl, rfl, at_off f4, at_off f5, (by rw [List.length_append, List.length_map, List.length_map, List.length_take, List.length_drop, sizeLine_eq]; simp only [List.length_cons, List.length_nil]; omega), fun p6 n6 => ?_⟩
    have f6 := off_new (o := .lst ((ws.take h).map V.int ++ [.int nv] ++ (ws.drop (h + 1)).map V.int)) lv n6
    have lv := lv.put (o := .lst ((ws.take h).map V.int ++ [.int nv] ++ (ws.drop (h + 1)).map V.int)) n6
    have B := B.put (o := .lst ((ws.take h).map V.int ++ [.int nv] ++ (ws.drop (h + 1)).map V.int)) n6
    have sc := sc.trans (sm_put (S := [b]) (o := .lst ((ws.take h).map V.int ++ [.int nv] ++ (ws.drop (h + 1)).map V.int)) n6)
    generalize upd H9 p6 (.lst ((ws.take h).map V.int ++ [.int nv] ++ (ws.drop (h + 1)).map V.int)) = H10 at f6 lv B sc  ⊢
    have ef : (ws.take h).map V.int ++ [V.int nv] ++ (ws.drop (h + 1)).map V.int = (ws.take h ++ [nv] ++ ws.drop (h + 1)).map V.int := by rw [List.map_append, List.map_append]; rfl
    rw [ef] at f6
    refine q _ p6 _ B (sm_one hb sc) f6 ?_ ?_
    · rw [List.length_append, List.length_append, List.length_take, List.length_drop]; simp only [List.length_cons, List.length_nil]; omega
    · intro n hn
      rcases List.mem_append.mp hn with z | z
      · rcases List.mem_append.mp z with y | y
        · exact bw n (List.mem_of_mem_take y)
        · rw [List.mem_singleton.mp y]; exact bnv
      · exact bw n (List.mem_of_mem_drop z)

end
end Pot

namespace Pot
open PySem PySem.Spec PyProof.Rows L2
section
variable {P : Program} {w : World} {K : PySem.W.Frag} {mg : Str → Option Value} {base : Heap}
theorem ris_len {r : List Int} {N : Nat} (h : risI r = true) (b : ∀ n ∈ r, 0 ≤ n ∧ n ≤ ((N : Nat) : Int) - 1) : r.length ≤ N := by
  have nd : r.Nodup := (risI_pair.mp h).imp fun h e => by omega
  have := nodup_le (l := (List.range N).map fun (i : Nat) => (i : Int)) nd fun k hk => by
    obtain ⟨h0, h1⟩ := b k hk
    exact List.mem_map.mpr ⟨k.toNat, List.mem_range.mpr (by omega), by omega⟩
  rw [List.length_map, List.length_range] at this
  exact this
theorem drawn_true {os : List Off} {rss : List (List Int)} (D : Drawn os rss) : rowsD os (rss.map fun r => ((r.length : Nat) : Int)) (.list (rss.map intRow)) = true := by
  show (decide _ && (((List.range _).map _).all id && ((List.range _).map _).all id)) = true
  rw [Bool.and_eq_true_iff, Bool.and_eq_true_iff]
  refine ⟨decide_eq_true (by rw [List.length_map, List.length_map]), all_range.mpr fun i hi => ?_, all_range.mpr fun j hj => decide_eq_true (D.few j hj)⟩
  rw [List.length_map] at hi
  have gr := List.getElem?_eq_getElem hi
  obtain ⟨h1, h2⟩ := D.ris i _ gr
  rw [getD_at (show (rss.map fun r => ((r.length : Nat) : Int))[i]? = some _ by rw [List.getElem?_map, gr]; rfl), getD_at (show (rss.map intRow)[i]? = some _ by rw [List.getElem?_map, gr]; rfl)]
  unfold serveD
  have e : intsD (intRow rss[i]) = rss[i] := intsD_ints _
  rw [e, Bool.and_eq_true_iff, Bool.and_eq_true_iff]
  refine ⟨?_, decide_eq_true rfl, List.all_eq_true.mpr fun n hn => (h2 n hn).2.2⟩
  show (((rss[i]).map PyData.int).all (numD 0 _) && risI (((rss[i]).map PyData.int).map toI)) = true
  rw [show ((rss[i]).map PyData.int).map toI = rss[i] from e, h1, Bool.and_true, List.all_map, List.all_eq_true]
  intro n hn
  show (decide (0 ≤ n) && decide (n ≤ _)) = true
  rw [decide_eq_true (h2 n hn).1, decide_eq_true (h2 n hn).2.1]; rfl
theorem th_rows {rss : List (List Int)} (l : rss.length ≤ 60) (h : ∀ r ∈ rss, r.length ≤ 11 ∧ ∀ n ∈ r, 0 ≤ n ∧ n ≤ 10) : Th 60 1300000 2 60 (.list (rss.map intRow)) := by
  have row : ∀ r ∈ rss, Th 60 21156 1 60 (intRow r) := fun r hr => by
    obtain ⟨lr, br⟩ := h r hr
    have h1 : Ths 60 21153 0 60 (r.map PyData.int) := by
      have hc : costAll (r.map PyData.int) ≤ r.length * (1921 + 2) := costAll_map fun o _ => by show 1921 ≤ 1921; decide
      have := Nat.mul_le_mul_right 1923 lr
      refine ⟨fun d hd => ?_, by omega, fun d hd => ?_, fun d hd => ?_⟩ <;> obtain ⟨n, hn, rfl⟩ := List.mem_map.mp hd
      · have := br n hn; show n.natAbs ≤ 60; omega
      · exact Nat.le_refl _
      · exact Nat.zero_le _
    exact h1.list (by rw [List.length_map]; omega)
  have h2 : Ths 60 1269480 1 60 (rss.map intRow) := by
    have hc : costAll (rss.map intRow) ≤ rss.length * (21156 + 2) := costAll_map fun r hr => (row r hr).c
    have := Nat.mul_le_mul_right 21158 l
    refine ⟨fun d hd => ?_, by omega, fun d hd => ?_, fun d hd => ?_⟩ <;> obtain ⟨r, hr, rfl⟩ := List.mem_map.mp hd
    · exact (row r hr).g
    · exact (row r hr).d
    · exact (row r hr).w
  exact (h2.list (by rw [List.length_map]; exact l)).mono (Nat.le_refl _) (by decide) (Nat.le_refl _) (Nat.le_refl _)
def cS : Nat → Nat
  | 0 => 1300000
  | 1 => 2630000
  | _ => 5290000
def wS : Nat → Nat
  | 0 => 60
  | 1 => 183
  | _ => 552
abbrev s__law_right : Stmt := topS 24
def n__law_right : List Str := ["_law_box_here", "_law_hours", "_law_offers_here", "_law_rows", "_law_wants", "_law_turn", "_law_way", "_law_thing", "_law_wanted", "_law_step", "_law_row"]
theorem sc__law_right : FnScope n__law_right ["_law_box_here"] (defScope s__law_right) := ⟨rfl, rfl, rfl, by decide +kernel, rfl, by decide +kernel, by decide +kernel⟩
def spRight : Sp := fun vs H Q _ => ∃ (b : Addr), vs = [.ref b] ∧ Bx H b ∧ ∀ H', Bx H' b → Sm [b] H H' → Q (.bl true) H'
theorem ok_right {f : Addr} {fd : FuncData} {k : Nat} (F : Fun K "_law_right" "_law_right" s__law_right f fd) (T : Txt mg) (c__law_take : Cl P w K mg base (k + 1) "_law_take" spTake) (c__law_offers : Cl P w K mg base (k + 2) "_law_offers" (spOffers K)) (c__law_drawn_rows : Cl P w K mg base (k + 2) "_law_drawn_rows" (spDrawn K)) (c__law_other_rows : Cl P w K mg base (k + 2) "_law_other_rows" (spOther K)) (c__law_wants_other : Cl P w K mg base (k + 2) "_law_wants_other" (spWother K)) (c__law_odd : Cl P w K mg base (k + 2) "_law_odd" (spOdd K)) (c__law_bent : Cl P w K mg base (k + 14) "_law_bent" (spBent K 10))
    (c_shows_rows : Cl P w K mg base (k + 4) "shows_rows" (spShows K)) (c__law_told_right : ClG P w K mg base (k + 5) "_law_told_right" [] (spTold K)) : FnG P w K mg base (k + 15) f fd ["_law_box_here"] spRight := by
  refine okG F sc__law_right (fun vs H Q E h => ?_) (fun cdv A outer s H vs Q gd hr h => ?_)
  · obtain ⟨b, rfl, _⟩ := h
    rfl
  · obtain ⟨b, rfl, B, q⟩ := h
    have nd := sc__law_right.nd
    refine ⟨_, (pss_cons (ps_set (i := 1) nd rfl (.inl rfl) (pe_ix (kx_list (K := K)) (pe_lst (pa_cons pe_int (pa_cons pe_int pa_nil))) (pe_cl c__law_take hr (by omega) (by rfl) (pa_cons (pv 0) (pa_cons pe_int pa_nil))) (fun _ _ => rfl)))
      (pss_cons (ps_set (i := 2) nd rfl (.inl rfl) (pe_cl c__law_offers hr (by omega) (by rfl) (pa_cons (pv 0) (pa_cons pe_int (pa_cons (pv 1) pa_nil)))))
      (pss_cons (ps_set (i := 3) nd rfl (.inl rfl) (pe_cl c__law_drawn_rows hr (by omega) (by rfl) (pa_cons (pv 0) (pa_cons (pv 2) (pa_cons (pe_ifExp (pt_cmpR op_eq (pe_cl c__law_take hr (by omega) (by rfl) (pa_cons (pv 0) (pa_cons pe_int pa_nil))) pe_int (nomark _)) (pv 1) (pe_cl c__law_take hr (by omega) (by rfl) (pa_cons (pv 0) (pa_cons pe_int pa_nil)))) pa_nil)))))
      (pss_cons (ps_setLc (i := 4) (own := [("_law_row", 10)]) rfl nd rfl rfl (sw_true rfl rfl rfl (by decide +kernel)) (ki_list (K := K) (pv 3)) (blkOk_by (N := n__law_right) (sc := defScope s__law_right) (by decide +kernel)) (fun _ _ _ _ _ => (pg_name (i := 10) nd rfl (.inl rfl))) (fun _ _ _ _ _ => pts_nil) (fun _ _ _ _ _ => (pe_callB (kc_len (K := K)) (by rfl) T.len PySem.boot_len (pa_cons (pv 10) pa_nil))))
      (pss_cons (ps_if ((pw_or (pt_not (pt_val (pe_clG c__law_told_right hr gd (by omega) (by rfl) (pa_cons (pv 2) (pa_cons (pv 4) (pa_cons (pv 3) pa_nil)))))) (pw_or1 (pt_cmpR op_notBl (pe_cl c_shows_rows hr (by omega) (by rfl) (pa_cons (pv 2) (pa_cons (pv 4) (pa_cons (pv 3) pa_nil)))) pe_bl (nomark _))))).pt
          pss_never
          pss_nil)
      (pss_cons (ps_for PassesOwn.never rfl (pi_range1 (by rfl) T.range (pa_cons pe_int pa_nil)) (pg_name (i := 5) nd rfl (.inl rfl))
          (pss_cons (ps_par (i := 6) (j := 7) rfl nd rfl rfl (by decide) rfl rfl (pa_cons (pe_cl c__law_take hr (by omega) (by rfl) (pa_cons (pv 0) (pa_cons pe_int pa_nil))) (pa_cons (pv 3) pa_nil)) rfl)
          (pss_cons (ps_if (pt_cmpR op_eq (pv 6) pe_int (nomark _))
              (pss_cons (ps_set (i := 7) nd rfl (.inl rfl) (pe_cl c__law_other_rows hr (by omega) (by rfl) (pa_cons (pv 0) (pa_cons (pv 2) (pa_cons (pv 3) pa_nil)))))
              (pss_one (ps_set (i := 8) nd rfl (.inl rfl) (pe_ix (kx_list (K := K)) (pe_lst (pa_cons (pv 4) (pa_cons (pe_lc (own := [("_law_row", 10)]) rfl nd (ki_list (K := K) (pv 7)) (blkOk_by (N := n__law_right) (sc := defScope s__law_right) (by decide +kernel)) (fun _ _ _ _ _ => (pg_name (i := 10) nd rfl (.inl rfl))) (fun _ _ _ _ _ => pts_nil) (fun _ _ _ _ _ => (pe_callB (call_min2 rfl) (by rfl) T.min (by decide +kernel) (pa_cons pe_int (pa_cons (pe_callB (kc_len (K := K)) (by rfl) T.len PySem.boot_len (pa_cons (pv 10) pa_nil)) pa_nil))))) pa_nil))) (pe_cl c__law_take hr (by omega) (by rfl) (pa_cons (pv 0) (pa_cons pe_int pa_nil))) (fun _ _ => rfl)))))
              (pss_one (ps_if (pt_cmpR op_eq (pv 6) pe_int (nomark _))
                  (pss_one (ps_set (i := 8) nd rfl (.inl rfl) (pe_cl c__law_wants_other hr (by omega) (by rfl) (pa_cons (pv 0) (pa_cons (pv 4) pa_nil)))))
                  (pss_cons (ps_set (i := 8) nd rfl (.inl rfl) (pv 4))
                  (pss_one (ps_for PassesOwn.never rfl (pi_range1 (by rfl) T.range (pa_cons (pe_op op_add pe_int (pe_op op_mod (pv 6) pe_int)) pa_nil)) (pg_name (i := 9) nd rfl (.inl rfl))
                      (pss_one (ps_set (i := 7) nd rfl (.inl rfl) (pe_cl c__law_bent hr (by omega) (by rfl) (pa_cons (pv 0) (pa_cons (pv 7) pa_nil)))))))))))
          (pss_one (ps_if (pt_not (pt_val (pe_clG c__law_told_right hr gd (by omega) (by rfl) (pa_cons (pv 2) (pa_cons (pv 8) (pa_cons (pv 7) pa_nil))))))
              pss_never
              pss_nil)))))
      (pss_one (ps_ret (pe_clG c__law_told_right hr gd (by omega) (by rfl) (pa_cons (pv 2) (pa_cons (pv 4) (pa_cons (pe_cl c__law_odd hr (by omega) (by rfl) (pa_cons (pv 0) pa_nil)) pa_nil)))))))))))), ?_⟩
    have lv := Live.one B
    have sc : Sm [b] H H := Same.refl _
    obtain ⟨S, eS⟩ : ∃ S, S = [b] := ⟨_, rfl⟩
    have hb : b ∈ S := by rw [eS]; exact List.mem_cons_self
    rw [← eS] at lv
    have nS : ∀ {z : Addr}, z ≠ b → z ∉ S := fun h => by rw [eS]; exact fun e => h (List.mem_singleton.mp e)
    -- hours
    refine ⟨(by show 2 ≤ sizeLine; decide), fun e0 ne0 => ?_⟩
    have f0 := off_new (o := .lst [.int 60, .int 10]) lv ne0
    have lv := lv.put (o := .lst [.int 60, .int 10]) ne0
    have B := B.put (o := .lst [.int 60, .int 10]) ne0
    have sc := sc.trans (sm_put (S := [b]) (o := .lst [.int 60, .int 10]) ne0)
    generalize upd H e0 (.lst [.int 60, .int 10]) = H1 at f0 lv B sc  ⊢
    refine ⟨_, rfl, b, 2, rfl, (by decide), (by decide), B, fun H2 r2 c20 c21 B2 s2 => ?_⟩
    have lv := lv.box B2 s2
    have sc := sc.trans s2
    have B := B2
    have f0 := (sm_one hb s2) _ _ f0
    obtain ⟨hN, eh, h1, h60⟩ : ∃ hN : Nat, atI [V.int 60, .int 10] r2 = some (.int (hN : Nat)) ∧ 1 ≤ hN ∧ hN ≤ 60 := by
      have h : r2 = 0 ∨ r2 = 1 := by omega
      rcases h with rfl | rfl
      · exact ⟨60, rfl, by decide, by decide⟩
      · exact ⟨10, rfl, by decide, by decide⟩
    refine ⟨e0, _, r2, _, rfl, rfl, SqL.of (at_off f0), eh, ?_⟩
    -- offers
    refine ⟨_, rfl, _, rfl, b, hN, rfl, h1, h60, B, fun H3 ofp os xs B3 s3 nof hof dax lo oo => ?_⟩
    have lv := lv.box B3 s3
    have sc := sc.trans s3
    have B := B3
    have ofb : ofp ≠ b := fun z => by rw [z] at nof; obtain ⟨_, _, _, z2⟩ := B2; rw [z2] at nof; cases nof
    have fo : off H3 S ofp = some (.lst xs) := by rw [off_out (nS ofb)]; exact hof
    have dax : DpAll K (off H3 S) xs (os.map offD) := dpAll_same (off_mono (by rw [eS]; simp)) dax
    have lx : xs.length = os.length := by rw [dpAll_len dax, List.length_map]
    refine ⟨_, rfl, _, rfl, _, rfl, b, 2, rfl, (by decide), (by decide), B, fun H4 r4 _ _ B4 s4 => ⟨rfl, _, rfl, ?_⟩⟩
    have lv := lv.box B4 s4
    have sc := sc.trans s4
    have B := B4
    have fo := (sm_one hb s4) _ _ fo
    have dax := dpAll_same ((sm_one hb s4)) dax
    refine ite2 (fun _ => ?_) (fun _ => ?_)
    · refine ⟨_, rfl, ?_⟩
      obtain ⟨hR, ehR, hR60⟩ : ∃ hR : Nat, hR = hN ∧ hR ≤ 60 := ⟨_, rfl, h60⟩
      -- rows
      refine ⟨b, ofp, hR, xs, os, (by first | rfl | (subst_vars; rfl)), B, (by rw [← eS]; exact SqL.of fo), (by rw [← eS]; exact dax), lo, oo, hR60, fun H5 rp rss zs B5 s5 nrp hrp dz lr dr => ?_⟩
      have rpb : rp ≠ b := B.ne nrp
      have lv := lv.box B5 s5
      have sc := sc.trans s5
      have B := B5
      have fo := (sm_one hb s5) _ _ fo
      have dax := dpAll_same ((sm_one hb s5)) dax
      have fr : off H5 S rp = some (.lst zs) := by rw [off_out (nS rpb)]; exact hrp
      have daz : DpAll K (off H5 S) zs (rss.map intRow) := dpAll_same (off_mono (by rw [eS]; simp)) dz
      have lz : zs.length = rss.length := by rw [dpAll_len daz, List.length_map]
      have br : ∀ r ∈ rss, r.length ≤ 10 ∧ ∀ n ∈ r, 0 ≤ n ∧ n ≤ 10 := fun r hr => by
        obtain ⟨i, hi, e⟩ := List.mem_iff_getElem.mp hr
        obtain ⟨q1, q2⟩ := dr.ris i r (by rw [List.getElem?_eq_getElem hi, e])
        exact ⟨Nat.le_trans (ris_len q1 fun n hn => ⟨(q2 n hn).1, (q2 n hn).2.1⟩) lo, fun n hn => ⟨(q2 n hn).1, by have := (q2 n hn).2.1; omega⟩⟩
      have lr60 : rss.length ≤ 60 := by omega
      -- wants
      refine ⟨_, rfl, rp, rfl, ⟨_, SqL.of (at_off fr)⟩, fun wp nwp => ?_⟩
      refine lc_it (walk_list (xs := zs)) (PvL H5 wp fun i => ((rss.map fun r => ((r.length : Nat) : Int)).take i).map V.int) (pv_start nwp rfl) (fun i H6 _ h => SqL.of (h.1 _ _ (at_off fr))) ?_ ?_
      · rintro i x H6 H7 hi p ⟨rfl, gx⟩
        obtain ⟨d, gd, dp⟩ := dpAll_at daz gx
        rw [List.getElem?_map] at gd
        obtain ⟨r, gr, rfl⟩ := Option.map_eq_some_iff.mp gd
        obtain ⟨e, ys, rfl, hE, hy⟩ := dp_lst' dp
        refine ⟨rfl, tYes_at ?_⟩
        rw [if_pos rfl]
        refine ⟨_, rfl, _, r.length, rfl, .inl ⟨_, p.1.seq (sq_off hE), by rw [dpAll_len hy, List.length_map]⟩, ?_⟩
        exact pv_put nwp p (Same.refl _) (take_map V.int (by rw [List.getElem?_map, gr]; rfl)) (take_len_le (by rw [List.length_map]; omega))
      intro H6 p
      obtain ⟨s6, hw⟩ := pv_end p (take_all (by rw [List.length_map, lz]; exact Nat.le_refl _))
      have wn : wp ∉ S := lv.out nwp
      have lv := lv.same s6
      have sc := sc.trans (sm_of (S := [b]) s6)
      have B := B.same s6
      have fo := (sm_of (S := S) s6) _ _ fo
      have fr := (sm_of (S := S) s6) _ _ fr
      have dax := dpAll_same ((sm_of (S := S) s6)) dax
      have daz := dpAll_same ((sm_of (S := S) s6)) daz
      have dtrue := drawn_true dr
      have lw : (rss.map fun r => ((r.length : Nat) : Int)).length ≤ 60 := by rw [List.length_map]; omega
      have bw : ∀ n ∈ rss.map (fun r => ((r.length : Nat) : Int)), 0 ≤ n ∧ n ≤ 10 := fun n hn => by
        obtain ⟨r, hr, rfl⟩ := List.mem_map.mp hn
        have := (br r hr).1
        omega
      generalize rss.map (fun r => ((r.length : Nat) : Int)) = ws at hw dtrue lw bw
      have fw : off H6 S wp = some (.lst (ws.map V.int)) := by rw [off_out wn]; exact hw
      have thr := th_rows lr60 (fun r hr => ⟨by have := (br r hr).1; omega, (br r hr).2⟩)
      have dpr : Dp K (off H6 S) (.ref rp) (.list (rss.map intRow)) := .lst (SqL.of fr) daz
      refine ⟨_, rfl, _, rfl, _, rfl, ofp, wp, xs, os, ws, .ref rp, _, rfl, SqL.of (at_off fo), dpAll_same off_sub dax, lo, oo, SqL.of (at_off fw), lw, bw, dp_off dpr, thr.mono (by decide) (by decide) (by decide) (by decide), fun H7 s7 => ⟨_, rfl, iteF ?_⟩⟩
      have lv := lv.same s7
      have sc := sc.trans (sm_of (S := [b]) s7)
      have B := B.same s7
      have fo := (sm_of (S := S) s7) _ _ fo
      have fr := (sm_of (S := S) s7) _ _ fr
      have fw := (sm_of (S := S) s7) _ _ fw
      have dax := dpAll_same ((sm_of (S := S) s7)) dax
      have daz := dpAll_same ((sm_of (S := S) s7)) daz
      have dpr := dp_same ((sm_of (S := S) s7)) dpr
      refine ⟨_, rfl, _, rfl, _, rfl, ofp, wp, xs, os, ws, .ref rp, _, rfl, SqL.of (at_off fo), dpAll_same off_sub dax, by omega, SqL.of (at_off fw), lw, dp_off dpr, Nat.le_trans thr.w (by decide), fun H8 s8 => ?_⟩
      have lv := lv.same s8
      have sc := sc.trans (sm_of (S := [b]) s8)
      have B := B.same s8
      have fo := (sm_of (S := S) s8) _ _ fo
      have fr := (sm_of (S := S) s8) _ _ fr
      have fw := (sm_of (S := S) s8) _ _ fw
      have dax := dpAll_same ((sm_of (S := S) s8)) dax
      have daz := dpAll_same ((sm_of (S := S) s8)) daz
      have dpr := dp_same ((sm_of (S := S) s8)) dpr
      rw [dtrue]
      refine ⟨_, _, rfl, rfl, _, rfl, iteF ?_⟩
      -- the turns
      refine ⟨_, rfl, (by decide), (by decide), ?_⟩
      refine for_it walk_range (fun i σ H14 => ∃ v5 v6 v7 v8 v9, σ = [some (.ref b), some (.int (hN : Nat)), some (.ref ofp), some (.ref rp), some (.ref wp), v5, v6, v7, v8, v9, none] ∧ Bx H14 b ∧ Sm [b] H8 H14) ⟨none, none, none, none, none, rfl, B, Same.refl _⟩ (fun _ _ _ _ _ => trivial) ?_ ?_
      · rintro i x σ H14 H15 hi ⟨v5, v6, v7, v8, v9, rfl, B14, s14⟩ ⟨rfl, rfl⟩
        refine ⟨_, rfl, b, 8, rfl, (by decide), (by decide), B14, fun H16 way w0 w1 B16 s16 => ⟨_, rfl, _, _, rfl, ?_⟩⟩
        have s16 := s14.trans s16
        have fo16 := sm_one hb s16 _ _ fo
        have fr16 := sm_one hb s16 _ _ fr
        have fw16 := sm_one hb s16 _ _ fw
        have dax16 := dpAll_same (sm_one hb s16) dax
        have daz16 := dpAll_same (sm_one hb s16) daz
        have dpr16 := dp_same (sm_one hb s16) dpr
        have lv16 := Live.one B16
        rw [← eS] at lv16
        refine ⟨_, rfl, rfl, _, rfl, ite2 (fun hw0 => ?_) (fun hw0 => ?_)⟩
        · refine ⟨_, rfl, _, rfl, _, rfl, b, ofp, rp, xs, zs, os, rss, rfl, B16, (by rw [← eS]; exact SqL.of fo16), lx, lo, (by rw [← eS]; exact SqL.of fr16), (by rw [← eS]; exact daz16), lr60, br, fun H17 tp rs2 zs2 B17 s17 ftp dz2 lr2 br2 => ?_⟩
          have s17 := s16.trans s17
          have fw17 := sm_one hb s17 _ _ fw
          rw [← eS] at ftp dz2
          have lz2 : zs2.length = rs2.length := by rw [dpAll_len dz2, List.length_map]
          have lv17 := Live.one B17
          rw [← eS] at lv17
          refine ⟨_, rfl, _, rfl, tp, rfl, ⟨_, SqL.of (at_off ftp)⟩, fun D nD => ?_⟩
          refine lc_it (walk_list (xs := zs2)) (PvL H17 D fun i => ((rs2.map fun r => (if ((r.length : Nat) : Int) < 10 then ((r.length : Nat) : Int) else 10)).take i).map V.int) (pv_start nD rfl) (fun i H18 _ h => SqL.of (h.1 _ _ (at_off ftp))) ?_ ?_
          · rintro i x H18 H19 hi p ⟨rfl, gx⟩
            obtain ⟨d, gd, dp⟩ := dpAll_at dz2 gx
            rw [List.getElem?_map] at gd
            obtain ⟨r, gr, rfl⟩ := Option.map_eq_some_iff.mp gd
            obtain ⟨e, ys, rfl, hE, hy⟩ := dp_lst' dp
            refine ⟨rfl, tYes_at ?_⟩
            rw [if_pos rfl]
            refine ⟨_, rfl, _, r.length, rfl, .inl ⟨_, p.1.seq (sq_off hE), by rw [dpAll_len hy, List.length_map]⟩, _, _, rfl, ?_⟩
            exact pv_put nD p (Same.refl _) (take_map V.int (by rw [List.getElem?_map, gr]; rfl)) (take_len_le (by rw [List.length_map]; omega))
          intro H18 p
          obtain ⟨s18, hD⟩ := pv_end p (take_all (by rw [List.length_map, lz2]; exact Nat.le_refl _))
          have lu : (rs2.map fun r => (if ((r.length : Nat) : Int) < 10 then ((r.length : Nat) : Int) else 10)).length ≤ 60 := by rw [List.length_map]; exact lr2
          have bu : ∀ n ∈ rs2.map (fun r => (if ((r.length : Nat) : Int) < 10 then ((r.length : Nat) : Int) else 10)), 0 ≤ n ∧ n ≤ 10 := fun n hn => by
            obtain ⟨r, hr, rfl⟩ := List.mem_map.mp hn
            split <;> omega
          generalize rs2.map (fun r => (if ((r.length : Nat) : Int) < 10 then ((r.length : Nat) : Int) else 10)) = us2 at hD lu bu
          have Dn : D ∉ S := lv17.out nD
          have fD : off H18 S D = some (.lst (us2.map V.int)) := by rw [off_out Dn]; exact hD
          have fw18 := sm_of (S := S) s18 _ _ fw17
          have ftp := sm_of (S := S) s18 _ _ ftp
          have dz2 := dpAll_same (sm_of (S := S) s18) dz2
          have B18 := B17.same s18
          have s18 := s17.trans (sm_of s18)
          refine ⟨(by show 2 ≤ sizeLine; decide), fun e1 ne1 => ?_⟩
          have lv18 := Live.one B18
          rw [← eS] at lv18
          have fe := off_new (o := .lst [.ref wp, .ref D]) lv18 ne1
          have fD := sm_put (S := S) (o := .lst [.ref wp, .ref D]) ne1 _ _ fD
          have fw18 := sm_put (S := S) (o := .lst [.ref wp, .ref D]) ne1 _ _ fw18
          have ftp := sm_put (S := S) (o := .lst [.ref wp, .ref D]) ne1 _ _ ftp
          have dz2 := dpAll_same (sm_put (S := S) (o := .lst [.ref wp, .ref D]) ne1) dz2
          have B18 := B18.put (o := .lst [.ref wp, .ref D]) ne1
          have s18 := s18.trans (sm_put (S := [b]) (o := .lst [.ref wp, .ref D]) ne1)
          generalize upd H18 e1 (.lst [.ref wp, .ref D]) = H19 at fe fD fw18 ftp dz2 B18 s18 ⊢
          refine ⟨_, rfl, b, 2, rfl, (by decide), (by decide), B18, fun H20 r20 c200 c201 B20 s20 => ?_⟩
          have fe := sm_one hb s20 _ _ fe
          have fD := sm_one hb s20 _ _ fD
          have fw20 := sm_one hb s20 _ _ fw18
          have ftp := sm_one hb s20 _ _ ftp
          have dz2 := dpAll_same (sm_one hb s20) dz2
          have s20 := s18.trans s20
          have px : Dp K (off H20 S) (.ref tp) (.list (rs2.map intRow)) := .lst (SqL.of ftp) dz2
          have tx := (th_rows lr2 br2).mono (show 60 ≤ 1000 by decide) (show 1300000 ≤ 6000000 by decide) (show 2 ≤ 20 by decide) (show 60 ≤ 1000 by decide)
          obtain ⟨x20, ex20⟩ : ∃ x20, x20 = V.ref tp := ⟨_, rfl⟩
          generalize PyData.list (rs2.map intRow) = d20 at px tx
          rw [← ex20] at px ⊢
          have hr2 : r20 = 0 ∨ r20 = 1 := by omega
          rcases hr2 with rfl | rfl
          · refine ⟨e1, _, 0, .ref wp, rfl, rfl, SqL.of (at_off fe), rfl, ?_⟩
            obtain ⟨wq, ewq⟩ : ∃ wq, wq = wp := ⟨_, rfl⟩
            obtain ⟨us, eus⟩ : ∃ us, us = ws := ⟨_, rfl⟩
            have fq := fw20
            have lq := lw
            have bq := bw
            rw [← ewq, ← eus] at fq
            rw [← eus] at lq bq
            have fo20 := sm_one hb s20 _ _ fo
            have dax20 := dpAll_same (sm_one hb s20) dax
            refine ⟨_, rfl, _, rfl, _, rfl, ofp, wq, xs, os, us, x20, d20, (by first | rfl | (subst_vars; rfl)), SqL.of (at_off fo20), dpAll_same off_sub dax20, lo, oo, SqL.of (at_off fq), lq, bq, dp_off px, tx, fun H21 s21 => ⟨_, rfl, iteF ?_⟩⟩
            exact ⟨_, _, _, _, _, rfl, B20.same s21, s20.trans (sm_of s21)⟩
          · refine ⟨e1, _, 1, .ref D, rfl, rfl, SqL.of (at_off fe), rfl, ?_⟩
            obtain ⟨wq, ewq⟩ : ∃ wq, wq = D := ⟨_, rfl⟩
            obtain ⟨us, eus⟩ : ∃ us, us = us2 := ⟨_, rfl⟩
            have fq := fD
            have lq := lu
            have bq := bu
            rw [← ewq, ← eus] at fq
            rw [← eus] at lq bq
            have fo20 := sm_one hb s20 _ _ fo
            have dax20 := dpAll_same (sm_one hb s20) dax
            refine ⟨_, rfl, _, rfl, _, rfl, ofp, wq, xs, os, us, x20, d20, (by first | rfl | (subst_vars; rfl)), SqL.of (at_off fo20), dpAll_same off_sub dax20, lo, oo, SqL.of (at_off fq), lq, bq, dp_off px, tx, fun H21 s21 => ⟨_, rfl, iteF ?_⟩⟩
            exact ⟨_, _, _, _, _, rfl, B20.same s21, s20.trans (sm_of s21)⟩
        refine ⟨_, rfl, rfl, _, rfl, ite2 (fun hw1 => ?_) (fun hw1 => ?_)⟩
        · refine ⟨_, rfl, _, rfl, b, wp, ws, rfl, B16, (by rw [← eS]; exact fw16), lw, bw, fun H20 wq us B20 s20 fq lq bq => ?_⟩
          rw [← eS] at fq
          have px := dp_same (sm_one hb s20) dpr16
          have s20 := s16.trans s20
          have tx := thr.mono (show 60 ≤ 1000 by decide) (show 1300000 ≤ 6000000 by decide) (show 2 ≤ 20 by decide) (show 60 ≤ 1000 by decide)
          obtain ⟨x20, ex20⟩ : ∃ x20, x20 = V.ref rp := ⟨_, rfl⟩
          obtain ⟨d20, ed20⟩ : ∃ d20, d20 = PyData.list (rss.map intRow) := ⟨_, rfl⟩
          rw [← ed20] at px tx
          rw [← ex20] at px
          have fo20 := sm_one hb s20 _ _ fo
          have dax20 := dpAll_same (sm_one hb s20) dax
          refine ⟨_, rfl, _, rfl, _, rfl, ofp, wq, xs, os, us, x20, d20, (by first | rfl | (subst_vars; rfl)), SqL.of (at_off fo20), dpAll_same off_sub dax20, lo, oo, SqL.of (at_off fq), lq, bq, dp_off px, tx, fun H21 s21 => ⟨_, rfl, iteF ?_⟩⟩
          exact ⟨_, _, _, _, _, rfl, B20.same s21, s20.trans (sm_of s21)⟩
        · refine ⟨_, rfl, ?_⟩
          refine ⟨_, rfl, _, _, rfl, rfl, (by show (0 : Int) < 2; decide), _, _, rfl, rfl, _, rfl, (by omega), (by omega), ?_⟩
          refine for_it walk_range (fun j σ H17 => ∃ v9 x d, σ = [some (.ref b), some (.int (hN : Nat)), some (.ref ofp), some (.ref rp), some (.ref wp), some (.int (0 + (i : Nat))), some (.int way), some x, some (.ref wp), v9, none] ∧ Bx H17 b ∧ Sm [b] H8 H17 ∧ Dp K (off H17 S) x d ∧ Th (60 + j) (cS j) (2 + 2 * j) (wS j) d) ⟨_, _, _, rfl, B16, s16, dpr16, thr⟩ (fun _ _ _ _ _ => trivial) ?_ ?_
          · rintro j y σ H17 H18 hj ⟨v9, x, d, rfl, B17, s17, px, tx⟩ ⟨rfl, rfl⟩
            have hj2 : j = 0 ∨ j = 1 := by omega
            have lv17 := Live.one B17
            rw [← eS] at lv17
            refine ⟨_, rfl, _, rfl, b, S, x, d, _, _, _, _, rfl, hb, lv17, B17, px, tx, by omega, by omega, (by rcases hj2 with rfl | rfl <;> decide), (by rcases hj2 with rfl | rfl <;> decide), (by have := tx.d; omega), fun H19 r d' B19 s19 pr tr => ?_⟩
            refine ⟨_, _, d', rfl, B19, s17.trans s19, pr, tr.mono (by omega) ?_ (by omega) ?_⟩
            · rcases hj2 with rfl | rfl <;> decide
            · rcases hj2 with rfl | rfl <;> decide
          · rintro σ H20 ⟨v9, x20, d20, rfl, B20, s20, px, tx0⟩
            have hn2 : (1 + way % 2).toNat = 1 ∨ (1 + way % 2).toNat = 2 := by omega
            have tx : Th 1000 6000000 20 1000 d20 := by
              rcases hn2 with e | e <;> rw [e] at tx0
              · exact tx0.mono (by decide) (by decide) (by decide) (by decide)
              · exact tx0.mono (by decide) (by decide) (by decide) (by decide)
            obtain ⟨wq, ewq⟩ : ∃ wq, wq = wp := ⟨_, rfl⟩
            obtain ⟨us, eus⟩ : ∃ us, us = ws := ⟨_, rfl⟩
            have fq := sm_one hb s20 _ _ fw
            have lq := lw
            have bq := bw
            rw [← ewq, ← eus] at fq
            rw [← eus] at lq bq
            have fo20 := sm_one hb s20 _ _ fo
            have dax20 := dpAll_same (sm_one hb s20) dax
            refine ⟨_, rfl, _, rfl, _, rfl, ofp, wq, xs, os, us, x20, d20, (by first | rfl | (subst_vars; rfl)), SqL.of (at_off fo20), dpAll_same off_sub dax20, lo, oo, SqL.of (at_off fq), lq, bq, dp_off px, tx, fun H21 s21 => ⟨_, rfl, iteF ?_⟩⟩
            exact ⟨_, _, _, _, _, rfl, B20.same s21, s20.trans (sm_of s21)⟩
      · rintro σ H14 ⟨v5, v6, v7, v8, v9, rfl, B14, s14⟩
        have lv := lv.box B14 s14
        have sc := sc.trans s14
        have B := B14
        have fo := (sm_one hb s14) _ _ fo
        have fw := (sm_one hb s14) _ _ fw
        have dax := dpAll_same ((sm_one hb s14)) dax
        refine ⟨_, rfl, _, rfl, _, rfl, b, S, rfl, hb, lv, B, fun Hf r dr2 Bf sf pr tr => ?_⟩
        have lv := lv.box Bf sf
        have sc := sc.trans sf
        have B := Bf
        have fo := (sm_one hb sf) _ _ fo
        have fw := (sm_one hb sf) _ _ fw
        have dax := dpAll_same ((sm_one hb sf)) dax
        refine ⟨ofp, wp, xs, os, ws, r, dr2, rfl, SqL.of (at_off fo), dpAll_same off_sub dax, lo, oo, SqL.of (at_off fw), lw, bw, dp_off pr, tr.mono (by decide) (by decide) (by decide) (by decide), fun Hg sg => ?_⟩
        exact q _ (B.same sg) (sc.trans (sm_of sg))
    · refine ⟨_, rfl, b, 11, rfl, (by decide), (by decide), B, fun H4b r4b c4b0 c4b1 B4b s4b => ?_⟩
      have lv := lv.box B4b s4b
      have sc := sc.trans s4b
      have B := B4b
      have fo := (sm_one hb s4b) _ _ fo
      have dax := dpAll_same ((sm_one hb s4b)) dax
      obtain ⟨hR, rfl⟩ : ∃ hR : Nat, r4b = (hR : Int) := ⟨r4b.toNat, by omega⟩
      have hR60 : hR ≤ 60 := by omega
      -- rows
      refine ⟨b, ofp, hR, xs, os, (by first | rfl | (subst_vars; rfl)), B, (by rw [← eS]; exact SqL.of fo), (by rw [← eS]; exact dax), lo, oo, hR60, fun H5 rp rss zs B5 s5 nrp hrp dz lr dr => ?_⟩
      have rpb : rp ≠ b := B.ne nrp
      have lv := lv.box B5 s5
      have sc := sc.trans s5
      have B := B5
      have fo := (sm_one hb s5) _ _ fo
      have dax := dpAll_same ((sm_one hb s5)) dax
      have fr : off H5 S rp = some (.lst zs) := by rw [off_out (nS rpb)]; exact hrp
      have daz : DpAll K (off H5 S) zs (rss.map intRow) := dpAll_same (off_mono (by rw [eS]; simp)) dz
      have lz : zs.length = rss.length := by rw [dpAll_len daz, List.length_map]
      have br : ∀ r ∈ rss, r.length ≤ 10 ∧ ∀ n ∈ r, 0 ≤ n ∧ n ≤ 10 := fun r hr => by
        obtain ⟨i, hi, e⟩ := List.mem_iff_getElem.mp hr
        obtain ⟨q1, q2⟩ := dr.ris i r (by rw [List.getElem?_eq_getElem hi, e])
        exact ⟨Nat.le_trans (ris_len q1 fun n hn => ⟨(q2 n hn).1, (q2 n hn).2.1⟩) lo, fun n hn => ⟨(q2 n hn).1, by have := (q2 n hn).2.1; omega⟩⟩
      have lr60 : rss.length ≤ 60 := by omega
      -- wants
      refine ⟨_, rfl, rp, rfl, ⟨_, SqL.of (at_off fr)⟩, fun wp nwp => ?_⟩
      refine lc_it (walk_list (xs := zs)) (PvL H5 wp fun i => ((rss.map fun r => ((r.length : Nat) : Int)).take i).map V.int) (pv_start nwp rfl) (fun i H6 _ h => SqL.of (h.1 _ _ (at_off fr))) ?_ ?_
      · rintro i x H6 H7 hi p ⟨rfl, gx⟩
        obtain ⟨d, gd, dp⟩ := dpAll_at daz gx
        rw [List.getElem?_map] at gd
        obtain ⟨r, gr, rfl⟩ := Option.map_eq_some_iff.mp gd
        obtain ⟨e, ys, rfl, hE, hy⟩ := dp_lst' dp
        refine ⟨rfl, tYes_at ?_⟩
        rw [if_pos rfl]
        refine ⟨_, rfl, _, r.length, rfl, .inl ⟨_, p.1.seq (sq_off hE), by rw [dpAll_len hy, List.length_map]⟩, ?_⟩
        exact pv_put nwp p (Same.refl _) (take_map V.int (by rw [List.getElem?_map, gr]; rfl)) (take_len_le (by rw [List.length_map]; omega))
      intro H6 p
      obtain ⟨s6, hw⟩ := pv_end p (take_all (by rw [List.length_map, lz]; exact Nat.le_refl _))
      have wn : wp ∉ S := lv.out nwp
      have lv := lv.same s6
      have sc := sc.trans (sm_of (S := [b]) s6)
      have B := B.same s6
      have fo := (sm_of (S := S) s6) _ _ fo
      have fr := (sm_of (S := S) s6) _ _ fr
      have dax := dpAll_same ((sm_of (S := S) s6)) dax
      have daz := dpAll_same ((sm_of (S := S) s6)) daz
      have dtrue := drawn_true dr
      have lw : (rss.map fun r => ((r.length : Nat) : Int)).length ≤ 60 := by rw [List.length_map]; omega
      have bw : ∀ n ∈ rss.map (fun r => ((r.length : Nat) : Int)), 0 ≤ n ∧ n ≤ 10 := fun n hn => by
        obtain ⟨r, hr, rfl⟩ := List.mem_map.mp hn
        have := (br r hr).1
        omega
      generalize rss.map (fun r => ((r.length : Nat) : Int)) = ws at hw dtrue lw bw
      have fw : off H6 S wp = some (.lst (ws.map V.int)) := by rw [off_out wn]; exact hw
      have thr := th_rows lr60 (fun r hr => ⟨by have := (br r hr).1; omega, (br r hr).2⟩)
      have dpr : Dp K (off H6 S) (.ref rp) (.list (rss.map intRow)) := .lst (SqL.of fr) daz
      refine ⟨_, rfl, _, rfl, _, rfl, ofp, wp, xs, os, ws, .ref rp, _, rfl, SqL.of (at_off fo), dpAll_same off_sub dax, lo, oo, SqL.of (at_off fw), lw, bw, dp_off dpr, thr.mono (by decide) (by decide) (by decide) (by decide), fun H7 s7 => ⟨_, rfl, iteF ?_⟩⟩
      have lv := lv.same s7
      have sc := sc.trans (sm_of (S := [b]) s7)
      have B := B.same s7
      have fo := (sm_of (S := S) s7) _ _ fo
      have fr := (sm_of (S := S) s7) _ _ fr
      have fw := (sm_of (S := S) s7) _ _ fw
      have dax := dpAll_same ((sm_of (S := S) s7)) dax
      have daz := dpAll_same ((sm_of (S := S) s7)) daz
      have dpr := dp_same ((sm_of (S := S) s7)) dpr
      refine ⟨_, rfl, _, rfl, _, rfl, ofp, wp, xs, os, ws, .ref rp, _, rfl, SqL.of (at_off fo), dpAll_same off_sub dax, by omega, SqL.of (at_off fw), lw, dp_off dpr, Nat.le_trans thr.w (by decide), fun H8 s8 => ?_⟩
      have lv := lv.same s8
      have sc := sc.trans (sm_of (S := [b]) s8)
      have B := B.same s8
      have fo := (sm_of (S := S) s8) _ _ fo
      have fr := (sm_of (S := S) s8) _ _ fr
      have fw := (sm_of (S := S) s8) _ _ fw
      have dax := dpAll_same ((sm_of (S := S) s8)) dax
      have daz := dpAll_same ((sm_of (S := S) s8)) daz
      have dpr := dp_same ((sm_of (S := S) s8)) dpr
      rw [dtrue]
      refine ⟨_, _, rfl, rfl, _, rfl, iteF ?_⟩
      -- the turns
      refine ⟨_, rfl, (by decide), (by decide), ?_⟩
      refine for_it walk_range (fun i σ H14 => ∃ v5 v6 v7 v8 v9, σ = [some (.ref b), some (.int (hN : Nat)), some (.ref ofp), some (.ref rp), some (.ref wp), v5, v6, v7, v8, v9, none] ∧ Bx H14 b ∧ Sm [b] H8 H14) ⟨none, none, none, none, none, rfl, B, Same.refl _⟩ (fun _ _ _ _ _ => trivial) ?_ ?_
      · rintro i x σ H14 H15 hi ⟨v5, v6, v7, v8, v9, rfl, B14, s14⟩ ⟨rfl, rfl⟩
        refine ⟨_, rfl, b, 8, rfl, (by decide), (by decide), B14, fun H16 way w0 w1 B16 s16 => ⟨_, rfl, _, _, rfl, ?_⟩⟩
        have s16 := s14.trans s16
        have fo16 := sm_one hb s16 _ _ fo
        have fr16 := sm_one hb s16 _ _ fr
        have fw16 := sm_one hb s16 _ _ fw
        have dax16 := dpAll_same (sm_one hb s16) dax
        have daz16 := dpAll_same (sm_one hb s16) daz
        have dpr16 := dp_same (sm_one hb s16) dpr
        have lv16 := Live.one B16
        rw [← eS] at lv16
        refine ⟨_, rfl, rfl, _, rfl, ite2 (fun hw0 => ?_) (fun hw0 => ?_)⟩
        · refine ⟨_, rfl, _, rfl, _, rfl, b, ofp, rp, xs, zs, os, rss, rfl, B16, (by rw [← eS]; exact SqL.of fo16), lx, lo, (by rw [← eS]; exact SqL.of fr16), (by rw [← eS]; exact daz16), lr60, br, fun H17 tp rs2 zs2 B17 s17 ftp dz2 lr2 br2 => ?_⟩
          have s17 := s16.trans s17
          have fw17 := sm_one hb s17 _ _ fw
          rw [← eS] at ftp dz2
          have lz2 : zs2.length = rs2.length := by rw [dpAll_len dz2, List.length_map]
          have lv17 := Live.one B17
          rw [← eS] at lv17
          refine ⟨_, rfl, _, rfl, tp, rfl, ⟨_, SqL.of (at_off ftp)⟩, fun D nD => ?_⟩
          refine lc_it (walk_list (xs := zs2)) (PvL H17 D fun i => ((rs2.map fun r => (if ((r.length : Nat) : Int) < 10 then ((r.length : Nat) : Int) else 10)).take i).map V.int) (pv_start nD rfl) (fun i H18 _ h => SqL.of (h.1 _ _ (at_off ftp))) ?_ ?_
          · rintro i x H18 H19 hi p ⟨rfl, gx⟩
            obtain ⟨d, gd, dp⟩ := dpAll_at dz2 gx
            rw [List.getElem?_map] at gd
            obtain ⟨r, gr, rfl⟩ := Option.map_eq_some_iff.mp gd
            obtain ⟨e, ys, rfl, hE, hy⟩ := dp_lst' dp
            refine ⟨rfl, tYes_at ?_⟩
            rw [if_pos rfl]
            refine ⟨_, rfl, _, r.length, rfl, .inl ⟨_, p.1.seq (sq_off hE), by rw [dpAll_len hy, List.length_map]⟩, _, _, rfl, ?_⟩
            exact pv_put nD p (Same.refl _) (take_map V.int (by rw [List.getElem?_map, gr]; rfl)) (take_len_le (by rw [List.length_map]; omega))
          intro H18 p
          obtain ⟨s18, hD⟩ := pv_end p (take_all (by rw [List.length_map, lz2]; exact Nat.le_refl _))
          have lu : (rs2.map fun r => (if ((r.length : Nat) : Int) < 10 then ((r.length : Nat) : Int) else 10)).length ≤ 60 := by rw [List.length_map]; exact lr2
          have bu : ∀ n ∈ rs2.map (fun r => (if ((r.length : Nat) : Int) < 10 then ((r.length : Nat) : Int) else 10)), 0 ≤ n ∧ n ≤ 10 := fun n hn => by
            obtain ⟨r, hr, rfl⟩ := List.mem_map.mp hn
            split <;> omega
          generalize rs2.map (fun r => (if ((r.length : Nat) : Int) < 10 then ((r.length : Nat) : Int) else 10)) = us2 at hD lu bu
          have Dn : D ∉ S := lv17.out nD
          have fD : off H18 S D = some (.lst (us2.map V.int)) := by rw [off_out Dn]; exact hD
          have fw18 := sm_of (S := S) s18 _ _ fw17
          have ftp := sm_of (S := S) s18 _ _ ftp
          have dz2 := dpAll_same (sm_of (S := S) s18) dz2
          have B18 := B17.same s18
          have s18 := s17.trans (sm_of s18)
          refine ⟨(by show 2 ≤ sizeLine; decide), fun e1 ne1 => ?_⟩
          have lv18 := Live.one B18
          rw [← eS] at lv18
          have fe := off_new (o := .lst [.ref wp, .ref D]) lv18 ne1
          have fD := sm_put (S := S) (o := .lst [.ref wp, .ref D]) ne1 _ _ fD
          have fw18 := sm_put (S := S) (o := .lst [.ref wp, .ref D]) ne1 _ _ fw18
          have ftp := sm_put (S := S) (o := .lst [.ref wp, .ref D]) ne1 _ _ ftp
          have dz2 := dpAll_same (sm_put (S := S) (o := .lst [.ref wp, .ref D]) ne1) dz2
          have B18 := B18.put (o := .lst [.ref wp, .ref D]) ne1
          have s18 := s18.trans (sm_put (S := [b]) (o := .lst [.ref wp, .ref D]) ne1)
          generalize upd H18 e1 (.lst [.ref wp, .ref D]) = H19 at fe fD fw18 ftp dz2 B18 s18 ⊢
          refine ⟨_, rfl, b, 2, rfl, (by decide), (by decide), B18, fun H20 r20 c200 c201 B20 s20 => ?_⟩
          have fe := sm_one hb s20 _ _ fe
          have fD := sm_one hb s20 _ _ fD
          have fw20 := sm_one hb s20 _ _ fw18
          have ftp := sm_one hb s20 _ _ ftp
          have dz2 := dpAll_same (sm_one hb s20) dz2
          have s20 := s18.trans s20
          have px : Dp K (off H20 S) (.ref tp) (.list (rs2.map intRow)) := .lst (SqL.of ftp) dz2
          have tx := (th_rows lr2 br2).mono (show 60 ≤ 1000 by decide) (show 1300000 ≤ 6000000 by decide) (show 2 ≤ 20 by decide) (show 60 ≤ 1000 by decide)
          obtain ⟨x20, ex20⟩ : ∃ x20, x20 = V.ref tp := ⟨_, rfl⟩
          generalize PyData.list (rs2.map intRow) = d20 at px tx
          rw [← ex20] at px ⊢
          have hr2 : r20 = 0 ∨ r20 = 1 := by omega
          rcases hr2 with rfl | rfl
          · refine ⟨e1, _, 0, .ref wp, rfl, rfl, SqL.of (at_off fe), rfl, ?_⟩
            obtain ⟨wq, ewq⟩ : ∃ wq, wq = wp := ⟨_, rfl⟩
            obtain ⟨us, eus⟩ : ∃ us, us = ws := ⟨_, rfl⟩
            have fq := fw20
            have lq := lw
            have bq := bw
            rw [← ewq, ← eus] at fq
            rw [← eus] at lq bq
            have fo20 := sm_one hb s20 _ _ fo
            have dax20 := dpAll_same (sm_one hb s20) dax
            refine ⟨_, rfl, _, rfl, _, rfl, ofp, wq, xs, os, us, x20, d20, (by first | rfl | (subst_vars; rfl)), SqL.of (at_off fo20), dpAll_same off_sub dax20, lo, oo, SqL.of (at_off fq), lq, bq, dp_off px, tx, fun H21 s21 => ⟨_, rfl, iteF ?_⟩⟩
            exact ⟨_, _, _, _, _, rfl, B20.same s21, s20.trans (sm_of s21)⟩
          · refine ⟨e1, _, 1, .ref D, rfl, rfl, SqL.of (at_off fe), rfl, ?_⟩
            obtain ⟨wq, ewq⟩ : ∃ wq, wq = D := ⟨_, rfl⟩
            obtain ⟨us, eus⟩ : ∃ us, us = us2 := ⟨_, rfl⟩
            have fq := fD
            have lq := lu
            have bq := bu
            rw [← ewq, ← eus] at fq
            rw [← eus] at lq bq
            have fo20 := sm_one hb s20 _ _ fo
            have dax20 := dpAll_same (sm_one hb s20) dax
            refine ⟨_, rfl, _, rfl, _, rfl, ofp, wq, xs, os, us, x20, d20, (by first | rfl | (subst_vars; rfl)), SqL.of (at_off fo20), dpAll_same off_sub dax20, lo, oo, SqL.of (at_off fq), lq, bq, dp_off px, tx, fun H21 s21 => ⟨_, rfl, iteF ?_⟩⟩
            exact ⟨_, _, _, _, _, rfl, B20.same s21, s20.trans (sm_of s21)⟩
        refine ⟨_, rfl, rfl, _, rfl, ite2 (fun hw1 => ?_) (fun hw1 => ?_)⟩
        · refine ⟨_, rfl, _, rfl, b, wp, ws, rfl, B16, (by rw [← eS]; exact fw16), lw, bw, fun H20 wq us B20 s20 fq lq bq => ?_⟩
          rw [← eS] at fq
          have px := dp_same (sm_one hb s20) dpr16
          have s20 := s16.trans s20
          have tx := thr.mono (show 60 ≤ 1000 by decide) (show 1300000 ≤ 6000000 by decide) (show 2 ≤ 20 by decide) (show 60 ≤ 1000 by decide)
          obtain ⟨x20, ex20⟩ : ∃ x20, x20 = V.ref rp := ⟨_, rfl⟩
          obtain ⟨d20, ed20⟩ : ∃ d20, d20 = PyData.list (rss.map intRow) := ⟨_, rfl⟩
          rw [← ed20] at px tx
          rw [← ex20] at px
          have fo20 := sm_one hb s20 _ _ fo
          have dax20 := dpAll_same (sm_one hb s20) dax
          refine ⟨_, rfl, _, rfl, _, rfl, ofp, wq, xs, os, us, x20, d20, (by first | rfl | (subst_vars; rfl)), SqL.of (at_off fo20), dpAll_same off_sub dax20, lo, oo, SqL.of (at_off fq), lq, bq, dp_off px, tx, fun H21 s21 => ⟨_, rfl, iteF ?_⟩⟩
          exact ⟨_, _, _, _, _, rfl, B20.same s21, s20.trans (sm_of s21)⟩
        · refine ⟨_, rfl, ?_⟩
          refine ⟨_, rfl, _, _, rfl, rfl, (by show (0 : Int) < 2; decide), _, _, rfl, rfl, _, rfl, (by omega), (by omega), ?_⟩
          refine for_it walk_range (fun j σ H17 => ∃ v9 x d, σ = [some (.ref b), some (.int (hN : Nat)), some (.ref ofp), some (.ref rp), some (.ref wp), some (.int (0 + (i : Nat))), some (.int way), some x, some (.ref wp), v9, none] ∧ Bx H17 b ∧ Sm [b] H8 H17 ∧ Dp K (off H17 S) x d ∧ Th (60 + j) (cS j) (2 + 2 * j) (wS j) d) ⟨_, _, _, rfl, B16, s16, dpr16, thr⟩ (fun _ _ _ _ _ => trivial) ?_ ?_
          · rintro j y σ H17 H18 hj ⟨v9, x, d, rfl, B17, s17, px, tx⟩ ⟨rfl, rfl⟩
            have hj2 : j = 0 ∨ j = 1 := by omega
            have lv17 := Live.one B17
            rw [← eS] at lv17
            refine ⟨_, rfl, _, rfl, b, S, x, d, _, _, _, _, rfl, hb, lv17, B17, px, tx, by omega, by omega, (by rcases hj2 with rfl | rfl <;> decide), (by rcases hj2 with rfl | rfl <;> decide), (by have := tx.d; omega), fun H19 r d' B19 s19 pr tr => ?_⟩
            refine ⟨_, _, d', rfl, B19, s17.trans s19, pr, tr.mono (by omega) ?_ (by omega) ?_⟩
            · rcases hj2 with rfl | rfl <;> decide
            · rcases hj2 with rfl | rfl <;> decide
          · rintro σ H20 ⟨v9, x20, d20, rfl, B20, s20, px, tx0⟩
            have hn2 : (1 + way % 2).toNat = 1 ∨ (1 + way % 2).toNat = 2 := by omega
            have tx : Th 1000 6000000 20 1000 d20 := by
              rcases hn2 with e | e <;> rw [e] at tx0
              · exact tx0.mono (by decide) (by decide) (by decide) (by decide)
              · exact tx0.mono (by decide) (by decide) (by decide) (by decide)
            obtain ⟨wq, ewq⟩ : ∃ wq, wq = wp := ⟨_, rfl⟩
            obtain ⟨us, eus⟩ : ∃ us, us = ws := ⟨_, rfl⟩
            have fq := sm_one hb s20 _ _ fw
            have lq := lw
            have bq := bw
            rw [← ewq, ← eus] at fq
            rw [← eus] at lq bq
            have fo20 := sm_one hb s20 _ _ fo
            have dax20 := dpAll_same (sm_one hb s20) dax
            refine ⟨_, rfl, _, rfl, _, rfl, ofp, wq, xs, os, us, x20, d20, (by first | rfl | (subst_vars; rfl)), SqL.of (at_off fo20), dpAll_same off_sub dax20, lo, oo, SqL.of (at_off fq), lq, bq, dp_off px, tx, fun H21 s21 => ⟨_, rfl, iteF ?_⟩⟩
            exact ⟨_, _, _, _, _, rfl, B20.same s21, s20.trans (sm_of s21)⟩
      · rintro σ H14 ⟨v5, v6, v7, v8, v9, rfl, B14, s14⟩
        have lv := lv.box B14 s14
        have sc := sc.trans s14
        have B := B14
        have fo := (sm_one hb s14) _ _ fo
        have fw := (sm_one hb s14) _ _ fw
        have dax := dpAll_same ((sm_one hb s14)) dax
        refine ⟨_, rfl, _, rfl, _, rfl, b, S, rfl, hb, lv, B, fun Hf r dr2 Bf sf pr tr => ?_⟩
        have lv := lv.box Bf sf
        have sc := sc.trans sf
        have B := Bf
        have fo := (sm_one hb sf) _ _ fo
        have fw := (sm_one hb sf) _ _ fw
        have dax := dpAll_same ((sm_one hb sf)) dax
        refine ⟨ofp, wp, xs, os, ws, r, dr2, rfl, SqL.of (at_off fo), dpAll_same off_sub dax, lo, oo, SqL.of (at_off fw), lw, bw, dp_off pr, tr.mono (by decide) (by decide) (by decide) (by decide), fun Hg sg => ?_⟩
        exact q _ (B.same sg) (sc.trans (sm_of sg))
abbrev s_law : Stmt := topS 25
def n_law : List Str := ["_law_script", "_law_cells_here", "_law_k"]
theorem sc_law : FnScope n_law ["_law_script"] (defScope s_law) := ⟨rfl, rfl, rfl, by decide +kernel, rfl, by decide +kernel, by decide +kernel⟩
def spLaw (K : PySem.W.Frag) : Sp := fun vs H Q _ => ∃ (a : Addr) (ns : List Int), vs = [.ref a] ∧ SqL K H a (ns.map V.int) ∧ ns.length ≤ 63 ∧ ∀ H', Q (.bl true) H'
theorem ok_law {f : Addr} {fd : FuncData} {k : Nat} (F : Fun K "law" "law" s_law f fd) (T : Txt mg) (c__law_cells : Cl P w K mg base (k + 1) "_law_cells" (spCells K)) (c__law_box : Cl P w K mg base (k + 1) "_law_box" (spBox K)) (c__law_right : ClG P w K mg base (k + 15) "_law_right" [] spRight) : FnG P w K mg base (k + 16) f fd ["_law_script"] (spLaw K) := by
  refine okG F sc_law (fun vs H Q E h => ?_) (fun cdv A outer s H vs Q gd hr h => ?_)
  · obtain ⟨a, ns, rfl, _⟩ := h
    rfl
  · obtain ⟨a, ns, rfl, hS, h63, q⟩ := h
    have nd := sc_law.nd
    refine ⟨_, (pss_cons (ps_set (i := 1) nd rfl (.inr rfl) (pe_cl c__law_cells hr (by omega) (by rfl) (pa_cons (pv 0) (pa_cons pe_int pa_nil))))
      (pss_one (ps_ret (pe_callB (kc_all (K := K)) (by rfl) T.all (by decide +kernel) (pa_cons (pe_lc (own := [("_law_k", 2)]) rfl nd (pi_range1 (by rfl) T.range (pa_cons (pe_callB (kc_len (K := K)) (by rfl) T.len PySem.boot_len (pa_cons (pv 1) pa_nil)) pa_nil)) (blkOk_by (N := n_law) (sc := defScope s_law) (by decide +kernel)) (fun _ _ _ _ _ => (pg_name (i := 2) nd rfl (.inl rfl))) (fun _ _ _ _ _ => pts_nil) (fun _ _ _ _ _ => (pe_clG c__law_right hr gd (by omega) (by rfl) (pa_cons (pe_cl c__law_box hr (by omega) (by rfl) (pa_cons (pv 1) (pa_cons (pv 2) pa_nil))) pa_nil)))) pa_nil))))), ?_⟩
    refine ⟨_, rfl, a, ns, rfl, hS, h63, fun H1 c ms s1 nc hc l1 l2 => ?_⟩
    refine ⟨_, rfl, _, _, rfl, .inl ⟨_, SqL.of hc, rfl⟩, _, rfl, (by rw [List.length_map]; omega), (by rw [List.length_map]; omega), fun D nD => ?_⟩
    have Dc : c ≠ D := ne_of_none hc nD
    refine lc_it walk_range (fun j H5 => H5 c = some (.lst (ms.map V.int)) ∧ H5 D = some (.lst ((List.replicate j true).map V.bl))) ⟨same_upd nD _ _ hc, upd_same⟩ (fun _ _ _ _ => trivial) ?_ ?_
    · rintro i y H5 H6 hi ⟨hc, hD⟩ ⟨rfl, rfl⟩
      have hi2 : i < ms.length := by rw [List.length_map] at hi; omega
      refine ⟨rfl, tYes_at ?_⟩
      rw [if_pos rfl]
      refine ⟨_, rfl, _, rfl, c, ms, i, (by show [V.ref c, V.int ((0 : Int) + (i : Nat))] = _; rw [Int.zero_add]), SqL.of hc, hi2, by omega, fun H7 b s7 nb B => ⟨b, rfl, B, fun H8 B8 s8 => ?_⟩⟩
      have cb : c ≠ b := ne_of_none hc nb
      have Db : D ≠ b := ne_of_none hD nb
      have hc := sm1_at s8 cb (s7 _ _ hc)
      have hD := sm1_at s8 Db (s7 _ _ hD)
      refine ⟨_, hD, ?_, (by rw [upd_ne Dc]; exact hc), ?_⟩
      · rw [List.length_map, List.length_replicate, sizeLine_eq]; omega
      · rw [upd_same, List.replicate_succ', List.map_append]; rfl
    · rintro H5 ⟨hc, hD⟩
      refine ⟨D, _, rfl, SqL.of hD, ?_⟩
      have e : ∀ n : Nat, (List.replicate n true).all id = true := fun n => by simp
      rw [e]
      exact q _

end
end Pot

namespace Pot
open PySem PySem.Spec PyProof.Rows L2
theorem all_mk {l : PySem.W.OpenLaw} {w : World} {K : PySem.W.Frag} {h : Heap} {mg : Str → Option Value} {fa : Addr} (X : K.In h) (G : h.Ns mainGlobals mg) (hfa : mg "law" = some (.ref fa))
    {f1 : Addr} {od1 an1 : Option Addr} {sl1 : Array (Option Value)} {oc1 kV1 dc1 pm1 cd1 ct1 : Value}
    {f2 : Addr} {od2 an2 : Option Addr} {sl2 : Array (Option Value)} {oc2 kV2 dc2 pm2 cd2 ct2 : Value}
    {f3 : Addr} {od3 an3 : Option Addr} {sl3 : Array (Option Value)} {oc3 kV3 dc3 pm3 cd3 ct3 : Value}
    {f4 : Addr} {od4 an4 : Option Addr} {sl4 : Array (Option Value)} {oc4 kV4 dc4 pm4 cd4 ct4 : Value}
    {f5 : Addr} {od5 an5 : Option Addr} {sl5 : Array (Option Value)} {oc5 kV5 dc5 pm5 cd5 ct5 : Value}
    {f6 : Addr} {od6 an6 : Option Addr} {sl6 : Array (Option Value)} {oc6 kV6 dc6 pm6 cd6 ct6 : Value}
    {f7 : Addr} {od7 an7 : Option Addr} {sl7 : Array (Option Value)} {oc7 kV7 dc7 pm7 cd7 ct7 : Value}
    {f8 : Addr} {od8 an8 : Option Addr} {sl8 : Array (Option Value)} {oc8 kV8 dc8 pm8 cd8 ct8 : Value}
    {f9 : Addr} {od9 an9 : Option Addr} {sl9 : Array (Option Value)} {oc9 kV9 dc9 pm9 cd9 ct9 : Value}
    {f10 : Addr} {od10 an10 : Option Addr} {sl10 : Array (Option Value)} {oc10 kV10 dc10 pm10 cd10 ct10 : Value}
    {f11 : Addr} {od11 an11 : Option Addr} {sl11 : Array (Option Value)} {oc11 kV11 dc11 pm11 cd11 ct11 : Value}
    {f12 : Addr} {od12 an12 : Option Addr} {sl12 : Array (Option Value)} {oc12 kV12 dc12 pm12 cd12 ct12 : Value}
    {f13 : Addr} {od13 an13 : Option Addr} {sl13 : Array (Option Value)} {oc13 kV13 dc13 pm13 cd13 ct13 : Value}
    {f14 : Addr} {od14 an14 : Option Addr} {sl14 : Array (Option Value)} {oc14 kV14 dc14 pm14 cd14 ct14 : Value}
    {f15 : Addr} {od15 an15 : Option Addr} {sl15 : Array (Option Value)} {oc15 kV15 dc15 pm15 cd15 ct15 : Value}
    {f16 : Addr} {od16 an16 : Option Addr} {sl16 : Array (Option Value)} {oc16 kV16 dc16 pm16 cd16 ct16 : Value}
    {f17 : Addr} {od17 an17 : Option Addr} {sl17 : Array (Option Value)} {oc17 kV17 dc17 pm17 cd17 ct17 : Value}
    {f18 : Addr} {od18 an18 : Option Addr} {sl18 : Array (Option Value)} {oc18 kV18 dc18 pm18 cd18 ct18 : Value}
    {f19 : Addr} {od19 an19 : Option Addr} {sl19 : Array (Option Value)} {oc19 kV19 dc19 pm19 cd19 ct19 : Value}
    {f20 : Addr} {od20 an20 : Option Addr} {sl20 : Array (Option Value)} {oc20 kV20 dc20 pm20 cd20 ct20 : Value}
    {f21 : Addr} {od21 an21 : Option Addr} {sl21 : Array (Option Value)} {oc21 kV21 dc21 pm21 cd21 ct21 : Value}
    {f22 : Addr} {od22 an22 : Option Addr} {sl22 : Array (Option Value)} {oc22 kV22 dc22 pm22 cd22 ct22 : Value}
    {f23 : Addr} {od23 an23 : Option Addr} {sl23 : Array (Option Value)} {oc23 kV23 dc23 pm23 cd23 ct23 : Value}
    (a1 : PySem.W.nsIn K mainGlobals "is_number" = some (some (.ref f1))) (l1 : K.lookup f1 = some ⟨oc1, od1, .func (PySem.W.fnOf "is_number" "is_number" (defArgs s_is_number) (defBody s_is_number) (defScope s_is_number) .none kV1 dc1 pm1 an1 cd1 ct1), sl1⟩) (c1 : PySem.W.codeIn K cd1 "is_number" = true) (k1 : PySem.W.keepIn K (.ref f1) = true)
    (a2 : PySem.W.nsIn K mainGlobals "is_rising" = some (some (.ref f2))) (l2 : K.lookup f2 = some ⟨oc2, od2, .func (PySem.W.fnOf "is_rising" "is_rising" (defArgs s_is_rising) (defBody s_is_rising) (defScope s_is_rising) .none kV2 dc2 pm2 an2 cd2 ct2), sl2⟩) (c2 : PySem.W.codeIn K cd2 "is_rising" = true) (k2 : PySem.W.keepIn K (.ref f2) = true)
    (a3 : PySem.W.nsIn K mainGlobals "are_rising" = some (some (.ref f3))) (l3 : K.lookup f3 = some ⟨oc3, od3, .func (PySem.W.fnOf "are_rising" "are_rising" (defArgs s_are_rising) (defBody s_are_rising) (defScope s_are_rising) .none kV3 dc3 pm3 an3 cd3 ct3), sl3⟩) (c3 : PySem.W.codeIn K cd3 "are_rising" = true) (k3 : PySem.W.keepIn K (.ref f3) = true)
    (a4 : PySem.W.nsIn K mainGlobals "shows_rows" = some (some (.ref f4))) (l4 : K.lookup f4 = some ⟨oc4, od4, .func (PySem.W.fnOf "shows_rows" "shows_rows" (defArgs s_shows_rows) (defBody s_shows_rows) (defScope s_shows_rows) .none kV4 dc4 pm4 an4 cd4 ct4), sl4⟩) (c4 : PySem.W.codeIn K cd4 "shows_rows" = true) (k4 : PySem.W.keepIn K (.ref f4) = true)
    (a5 : PySem.W.nsIn K mainGlobals "serves_hour" = some (some (.ref f5))) (l5 : K.lookup f5 = some ⟨oc5, od5, .func (PySem.W.fnOf "serves_hour" "serves_hour" (defArgs s_serves_hour) (defBody s_serves_hour) (defScope s_serves_hour) .none kV5 dc5 pm5 an5 cd5 ct5), sl5⟩) (c5 : PySem.W.codeIn K cd5 "serves_hour" = true) (k5 : PySem.W.keepIn K (.ref f5) = true)
    (a6 : PySem.W.nsIn K mainGlobals "often_in" = some (some (.ref f6))) (l6 : K.lookup f6 = some ⟨oc6, od6, .func (PySem.W.fnOf "often_in" "often_in" (defArgs s_often_in) (defBody s_often_in) (defScope s_often_in) .none kV6 dc6 pm6 an6 cd6 ct6), sl6⟩) (c6 : PySem.W.codeIn K cd6 "often_in" = true) (k6 : PySem.W.keepIn K (.ref f6) = true)
    (a7 : PySem.W.nsIn K mainGlobals "is_in" = some (some (.ref f7))) (l7 : K.lookup f7 = some ⟨oc7, od7, .func (PySem.W.fnOf "is_in" "is_in" (defArgs s_is_in) (defBody s_is_in) (defScope s_is_in) .none kV7 dc7 pm7 an7 cd7 ct7), sl7⟩) (c7 : PySem.W.codeIn K cd7 "is_in" = true) (k7 : PySem.W.keepIn K (.ref f7) = true)
    (a8 : PySem.W.nsIn K mainGlobals "_law_box" = some (some (.ref f8))) (l8 : K.lookup f8 = some ⟨oc8, od8, .func (PySem.W.fnOf "_law_box" "_law_box" (defArgs s__law_box) (defBody s__law_box) (defScope s__law_box) .none kV8 dc8 pm8 an8 cd8 ct8), sl8⟩) (c8 : PySem.W.codeIn K cd8 "_law_box" = true) (k8 : PySem.W.keepIn K (.ref f8) = true)
    (a9 : PySem.W.nsIn K mainGlobals "_law_take" = some (some (.ref f9))) (l9 : K.lookup f9 = some ⟨oc9, od9, .func (PySem.W.fnOf "_law_take" "_law_take" (defArgs s__law_take) (defBody s__law_take) (defScope s__law_take) .none kV9 dc9 pm9 an9 cd9 ct9), sl9⟩) (c9 : PySem.W.codeIn K cd9 "_law_take" = true) (k9 : PySem.W.keepIn K (.ref f9) = true)
    (a10 : PySem.W.nsIn K mainGlobals "_law_cells" = some (some (.ref f10))) (l10 : K.lookup f10 = some ⟨oc10, od10, .func (PySem.W.fnOf "_law_cells" "_law_cells" (defArgs s__law_cells) (defBody s__law_cells) (defScope s__law_cells) .none kV10 dc10 pm10 an10 cd10 ct10), sl10⟩) (c10 : PySem.W.codeIn K cd10 "_law_cells" = true) (k10 : PySem.W.keepIn K (.ref f10) = true)
    (a11 : PySem.W.nsIn K mainGlobals "_law_offers" = some (some (.ref f11))) (l11 : K.lookup f11 = some ⟨oc11, od11, .func (PySem.W.fnOf "_law_offers" "_law_offers" (defArgs s__law_offers) (defBody s__law_offers) (defScope s__law_offers) .none kV11 dc11 pm11 an11 cd11 ct11), sl11⟩) (c11 : PySem.W.codeIn K cd11 "_law_offers" = true) (k11 : PySem.W.keepIn K (.ref f11) = true)
    (a12 : PySem.W.nsIn K mainGlobals "_law_is_number" = some (some (.ref f12))) (l12 : K.lookup f12 = some ⟨oc12, od12, .func (PySem.W.fnOf "_law_is_number" "_law_is_number" (defArgs s__law_is_number) (defBody s__law_is_number) (defScope s__law_is_number) .none kV12 dc12 pm12 an12 cd12 ct12), sl12⟩) (c12 : PySem.W.codeIn K cd12 "_law_is_number" = true) (k12 : PySem.W.keepIn K (.ref f12) = true)
    (a13 : PySem.W.nsIn K mainGlobals "_law_are_rising" = some (some (.ref f13))) (l13 : K.lookup f13 = some ⟨oc13, od13, .func (PySem.W.fnOf "_law_are_rising" "_law_are_rising" (defArgs s__law_are_rising) (defBody s__law_are_rising) (defScope s__law_are_rising) .none kV13 dc13 pm13 an13 cd13 ct13), sl13⟩) (c13 : PySem.W.codeIn K cd13 "_law_are_rising" = true) (k13 : PySem.W.keepIn K (.ref f13) = true)
    (a14 : PySem.W.nsIn K mainGlobals "_law_are_rows" = some (some (.ref f14))) (l14 : K.lookup f14 = some ⟨oc14, od14, .func (PySem.W.fnOf "_law_are_rows" "_law_are_rows" (defArgs s__law_are_rows) (defBody s__law_are_rows) (defScope s__law_are_rows) .none kV14 dc14 pm14 an14 cd14 ct14), sl14⟩) (c14 : PySem.W.codeIn K cd14 "_law_are_rows" = true) (k14 : PySem.W.keepIn K (.ref f14) = true)
    (a15 : PySem.W.nsIn K mainGlobals "_law_odd" = some (some (.ref f15))) (l15 : K.lookup f15 = some ⟨oc15, od15, .func (PySem.W.fnOf "_law_odd" "_law_odd" (defArgs s__law_odd) (defBody s__law_odd) (defScope s__law_odd) .none kV15 dc15 pm15 an15 cd15 ct15), sl15⟩) (c15 : PySem.W.codeIn K cd15 "_law_odd" = true) (k15 : PySem.W.keepIn K (.ref f15) = true)
    (a16 : PySem.W.nsIn K mainGlobals "_law_bent" = some (some (.ref f16))) (l16 : K.lookup f16 = some ⟨oc16, od16, .func (PySem.W.fnOf "_law_bent" "_law_bent" (defArgs s__law_bent) (defBody s__law_bent) (defScope s__law_bent) .none kV16 dc16 pm16 an16 cd16 ct16), sl16⟩) (c16 : PySem.W.codeIn K cd16 "_law_bent" = true) (k16 : PySem.W.keepIn K (.ref f16) = true)
    (a17 : PySem.W.nsIn K mainGlobals "_law_bent_row" = some (some (.ref f17))) (l17 : K.lookup f17 = some ⟨oc17, od17, .func (PySem.W.fnOf "_law_bent_row" "_law_bent_row" (defArgs s__law_bent_row) (defBody s__law_bent_row) (defScope s__law_bent_row) .none kV17 dc17 pm17 an17 cd17 ct17), sl17⟩) (c17 : PySem.W.codeIn K cd17 "_law_bent_row" = true) (k17 : PySem.W.keepIn K (.ref f17) = true)
    (a18 : PySem.W.nsIn K mainGlobals "_law_drawn_rows" = some (some (.ref f18))) (l18 : K.lookup f18 = some ⟨oc18, od18, .func (PySem.W.fnOf "_law_drawn_rows" "_law_drawn_rows" (defArgs s__law_drawn_rows) (defBody s__law_drawn_rows) (defScope s__law_drawn_rows) .none kV18 dc18 pm18 an18 cd18 ct18), sl18⟩) (c18 : PySem.W.codeIn K cd18 "_law_drawn_rows" = true) (k18 : PySem.W.keepIn K (.ref f18) = true)
    (a19 : PySem.W.nsIn K mainGlobals "_law_other_rows" = some (some (.ref f19))) (l19 : K.lookup f19 = some ⟨oc19, od19, .func (PySem.W.fnOf "_law_other_rows" "_law_other_rows" (defArgs s__law_other_rows) (defBody s__law_other_rows) (defScope s__law_other_rows) .none kV19 dc19 pm19 an19 cd19 ct19), sl19⟩) (c19 : PySem.W.codeIn K cd19 "_law_other_rows" = true) (k19 : PySem.W.keepIn K (.ref f19) = true)
    (a20 : PySem.W.nsIn K mainGlobals "_law_told_right" = some (some (.ref f20))) (l20 : K.lookup f20 = some ⟨oc20, od20, .func (PySem.W.fnOf "_law_told_right" "_law_told_right" (defArgs s__law_told_right) (defBody s__law_told_right) (defScope s__law_told_right) .none kV20 dc20 pm20 an20 cd20 ct20), sl20⟩) (c20 : PySem.W.codeIn K cd20 "_law_told_right" = true) (k20 : PySem.W.keepIn K (.ref f20) = true)
    (a21 : PySem.W.nsIn K mainGlobals "_law_wants_other" = some (some (.ref f21))) (l21 : K.lookup f21 = some ⟨oc21, od21, .func (PySem.W.fnOf "_law_wants_other" "_law_wants_other" (defArgs s__law_wants_other) (defBody s__law_wants_other) (defScope s__law_wants_other) .none kV21 dc21 pm21 an21 cd21 ct21), sl21⟩) (c21 : PySem.W.codeIn K cd21 "_law_wants_other" = true) (k21 : PySem.W.keepIn K (.ref f21) = true)
    (a22 : PySem.W.nsIn K mainGlobals "_law_right" = some (some (.ref f22))) (l22 : K.lookup f22 = some ⟨oc22, od22, .func (PySem.W.fnOf "_law_right" "_law_right" (defArgs s__law_right) (defBody s__law_right) (defScope s__law_right) .none kV22 dc22 pm22 an22 cd22 ct22), sl22⟩) (c22 : PySem.W.codeIn K cd22 "_law_right" = true) (k22 : PySem.W.keepIn K (.ref f22) = true)
    (a23 : PySem.W.nsIn K mainGlobals "law" = some (some (.ref f23))) (l23 : K.lookup f23 = some ⟨oc23, od23, .func (PySem.W.fnOf "law" "law" (defArgs s_law) (defBody s_law) (defScope s_law) .none kV23 dc23 pm23 an23 cd23 ct23), sl23⟩) (c23 : PySem.W.codeIn K cd23 "law" = true) (k23 : PySem.W.keepIn K (.ref f23) = true)
    (z1 : PySem.W.nsIn K mainGlobals "len" = some none)
    (z2 : PySem.W.nsIn K mainGlobals "divmod" = some none)
    (z3 : PySem.W.nsIn K mainGlobals "range" = some none)
    (z4 : PySem.W.nsIn K mainGlobals "sum" = some none)
    (z5 : PySem.W.nsIn K mainGlobals "all" = some none)
    (z6 : PySem.W.nsIn K mainGlobals "any" = some none)
    (z7 : PySem.W.nsIn K mainGlobals "isinstance" = some none)
    (z8 : PySem.W.nsIn K mainGlobals "str" = some none)
    (z9 : PySem.W.nsIn K mainGlobals "int" = some none)
    (z10 : PySem.W.nsIn K mainGlobals "list" = some none)
    (z11 : PySem.W.nsIn K mainGlobals "tuple" = some none)
    (z12 : PySem.W.nsIn K mainGlobals "bool" = some none)
    (z13 : PySem.W.nsIn K mainGlobals "zip" = some none)
    (z14 : PySem.W.nsIn K mainGlobals "set" = some none)
    (z15 : PySem.W.nsIn K mainGlobals "sorted" = some none)
    (z16 : PySem.W.nsIn K mainGlobals "enumerate" = some none)
    (z17 : PySem.W.nsIn K mainGlobals "repr" = some none)
    (z18 : PySem.W.nsIn K mainGlobals "min" = some none)
    (z19 : PySem.W.nsIn K mainGlobals "max" = some none)
    (z20 : PySem.W.nsIn K mainGlobals "abs" = some none)
    : ∃ fd : FuncData, (∀ (s : Shared) (v : Value), BindsTo s fd ⟨[v], []⟩ [("_law_script", v)]) ∧ ∀ base : Heap, K.In base → base.Ns mainGlobals mg → FnG l.prog w K mg base 16 fa fd ["_law_script"] (spLaw K) := by
  have e := hfa.symm.trans (PySem.W.mg_of X G a23)
  cases e
  have T : Txt mg := ⟨PySem.W.mg_none_of X G z1, PySem.W.mg_none_of X G z2, PySem.W.mg_none_of X G z3, PySem.W.mg_none_of X G z4, PySem.W.mg_none_of X G z5, PySem.W.mg_none_of X G z6, PySem.W.mg_none_of X G z7, PySem.W.mg_none_of X G z8, PySem.W.mg_none_of X G z9, PySem.W.mg_none_of X G z10, PySem.W.mg_none_of X G z11, PySem.W.mg_none_of X G z12, PySem.W.mg_none_of X G z13, PySem.W.mg_none_of X G z14, PySem.W.mg_none_of X G z15, PySem.W.mg_none_of X G z16, PySem.W.mg_none_of X G z17, PySem.W.mg_none_of X G z18, PySem.W.mg_none_of X G z19, PySem.W.mg_none_of X G z20⟩
  have F1 := fun_mk (st := s_is_number) l1 c1 k1
  have b1 := F1.binds (ps := ["thing", "low", "high"]) fun _ _ _ _ _ _ us hl => match us, hl with | [_, _, _], _ => rfl
  have g1 := PySem.W.mg_of X G a1
  have F2 := fun_mk (st := s_is_rising) l2 c2 k2
  have b2 := F2.binds (ps := ["keys"]) fun _ _ _ _ _ _ us hl => match us, hl with | [_], _ => rfl
  have g2 := PySem.W.mg_of X G a2
  have F3 := fun_mk (st := s_are_rising) l3 c3 k3
  have b3 := F3.binds (ps := ["thing", "low", "high"]) fun _ _ _ _ _ _ us hl => match us, hl with | [_, _, _], _ => rfl
  have g3 := PySem.W.mg_of X G a3
  have F4 := fun_mk (st := s_shows_rows) l4 c4 k4
  have b4 := F4.binds (ps := ["offers", "wants", "thing"]) fun _ _ _ _ _ _ us hl => match us, hl with | [_, _, _], _ => rfl
  have g4 := PySem.W.mg_of X G a4
  have F5 := fun_mk (st := s_serves_hour) l5 c5 k5
  have b5 := F5.binds (ps := ["offers", "wants", "hour", "thing"]) fun _ _ _ _ _ _ us hl => match us, hl with | [_, _, _, _], _ => rfl
  have g5 := PySem.W.mg_of X G a5
  have F6 := fun_mk (st := s_often_in) l6 c6 k6
  have b6 := F6.binds (ps := ["rows", "number"]) fun _ _ _ _ _ _ us hl => match us, hl with | [_, _], _ => rfl
  have g6 := PySem.W.mg_of X G a6
  have F7 := fun_mk (st := s_is_in) l7 c7 k7
  have b7 := F7.binds (ps := ["offer", "hour"]) fun _ _ _ _ _ _ us hl => match us, hl with | [_, _], _ => rfl
  have g7 := PySem.W.mg_of X G a7
  have F8 := fun_mk (st := s__law_box) l8 c8 k8
  have b8 := F8.binds (ps := ["_law_cells_here", "_law_k"]) fun _ _ _ _ _ _ us hl => match us, hl with | [_, _], _ => rfl
  have g8 := PySem.W.mg_of X G a8
  have F9 := fun_mk (st := s__law_take) l9 c9 k9
  have b9 := F9.binds (ps := ["_law_box_here", "_law_many"]) fun _ _ _ _ _ _ us hl => match us, hl with | [_, _], _ => rfl
  have g9 := PySem.W.mg_of X G a9
  have F10 := fun_mk (st := s__law_cells) l10 c10 k10
  have b10 := F10.binds (ps := ["_law_script", "_law_most"]) fun _ _ _ _ _ _ us hl => match us, hl with | [_, _], _ => rfl
  have g10 := PySem.W.mg_of X G a10
  have F11 := fun_mk (st := s__law_offers) l11 c11 k11
  have b11 := F11.binds (ps := ["_law_box_here", "_law_most", "_law_hours"]) fun _ _ _ _ _ _ us hl => match us, hl with | [_, _, _], _ => rfl
  have g11 := PySem.W.mg_of X G a11
  have F12 := fun_mk (st := s__law_is_number) l12 c12 k12
  have b12 := F12.binds (ps := ["_law_thing", "_law_least", "_law_most"]) fun _ _ _ _ _ _ us hl => match us, hl with | [_, _, _], _ => rfl
  have g12 := PySem.W.mg_of X G a12
  have F13 := fun_mk (st := s__law_are_rising) l13 c13 k13
  have b13 := F13.binds (ps := ["_law_thing", "_law_most"]) fun _ _ _ _ _ _ us hl => match us, hl with | [_, _], _ => rfl
  have g13 := PySem.W.mg_of X G a13
  have F14 := fun_mk (st := s__law_are_rows) l14 c14 k14
  have b14 := F14.binds (ps := ["_law_offers_here", "_law_wants", "_law_thing"]) fun _ _ _ _ _ _ us hl => match us, hl with | [_, _, _], _ => rfl
  have g14 := PySem.W.mg_of X G a14
  have F15 := fun_mk (st := s__law_odd) l15 c15 k15
  have b15 := F15.binds (ps := ["_law_box_here"]) fun _ _ _ _ _ _ us hl => match us, hl with | [_], _ => rfl
  have g15 := PySem.W.mg_of X G a15
  have F16 := fun_mk (st := s__law_bent) l16 c16 k16
  have b16 := F16.binds (ps := ["_law_box_here", "_law_thing"]) fun _ _ _ _ _ _ us hl => match us, hl with | [_, _], _ => rfl
  have g16 := PySem.W.mg_of X G a16
  have F17 := fun_mk (st := s__law_bent_row) l17 c17 k17
  have b17 := F17.binds (ps := ["_law_box_here", "_law_thing"]) fun _ _ _ _ _ _ us hl => match us, hl with | [_, _], _ => rfl
  have g17 := PySem.W.mg_of X G a17
  have F18 := fun_mk (st := s__law_drawn_rows) l18 c18 k18
  have b18 := F18.binds (ps := ["_law_box_here", "_law_offers_here", "_law_hours"]) fun _ _ _ _ _ _ us hl => match us, hl with | [_, _, _], _ => rfl
  have g18 := PySem.W.mg_of X G a18
  have F19 := fun_mk (st := s__law_other_rows) l19 c19 k19
  have b19 := F19.binds (ps := ["_law_box_here", "_law_offers_here", "_law_rows"]) fun _ _ _ _ _ _ us hl => match us, hl with | [_, _, _], _ => rfl
  have g19 := PySem.W.mg_of X G a19
  have F20 := fun_mk (st := s__law_told_right) l20 c20 k20
  have b20 := F20.binds (ps := ["_law_offers_here", "_law_wants", "_law_thing"]) fun _ _ _ _ _ _ us hl => match us, hl with | [_, _, _], _ => rfl
  have g20 := PySem.W.mg_of X G a20
  have F21 := fun_mk (st := s__law_wants_other) l21 c21 k21
  have b21 := F21.binds (ps := ["_law_box_here", "_law_wants"]) fun _ _ _ _ _ _ us hl => match us, hl with | [_, _], _ => rfl
  have g21 := PySem.W.mg_of X G a21
  have F22 := fun_mk (st := s__law_right) l22 c22 k22
  have b22 := F22.binds (ps := ["_law_box_here"]) fun _ _ _ _ _ _ us hl => match us, hl with | [_], _ => rfl
  have g22 := PySem.W.mg_of X G a22
  have F23 := fun_mk (st := s_law) l23 c23 k23
  refine ⟨PySem.W.fnOf "law" "law" (defArgs s_law) (defBody s_law) (defScope s_law) .none kV23 dc23 pm23 an23 cd23 ct23, fun s v => .of_eq rfl, fun base _ _ => ?_⟩
  have cT : Cl l.prog w K mg base 1 "_law_take" (spTake) := ⟨_, _, _, ok_take F9, g9, F9.kp, b9⟩
  have cNum : Cl l.prog w K mg base 1 "is_number" (spNum K) := ⟨_, _, _, ok_num F1 T, g1, F1.kp, b1⟩
  have cRis : Cl l.prog w K mg base 1 "is_rising" (spRis K) := ⟨_, _, _, ok_ris F2 T, g2, F2.kp, b2⟩
  have cIn : Cl l.prog w K mg base 1 "is_in" (spIn K) := ⟨_, _, _, ok_in F7, g7, F7.kp, b7⟩
  have cAre : Cl l.prog w K mg base 2 "are_rising" (spAre K) := ⟨_, _, _, ok_are F3 T cNum cRis, g3, F3.kp, b3⟩
  have cServe : Cl l.prog w K mg base 3 "serves_hour" (spServe K) := ⟨_, _, _, ok_serve F5 T cIn cAre, g5, F5.kp, b5⟩
  have cOft : Cl l.prog w K mg base 1 "often_in" (spOft K) := ⟨_, _, _, ok_oft F6 T, g6, F6.kp, b6⟩
  have cShows : Cl l.prog w K mg base 4 "shows_rows" (spShows K) := ⟨_, _, _, ok_shows F4 T cServe cOft, g4, F4.kp, b4⟩
  have cLNum : Cl l.prog w K mg base 1 "_law_is_number" (spNum K) := ⟨_, _, _, ok_lnum F12 T, g12, F12.kp, b12⟩
  have cLAre : Cl l.prog w K mg base 2 "_law_are_rising" (spLAre K) := ⟨_, _, _, ok_lare F13 T cLNum, g13, F13.kp, b13⟩
  have cLRows : Cl l.prog w K mg base 4 "_law_are_rows" (spShows K) := ⟨_, _, _, ok_lrows F14 T cLAre, g14, F14.kp, b14⟩
  have cOff : Cl l.prog w K mg base 2 "_law_offers" (spOffers K) := ⟨_, _, _, ok_offers F11 T cT, g11, F11.kp, b11⟩
  have cOdd : Cl l.prog w K mg base 2 "_law_odd" (spOdd K) := ⟨_, _, _, ok_odd F15 T cT, g15, F15.kp, b15⟩
  have cBrow : Cl l.prog w K mg base 3 "_law_bent_row" (spBrow K) := ⟨_, _, _, ok_brow F17 T cT cOdd, g17, F17.kp, b17⟩
  have cBent : Cl l.prog w K mg base 14 "_law_bent" (spBent K 10) := ⟨_, _, _, ok_bent (k0 := 0) F16 T b16 g16 cT cOdd cBrow 10, g16, F16.kp, b16⟩
  have cDrawn : Cl l.prog w K mg base 2 "_law_drawn_rows" (spDrawn K) := ⟨_, _, _, ok_drawn F18 T cT, g18, F18.kp, b18⟩
  have cOther : Cl l.prog w K mg base 2 "_law_other_rows" (spOther K) := ⟨_, _, _, ok_other F19 T cT, g19, F19.kp, b19⟩
  have cWother : Cl l.prog w K mg base 2 "_law_wants_other" (spWother K) := ⟨_, _, _, ok_wother F21 T cT, g21, F21.kp, b21⟩
  have cTold : ClG l.prog w K mg base 5 "_law_told_right" [] (spTold K) := ⟨_, _, _, [], ok_told F20 T cShows cLRows, g20, F20.kp, b20, .nil⟩
  have cRight : ClG l.prog w K mg base 15 "_law_right" [] (spRight) := ⟨_, _, _, [], ok_right F22 T cT cOff cDrawn cOther cWother cOdd cBent cShows cTold, g22, F22.kp, b22, .nil⟩
  have cCells : Cl l.prog w K mg base 1 "_law_cells" (spCells K) := ⟨_, _, _, ok_cells F10 T, g10, F10.kp, b10⟩
  have cBox : Cl l.prog w K mg base 1 "_law_box" (spBox K) := ⟨_, _, _, ok_box F8 T, g8, F8.kp, b8⟩
  exact ok_law F23 T cCells cBox cRight
end Pot
open PySem PySem.W PyProof.Rows
set_option maxRecDepth 100000 in
set_option maxHeartbeats 0 in
theorem PySem.Challenge.cw_potround_k38_rows_shown_or_not_holds : PySem.Challenge.rw_potround_k38_rows_shown_or_not.Holds := by
  w_on; o_law; k_head; (case hw => w_witness2)
  k_fill
  refine Pot.walkG (l := PySem.Challenge.rw_potround_k38_rows_shown_or_not) (n := 63) (k := 16) (x := "_law_script") (sp := fun w => Pot.spLaw _) rfl (by decide) rfl ⟨rfl, by decide, by decide⟩ (fun w h Y => PySem.W.kIn_of Y) ?F (fun _ _ a ns hl _ hS => ⟨a, ns, rfl, hS, hl, fun _ => rfl⟩)
  case F =>
    intro w mg fa h KX G hmg
    refine' Pot.all_mk KX G hmg ?a1 ?l1 ?c1 ?k1 ?a2 ?l2 ?c2 ?k2 ?a3 ?l3 ?c3 ?k3 ?a4 ?l4 ?c4 ?k4 ?a5 ?l5 ?c5 ?k5 ?a6 ?l6 ?c6 ?k6 ?a7 ?l7 ?c7 ?k7 ?a8 ?l8 ?c8 ?k8 ?a9 ?l9 ?c9 ?k9 ?a10 ?l10 ?c10 ?k10 ?a11 ?l11 ?c11 ?k11 ?a12 ?l12 ?c12 ?k12 ?a13 ?l13 ?c13 ?k13 ?a14 ?l14 ?c14 ?k14 ?a15 ?l15 ?c15 ?k15 ?a16 ?l16 ?c16 ?k16 ?a17 ?l17 ?c17 ?k17 ?a18 ?l18 ?c18 ?k18 ?a19 ?l19 ?c19 ?k19 ?a20 ?l20 ?c20 ?k20 ?a21 ?l21 ?c21 ?k21 ?a22 ?l22 ?c22 ?k22 ?a23 ?l23 ?c23 ?k23 ?z1 ?z2 ?z3 ?z4 ?z5 ?z6 ?z7 ?z8 ?z9 ?z10 ?z11 ?z12 ?z13 ?z14 ?z15 ?z16 ?z17 ?z18 ?z19 ?z20
    (case a1 => k_is)
    (case l1 => k_is)
    (case c1 => k_is)
    (case k1 => k_is)
    (case a2 => k_is)
    (case l2 => k_is)
    (case c2 => k_is)
    (case k2 => k_is)
    (case a3 => k_is)
    (case l3 => k_is)
    (case c3 => k_is)
    (case k3 => k_is)
    (case a4 => k_is)
    (case l4 => k_is)
    (case c4 => k_is)
    (case k4 => k_is)
    (case a5 => k_is)
    (case l5 => k_is)
    (case c5 => k_is)
    (case k5 => k_is)
    (case a6 => k_is)
    (case l6 => k_is)
    (case c6 => k_is)
    (case k6 => k_is)
    (case a7 => k_is)
    (case l7 => k_is)
    (case c7 => k_is)
    (case k7 => k_is)
    (case a8 => k_is)
    (case l8 => k_is)
    (case c8 => k_is)
    (case k8 => k_is)
    (case a9 => k_is)
    (case l9 => k_is)
    (case c9 => k_is)
    (case k9 => k_is)
    (case a10 => k_is)
    (case l10 => k_is)
    (case c10 => k_is)
    (case k10 => k_is)
    (case a11 => k_is)
    (case l11 => k_is)
    (case c11 => k_is)
    (case k11 => k_is)
    (case a12 => k_is)
    (case l12 => k_is)
    (case c12 => k_is)
    (case k12 => k_is)
    (case a13 => k_is)
    (case l13 => k_is)
    (case c13 => k_is)
    (case k13 => k_is)
    (case a14 => k_is)
    (case l14 => k_is)
    (case c14 => k_is)
    (case k14 => k_is)
    (case a15 => k_is)
    (case l15 => k_is)
    (case c15 => k_is)
    (case k15 => k_is)
    (case a16 => k_is)
    (case l16 => k_is)
    (case c16 => k_is)
    (case k16 => k_is)
    (case a17 => k_is)
    (case l17 => k_is)
    (case c17 => k_is)
    (case k17 => k_is)
    (case a18 => k_is)
    (case l18 => k_is)
    (case c18 => k_is)
    (case k18 => k_is)
    (case a19 => k_is)
    (case l19 => k_is)
    (case c19 => k_is)
    (case k19 => k_is)
    (case a20 => k_is)
    (case l20 => k_is)
    (case c20 => k_is)
    (case k20 => k_is)
    (case a21 => k_is)
    (case l21 => k_is)
    (case c21 => k_is)
    (case k21 => k_is)
    (case a22 => k_is)
    (case l22 => k_is)
    (case c22 => k_is)
    (case k22 => k_is)
    (case a23 => k_is)
    (case l23 => k_is)
    (case c23 => k_is)
    (case k23 => k_is)
    (case z1 => k_is)
    (case z2 => k_is)
    (case z3 => k_is)
    (case z4 => k_is)
    (case z5 => k_is)
    (case z6 => k_is)
    (case z7 => k_is)
    (case z8 => k_is)
    (case z9 => k_is)
    (case z10 => k_is)
    (case z11 => k_is)
    (case z12 => k_is)
    (case z13 => k_is)
    (case z14 => k_is)
    (case z15 => k_is)
    (case z16 => k_is)
    (case z17 => k_is)
    (case z18 => k_is)
    (case z19 => k_is)
    (case z20 => k_is)
