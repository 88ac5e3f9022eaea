import PyProof.Rows.All
import Wide.All
import OpenK.AllK
import Wide.FinOn
import HandS.ForMost
import HandS.Strs
import HandS.SetFor
import HandS.Zip
import PyProof.ReprRoads
import HandS.FStrTup
import HandS.ForExc
import HandS.IsInst
import HandS.Evl
import HandS.Conv
import HandS.Flow
import HandS.Style
import HandS.Sort
import HandS.Walk
import HandS.Codes
import HandS.StrMore
import HandS.TupAny
import HandS.Defaults
import KE.KEqSeq
import HandS.WideBits
import PySem.Challenge.RW_potround_k06_washing_of_rows
set_option Elab.async false
set_option linter.all false
set_option maxRecDepth 100000
namespace Pot
open PySem PySem.Spec PyProof.Rows L2 PySem.W PySem.Calls
/-! ### set(xs) of a list of ints -/
/-- the object that set() makes first -/
abbrev emptySet (w : World) : Obj := { cls := .type "set", dict := none, data := .set #[] 0 (.fresh 0 0 (!w.params.followText "set-order")) }
section
variable {P : Program} {w : World} {A : Around} {E : Value → Shared → Prop} {s : Shared}
/-- what is wanted behind the filling -/
def Filled (w : World) (s : Shared) (ns : List Int) (s' : Shared) : Prop := ∃ h' tk c, s' = { s with heap := h', toks := tk } ∧ SetR w h' s.heap.objs.size (fun j => decide (j ∈ ns)) c ∧ c ≤ ns.length ∧ ∀ b o, s.heap.get? b = some o → h'.get? b = some o
set_option maxHeartbeats 4000000 in
theorem call_set_li {l : Addr} {items : Array Value} (ns : List Int) {Q : Value → Shared → Prop} (hh : A.handled = none) (hl : s.heap.IsList l items) (hit : IntsAre items.toList ns) (hb : ns.length + 1 < scanBound)
    (hq : ∀ s', Filled w s ns s' → Q (.ref s.heap.objs.size) s') : wpAny (model P w) A (call (.type "set") [.ref l]) Q E s := by
  have size : items.size = ns.length := by
    rw [← Array.length_toList]; exact IntsAre.length hit
  have made := F.called_set.made
  have below := F.called_set.sub
  obtain ⟨_, _, chain⟩ := F.called_set.mro
  have nt := F.called_set.notType
  have cc := F.called_set.canCreate
  have ck := F.typeCall_set_1 (.ref l)
  refine wpAny_call (codeAny_of_tree (show wpAny _ _ (callAny (.type "set") _) _ _ _ from wpAny_pure ⟨Code.quiet_builtin _ (by decide +kernel), codeAny_builtin F.entry_type_call ?_⟩))
  rw [Around.under_plain (weight_type_call_type "set" [.ref l] []) rfl]
  repeat (any_goals (first | assumption | wp_step))
  refine codeAny_mono (code_set_led1 (.ref l) (E := E) (Q₁ := fun obj z => obj = .ref s.heap.objs.size ∧ z = { s with heap := s.heap.push (emptySet w) }) ⟨rfl, rfl⟩) fun r z hr => ?_
  rcases r with _ | fl
  case error => exact hr
  cases fl <;> first | exact hr.elim | skip
  obtain ⟨rfl, rfl⟩ := hr
  have at0 : (s.heap.push (emptySet w)).get? s.heap.objs.size = some (emptySet w) := Heap.get?_push_size _ rfl
  have ty0 : Shared.TypeIs { s with heap := s.heap.push (emptySet w) } (.ref s.heap.objs.size) "set" := ⟨_, at0, rfl⟩
  have li := F.called_set.init.lookup
  have bi := F.called_set.init.bind (.ref s.heap.objs.size)
  repeat (any_goals (first | assumption | wp_step))
  refine codeAny_mono (codeAny_call_builtin (R := wants (fun r z => r = .none ∧ Filled w s ns z) E) F.called_set.init.plain F.entry_set_init (check_set_init_1 ty0 ?_)) fun r z hz => ?_
  · obtain ⟨⟨_, od, _, os⟩, hol, hcl, nl, hdl⟩ := hl
    simp only at hcl hdl
    subst hcl
    subst hdl
    have keep : (s.heap.push (emptySet w)).get? l = some { cls := .type "list", dict := od, data := .seq items nl, slots := os } := Heap.get?_push_of_some _ hol
    have s1 := F.sub_list_set
    have s2 := F.sub_list_frozenset
    have s3 : (Value.type "list" == Value.type "dict") = false := by decide
    have isl : (s.heap.push (emptySet w)).IsList l items := ⟨_, keep, rfl, nl, rfl⟩
    unfold Builtin.«set.__init__» noKeywords Builtin.Frozenset.updateFrom
    generalize hPI : pyIter = PI
    wp_walk
    subst hPI
    refine wpAny_pyIter_list isl (wpAny_bind (wpAny_runValue ?_))
    have lt : l < s.heap.objs.size := Heap.lt_size hol
    have sz : (s.heap.push (emptySet w)).objs.size = s.heap.objs.size + 1 := Heap.size_push ..
    have ne1 : l ≠ (s.heap.push (emptySet w)).objs.size := by rw [sz]; exact Nat.ne_of_lt (Nat.lt_succ_of_lt lt)
    have ne2 : s.heap.objs.size ∉ [(s.heap.push (emptySet w)).objs.size, l] := by
      rw [sz]
      intro z
      rcases List.mem_cons.mp z with z | z
      · exact absurd z (Nat.ne_of_lt (Nat.lt_succ_self _))
      · exact absurd (List.mem_singleton.mp z) (Nat.ne_of_gt lt)
    have each : ∀ (i : Nat) (v : Value), items[i]? = some v → ∃ k t, ns[i]? = some k ∧ v = .int k t := fun i v hv => by
      have hi : i < ns.length := size ▸ (Array.getElem?_eq_some_iff.mp hv).1
      obtain ⟨t, e⟩ := IntsAre.int_at hit i v (by rw [Array.getElem?_toList]; exact hv)
      exact ⟨ns[i], t, List.getElem?_eq_getElem hi, by rw [e, List.getD_eq_getElem?_getD, List.getElem?_eq_getElem hi]; rfl⟩
    refine set_update_ints ((Walks.list (show A.in1.in1.in1.handled = none by simp [hh]) _ l ne1 items).toS) s.heap.objs.size ne2 ns size hb each (items.size - 0) 0 _ (by omega) (Nat.zero_le _) ⟨⟨_, Heap.get?_push_size _ rfl, rfl, rfl⟩, isl.push _⟩ ⟨0, Nat.le_refl 0, setR_new_at (Heap.get?_push_of_some _ at0)⟩ fun s' c hm hc hS => ?_
    obtain ⟨h', g, d, tk, o⟩ := s'
    cases (show g = s.gens from hm.gens)
    cases (show d = s.drawn from hm.drawn)
    cases (show o = s.os from hm.os)
    refine (show wpAny _ _ _ _ _ _ from wpAny_pure (show wpAny _ _ (ret Value.none) _ _ _ from wpAny_pure ⟨rfl, h', tk, c, rfl, hS, size ▸ hc, fun b o e => ?_⟩))
    have hb0 : b < s.heap.objs.size := Heap.lt_size e
    refine hm.heap b o (fun z => ?_) (Heap.get?_push_of_some _ (Heap.get?_push_of_some _ e))
    rcases List.mem_cons.mp z with z | z
    · exact absurd z (Nat.ne_of_lt hb0)
    · exact absurd ((List.mem_singleton.mp z).trans sz) (Nat.ne_of_lt (Nat.lt_succ_of_lt hb0))
  · rcases r with _ | fl
    case error => exact hz
    cases fl <;> first | exact hz.elim | skip
    obtain ⟨rfl, f⟩ := hz
    obtain ⟨h', tk, c, rfl, hS, hc, k⟩ := id f
    repeat (any_goals (first | assumption | wp_step))
    exact hq _ ⟨_, _, _, rfl, hS, hc, k⟩
end
section
variable {X : Cx}
/-- set(xs), at most 60 ints: a set of just these -/
def rSetLi (K : PySem.W.Frag) (w : World) : List V → Hp → VK → Prop := fun xs H Q => ∃ (a : Addr) (ns : List Int), xs = [V.ref a] ∧ SqL K H a (ns.map V.int) ∧ ns.length ≤ 1000 ∧
  ∀ (p : Addr) (c : Nat), H p = none → c ≤ ns.length → Q (.ref p) (upd H p (SetO w p (fun k => decide (k ∈ ns)) c))
theorem cr_setLi (hc : X.calm = true) : CallR X (.type "set") (rSetLi X.K X.w) := by
  intro pins s σ H vs us Q I r h
  obtain ⟨a, ns, rfl, hS, hl, q⟩ := h
  rw [Vals.ref1 r]
  obtain ⟨its, rv, pl, hz⟩ := I.list hS
  refine call_set_li ns (I.ok.hd hc) pl.isList (by simpa using Vals.ints rv) (by unfold scanBound; omega) fun s' f => ?_
  obtain ⟨h', tk, c, rfl, R, hcn, k⟩ := f
  have hn : H s.heap.objs.size = none := I.hok.fresh (Nat.le_refl _)
  have J : Inv X pins σ (upd H s.heap.objs.size (SetO X.w s.heap.objs.size (fun k => decide (k ∈ ns)) c)) { s with heap := h', toks := tk } := I.laid (t' := tk) k (Nat.le_refl _) (setO_new R)
  exact ⟨.ref s.heap.objs.size, _, J, rfl, q _ _ hn hcn⟩
end
end Pot

namespace Pot
open PySem PySem.Spec PyProof.Rows L2
/-! ### defs that are called where no text of a thing is under way -/
structure FnG (P : Program) (w : World) (K : PySem.W.Frag) (mg : Str → Option Value) (base : Heap) (k : Nat) (f : Addr) (fd : FuncData) (ps : List Str) (sp : Sp) : Prop where
  many : ∀ vs H Q E, sp vs H Q E → vs.length = ps.length
  does : ∀ (A : Around) (outer : List Env) (s : Shared) (H : Hp) (args : Args) (us : List Value) (vs : List V) (Q : VK), A.guards = some [] → Room k A → Env0 P w K mg base A outer s H →
    BindsTo s fd args (ps.zip us) → Vals vs us → sp vs H Q E0 → codeAny (model P w) A (.call (.ref f) args) (CR CX0 outer P w H s Q E0) s
section
variable {P : Program} {w : World} {K : PySem.W.Frag} {mg : Str → Option Value} {base : Heap}
theorem FnG.of {k : Nat} {f : Addr} {fd : FuncData} {ps : List Str} {sp : Sp} (F : FnOk P w K mg base CX0 k f fd ps sp) : FnG P w K mg base k f fd ps sp :=
  ⟨F.len, fun A outer s H args us vs Q _ hr e hb r h => F.run A outer s H args us vs Q E0 hr e hb r h⟩
theorem okG {x qual : Str} {st : Stmt} {f : Addr} {fd : FuncData} {N ps : List Str} {k : Nat} {sp : Sp} (F : Fun K x qual st f fd) (S : FnScope N ps (defScope st)) (many : ∀ vs H Q E, sp vs H Q E → vs.length = ps.length)
    (body : ∀ (cdv : Value) (A : Around) (outer : List Env) (s : Shared) (H : Hp) (vs : List V) (Q : VK), A.guards = some [] → Room k (A.deeper (envOfC qual (defScope st) s.heap.objs.size f cdv)) → sp vs H Q E0 →
      ∃ t, PSs (cxOf CX0 P w K mg base N qual (defScope st) f cdv A outer s H E0).nox (defBody st) t ∧ t { nx := fun _ H' => Q .non H', rt := Q } (start N vs) H) : FnG P w K mg base (k + 1) f fd ps sp := by
  obtain ⟨oc, od, kV, doc, pm, an, cdv, ct, osl, rfl, at_, code⟩ := F.ex
  refine ⟨many, fun A outer s H args us vs Q gd room e0 bind rel want => ?_⟩
  have kin : K.In s.heap := e0.mod.kin.keeps fun b o e => (e0.bs b o e).1
  have nolim : s.heap.NoLimit := e0.mod.nolimit.keeps fun b o e => (e0.bs b o e).1
  refine codeAny_call_function room.depth (kin _ _ at_) rfl S.co S.gen rfl (PySem.W.codeRec_of kin code) (bind _ _ _ _ (wpAny_newFunctionEnv_cells S.kind (fun y hy => ?_) fun env he s1 x => ?_))
  · obtain ⟨n, v⟩ := y
    exact (S.par n (List.of_mem_zip hy).1).imp id fun q => ⟨q, PySem.W.cellsFrom_some _ _ _ (.inl q)⟩
  · subst he
    obtain ⟨t, ht, hq⟩ := body cdv A outer s H vs Q gd (room.deeper _) want
    have I : Inv (cxOf CX0 P w K mg base N qual (defScope st) f cdv A outer s H E0) [] (start N vs) H s1 := inv_start S room.hd e0 (many _ _ _ _ want) rel x
    refine ⟨nolim.keeps x.toInCall.keep, codeAny_func (wpAny_mono (ht.nox.run [] s1 (start N vs) H _ I hq) (fun fl s' hs => ?_) fun _ _ z => z)⟩
    cases fl with
    | ret u =>
      obtain ⟨v, σ', H', J, rv, q⟩ := hs
      exact ⟨v, H', J.os, J.bare, J.base, J.hok, rv, q⟩
    | next =>
      obtain ⟨σ', H', J, q⟩ := hs
      exact ⟨V.non, H', J.os, J.bare, J.base, J.hok, rfl, q⟩
    | brk => obtain ⟨_, _, _, q⟩ := hs; exact q.elim
    | cont => obtain ⟨_, _, _, q⟩ := hs; exact q.elim
/-! calls -/
/-- a def that may be called by its name where no text is under way -/
def ClG (P : Program) (w : World) (K : PySem.W.Frag) (mg : Str → Option Value) (base : Heap) (k : Nat) (x : Str) (ds : List V) (sp : Sp) : Prop :=
  ∃ (f : Addr) (fd : FuncData) (ps : List Str) (dus : List Value), FnG P w K mg base k f fd ps sp ∧ mg x = some (.ref f) ∧ PySem.W.keepIn K (.ref f) = true ∧ Binds K fd ps dus ∧ Vals ds dus
theorem pe_clG {X : Cx} {k j : Nat} {x : Str} {ds : List V} {sp : Sp} {e : Expr} {es : List Expr} {t : TA} {p pos : Pos} (c : ClG X.prog X.w X.K X.mg X.base k x ds sp) (hr : Room j X.A) (gd : X.A.guards = some []) (hk : k ≤ j) (hg : Gl X x) (ha : PA X (e :: es) t)
    (hdb : (x == ("__debug__" : Str)) = false := by decide) (he : starEach (e :: es) X.env = (false, eval e X.env) :: starEach es X.env := by rfl) (hpl : (backTo pos (starEach es X.env)).any (·.1) = false := by rfl) :
    PE X (.Call (.Name x p) (e :: es) [] pos) (tCall sp ds E0 t) := by
  obtain ⟨f, fd, ps, dus, G, named, kept, binds, dv⟩ := c
  refine ⟨fun pins s σ H Q I h => wpAny_Call_Name_kw (ld_glob I hg named (PySem.W.callWith_K (h₀ := X.base) I.ok.mod.kin kept (thn (ha.run pos pins s σ H _ I h) fun us s1 hh => ?_) he hpl) hdb)⟩
  obtain ⟨vs, H1, I1, r, q⟩ := hh
  refine ⟨I1.kIn, ?_⟩
  have rel := r.append dv
  have n : (us ++ dus).length = ps.length := rel.length ▸ G.many _ _ _ _ q
  refine wpAny_call (codeAny_mono (G.does X.A X.stack s1 H1 ⟨us, []⟩ (us ++ dus) (vs ++ ds) Q gd (hr.mono hk) I1.env0 (binds s1 us I1.kIn n) rel q) fun res s' hq => ?_)
  rcases res with _ | fl
  case error => exact (show False from hq).elim
  cases fl <;> first | exact I1.after hq | exact (show False from hq).elim
/-! the law's own call -/
theorem law_callG {mb : Str → Option Value} {k : Nat} {fa a : Addr} {fd : FuncData} {x : Str} {sp : Sp} {s : Shared} {vs : List Value} {ns : List Int} (kin : K.In s.heap) (glob : s.heap.Ns mainGlobals mg) (blt : s.heap.Ns builtinsNs mb)
    (boot : ∀ y : Str, y ≠ "__name__" → mb y = bootBuiltins y) (lim : s.heap.NoLimit) (gens : s.gens = #[]) (obj : s.heap.get? a = some { cls := .type "list", data := .seq vs.toArray }) (whole : IntsAre vs ns) (small : ns.length ≤ sizeLine) (room : Room k callerA)
    (F : ∀ base : Heap, K.In base → base.Ns mainGlobals mg → FnG P w K mg base k fa fd [x] sp) (bind : ∀ (s : Shared) (u : Value), BindsTo s fd ⟨[u], []⟩ [(x, u)])
    (want : ∀ H : Hp, Only H → SqL K H a (ns.map V.int) → sp [.ref a] H (fun v _ => v = .bl true) E0) :
    codeAny (model P w) callerA (.call (.ref fa) ⟨[.ref a], []⟩) (fun r s' => r = .ok (.ret (.bool true)) ∧ OldK s.heap s'.heap ∧ s'.os = s.os ∧ AllBare s'.gens) s := by
  have rv := vals_ints whole
  have nv := whole.length
  -- which heap is told: the script, locked, where it isn't one of the written part
  obtain ⟨H, only, seq, fine, alone, apart⟩ : ∃ H : Hp, Only H ∧ SqL K H a (ns.map V.int) ∧ HOk P w H s.heap ∧ (∀ b u, H b = some u → b = a) ∧ (∀ u, H a = some u → K.lookup a = none) := by
    cases lk : K.lookup a with
    | some o =>
      have same := kin a o lk
      rw [obj] at same
      cases same
      exact ⟨fun _ => none, fun _ => .inl rfl, .inr ⟨_, vs.toArray, _, lk, rfl, rfl, rfl, by rw [List.size_toArray, nv]; exact small, by simpa using rv⟩, (fun b u z => nomatch (show (none : Option HO) = some u from z)), (fun b u z => nomatch (show (none : Option HO) = some u from z)), fun u z => nomatch (show (none : Option HO) = some u from z)⟩
    | none =>
      have hit : ∀ b u, (if b = a then some (HO.frz { cls := .type "list", data := .seq vs.toArray } (.lst (ns.map V.int))) else none) = some u → b = a ∧ u = .frz { cls := .type "list", data := .seq vs.toArray } (.lst (ns.map V.int)) := fun b u z => by
        split at z
        · cases z; exact ⟨‹_›, rfl⟩
        · cases z
      refine ⟨fun b => if b = a then some (.frz { cls := .type "list", data := .seq vs.toArray } (.lst (ns.map V.int))) else none, fun b => ?_, .inl (.inr ⟨_, if_pos rfl⟩), fun b u z => ?_, fun b u z => (hit b u z).1, fun _ _ => rfl⟩
      · by_cases hb : b = a
        · exact .inr ⟨_, _, if_pos hb⟩
        · exact .inl (if_neg hb)
      · obtain ⟨rfl, rfl⟩ := hit b u z
        exact ⟨obj, by rw [List.length_map]; exact small, vs, _, rv, obj⟩
  have hid : ∀ {b : Addr} {o : Obj}, s.heap.get? b = some o → (b = a → H a = none) → (hidT s.heap H).get? b = some o := fun {b o} e n => hidT_get e (by
    cases q : H b with
    | none => rfl
    | some u =>
      have e2 := alone b u q
      subst e2
      rw [n rfl] at q
      cases q)
  have kinB : K.In (hidT s.heap H) := fun b o e => hid (kin b o e) fun z => by
    subst z
    cases q : H b with
    | none => rfl
    | some u => rw [apart u q] at e; cases e
  have ns_ : ∀ {b : Addr} {m : Str → Option Value}, s.heap.Ns b m → (hidT s.heap H).Ns b m := fun {b m} h => by
    obtain ⟨o, es, ep, e, d, r⟩ := h
    refine ⟨o, es, ep, hid e fun z => ?_, d, r⟩
    subst z
    rw [obj] at e
    cases e
    exact nomatch (show Data.seq vs.toArray _ = Data.dict es ep from d)
  have md : Mod K mg (hidT s.heap H) := ⟨kinB, ns_ glob, ⟨mb, ns_ blt, boot⟩, by obtain ⟨mc, h1, h2⟩ := lim; exact ⟨mc, ns_ h1, h2⟩⟩
  have e0 : Env0 P w K mg (hidT s.heap H) callerA [] s H := ⟨rfl, md, fun b o e => of_hidT e, Nat.le_of_eq (hidT_size _ _), trivial, (fun b hb => nomatch (show b ∈ ([] : List Addr) from hb)), fine, .of_eq gens⟩
  refine codeAny_mono ((F _ kinB (ns_ glob)).does callerA [] s H ⟨[.ref a], []⟩ [.ref a] [.ref a] _ rfl room e0 (bind s (.ref a)) (.cons rfl .nil) (want H only seq)) fun res s' h => ?_
  rcases res with _ | fl
  case error => exact (show False from h).elim
  cases fl <;> first | exact (show False from h).elim | skip
  obtain ⟨v, H', os, bare, un, fine', rel, q⟩ := h
  cases (show v = .bl true from q)
  cases (show _ = Value.bool true from rel)
  refine ⟨rfl, OldK.of_keep fun b o e => ?_, os, bare⟩
  cases q : H b with
  | none => exact un.keep b o e q (fun z => nomatch (show b ∈ ([] : List Addr) from z)) (fun z => nomatch z)
  | some u =>
    rcases only b with z | ⟨ob, xs, z⟩
    · rw [q] at z; cases z
    · obtain ⟨e1, _⟩ := fine b _ z
      obtain ⟨e2, _⟩ := fine' b _ (un.frzs b ob _ z)
      rw [e] at e1; cases e1
      exact e2
end
theorem walkG {l : PySem.W.OpenLaw} {n k : Nat} {q : Program} {loose : List Str} {XP : (Str → Option Value) → Heap → Prop} {YP : World → Heap → Prop} {d : DefRec} {K : Params → PySem.W.Frag} {sp : World → Sp} {x : Str}
    (most : l.most = some n) (fits : n ≤ sizeLine) (plain : d.params.defaults = []) (room : Room k callerA) (part : ∀ (w : World) (h : Heap), YP w h → (K w.params).In h)
    (F : ∀ (w : World) (mg : Str → Option Value) (fa : Addr) (h : Heap), (K w.params).In h → h.Ns mainGlobals mg → mg d.name = some (.ref fa) →
      ∃ fd : FuncData, (∀ (s : Shared) (u : Value), BindsTo s fd ⟨[u], []⟩ [(x, u)]) ∧ ∀ base : Heap, (K w.params).In base → base.Ns mainGlobals mg → FnG l.prog w (K w.params) mg base k fa fd [x] (sp w))
    (want : ∀ (w : World) (H : Hp) (a : Addr) (ns : List Int), ns.length ≤ n → Only H → SqL (K w.params) H a (ns.map V.int) → sp w [.ref a] H (fun v _ => v = .bl true) E0) :
    PySem.W.WalkO q loose XP YP l.row.toRowW d [] (fun f vs => PySem.call f vs) := by
  refine Att.attach_call most plain fun w s₀ s₁ mg mb fa o pm cd doc a vs ns G Y _ _ _ named obj whole len gens => ?_
  obtain ⟨fd, bind, hF⟩ := F w mg fa _ (part w _ Y) G.T.g named
  exact law_callG (part w _ Y) G.T.g G.T.b G.T.builtins G.T.nolimit gens obj whole (Nat.le_trans len fits) room hF bind fun H only seq => want w H a ns len only seq
end Pot

namespace Pot
open PySem PySem.Spec PyProof.Rows L2
/-! ### repr of what is made of numbers, texts, truths, None, lists and tuples -/
section
variable {K : PySem.W.Frag}
mutual
theorem dp_noDict {H : Hp} : ∀ {v : V} {d : PyData}, Dp K H v d → d.hasDict = false
  | _, _, .non => rfl
  | _, _, .bl _ => rfl
  | _, _, .int _ => rfl
  | _, _, .str _ => rfl
  | _, _, .lst _ a => dpAll_noDict a
  | _, _, .tup _ a => dpAll_noDict a
theorem dpAll_noDict {H : Hp} : ∀ {vs : List V} {ds : List PyData}, DpAll K H vs ds → PyData.hasDictAll ds = false
  | _, _, .nil => rfl
  | _, _, .cons h t => by
    show (PyData.hasDict _ || PyData.hasDictAll _) = false
    rw [dp_noDict h, dpAll_noDict t]
    rfl
end
/-- how long its text may be, told roughly -/
def costAll : List PyData → Nat
  | [] => 0
  | x :: xs => cost x + 2 + costAll xs
where cost : PyData → Nat
  | .none => 4
  | .bool _ => 5
  | .int _ => 1921
  | .str x => 10 * x.length + 2
  | .list xs => costAll xs + 3
  | .tuple xs => costAll xs + 3
  | .dict _ => 0
/-- what repr is asked of here: its texts of plain signs -/
def fineAll : List PyData → Prop
  | [] => True
  | x :: xs => fine x ∧ fineAll xs
where fine : PyData → Prop
  | .none => True
  | .bool _ => True
  | .int i => i.natAbs.log2 < 1920
  | .str x => ∀ c ∈ x.cps.toList, c < 16 ^ 8
  | .list xs => fineAll xs
  | .tuple xs => fineAll xs
  | .dict _ => False
theorem from_len : ∀ (ts : List Str) (k : Nat) (acc : Str), (textFrom k acc ts).length ≤ acc.length + piled ts
  | [], k, acc => by rw [piled_nil]; exact Nat.le_refl _
  | t :: r, k, acc => by
    have ih := from_len r (k + 1)
    rw [piled_cons]
    unfold textFrom
    refine Nat.le_trans (ih _) ?_
    rw [strLen_append]
    split
    · rw [strLen_append]
      have e : (", " : Str).length = 2 := by decide +kernel
      omega
    · rw [strLen_append]
      have e : ("" : Str).length = 0 := by decide +kernel
      omega
theorem list_len (ts : List Str) : (listText ts).length ≤ piled ts + 2 := by
  unfold listText
  rw [strLen_append]
  have h := from_len ts 0 "["
  have e1 : ("[" : Str).length = 1 := by decide +kernel
  have e2 : ("]" : Str).length = 1 := by decide +kernel
  omega
mutual
theorem shown_len : ∀ d : PyData, fineAll.fine d → d.shown.length ≤ costAll.cost d
  | .none, _ => by decide +kernel
  | .bool b, _ => by cases b <;> decide +kernel
  | .int i, h => PyProof.Rows.int_text_len_1921 h
  | .str x, h => StrLaws.reprText_len x h
  | .list xs, h => Nat.le_trans (list_len _) (Nat.add_le_add (piled_len xs h) (by decide))
  | .tuple xs, h => Nat.le_trans (fmt_text _) (Nat.add_le_add (piled_len xs h) (by decide))
  | .dict _, h => h.elim
theorem piled_len : ∀ ds : List PyData, fineAll ds → piled (PyData.shownAll ds) ≤ costAll ds
  | [], _ => Nat.le_refl _
  | x :: xs, h => by
    have h1 := shown_len x h.1
    have h2 := piled_len xs h.2
    show piled (x.shown :: PyData.shownAll xs) ≤ costAll.cost x + 2 + costAll xs
    rw [piled_cons]
    omega
end
mutual
theorem fine_show : ∀ d : PyData, fineAll.fine d → d.showable = true
  | .none, _ => rfl
  | .bool _, _ => rfl
  | .int i, h => decide_eq_true h
  | .str _, _ => rfl
  | .list xs, h => fineAll_show xs h
  | .tuple xs, h => fineAll_show xs h
  | .dict _, h => h.elim
theorem fineAll_show : ∀ ds : List PyData, fineAll ds → PyData.showableAll ds = true
  | [], _ => rfl
  | x :: xs, h => by
    show (PyData.showable x && PyData.showableAll xs) = true
    rw [fine_show x h.1, fineAll_show xs h.2]
    rfl
end
end
section
variable {X : Cx}
def rRepr (K : PySem.W.Frag) : List V → Hp → VK → Prop := fun xs H Q => ∃ (a : Addr) (d : PyData), xs = [V.ref a] ∧ Dp K H (.ref a) d ∧ fineAll.fine d ∧ d.depth ≤ 60 ∧ costAll.cost d ≤ 16777216 ∧ Q (.str d.shown) H
theorem cr_repr (gd : X.A.guards = some []) (hu : X.A.units + 64 < cLine) : CallR X (.builtin "repr") (rRepr X.K) := by
  intro pins s σ H vs us Q I r h
  obtain ⟨a, d, rfl, dp, sh, dep, sz, q⟩ := h
  rw [Vals.ref1 r]
  obtain ⟨as, rd⟩ := Dp.reads I d (.ref a) (.ref a) dp rfl
  refine repr_of_reads' rd (fine_show d sh) (fun z => ?_) gd (by omega) (fun _ _ e => e) (fun h' u tk k => ⟨.str d.shown, H, I.kept k, ⟨u, rfl⟩, q⟩) (Nat.le_trans (shown_len d sh) (by rw [sizeLine_eq]; exact sz))
  rw [dp_noDict dp] at z
  cases z
end
end Pot

/-! The rules whose readings name the written part, with it as a letter of its own. -/
namespace Pot
open PySem PySem.Spec PyProof.Rows L2
section
variable {X : Cx} {K : PySem.W.Frag}
theorem kx_list (h : X.K = K := by rfl) : IxR X (rIxL K) := h ▸ ix_list
theorem kx_tup (h : X.K = K := by rfl) : IxR X (rIxT K) := h ▸ ix_tup
theorem kl_list (h : X.K = K := by rfl) : SlR X (rSlL K) := h ▸ sl_list
theorem kl_tup (h : X.K = K := by rfl) : SlR X (rSlA K) := h ▸ sl_tupA
theorem ko_in (h : X.K = K := by rfl) : OpR X (compareOp .In) (rIn K false) := h ▸ op_in_seq
theorem ko_eq (hu : X.A.units + 64 < cLine) (h : X.K = K := by rfl) : OpR X (compareOp .Eq) (rEqD K) := h ▸ op_eqD hu
theorem ko_ne (hu : X.A.units + 64 < cLine) (h : X.K = K := by rfl) : OpR X (compareOp .NotEq) (rNeD K) := h ▸ op_neD hu
def rLen (K : PySem.W.Frag) : List V → Hp → VK → Prop := fun xs H Q => ∃ x n, xs = [x] ∧ LenV K x H n ∧ Q (.int n) H
theorem kc_len (h : X.K = K := by rfl) : CallR X (.builtin "len") (rLen K) := by subst h; exact call_len
def rListOf (K : PySem.W.Frag) : List V → Hp → VK → Prop := fun xs H Q => ∃ p ys, xs = [.ref p] ∧ (SqL K H p ys ∨ SqT K H p ys) ∧ ∀ l, H l = none → Q (.ref l) (upd H l (.lst ys))
theorem kc_list (h : X.K = K := by rfl) : CallR X (.type "list") (rListOf K) := by subst h; exact call_list_of
def rTupleOf (K : PySem.W.Frag) : List V → Hp → VK → Prop := fun xs H Q => ∃ p ys, xs = [.ref p] ∧ ((SqL K H p ys ∧ ∀ l, H l = none → Q (.ref l) (upd H l (.tup ys))) ∨ (SqT K H p ys ∧ Q (.ref p) H))
theorem kc_tuple (h : X.K = K := by rfl) : CallR X (.type "tuple") (rTupleOf K) := by subst h; exact call_tuple_of
theorem kc_sum (hc : X.calm = true := by rfl) (h : X.K = K := by rfl) : CallR X (.builtin "sum") (rSum K) := h ▸ cr_sum hc
theorem kc_all (hc : X.calm = true := by rfl) (h : X.K = K := by rfl) : CallR X (.builtin "all") (rAll K) := h ▸ cr_all hc
theorem kc_any (hc : X.calm = true := by rfl) (h : X.K = K := by rfl) : CallR X (.builtin "any") (rAny K) := h ▸ cr_any hc
theorem kc_sorted (h : X.K = K := by rfl) : CallR X (.builtin "sorted") (rSorted K) := h ▸ cr_sorted
theorem kc_sortedS (h : X.K = K := by rfl) : CallR X (.builtin "sorted") (rSortedS K) := h ▸ cr_sortedS
theorem kc_isi (h : X.K = K := by rfl) : CallR X (.builtin "isinstance") (rIsi K) := h ▸ call_isi
theorem kc_isiT (h : X.K = K := by rfl) : CallR X (.builtin "isinstance") (rIsiT K) := h ▸ call_isiT
theorem kc_repr (gd : X.A.guards = some []) (hu : X.A.units + 64 < cLine) (h : X.K = K := by rfl) : CallR X (.builtin "repr") (rRepr K) := h ▸ cr_repr gd hu
theorem kc_setLi {w : World} (hc : X.calm = true := by rfl) (h : X.K = K := by rfl) (hw : X.w = w := by rfl) : CallR X (.type "set") (rSetLi K w) := by subst h; subst hw; exact cr_setLi hc
theorem kc_sortedSet {w : World} (hc : X.calm = true := by rfl) (hw : X.w = w := by rfl) : CallR X (.builtin "sorted") (rSortedSet w) := hw ▸ cr_sortedSet hc
theorem ki_list {tg l : Expr} {tl : TE} (hl : PE X l tl) (h : X.K = K := by rfl) : PI X tg l (iList K tl) := h ▸ pi_list hl
theorem ki_tup {tg l : Expr} {tl : TE} (hl : PE X l tl) (h : X.K = K := by rfl) : PI X tg l (iTup K tl) := h ▸ pi_tup hl
theorem ki_zip {e e2 : Expr} {ta : TA} {p pos tpos : Pos} {elts : List Expr} {kk : Nat} (hg : Gl X "zip") (hm : X.mg "zip" = none) (ha : PA X [e, e2] ta) (hs : starEach [e, e2] X.env = (false, eval e X.env) :: starEach [e2] X.env := by rfl)
    (hpl : (backTo pos (starEach [e2] X.env)).any (·.1) = false := by rfl) (h : X.K = K := by rfl) : PI X (.Tuple elts kk tpos) (.Call (.Name "zip" p) [e, e2] [] pos) (RZ.iZipA K ta) := h ▸ RZ.pi_zipA hg hm ha hs hpl
theorem ki_enum {e : Expr} {ta : TA} {p pos tpos : Pos} {elts : List Expr} {kk : Nat} (hg : Gl X "enumerate") (hm : X.mg "enumerate" = none) (ha : PA X [e] ta) (hs : starEach [e] X.env = [(false, eval e X.env)] := by rfl) (h : X.K = K := by rfl)
    : PI X (.Tuple elts kk tpos) (.Call (.Name "enumerate" p) [e] [] pos) (iEnum K ta) := h ▸ pi_enum hg hm ha hs
theorem kg_tup {pos : Pos} {es : List Expr} {k : Nat} {t : TGs} {n : Nat} (h : PGs X es t) (hc : X.calm = true := by rfl) (hn : (assignEach es X.env).length = n := by rfl) (hst : (assignEach es X.env).findIdx? (·.1) = none := by rfl) (hk : X.K = K := by rfl) : PG X (.Tuple es k pos) (gTup K n t) := hk ▸ pg_tup hc h hn hst
def tTru (K : PySem.W.Frag) (ta : TE) : TT := fun σ H Q => ta σ H fun x H' => ∃ k, TruV K x H' k ∧ Q k H'
theorem kt_truth {a : Expr} {ta : TE} (ha : PE X a ta) (he : ∀ whole, isTrue a X.env whole = (do let v ← whole; standAt a.pos; holding [v] (truthy v)) := by intro _; rfl) (h : X.K = K := by rfl) : PT X a (tTru K ta) := by subst h; exact pt_truth ha he
def rJoin (K : PySem.W.Frag) : V → List V → Hp → VK → Prop := fun x xs H Q => ∃ a p, ∃ ys : List Str, x = .str a ∧ xs = [.ref p] ∧ (SqL K H p (ys.map V.str) ∨ SqT K H p (ys.map V.str)) ∧ (ys.map (·.length)).sum + ys.length * a.length ≤ 16777216 ∧ Q (.str (Txt.join a ys)) H
theorem ke_join {o e : Expr} {to te : TE} {apos pos : Pos} (ho : PE X o to) (he : PE X e te) (hs : starEach [e] X.env = [(false, eval e X.env)] := by rfl) (hbase : attributeBase o "join" X.env (eval o X.env) = eval o X.env := by rfl) (hline : (apos.endLine == pos.line) = true := by rfl) (h : X.K = K := by rfl) :
    PE X (.Call (.Attribute o "join" apos) [e] [] pos) (tM1 (rJoin K) to te) := by subst h; exact pe_join ho he hs hbase hline
theorem pss_never {st : List Stmt} : PSs X st (fun _ _ _ => False) := ⟨fun _ _ _ _ _ _ h => h.elim⟩
theorem ps_never {st : Stmt} : PS X st (fun _ _ _ => False) := ⟨fun _ _ _ _ _ _ h => h.elim⟩
theorem pe_never {e : Expr} : PE X e (fun _ _ _ => False) := ⟨fun _ _ _ _ _ _ h => h.elim⟩
theorem tYes_at {σ : L2.St} {H : Hp} {Q : Bool → Hp → Prop} (h : Q true H) : tYes σ H Q := h
end
end Pot

namespace Pot
open PySem PySem.Spec PyProof.Rows L2
/-- built-in names that the module gives no other meaning -/
structure Txt (mg : Str → Option Value) : Prop where
  len : mg "len" = none
  divmod : mg "divmod" = none
  range : mg "range" = none
  sum : mg "sum" = none
  all : mg "all" = none
  any : mg "any" = none
  isinstance : mg "isinstance" = none
  str : mg "str" = none
  int : mg "int" = none
  list : mg "list" = none
  tuple : mg "tuple" = none
  bool : mg "bool" = none
  zip : mg "zip" = none
  set : mg "set" = none
  sorted : mg "sorted" = none
  enumerate : mg "enumerate" = none
  repr : mg "repr" = none
  min : mg "min" = none
  max : mg "max" = none
  abs : mg "abs" = none
/-- a def that may be called by its name: what it keeps, at which level -/
def Cl (P : Program) (w : World) (K : PySem.W.Frag) (mg : Str → Option Value) (base : Heap) (k : Nat) (x : Str) (sp : Sp) : Prop :=
  ∃ (f : Addr) (fd : FuncData) (ps : List Str), FnOk P w K mg base CX0 k f fd ps sp ∧ mg x = some (.ref f) ∧ PySem.W.keepIn K (.ref f) = true ∧ Binds K fd ps []
theorem pe_cl {X : Cx} {k j : Nat} {x : Str} {sp : Sp} {e : Expr} {es : List Expr} {t : TA} {p pos : Pos} (c : Cl X.prog X.w X.K X.mg X.base k x sp) (hr : Room j X.A) (hk : k ≤ j) (hg : Gl X x) (ha : PA X (e :: es) t) (hdb : (x == ("__debug__" : Str)) = false := by decide)
    (he : starEach (e :: es) X.env = (false, eval e X.env) :: starEach es X.env := by rfl) (hpl : (backTo pos (starEach es X.env)).any (·.1) = false := by rfl) : PE X (.Call (.Name x p) (e :: es) [] pos) (tCall sp [] E0 t) := by
  obtain ⟨f, fd, ps, G, hm, kp, b⟩ := c
  exact pe_call G (hr.mono hk) hg hm kp b .nil pass0 ha hdb he hpl
/-! ### the drawing state -/
def dS (c : Addr) (t : Int) : List (Key × V) := [(Sum.inr "cells", .ref c), (Sum.inr "turn", .int t)]
/-- at d stands a state of the law: its cells at c, its turn at most n -/
def StAt (H : Hp) (d c : Addr) (n : Nat) : Prop := d ≠ c ∧ ∃ (xs : List Int) (t : Int),
  H d = some (.dK (dS c t)) ∧ H c = some (.lst (xs.map V.int)) ∧ xs ≠ [] ∧ xs.length ≤ 63 ∧ 0 ≤ t ∧ t ≤ n
/-- all that was tracked stands, but d and c -/
def Kp (d c : Addr) (H H' : Hp) : Prop := ∀ b o, b ≠ d → b ≠ c → H b = some o → H' b = some o
theorem Kp.refl (d c : Addr) (H : Hp) : Kp d c H H := fun _ _ _ _ e => e
theorem Kp.trans {d c : Addr} {H H1 H2 : Hp} (a : Kp d c H H1) (b : Kp d c H1 H2) : Kp d c H H2 := fun x o h1 h2 e => b x o h1 h2 (a x o h1 h2 e)
theorem Kp.of {d c : Addr} {H H' : Hp} (s : Same H H') : Kp d c H H' := fun x o _ _ e => s x o e
theorem same_upd {H : Hp} {p : Addr} {o : HO} (h : H p = none) : Same H (upd H p o) := fun b x e => by
  rw [upd_ne (ne_of_none e h)]
  exact e
theorem same_put {H H' : Hp} {p : Addr} {o : HO} (s : Same H H') (h : H p = none) : Same H (upd H' p o) := fun b x e => by
  rw [upd_ne (ne_of_none e h)]
  exact s b x e
theorem kp_put {d c : Addr} {H H' : Hp} {p : Addr} {o : HO} (s : Kp d c H H') (h : H p = none) : Kp d c H (upd H' p o) := fun b x h1 h2 e => by
  rw [upd_ne (ne_of_none e h)]
  exact s b x h1 h2 e
theorem StAt.mono {H : Hp} {d c : Addr} {n m : Nat} (h : StAt H d c n) (k : n ≤ m) : StAt H d c m := by
  obtain ⟨h0, xs, t, h1, h2, h3, h4, h5, h6⟩ := h
  exact ⟨h0, xs, t, h1, h2, h3, h4, h5, by omega⟩
theorem StAt.same {H H' : Hp} {d c : Addr} {n : Nat} (h : StAt H d c n) (s : Same H H') : StAt H' d c n := by
  obtain ⟨h0, xs, t, h1, h2, h3, h4, h5, h6⟩ := h
  exact ⟨h0, xs, t, s _ _ h1, s _ _ h2, h3, h4, h5, h6⟩
theorem Kp.free {d c : Addr} {H H' : Hp} {n : Nat} {l : Addr} (k : Kp d c H H') (s : StAt H' d c n) (h : H' l = none) : H l = none := by
  obtain ⟨_, xs, t, h1, h2, _⟩ := s
  have n1 : l ≠ d := (ne_of_none h1 h).symm
  have n2 : l ≠ c := (ne_of_none h2 h).symm
  cases e : H l with
  | none => rfl
  | some o =>
    rw [k l o n1 n2 e] at h
    cases h
theorem StAt.ne1 {H : Hp} {d c : Addr} {n : Nat} {l : Addr} (s : StAt H d c n) (h : H l = none) : d ≠ l := by
  obtain ⟨_, xs, t, h1, h2, _⟩ := s
  exact ne_of_none h1 h
theorem StAt.ne2 {H : Hp} {d c : Addr} {n : Nat} {l : Addr} (s : StAt H d c n) (h : H l = none) : c ≠ l := by
  obtain ⟨_, xs, t, h1, h2, _⟩ := s
  exact ne_of_none h2 h
theorem StAt.put {H : Hp} {d c : Addr} {n : Nat} {l : Addr} {o : HO} (s : StAt H d c n) (n1 : d ≠ l) (n2 : c ≠ l) : StAt (upd H l o) d c n := by
  obtain ⟨h0, xs, t, h1, h2, h3, h4, h5, h6⟩ := s
  exact ⟨h0, xs, t, by rw [upd_ne n1]; exact h1, by rw [upd_ne n2]; exact h2, h3, h4, h5, h6⟩
theorem val_turn (c : Addr) (t : Int) : valV (dS c t) (Sum.inr "turn") = some (.int t) := by
  have e : ¬ ((Sum.inr (Str.ofString "cells") : Key) = Sum.inr (Str.ofString "turn")) := by decide +kernel
  unfold dS; rw [valV_neg e, valV_pos rfl]
theorem val_cells (c : Addr) (t : Int) : valV (dS c t) (Sum.inr "cells") = some (.ref c) := by
  unfold dS; rw [valV_pos rfl]
theorem put_turn (c : Addr) (t u : Int) : putK (dS c t) (Sum.inr "turn") (.int u) = dS c u := by
  have e : ¬ ((Sum.inr (Str.ofString "cells") : Key) = Sum.inr (Str.ofString "turn")) := by decide +kernel
  unfold putK dS
  simp [e]

theorem dget_turn {H : Hp} {d c : Addr} {t : Int} (h : H d = some (.dK (dS c t))) : DGet H d (.str "turn") (some (.int t)) := by
  rw [← val_turn c t]; exact DGet.k (k := Sum.inr "turn") h
theorem dget_cells {H : Hp} {d c : Addr} {t : Int} (h : H d = some (.dK (dS c t))) : DGet H d (.str "cells") (some (.ref c)) := by
  rw [← val_cells c t]; exact DGet.k (k := Sum.inr "cells") h
theorem dput_turn {H : Hp} {d c : Addr} {t : Int} (u : Int) (h : H d = some (.dK (dS c t))) : DPut H d (.str "turn") (.int u) (upd H d (.dK (dS c u))) := by
  rw [← put_turn c t u]; exact DPut.k (k := Sum.inr "turn") h (by show 2 < sizeLine; decide)
theorem ge18 (x : Int) : (decide ((10 : Int) ^ (18 : Int).toNat ≤ x) = true) ↔ 1000000000000000000 ≤ x := by
  have e : (10 : Int) ^ (18 : Int).toNat = 1000000000000000000 := by decide
  rw [e, decide_eq_true_eq]
theorem cmul_mod (a b : Int) {m : Int} (h0 : 0 < m) (h1 : m < 2 ^ 64) : CMul (a % m) b := by
  have p := Int.emod_nonneg a (show m ≠ 0 by omega)
  have q := Int.emod_lt_of_pos a h0
  exact .inl ⟨by omega, by omega⟩
theorem mod_at {xs : List Int} {u : Int} (hx : xs ≠ []) : ∃ (j : Nat) (y : Int), u % ((xs.map V.int).length : Int) = (j : Int) ∧ j < xs.length ∧ xs[j]? = some y := by
  have h0 : 0 < xs.length := List.length_pos_iff.mpr hx
  rw [List.length_map]
  have a := Int.emod_nonneg u (show (xs.length : Int) ≠ 0 by omega)
  have b := Int.emod_lt_of_pos u (show (0 : Int) < (xs.length : Int) by omega)
  refine ⟨(u % (xs.length : Int)).toNat, xs[(u % (xs.length : Int)).toNat]'(by omega), by omega, by omega, ?_⟩
  exact List.getElem?_eq_getElem _

section
variable {K : PySem.W.Frag}
theorem cut63 {xs : List V} (h : xs.length ≤ 63) : cutV xs none (some 63) = xs := by
  unfold cutV
  rw [HT.sIx_none, show HT.sIx xs.length xs.length (some 63) = min 63 xs.length from HT.sIx_nat xs.length xs.length 63, Nat.min_eq_right h]
  simp
theorem dp_ints {H : Hp} (ns : List Int) : DpAll K H (ns.map V.int) (ns.map PyData.int) := by
  induction ns with
  | nil => exact .nil
  | cons n r ih => exact .cons (.int n) ih
theorem same_tup {H H' : Hp} {a : Addr} {xs : List V} (e : Same H H') (h : SqT K H a xs) : SqT K H' a xs := by
  rcases h with (h | ⟨o, h⟩) | h
  · exact .inl (.inl (e _ _ h))
  · exact .inl (.inr ⟨o, e _ _ h⟩)
  · exact .inr h
mutual
theorem dp_same {H H' : Hp} (s : Same H H') : ∀ {v : V} {d : PyData}, Dp K H v d → Dp K H' v d
  | _, _, .non => .non
  | _, _, .bl b => .bl b
  | _, _, .int i => .int i
  | _, _, .str x => .str x
  | _, _, .lst h a => .lst (s.seq h) (dpAll_same s a)
  | _, _, .tup h a => .tup (same_tup s h) (dpAll_same s a)
theorem dpAll_same {H H' : Hp} (s : Same H H') : ∀ {vs : List V} {ds : List PyData}, DpAll K H vs ds → DpAll K H' vs ds
  | _, _, .nil => .nil
  | _, _, .cons h t => .cons (dp_same s h) (dpAll_same s t)
end
theorem dpAll_len {H : Hp} : ∀ {vs : List V} {ds : List PyData}, DpAll K H vs ds → vs.length = ds.length
  | _, _, .nil => rfl
  | _, _, .cons _ t => by rw [List.length_cons, List.length_cons, dpAll_len t]
theorem dpAll_at {H : Hp} : ∀ {vs : List V} {ds : List PyData} {i : Nat} {v : V}, DpAll K H vs ds → vs[i]? = some v → ∃ d, ds[i]? = some d ∧ Dp K H v d
  | _, _, _, _, .nil, h => by simp at h
  | _, _, 0, _, .cons h _, e => ⟨_, rfl, by cases e; exact h⟩
  | _, _, i + 1, _, .cons _ t, e => dpAll_at (i := i) t e
theorem depth_at : ∀ {ds : List PyData} {i : Nat} {d : PyData}, ds[i]? = some d → d.depth ≤ PyData.depthAll ds
  | [], _, _, h => by simp at h
  | x :: r, 0, d, h => by cases h; unfold PyData.depthAll; exact Nat.le_max_left ..
  | x :: r, i + 1, d, h => by
    have := depth_at (ds := r) (i := i) (d := d) h
    unfold PyData.depthAll
    exact Nat.le_trans this (Nat.le_max_right ..)
theorem tyx_list {H : Hp} {a : Addr} {xs : List V} (h : SqL K H a xs) : TyX K H (.ref a) (.type "list") := by
  rcases h with (h | ⟨o, h⟩) | ⟨o, its, n, h1, h2, _⟩
  · exact .base (.lst h)
  · exact .base (.frz h)
  · exact .kList h1 h2
theorem tyx_tup {H : Hp} {a : Addr} {xs : List V} (h : SqT K H a xs) : TyX K H (.ref a) (.type "tuple") := by
  rcases h with (h | ⟨o, h⟩) | ⟨o, its, n, h1, h2, _⟩
  · exact .base (.tup h)
  · exact .fTuple h
  · exact .kTuple h1 h2
theorem walk_zipT {a b : Addr} {xs ys : List V} {n : Nat} (hn : n = min xs.length ys.length) : Walk (RZ.ItzT K a b) n (fun H => SqT K H a xs ∧ SqT K H b ys) (YPair (fun i => xs[i]?) (fun i => ys[i]?)) := by
  subst hn
  refine ⟨fun i _ hi q => ?_, fun _ q => ⟨xs, ys, q.1, q.2, by omega⟩, fun i H v H' _ q y => ?_⟩
  · exact ⟨xs, ys, xs[i]'(by omega), ys[i]'(by omega), q.1, q.2, List.getElem?_eq_getElem _, List.getElem?_eq_getElem _⟩
  · obtain ⟨T, x, z, e1, e2, e3, e4, e5⟩ := y
    exact ⟨T, x, z, e1, e2, e3, e4 xs q.1, e5 ys q.2⟩
/-- the longest list within -/
def widAll : List PyData → Nat
  | [] => 0
  | x :: xs => max (wid x) (widAll xs)
where wid : PyData → Nat
  | .list xs => max xs.length (widAll xs)
  | .tuple xs => max xs.length (widAll xs)
  | _ => 0
theorem wid_at : ∀ {ds : List PyData} {i : Nat} {d : PyData}, ds[i]? = some d → widAll.wid d ≤ widAll ds
  | [], _, _, h => by simp at h
  | x :: r, 0, d, h => by cases h; unfold widAll; exact Nat.le_max_left ..
  | x :: r, i + 1, d, h => by
    have := wid_at (ds := r) (i := i) (d := d) h
    unfold widAll
    exact Nat.le_trans this (Nat.le_max_right ..)
theorem depth_ints (ns : List Int) : (PyData.list (ns.map PyData.int)).depth = 1 := by
  have h : ∀ l : List Int, PyData.depthAll (l.map PyData.int) = 0 := by
    intro l
    induction l with
    | nil => rfl
    | cons x r ih =>
      show max 0 (PyData.depthAll (r.map PyData.int)) = 0
      rw [ih]
      rfl
  show PyData.depthAll (ns.map PyData.int) + 1 = 1
  rw [h]
theorem wid_ints (ns : List Int) : widAll.wid (PyData.list (ns.map PyData.int)) = ns.length := by
  have h : ∀ l : List Int, widAll (l.map PyData.int) = 0 := by
    intro l
    induction l with
    | nil => rfl
    | cons x r ih =>
      show max 0 (widAll (r.map PyData.int)) = 0
      rw [ih]
      rfl
  show max (ns.map PyData.int).length (widAll (ns.map PyData.int)) = ns.length
  rw [h, List.length_map, Nat.max_zero]
theorem flat_ints (ns : List Int) : (ns.map V.int).all flatV = true := by
  rw [List.all_eq_true]
  intro x hx
  obtain ⟨k, _, rfl⟩ := List.mem_map.mp hx
  rfl
end
section
variable {P : Program} {w : World} {K : PySem.W.Frag} {mg : Str → Option Value} {base : Heap}
/-- a def with values that may be left out -/
abbrev FunV (K : PySem.W.Frag) (x : Str) (st : Stmt) (dvs : List V) (f : Addr) (fd : FuncData) : Prop := FunD K x x (defArgs st) (defBody st) (defScope st) dvs [] f fd
theorem okD {x : Str} {st : Stmt} {dvs : List V} {f : Addr} {fd : FuncData} {N ps : List Str} {k : Nat} {sp : Sp} (F : FunV K x st dvs f fd) (S : FnScope N ps (defScope st)) (len : ∀ vs H Q E, sp vs H Q E → vs.length = ps.length)
    (body : ∀ (cdv : Value) (A : Around) (outer : List Env) (s : Shared) (H : Hp) (vs : List V) (Q : VK) (E : XK), Room k (A.deeper (envOfC x (defScope st) s.heap.objs.size f cdv)) → sp vs H Q E →
      ∃ t, PSs (cxOf CX0 P w K mg base N x (defScope st) f cdv A outer s H E).nox (defBody st) t ∧ t { nx := fun _ H' => Q .non H', rt := Q } (start N vs) H) : FnOk P w K mg base CX0 (k + 1) f fd ps sp :=
  FunD.ok F S len fun cdv A outer s H vs Q E hr h => by
    obtain ⟨t, ht, hq⟩ := body cdv A outer s H vs Q E hr h
    exact ⟨t, ht.nox, hq⟩
/-- a def that may be called by its name, the values ds being left out -/
def ClD (P : Program) (w : World) (K : PySem.W.Frag) (mg : Str → Option Value) (base : Heap) (k : Nat) (x : Str) (ds : List V) (sp : Sp) : Prop :=
  ∃ (f : Addr) (fd : FuncData) (ps : List Str) (dus : List Value), FnOk P w K mg base CX0 k f fd ps sp ∧ mg x = some (.ref f) ∧ PySem.W.keepIn K (.ref f) = true ∧ Binds K fd ps dus ∧ Vals ds dus
theorem pe_cd {X : Cx} {k j : Nat} {x : Str} {ds : List V} {sp : Sp} {e : Expr} {es : List Expr} {t : TA} {p pos : Pos} (c : ClD X.prog X.w X.K X.mg X.base k x ds sp) (hr : Room j X.A) (hk : k ≤ j) (hg : Gl X x) (ha : PA X (e :: es) t) (hdb : (x == ("__debug__" : Str)) = false := by decide)
    (he : starEach (e :: es) X.env = (false, eval e X.env) :: starEach es X.env := by rfl) (hpl : (backTo pos (starEach es X.env)).any (·.1) = false := by rfl) : PE X (.Call (.Name x p) (e :: es) [] pos) (tCall sp ds E0 t) := by
  obtain ⟨f, fd, ps, dus, G, hm, kp, b, dv⟩ := c
  exact pe_call G (hr.mono hk) hg hm kp b dv pass0 ha hdb he hpl
theorem Cl.mono {k j : Nat} {x : Str} {sp : Sp} (c : Cl P w K mg base k x sp) (h : k ≤ j) : Cl P w K mg base j x sp := by
  obtain ⟨f, fd, ps, G, r⟩ := c
  exact ⟨f, fd, ps, G.mono h, r⟩
end
end Pot

namespace Pot
open PySem PySem.Spec PyProof.Rows L2
/-! ### palettes as data -/
abbrev Col := Str × Int × Int × Int
abbrev Wsh := Str × Str × Option Int
def colD (c : Col) : PyData := .tuple [.str c.1, .int c.2.1, .int c.2.2.1, .int c.2.2.2]
def optD : Option Int → PyData
  | none => .none
  | some i => .int i
def washD (r : Wsh) : PyData := .tuple [.str r.1, .str r.2.1, optD r.2.2]
def palD (cs : List Col) (ws : List Wsh) : PyData := .tuple [.tuple (cs.map colD), .tuple (ws.map washD)]
def optV : Option Int → V
  | none => .non
  | some i => .int i
def namV : Option Str → V
  | none => .non
  | some z => .str z
/-- the washing between two: the first row that tells -/
def washF (ws : List Wsh) (a : Option Str) (b : Str) : Option Int := match ws with
  | [] => some 0
  | r :: ws => if some r.1 = a ∧ r.2.1 = b then r.2.2 else washF ws a b
/-- the washing of a row -/
def sumF (ws : List Wsh) : Option Str → List Str → Int → Option Int
  | _, [], h => some h
  | a, b :: r, h => match washF ws a b with
    | none => none
    | some k => sumF ws (some b) r (h + k)
section
variable {K : PySem.W.Frag} {H : Hp}
theorem dp_tup {v : V} {ds : List PyData} (h : Dp K H v (.tuple ds)) : ∃ a xs, v = .ref a ∧ SqT K H a xs ∧ DpAll K H xs ds := by
  cases h with
  | tup h a => exact ⟨_, _, rfl, h, a⟩
theorem dp_lst {v : V} {ds : List PyData} (h : Dp K H v (.list ds)) : ∃ a xs, v = .ref a ∧ SqL K H a xs ∧ DpAll K H xs ds := by
  cases h with
  | lst h a => exact ⟨_, _, rfl, h, a⟩
theorem dp_str {v : V} {z : Str} (h : Dp K H v (.str z)) : v = .str z := by cases h; rfl
theorem dp_int {v : V} {z : Int} (h : Dp K H v (.int z)) : v = .int z := by cases h; rfl
theorem dp_opt {v : V} : ∀ {z : Option Int}, Dp K H v (optD z) → v = optV z
  | none, h => by cases h; rfl
  | some i, h => by cases h; rfl
theorem opt_dp : ∀ (z : Option Int), Dp K H (optV z) (optD z)
  | none => .non
  | some i => .int i
theorem dp_two {xs : List V} {d e : PyData} (h : DpAll K H xs [d, e]) : ∃ x y, xs = [x, y] ∧ Dp K H x d ∧ Dp K H y e := by
  cases h with
  | cons h1 t => cases t with
    | cons h2 t => cases t; exact ⟨_, _, rfl, h1, h2⟩
theorem dp_three {xs : List V} {d e f : PyData} (h : DpAll K H xs [d, e, f]) : ∃ x y z, xs = [x, y, z] ∧ Dp K H x d ∧ Dp K H y e ∧ Dp K H z f := by
  cases h with
  | cons h1 t => obtain ⟨y, z, rfl, h2, h3⟩ := dp_two t; exact ⟨_, _, _, rfl, h1, h2, h3⟩
theorem dp_four {xs : List V} {d e f g : PyData} (h : DpAll K H xs [d, e, f, g]) : ∃ x y z u, xs = [x, y, z, u] ∧ Dp K H x d ∧ Dp K H y e ∧ Dp K H z f ∧ Dp K H u g := by
  cases h with
  | cons h1 t => obtain ⟨y, z, u, rfl, h2, h3, h4⟩ := dp_three t; exact ⟨_, _, _, _, rfl, h1, h2, h3, h4⟩
/-- a colour's tuple -/
theorem col_dp {v : V} {c : Col} (h : Dp K H v (colD c)) : ∃ a, v = .ref a ∧ SqT K H a [.str c.1, .int c.2.1, .int c.2.2.1, .int c.2.2.2] := by
  obtain ⟨a, xs, rfl, hs, ha⟩ := dp_tup h
  obtain ⟨x, y, z, u, rfl, h1, h2, h3, h4⟩ := dp_four ha
  rw [dp_str h1, dp_int h2, dp_int h3, dp_int h4] at hs
  exact ⟨a, rfl, hs⟩
theorem wash_dp {v : V} {r : Wsh} (h : Dp K H v (washD r)) : ∃ a, v = .ref a ∧ SqT K H a [.str r.1, .str r.2.1, optV r.2.2] := by
  obtain ⟨a, xs, rfl, hs, ha⟩ := dp_tup h
  obtain ⟨x, y, z, rfl, h1, h2, h3⟩ := dp_three ha
  rw [dp_str h1, dp_str h2, dp_opt h3] at hs
  exact ⟨a, rfl, hs⟩
/-- a palette in the heap -/
theorem pal_dp {v : V} {cs : List Col} {ws : List Wsh} (h : Dp K H v (palD cs ws)) :
    ∃ p c w xs ys, v = .ref p ∧ SqT K H p [.ref c, .ref w] ∧ SqT K H c xs ∧ DpAll K H xs (cs.map colD) ∧ SqT K H w ys ∧ DpAll K H ys (ws.map washD) := by
  obtain ⟨p, zs, rfl, hp, hz⟩ := dp_tup h
  obtain ⟨x, y, rfl, h1, h2⟩ := dp_two hz
  obtain ⟨c, xs, rfl, hc, hx⟩ := dp_tup h1
  obtain ⟨w, ys, rfl, hw, hy⟩ := dp_tup h2
  exact ⟨p, c, w, xs, ys, rfl, hp, hc, hx, hw, hy⟩
theorem dpAll_map_at {α : Type} {f : α → PyData} {xs : List V} {l : List α} {i : Nat} {x : V} (h : DpAll K H xs (l.map f)) (e : xs[i]? = some x) : ∃ y, l[i]? = some y ∧ Dp K H x (f y) := by
  obtain ⟨d, g, p⟩ := dpAll_at h e
  rw [List.getElem?_map] at g
  obtain ⟨y, hy, rfl⟩ := Option.map_eq_some_iff.mp g
  exact ⟨y, hy, p⟩
theorem dpAll_map_len {α : Type} {f : α → PyData} {xs : List V} {l : List α} (h : DpAll K H xs (l.map f)) : xs.length = l.length := by
  rw [dpAll_len h, List.length_map]
end
theorem decS {a b : Str} : decide (V.str a = V.str b) = decide (a = b) := by
  by_cases h : a = b
  · subst h; rw [decide_eq_true rfl, decide_eq_true rfl]
  · rw [decide_eq_false h, decide_eq_false fun z => h (V.str.inj z)]
/-- behind rows that don't tell -/
theorem washF_skip {a : Option Str} {b : Str} : ∀ {ws : List Wsh} {i : Nat}, (∀ j r, j < i → ws[j]? = some r → ¬ (some r.1 = a ∧ r.2.1 = b)) → washF ws a b = washF (ws.drop i) a b
  | ws, 0, _ => rfl
  | [], i + 1, _ => rfl
  | r :: ws, i + 1, h => by
    show (if some r.1 = a ∧ r.2.1 = b then r.2.2 else washF ws a b) = washF (ws.drop i) a b
    rw [if_neg (h 0 r (Nat.succ_pos _) rfl)]
    exact washF_skip (a := a) (b := b) (ws := ws) (i := i) fun j q hj e => h (j + 1) q (Nat.succ_lt_succ hj) e
theorem washF_at {a : Option Str} {b : Str} {ws : List Wsh} {i : Nat} {r : Wsh} (h : ∀ j r, j < i → ws[j]? = some r → ¬ (some r.1 = a ∧ r.2.1 = b)) (e : ws[i]? = some r) (hr : some r.1 = a ∧ r.2.1 = b) : washF ws a b = r.2.2 := by
  rw [washF_skip h, List.drop_eq_getElem_cons (List.getElem?_eq_some_iff.mp e).1, (List.getElem?_eq_some_iff.mp e).2]
  unfold washF
  rw [if_pos hr]
theorem washF_none {a : Option Str} {b : Str} {ws : List Wsh} (h : ∀ j r, j < ws.length → ws[j]? = some r → ¬ (some r.1 = a ∧ r.2.1 = b)) : washF ws a b = some 0 := by
  rw [washF_skip h, List.drop_length]
  rfl
/-! ### data without lists stays while the law draws -/
def noLAll : List PyData → Prop
  | [] => True
  | x :: xs => noL x ∧ noLAll xs
where noL : PyData → Prop
  | .list _ => False
  | .dict _ => False
  | .tuple xs => noLAll xs
  | _ => True
section
variable {K : PySem.W.Frag}
theorem kp_tup {d c : Addr} {H H' : Hp} {n : Nat} {a : Addr} {xs : List V} (st : StAt H d c n) (k : Kp d c H H') (h : SqT K H a xs) : SqT K H' a xs := by
  obtain ⟨_, ys, t, h1, h2, _⟩ := st
  have go : ∀ o, (H a = some (.tup xs) ∨ H a = some (.frz o (.tup xs))) → a ≠ d ∧ a ≠ c := fun o e => by
    constructor
    · intro z; subst z; rw [h1] at e; rcases e with e | e <;> cases e
    · intro z; subst z; rw [h2] at e; rcases e with e | e <;> cases e
  rcases h with (h | ⟨o, h⟩) | h
  · have g := go ⟨.none, none, .fields #[], #[]⟩ (.inl h); exact .inl (.inl (k _ _ g.1 g.2 h))
  · have g := go o (.inr h); exact .inl (.inr ⟨o, k _ _ g.1 g.2 h⟩)
  · exact .inr h
mutual
theorem dp_kp {d c : Addr} {H H' : Hp} {n : Nat} (st : StAt H d c n) (k : Kp d c H H') : ∀ {v : V} {e : PyData}, noLAll.noL e → Dp K H v e → Dp K H' v e
  | _, _, _, .non => .non
  | _, _, _, .bl b => .bl b
  | _, _, _, .int i => .int i
  | _, _, _, .str x => .str x
  | _, _, h, .lst _ _ => h.elim
  | _, _, h, .tup s a => .tup (kp_tup st k s) (dpAll_kp st k h a)
theorem dpAll_kp {d c : Addr} {H H' : Hp} {n : Nat} (st : StAt H d c n) (k : Kp d c H H') : ∀ {vs : List V} {es : List PyData}, noLAll es → DpAll K H vs es → DpAll K H' vs es
  | _, _, _, .nil => .nil
  | _, _, h, .cons x t => .cons (dp_kp st k h.1 x) (dpAll_kp st k h.2 t)
end
mutual
theorem dp_go {H H' : Hp} (go : ∀ a us, SqT K H a us → SqT K H' a us) : ∀ {v : V} {e : PyData}, noLAll.noL e → Dp K H v e → Dp K H' v e
  | _, _, _, .non => .non
  | _, _, _, .bl b => .bl b
  | _, _, _, .int i => .int i
  | _, _, _, .str x => .str x
  | _, _, h, .lst _ _ => h.elim
  | _, _, h, .tup s a => .tup (go _ _ s) (dpAll_go go h a)
theorem dpAll_go {H H' : Hp} (go : ∀ a us, SqT K H a us → SqT K H' a us) : ∀ {vs : List V} {es : List PyData}, noLAll es → DpAll K H vs es → DpAll K H' vs es
  | _, _, _, .nil => .nil
  | _, _, h, .cons x t => .cons (dp_go go h.1 x) (dpAll_go go h.2 t)
end
theorem noL_map {α : Type} {f : α → PyData} (h : ∀ x, noLAll.noL (f x)) : ∀ l : List α, noLAll (l.map f)
  | [] => trivial
  | x :: r => ⟨h x, noL_map h r⟩
theorem noL_col (c : Col) : noLAll.noL (colD c) := ⟨trivial, trivial, trivial, trivial, trivial⟩
theorem noL_wash (r : Wsh) : noLAll.noL (washD r) := ⟨trivial, trivial, by cases r.2.2 <;> trivial, trivial⟩
theorem noL_pal (cs : List Col) (ws : List Wsh) : noLAll.noL (palD cs ws) := ⟨noL_map noL_col cs, noL_map noL_wash ws, trivial⟩
theorem dpAll_app {H : Hp} : ∀ {xs ys : List V} {ds es : List PyData}, DpAll K H xs ds → DpAll K H ys es → DpAll K H (xs ++ ys) (ds ++ es)
  | _, _, _, _, .nil, h => h
  | _, _, _, _, .cons h t, h2 => .cons h (dpAll_app t h2)
end
/-! ### how long a palette's text may be -/
structure PalOk (cs : List Col) (ws : List Wsh) : Prop where
  nc : cs.length ≤ 20
  nw : ws.length ≤ 60
  cn : ∀ c ∈ cs, c.1.length ≤ 9 ∧ (∀ x ∈ c.1.cps.toList, x < 1114112) ∧ c.2.1.natAbs < 10000 ∧ c.2.2.1.natAbs < 10000 ∧ c.2.2.2.natAbs < 10000
  wn : ∀ r ∈ ws, (r.1.length ≤ 9 ∧ ∀ x ∈ r.1.cps.toList, x < 1114112) ∧ (r.2.1.length ≤ 9 ∧ ∀ x ∈ r.2.1.cps.toList, x < 1114112) ∧ ∀ i, r.2.2 = some i → i.natAbs < 10000
theorem PalOk.addC {cs : List Col} {ws : List Wsh} {c : Col} (h : PalOk cs ws) (n : cs.length < 20) (ok : c.1.length ≤ 9 ∧ (∀ x ∈ c.1.cps.toList, x < 1114112) ∧ c.2.1.natAbs < 10000 ∧ c.2.2.1.natAbs < 10000 ∧ c.2.2.2.natAbs < 10000) : PalOk (cs ++ [c]) ws :=
  ⟨by rw [List.length_append]; exact n, h.nw, fun x hx => (List.mem_append.mp hx).elim (h.cn x) fun z => by rw [List.mem_singleton.mp z]; exact ok, h.wn⟩
theorem PalOk.addW {cs : List Col} {ws : List Wsh} {r : Wsh} (h : PalOk cs ws) (n : ws.length < 60) (ok : (r.1.length ≤ 9 ∧ ∀ x ∈ r.1.cps.toList, x < 1114112) ∧ (r.2.1.length ≤ 9 ∧ ∀ x ∈ r.2.1.cps.toList, x < 1114112) ∧ ∀ i, r.2.2 = some i → i.natAbs < 10000) : PalOk cs (ws ++ [r]) :=
  ⟨h.nc, by rw [List.length_append]; exact n, h.cn, fun x hx => (List.mem_append.mp hx).elim (h.wn x) fun z => by rw [List.mem_singleton.mp z]; exact ok⟩
theorem log_small {i : Int} (h : i.natAbs < 10000) : i.natAbs.log2 < 1920 := by
  by_cases z : i.natAbs = 0
  · rw [z]; decide
  · have := (Nat.log2_lt z).mpr (show i.natAbs < 2 ^ 14 from Nat.lt_of_lt_of_le h (by decide))
    omega
theorem fineAll_map {α : Type} {f : α → PyData} : ∀ {l : List α}, (∀ x ∈ l, fineAll.fine (f x)) → fineAll (l.map f)
  | [], _ => trivial
  | x :: r, h => ⟨h x List.mem_cons_self, fineAll_map fun y hy => h y (List.mem_cons_of_mem _ hy)⟩
theorem costAll_map {α : Type} {f : α → PyData} {b : Nat} : ∀ {l : List α}, (∀ x ∈ l, costAll.cost (f x) ≤ b) → costAll (l.map f) ≤ l.length * (b + 2)
  | [], _ => Nat.zero_le _
  | x :: r, h => by
    have h1 := h x List.mem_cons_self
    have h2 := costAll_map (l := r) fun y hy => h y (List.mem_cons_of_mem _ hy)
    show costAll.cost (f x) + 2 + costAll (r.map f) ≤ (r.length + 1) * (b + 2)
    rw [Nat.succ_mul]
    omega
theorem depthAll_map {α : Type} {f : α → PyData} {b : Nat} : ∀ {l : List α}, (∀ x ∈ l, (f x).depth ≤ b) → PyData.depthAll (l.map f) ≤ b
  | [], _ => Nat.zero_le _
  | x :: r, h => by
    show max (f x).depth (PyData.depthAll (r.map f)) ≤ b
    exact Nat.max_le.mpr ⟨h x List.mem_cons_self, depthAll_map fun y hy => h y (List.mem_cons_of_mem _ hy)⟩
theorem fine_col {c : Col} (h : c.1.length ≤ 9 ∧ (∀ x ∈ c.1.cps.toList, x < 1114112) ∧ c.2.1.natAbs < 10000 ∧ c.2.2.1.natAbs < 10000 ∧ c.2.2.2.natAbs < 10000) : fineAll.fine (colD c) :=
  ⟨fun x hx => Nat.lt_trans (h.2.1 x hx) (by decide), log_small h.2.2.1, log_small h.2.2.2.1, log_small h.2.2.2.2, trivial⟩
theorem fine_opt {o : Option Int} (h : ∀ i, o = some i → i.natAbs < 10000) : fineAll.fine (optD o) := by
  cases o with
  | none => trivial
  | some i => exact log_small (h i rfl)
theorem pal_fine {cs : List Col} {ws : List Wsh} (h : PalOk cs ws) : fineAll.fine (palD cs ws) :=
  ⟨fineAll_map fun c hc => fine_col (h.cn c hc), fineAll_map fun r hr => ⟨fun x hx => Nat.lt_trans ((h.wn r hr).1.2 x hx) (by decide), fun x hx => Nat.lt_trans ((h.wn r hr).2.1.2 x hx) (by decide), fine_opt (h.wn r hr).2.2, trivial⟩, trivial⟩
theorem cost_opt (o : Option Int) : costAll.cost (optD o) ≤ 1921 := by
  cases o with
  | none => decide
  | some i => exact Nat.le_refl _
theorem pal_cost {cs : List Col} {ws : List Wsh} (h : PalOk cs ws) : costAll.cost (palD cs ws) ≤ 1000000 := by
  have h1 : costAll (cs.map colD) ≤ cs.length * (10000 + 2) := costAll_map fun c hc => by
    have := (h.cn c hc).1
    show (10 * c.1.length + 2) + 2 + (1921 + 2 + (1921 + 2 + (1921 + 2 + 0))) + 3 ≤ 10000
    omega
  have h2 : costAll (ws.map washD) ≤ ws.length * (10000 + 2) := costAll_map fun r hr => by
    have a := (h.wn r hr).1.1
    have b := (h.wn r hr).2.1.1
    have c := cost_opt r.2.2
    show (10 * r.1.length + 2) + 2 + ((10 * r.2.1.length + 2) + 2 + (costAll.cost (optD r.2.2) + 2 + 0)) + 3 ≤ 10000
    omega
  have h3 := Nat.mul_le_mul_right 10002 h.nc
  have h4 := Nat.mul_le_mul_right 10002 h.nw
  show (costAll (cs.map colD) + 3) + 2 + ((costAll (ws.map washD) + 3) + 2 + 0) + 3 ≤ 1000000
  omega
theorem depth_opt (o : Option Int) : (optD o).depth = 0 := by cases o <;> rfl
theorem pal_depth (cs : List Col) (ws : List Wsh) : (palD cs ws).depth ≤ 3 := by
  have h1 : PyData.depthAll (cs.map colD) ≤ 1 := depthAll_map fun c _ => by show 1 ≤ 1; decide
  have h2 : PyData.depthAll (ws.map washD) ≤ 1 := depthAll_map fun r _ => by
    show max 0 (max 0 (max (optD r.2.2).depth 0)) + 1 ≤ 1
    rw [depth_opt]
    decide
  show max (PyData.depthAll (cs.map colD) + 1) (max (PyData.depthAll (ws.map washD) + 1) 0) + 1 ≤ 3
  omega
end Pot

namespace Pot
open PySem PySem.Spec PyProof.Rows L2
/-! ### words of letters -/
/-- at most n letters a to z -/
def Wd (n : Nat) (z : Str) : Prop := z.length ≤ n ∧ ∀ c ∈ z.cps.toList, 97 ≤ c ∧ c ≤ 122
theorem Wd.mono {n m : Nat} {z : Str} (h : Wd n z) (k : n ≤ m) : Wd m z := ⟨Nat.le_trans h.1 k, h.2⟩
theorem wd_add {n m : Nat} {a b : Str} (h : Wd n a) (k : Wd m b) : Wd (n + m) (a ++ b) := by
  refine ⟨by rw [strLen_append]; exact Nat.add_le_add h.1 k.1, fun c hc => ?_⟩
  have e : (a ++ b).cps.toList = a.cps.toList ++ b.cps.toList := by
    show (a.cps ++ b.cps).toList = _
    simp
  rw [e] at hc
  exact (List.mem_append.mp hc).elim (h.2 c) (k.2 c)
def az : List Nat := [97, 98, 99, 100, 101, 102, 103, 104, 105, 106, 107, 108, 109, 110, 111, 112, 113, 114, 115, 116, 117, 118, 119, 120, 121, 122]
theorem az_cps : (Str.ofString "abcdefghijklmnopqrstuvwxyz").cps.toList = az := by decide +kernel
theorem az_at : ∀ k : Nat, k < 26 → atI az ((k : Nat) : Int) = some (97 + k) := by unfold az; decide
theorem az_ix {i : Int} (h0 : 0 ≤ i) (h1 : i < 26) : atI (Str.ofString "abcdefghijklmnopqrstuvwxyz").cps.toList i = some (97 + i.toNat) := by
  rw [az_cps]
  have h := az_at i.toNat (by omega)
  rw [show ((i.toNat : Nat) : Int) = i by omega] at h
  exact h
theorem wd_sign {c : Nat} (h0 : 97 ≤ c) (h1 : c ≤ 122) : Wd 1 ⟨#[c]⟩ := ⟨Nat.le_refl _, fun d hd => by
  have e : d = c := by simpa using hd
  subst e; exact ⟨h0, h1⟩⟩
theorem wd_letter {i : Int} (h0 : 0 ≤ i) (h1 : i < 26) : Wd 1 ⟨#[97 + i.toNat]⟩ := wd_sign (by omega) (by omega)
theorem wd_nil : Wd 0 Str.empty := ⟨Nat.le_refl _, fun c hc => by have : c ∈ ([] : List Nat) := hc; simp at this⟩
theorem wd_join : ∀ {ys : List Str}, (∀ y ∈ ys, Wd 1 y) → Wd ys.length (Str.join Str.empty ys)
  | [], _ => wd_nil
  | [x], h => h x List.mem_cons_self
  | x :: y :: r, h => by
    have ih := wd_join (ys := y :: r) fun z hz => h z (List.mem_cons_of_mem _ hz)
    show Wd _ (x ++ Str.empty ++ Str.join Str.empty (y :: r))
    have h1 := wd_add (wd_add (h x List.mem_cons_self) wd_nil) ih
    exact h1.mono (by simp only [List.length_cons]; omega)
theorem cut_mem {z : Str} {lo hi : Option Int} {c : Nat} (h : c ∈ (cutS z lo hi).cps.toList) : c ∈ z.cps.toList := by
  unfold cutS at h
  have h2 : c ∈ (z.cps.toList.drop (HT.sIx z.length 0 lo)).take (HT.sIx z.length z.length hi - HT.sIx z.length 0 lo) := by simpa using h
  exact List.mem_of_mem_drop (List.mem_of_mem_take h2)
theorem cut_len (z : Str) (lo hi : Option Int) : (cutS z lo hi).length ≤ HT.sIx z.length z.length hi - HT.sIx z.length 0 lo := by
  unfold cutS
  show (List.toArray _).size ≤ _
  rw [List.size_toArray]
  exact List.length_take_le ..
theorem wd_head {n k : Nat} {z : Str} (h : Wd n z) : Wd k (cutS z none (some (k : Int))) := by
  refine ⟨Nat.le_trans (cut_len z none (some (k : Int))) ?_, fun c hc => h.2 c (cut_mem hc)⟩
  rw [HT.sIx_nat]
  omega
theorem wd_tail {n k : Nat} {z : Str} (h : Wd n z) : Wd (z.length - k) (cutS z (some (k : Int)) none) := by
  refine ⟨Nat.le_trans (cut_len z (some (k : Int)) none) ?_, fun c hc => h.2 c (cut_mem hc)⟩
  rw [HT.sIx_nat, HT.sIx_none]
  omega
theorem wd_cut {n : Nat} {z : Str} {lo hi : Option Int} (h : Wd n z) : Wd n (cutS z lo hi) := by
  refine ⟨Nat.le_trans (cut_len z lo hi) ?_, fun c hc => h.2 c (cut_mem hc)⟩
  have := HT.sIx_le z.length z.length (Nat.le_refl _) hi
  have := h.1
  omega
theorem wd_small {n : Nat} {z : Str} (h : Wd n z) (k : n ≤ 1000) : z.length ≤ sizeLine := Nat.le_trans h.1 (Nat.le_trans k (by decide))
theorem wd_codes {n : Nat} {z : Str} (h : Wd n z) : ∀ x ∈ z.cps.toList, x < 1114112 := fun x hx => by have := (h.2 x hx).2; omega
section
variable {K : PySem.W.Frag}
theorem kp_seq {d c l : Addr} {H H' : Hp} {xs : List V} (k : Kp d c H H') (n1 : l ≠ d) (n2 : l ≠ c) (h : SqL K H l xs) : SqL K H' l xs := by
  rcases h with (h | ⟨o, h⟩) | h
  · exact .inl (.inl (k _ _ n1 n2 h))
  · exact .inl (.inr ⟨o, k _ _ n1 n2 h⟩)
  · exact .inr h
end
end Pot

namespace Pot
open PySem PySem.Spec PyProof.Rows L2
/-- a row that tells of these two -/
def mat (a : Option Str) (b : Str) (r : Wsh) : Bool := decide (some r.1 = a) && decide (r.2.1 = b)
def namD : Option Str → PyData
  | none => .none
  | some z => .str z
theorem washF_filter (a : Option Str) (b : Str) : ∀ ws : List Wsh, washF ws a b = match ws.filter (mat a b) with
    | [] => some 0
    | r :: _ => r.2.2
  | [] => rfl
  | r :: ws => by
    show (if some r.1 = a ∧ r.2.1 = b then r.2.2 else washF ws a b) = _
    rw [List.filter_cons]
    by_cases h : some r.1 = a ∧ r.2.1 = b
    · have e : mat a b r = true := by unfold mat; rw [decide_eq_true h.1, decide_eq_true h.2]; rfl
      rw [if_pos h, if_pos e]
    · have e : ¬ mat a b r = true := by
        unfold mat
        rw [Bool.and_eq_true, decide_eq_true_eq, decide_eq_true_eq]
        exact h
      rw [if_neg h, if_neg e]
      exact washF_filter a b ws
theorem str_beq (x y : Str) : (x == y) = decide (x = y) := by
  by_cases h : x = y
  · subst h; rw [decide_eq_true rfl]; exact beq_self_eq_true x
  · rw [decide_eq_false h]; exact beq_false_of_ne h
theorem eqv_mat (a : Option Str) (b : Str) (r : Wsh) : PyData.eqv (.tuple [.str r.1, .str r.2.1]) (.tuple [namD a, .str b]) = mat a b r := by
  unfold mat
  cases a with
  | none =>
    rw [decide_eq_false (by intro z; cases z)]
    rfl
  | some z =>
    show ((r.1 == z) && ((r.2.1 == b) && true)) = _
    rw [str_beq, str_beq, Bool.and_true]
    congr 1
    by_cases h : r.1 = z
    · rw [decide_eq_true h, decide_eq_true (by rw [h])]
    · rw [decide_eq_false h, decide_eq_false fun q => h (Option.some.inj q)]
section
variable {K : PySem.W.Frag} {H : Hp}
theorem nam_dp : ∀ a : Option Str, Dp K H (namV a) (namD a)
  | none => .non
  | some z => .str z
theorem dpAll_opts : ∀ l : List Wsh, DpAll K H (l.map fun r => optV r.2.2) (l.map fun r => optD r.2.2)
  | [] => .nil
  | r :: l => .cons (opt_dp r.2.2) (dpAll_opts l)
end
/-- signs that there are -/
def Sg (z : Str) : Prop := ∀ x ∈ z.cps.toList, x < 1114112
theorem strOk_len {z : Str} (h : Sg z) : PyData.strOk z = true := by
  unfold PyData.strOk
  rw [Array.all_eq_true_iff_forall_mem]
  intro x hx
  exact decide_eq_true (h x (Array.mem_toList_iff.mpr hx))
theorem shaped_two {x y : Str} (h : Sg x) (k : Sg y) : SeqAt.shaped (.tuple [.str x, .str y]) = true := by
  show (PyData.strOk x && (PyData.strOk y && true)) && decide (max 0 (max 0 0) + 1 ≤ 64) = true
  rw [strOk_len h, strOk_len k]
  rfl
theorem shaped_nam {a : Option Str} {y : Str} (h : ∀ z, a = some z → Sg z) (k : Sg y) : SeqAt.shaped (.tuple [namD a, .str y]) = true := by
  cases a with
  | none =>
    show (true && (PyData.strOk y && true)) && decide (max 0 (max 0 0) + 1 ≤ 64) = true
    rw [strOk_len k]
    rfl
  | some z => exact shaped_two (h z rfl) k
theorem shaped_opts (l : List Wsh) : SeqAt.shaped (.list (l.map fun r => optD r.2.2)) = true := by
  have h1 : ∀ l : List Wsh, PyData.canLayAll0 (l.map fun r => optD r.2.2) = true := by
    intro l
    induction l with
    | nil => rfl
    | cons r l ih =>
      show (PyData.canLay0 (optD r.2.2) && PyData.canLayAll0 (l.map fun r => optD r.2.2)) = true
      rw [ih]
      cases r.2.2 <;> rfl
  have h2 : PyData.depthAll (l.map fun r => optD r.2.2) ≤ 0 := depthAll_map fun r _ => by rw [depth_opt]; exact Nat.le_refl _
  show (PyData.canLayAll0 (l.map fun r => optD r.2.2) && decide (PyData.depthAll (l.map fun r => optD r.2.2) + 1 ≤ 64)) = true
  rw [h1, decide_eq_true (by omega)]
  rfl
end Pot

namespace Pot
open PySem PySem.Spec PyProof.Rows L2
def topS (i : Nat) : Stmt := PySem.Challenge.pw_potround_k06_washing_of_rows.main.body.getD i (.Pass ⟨0, 0, 0, 0⟩)
section
variable {P : Program} {w : World} {K : PySem.W.Frag} {mg : Str → Option Value} {base : Heap}
abbrev s__law_take : Stmt := topS 9
def n__law_take : List Str := ["_law_state", "_law_many", "_law_turn", "_law_place", "_law_cell", "_law_digit", "_law_mixed"]
theorem sc__law_take : FnScope n__law_take ["_law_state", "_law_many"] (defScope s__law_take) := ⟨rfl, rfl, rfl, by decide +kernel, rfl, by decide +kernel, by decide +kernel⟩
/-! ### _law_take -/
def spTake : Sp := fun vs H Q _ => ∃ (d c : Addr) (m : Int) (n : Nat), vs = [.ref d, .int m] ∧ 0 < m ∧ m < 1073741824 ∧ StAt H d c n ∧ n < 2 ^ 40 ∧
  ∀ H' r, 0 ≤ r → r < m → StAt H' d c (n + 1) → Kp d c H H' → Q (.int r) H'
theorem ok_take {f : Addr} {fd : FuncData} {k : Nat} (F : Fun K "_law_take" "_law_take" s__law_take f fd) (T : Txt mg) :
    FnOk P w K mg base CX0 (k + 1) f fd ["_law_state", "_law_many"] spTake := by
  refine F.ok sc__law_take (fun vs H Q E h => ?_) (fun cdv A outer s H vs Q E hr h => ?_)
  · obtain ⟨d, c, m, n, rfl, _⟩ := h
    rfl
  · obtain ⟨d, c, m, n, rfl, hm0, hm1, ⟨ndc, xs, t, hd, hc, hx, hx63, ht0, htn⟩, hn, q⟩ := h
    have hu := hu_of hr
    have nd := sc__law_take.nd
    refine ⟨_, (pss_cons (ps_set (i := 2) nd rfl (.inl rfl) (pe_op op_add (pe_dget hu (pv 0) pe_str (fun _ _ => rfl)) pe_int))
      (pss_cons (ps_dput hu (pv 0) pe_str (pv 2) rfl)
      (pss_cons (ps_set (i := 3) nd rfl (.inl rfl) (pe_op op_mod (pv 2) (pe_callB (kc_len (K := K)) (by rfl) T.len PySem.boot_len (pa_cons (pe_dget hu (pv 0) pe_str (fun _ _ => rfl)) pa_nil))))
      (pss_cons (ps_set (i := 4) nd rfl (.inl rfl) (pe_ix (kx_list (K := K)) (pe_dget hu (pv 0) pe_str (fun _ _ => rfl)) (pv 3) (fun _ _ => rfl)))
      (pss_cons (ps_if (pt_cmpR op_ge (pv 4) (pe_op op_pow pe_int pe_int) (nomark _))
          (pss_cons (ps_asg (pe_callB call_divmod (by rfl) T.divmod (by decide +kernel) (pa_cons (pv 4) (pa_cons (pv 1) pa_nil))) (kg_tup (K := K) (n := 2) (pgs_cons (pg_sub (pe_dget hu (pv 0) pe_str (fun _ _ => rfl)) (pv 3) set_list) (pgs_cons (pg_name (i := 5) nd rfl (.inl rfl)) pgs_nil))))
          (pss_one (ps_ret (pv 5))))
          pss_nil)
      (pss_cons (ps_set (i := 6) nd rfl (.inl rfl) (pe_op op_mod (pe_op op_mul (pe_op op_add (pe_op op_add (pe_op op_mod (pv 4) pe_int) (pe_op op_mul (pe_op op_mul (pv 2) (pv 2)) pe_int)) pe_int) pe_int) pe_int))
      (pss_cons (ps_set (i := 6) nd rfl (.inl rfl) (pe_op op_mod (pe_op op_mul (pv 6) (pv 6)) pe_int))
      (pss_one (ps_ret (pe_op op_mod (pe_op op_fdiv (pe_op op_mod (pe_op op_mul (pe_op op_add (pv 6) (pe_op op_mul (pv 2) pe_int)) pe_int) pe_int) pe_int) (pv 1))))))))))), ?_⟩
    -- turn = state['turn'] + 1
    refine ⟨_, rfl, d, _, rfl, dget_turn hd, _, _, rfl, rfl, ?_⟩
    -- state['turn'] = turn
    refine ⟨_, rfl, _, rfl, d, _, rfl, dput_turn (t + 1) hd, ?_⟩
    have hd1 : (upd H d (.dK (dS c (t + 1)))) d = some (.dK (dS c (t + 1))) := upd_same
    have hc1 : (upd H d (.dK (dS c (t + 1)))) c = some (.lst (xs.map V.int)) := by rw [upd_ne ndc.symm]; exact hc
    generalize hH1 : upd H d (.dK (dS c (t + 1))) = H1 at hd1 hc1 ⊢
    have kp1 : Kp d c H H1 := fun b o h1 h2 e => by rw [← hH1, upd_ne h1]; exact e
    obtain ⟨j, y, ej, hj, gj⟩ := mod_at (u := t + 1) hx
    have gj' : (xs.map V.int)[j]? = some (.int y) := by rw [List.getElem?_map, gj]; rfl
    -- place = turn % len(state['cells'])
    refine ⟨_, rfl, _, rfl, d, _, rfl, dget_cells hd1, _, _, rfl, .inl ⟨_, SqL.of hc1, rfl⟩, _, _, rfl, rfl, ?_, ?_⟩
    · show (0 : Int) < ((xs.map V.int).length : Int)
      rw [List.length_map]
      have h0 : 0 < xs.length := List.length_pos_iff.mpr hx
      omega
    -- cell = state['cells'][place]
    refine ⟨_, rfl, d, _, rfl, dget_cells hd1, _, rfl, c, _, _, _, rfl, rfl, SqL.of hc1, (by show atI (xs.map V.int) ((t + 1) % ((xs.map V.int).length : Int)) = some (.int y); rw [ej]; exact atI_nat gj'), ?_⟩
    -- if cell >= 10 ** 18
    refine ⟨_, rfl, _, _, rfl, rfl, ⟨by decide, by decide, by decide⟩, _, _, rfl, rfl, _, rfl, ?_⟩
    refine ite2 (fun hb => ?_) (fun hb => ?_)
    · -- cells[place], digit = divmod(cell, many)
      refine ⟨_, rfl, _, rfl, _, _, rfl, ⟨hm0, hm1⟩, fun p hp => ?_⟩
      have npd : d ≠ p := ne_of_none hd1 hp
      have npc : c ≠ p := ne_of_none hc1 hp
      refine ⟨p, _, rfl, .inl (.inl upd_same), rfl, _, _, rfl, _, rfl, d, _, rfl, dget_cells (t := t + 1) (by rw [upd_ne npd]; exact hd1), _, rfl, ?_⟩
      refine ⟨c, _, _, j, rfl, rfl, (by rw [upd_ne npc]; exact hc1), (by show ixN (xs.map V.int).length ((t + 1) % ((xs.map V.int).length : Int)) = some j; rw [ej]; exact Evl.ixN_nat (by rw [List.length_map]; exact hj)), ?_⟩
      refine ⟨_, _, rfl, rfl, _, rfl, ?_⟩
      refine q _ _ (Int.emod_nonneg _ (by omega)) (Int.emod_lt_of_pos _ hm0) ⟨ndc, xs.set j (y / m), t + 1, ?_, ?_, ?_, ?_, by omega, by omega⟩ (kp1.trans fun b o h1 h2 e => ?_)
      · rw [upd_ne ndc, upd_ne npd]; exact hd1
      · rw [upd_same, List.map_set]
      · intro z
        have z2 := congrArg List.length z
        rw [List.length_set] at z2
        exact hx (List.length_eq_zero_iff.mp z2)
      · rw [List.length_set]; exact hx63
      · rw [upd_ne h2, upd_ne (ne_of_none e hp)]; exact e
    · -- the mixed way
      have t2 : t + 1 < 2 ^ 41 := by omega
      have tt : (t + 1) * (t + 1) < 2 ^ 82 := Int.lt_of_lt_of_le (Int.mul_lt_mul t2 (Int.le_of_lt t2) (by omega) (by decide)) (by decide)
      refine ⟨_, rfl, _, _, rfl, rfl, (by show (0 : Int) < 2147483629; decide), _, rfl, _, rfl, _, _, rfl, rfl, .inl ⟨by omega, by omega⟩, _, _, rfl, rfl, .inr ⟨by decide, by decide⟩, _, _, rfl, rfl, _, _, rfl, rfl, _, _, rfl, rfl, .inr ⟨by decide, by decide⟩, _, _, rfl, rfl, (by show (0 : Int) < 2147483647; decide), ?_⟩
      refine ⟨_, rfl, _, rfl, _, _, rfl, rfl, cmul_mod _ _ (by decide) (by decide), _, _, rfl, rfl, (by show (0 : Int) < 2147483579; decide), ?_⟩
      refine ⟨_, rfl, _, rfl, _, _, rfl, rfl, .inr ⟨by decide, by decide⟩, _, _, rfl, rfl, _, _, rfl, rfl, .inr ⟨by decide, by decide⟩, _, _, rfl, rfl, (by show (0 : Int) < 2147483629; decide), _, _, rfl, rfl, ⟨by decide, by decide⟩, _, rfl, _, _, rfl, rfl, hm0, ?_⟩
      exact q _ _ (Int.emod_nonneg _ (by omega)) (Int.emod_lt_of_pos _ hm0) ⟨ndc, xs, t + 1, hd1, hc1, hx, hx63, by omega, by omega⟩ kp1

abbrev s__law_begin : Stmt := topS 8
def n__law_begin : List Str := ["_law_script", "_law_cells"]
theorem sc__law_begin : FnScope n__law_begin ["_law_script"] (defScope s__law_begin) := ⟨rfl, rfl, rfl, by decide +kernel, rfl, by decide +kernel, by decide +kernel⟩
/-! ### _law_begin -/
def spBegin (K : PySem.W.Frag) : Sp := fun vs H Q _ => ∃ (a : Addr) (ns : List Int), vs = [.ref a] ∧ SqL K H a (ns.map V.int) ∧ ns.length ≤ 63 ∧ ∀ H' d c, Same H H' → StAt H' d c 0 → H d = none → H c = none → Q (.ref d) H'
theorem ok_begin {f : Addr} {fd : FuncData} {k : Nat} (F : Fun K "_law_begin" "_law_begin" s__law_begin f fd) (T : Txt mg) : FnOk P w K mg base CX0 (k + 1) f fd ["_law_script"] (spBegin K) := by
  refine F.ok sc__law_begin (fun vs H Q E h => ?_) (fun cdv A outer s H vs Q E hr h => ?_)
  · obtain ⟨a, ns, rfl, _⟩ := h
    rfl
  · obtain ⟨a, ns, rfl, hS, h63, q⟩ := h
    refine ⟨_, pss_cons (ps_set (i := 1) sc__law_begin.nd rfl (.inl rfl) (pe_callTy call_list_of (by rfl) T.list (by decide +kernel) (pa_cons (pe_slice sl_list (pv 0) po_none (po_some pe_int)) pa_nil)))
      (pss_cons (ps_if (pt_cmpR (op_eqD hr.units) (pv 1) (pe_lst pa_nil) (nomark _)) (pss_one (ps_set (i := 1) sc__law_begin.nd rfl (.inl rfl) (pe_lst (pa_cons pe_int pa_nil)))) pss_nil)
      (pss_one (ps_ret (pe_disp (pps_cons pe_str (pv 1) (pps_cons pe_str pe_int pps_nil)) (by rfl) (by rfl) (fun z => by cases z) (by decide))))), ?_⟩
    refine ⟨_, rfl, 63, rfl, a, _, rfl, hS, fun p hp => ?_⟩
    rw [cut63 (by rw [List.length_map]; exact h63)]
    refine ⟨p, _, rfl, .inl (SqL.of upd_same), fun c hc => ?_⟩
    have npc : p ≠ c := ne_of_none (upd_same (H := H) (o := .lst (ns.map V.int))) hc
    have sm1 : Same H (upd (upd H p (.lst (ns.map V.int))) c (.lst (ns.map V.int))) := (same_upd hp).trans (same_upd hc)
    have hc0 : H c = none := (same_upd hp).free hc
    have hcl : (upd (upd H p (.lst (ns.map V.int))) c (.lst (ns.map V.int))) c = some (.lst (ns.map V.int)) := upd_same
    generalize upd (upd H p (.lst (ns.map V.int))) c (.lst (ns.map V.int)) = H1 at sm1 hcl ⊢
    refine ⟨_, rfl, Nat.zero_le _, fun e he => ?_⟩
    have nce : c ≠ e := ne_of_none hcl he
    refine ⟨_, _, .lst (SqL.of (by rw [upd_ne nce]; exact hcl)) (dp_ints ns), .lst (SqL.of upd_same) .nil, PySem.W.ke_shaped_ints ns, PySem.W.ke_shaped_ints [], _, rfl, ?_⟩
    have fin : ∀ (H2 : Hp) (c2 : Addr) (xs : List Int), Same H H2 → H c2 = none → H2 c2 = some (.lst (xs.map V.int)) → xs ≠ [] → xs.length ≤ 63 →
        tRet (tDisp [(tC (V.str "cells"), tVar 1), (tC (V.str "turn"), tC (V.int 0))]) { nx := fun x H' => Q V.non H', rt := Q } [some (.ref a), some (.ref c2)] H2 := by
      intro H2 c2 xs s2 n2 h2 x0 x63 d hd
      refine ⟨_, rfl, upd_same, [(Sum.inr "cells", .ref c2), (Sum.inr "turn", .int 0)], rfl, (by show 2 ≤ 15; decide), ?_⟩
      have em : mergeK [] [((Sum.inr "cells" : Key), V.ref c2), (Sum.inr "turn", .int 0)] = dS c2 0 := by
        have e : ¬ ((Sum.inr (Str.ofString "cells") : Key) = Sum.inr (Str.ofString "turn")) := by decide +kernel
        unfold mergeK dS
        simp [putK, e]
      rw [em]
      have ncd : c2 ≠ d := ne_of_none h2 hd
      refine q _ d c2 (same_put (same_put s2 (s2.free hd)) (s2.free hd)) ⟨ncd.symm, xs, 0, upd_same, ?_, x0, x63, by decide, by decide⟩ (s2.free hd) n2
      rw [upd_ne ncd, upd_ne ncd]
      exact h2
    cases ns with
    | nil =>
      show if PyData.eqv (PyData.list []) (PyData.list []) = true then _ else _
      rw [if_pos (by rfl)]
      refine ⟨(by show 1 ≤ sizeLine; decide), fun g hg => ?_⟩
      have hg1 : H1 g = none := (same_upd he).free hg
      exact fin _ g [17] (same_put (same_put sm1 (sm1.free he)) (sm1.free hg1)) (sm1.free hg1) upd_same (by intro z; cases z) (by decide)
    | cons n r =>
      show if PyData.eqv (PyData.list (PyData.int n :: r.map PyData.int)) (PyData.list []) = true then _ else _
      rw [if_neg (by intro z; cases z)]
      refine fin _ c (n :: r) (same_put sm1 (sm1.free he)) hc0 (by rw [upd_ne nce]; exact hcl) (by intro z; cases z) h63

abbrev s__law_same : Stmt := topS 13
def n__law_same : List Str := ["_law_found", "_law_due_here", "_law_one", "_law_other"]
theorem sc__law_same : FnScope n__law_same ["_law_found", "_law_due_here"] (defScope s__law_same) := ⟨rfl, rfl, rfl, by decide +kernel, rfl, by decide +kernel, by decide +kernel⟩
/-! ### _law_same: two of one and the same make are told to be so -/
def spSame (K : PySem.W.Frag) (k : Nat) : Sp := fun vs H Q _ => ∃ (x y : V) (d : PyData), vs = [x, y] ∧ Dp K H x d ∧ Dp K H y d ∧ d.depth < k ∧ widAll.wid d ≤ 1000 ∧ ∀ H', Same H H' → Q (.bl true) H'
theorem ok_same {f : Addr} {fd : FuncData} (F : Fun K "_law_same" "_law_same" s__law_same f fd) (T : Txt mg) (bF : Binds K fd ["_law_found", "_law_due_here"] []) (gF : mg "_law_same" = some (.ref f)) :
    ∀ k : Nat, FnOk P w K mg base CX0 (k + 1) f fd ["_law_found", "_law_due_here"] (spSame K k) := by
  intro k
  induction k with
  | zero =>
    refine F.ok sc__law_same (fun vs H Q E h => ?_) (fun cdv A outer s H vs Q E hr h => ?_)
    · obtain ⟨x, y, d, rfl, _⟩ := h
      rfl
    · obtain ⟨x, y, d, rfl, hx, hy, hd, hw, q⟩ := h
      exact absurd hd (Nat.not_lt_zero _)
  | succ k G =>
    refine F.ok sc__law_same (fun vs H Q E h => ?_) (fun cdv A outer s H vs Q E hr h => ?_)
    · obtain ⟨x, y, d, rfl, _⟩ := h
      rfl
    · obtain ⟨x, y, d, rfl, hx, hy, hd, hw, q⟩ := h
      refine ⟨_, pss_cons (ps_if (pt_val (pe_callB call_isiT (by rfl) T.isinstance (by decide +kernel) (pa_cons (pv 1) (pa_cons (pe_tup (pa_cons (pe_bltn (v := .ty "list") (by rfl) T.list (by decide +kernel) rfl) (pa_cons (pe_bltn (v := .ty "tuple") (by rfl) T.tuple (by decide +kernel) rfl) pa_nil))) pa_nil))))
          (pss_cons (ps_if (pw_or (pt_cmpR op_ne (pe_callB call_isi (by rfl) T.isinstance (by decide +kernel) (pa_cons (pv 0) (pa_cons (pe_bltn (v := .ty "list") (by rfl) T.list (by decide +kernel) rfl) pa_nil))) (pe_callB call_isi (by rfl) T.isinstance (by decide +kernel) (pa_cons (pv 1) (pa_cons (pe_bltn (v := .ty "list") (by rfl) T.list (by decide +kernel) rfl) pa_nil))) (nomark _))
            (pw_or1 (pt_cmpR op_ne (pe_callB call_isi (by rfl) T.isinstance (by decide +kernel) (pa_cons (pv 0) (pa_cons (pe_bltn (v := .ty "tuple") (by rfl) T.tuple (by decide +kernel) rfl) pa_nil))) (pe_callB call_isi (by rfl) T.isinstance (by decide +kernel) (pa_cons (pv 1) (pa_cons (pe_bltn (v := .ty "tuple") (by rfl) T.tuple (by decide +kernel) rfl) pa_nil))) (nomark _)))).pt
            pss_never pss_nil)
          (pss_one (ps_ret (pe_and (pe_cmpR op_eq (pe_callB call_len (by rfl) T.len PySem.boot_len (pa_cons (pv 0) pa_nil)) (pe_callB call_len (by rfl) T.len PySem.boot_len (pa_cons (pv 1) pa_nil)) (nomark _))
            (pe_one (pe_callB (cr_all rfl) (by rfl) T.all (by decide +kernel) (pa_cons
              (pe_lc (own := [("_law_one", 2), ("_law_other", 3)]) (g := gTup K 2 (gCons (gName 2) (gCons (gName 3) gNil))) (tt := tYes) rfl sc__law_same.nd (RZ.pi_zipA (by rfl) T.zip (pa_cons (pv 0) (pa_cons (pv 1) pa_nil))) (blkOk_by (N := n__law_same) (sc := defScope s__law_same) (by decide +kernel))
                (fun _ _ _ _ _ => pg_tup rfl (pgs_cons (pg_name (i := 2) sc__law_same.nd rfl (.inl rfl)) (pgs_cons (pg_name (i := 3) sc__law_same.nd rfl (.inl rfl)) pgs_nil))) (fun _ _ _ _ _ => pts_nil)
                (fun _ _ _ _ _ => pe_call G hr (by rfl) gF F.kp bF .nil pass0 (pa_cons (pv 2) (pa_cons (pv 3) pa_nil)))) pa_nil)))))))
          pss_nil)
        (pss_cons (ps_if (pt_cmpR op_isN (pv 1) pe_non (nomark _)) (pss_one (ps_ret (pe_cmpR op_isN (pv 0) pe_non (nomark _)))) pss_nil)
        (pss_cons (ps_if (pt_val (pe_callB call_isi (by rfl) T.isinstance (by decide +kernel) (pa_cons (pv 1) (pa_cons (pe_bltn (v := .ty "bool") (by rfl) T.bool (by decide +kernel) rfl) pa_nil))))
          (pss_one (ps_ret (pe_and (pe_callB call_isi (by rfl) T.isinstance (by decide +kernel) (pa_cons (pv 0) (pa_cons (pe_bltn (v := .ty "bool") (by rfl) T.bool (by decide +kernel) rfl) pa_nil))) (pe_one (pe_cmpR op_eq (pv 0) (pv 1) (nomark _)))))) pss_nil)
        (pss_cons (ps_if (pt_val (pe_callB call_isi (by rfl) T.isinstance (by decide +kernel) (pa_cons (pv 1) (pa_cons (pe_bltn (v := .ty "str") (by rfl) T.str (by decide +kernel) rfl) pa_nil))))
          (pss_one (ps_ret (pe_and (pe_callB call_isi (by rfl) T.isinstance (by decide +kernel) (pa_cons (pv 0) (pa_cons (pe_bltn (v := .ty "str") (by rfl) T.str (by decide +kernel) rfl) pa_nil))) (pe_one (pe_cmpR op_eq (pv 0) (pv 1) (nomark _)))))) pss_nil)
        (pss_one (ps_ret (pe_and (pe_callB call_isi (by rfl) T.isinstance (by decide +kernel) (pa_cons (pv 0) (pa_cons (pe_bltn (v := .ty "int") (by rfl) T.int (by decide +kernel) rfl) pa_nil)))
          (pe_and (pe_not (pe_callB call_isi (by rfl) T.isinstance (by decide +kernel) (pa_cons (pv 0) (pa_cons (pe_bltn (v := .ty "bool") (by rfl) T.bool (by decide +kernel) rfl) pa_nil)))) (pe_one (pe_cmpR op_eq (pv 0) (pv 1) (nomark _)))))))))), ?_⟩
      refine ⟨_, rfl, (by show 2 ≤ sizeLine; decide), fun t ht => ?_⟩
      have sm1 : Same H (upd H t (.tup [.ty "list", .ty "tuple"])) := same_upd ht
      have hpair : Paired ClsV [V.ty "list", .ty "tuple"] [Value.type "list", .type "tuple"] := .cons (.ty _) (.cons (.ty _) .nil)
      have hx1 := dp_same sm1 hx
      have hy1 := dp_same sm1 hy
      have ht1 : (upd H t (.tup [.ty "list", .ty "tuple"])) t = some (.tup [.ty "list", .ty "tuple"]) := upd_same
      generalize upd H t (.tup [.ty "list", .ty "tuple"]) = H1 at sm1 hx1 hy1 ht1 ⊢
      cases hy1 with
      | non =>
        cases hx1
        refine ⟨_, t, _, _, _, false, rfl, ht1, hpair, .base .non, (by rfl), _, rfl, iteF ?_⟩
        refine ⟨_, rfl, rfl, _, rfl, ite2 (fun _ => ?_) (fun h => absurd (decide_eq_true rfl) h)⟩
        refine ⟨_, rfl, rfl, ?_⟩
        rw [decide_eq_true rfl]
        exact q _ sm1
      | bl b =>
        cases hx1
        refine ⟨_, t, _, _, _, false, rfl, ht1, hpair, .base (.bl b), (by rfl), _, rfl, iteF ?_⟩
        refine ⟨_, rfl, rfl, _, rfl, ite2 (fun h => absurd (of_decide_eq_true h) (by intro z; cases z)) (fun _ => ?_)⟩
        refine ⟨_, rfl, _, .ty _, _, _, true, rfl, .ty _, (.base (.bl b)), kit_ty (by decide +kernel), _, rfl, iteT ?_⟩
        refine ⟨_, rfl, _, .ty _, _, _, true, rfl, .ty _, (.base (.bl b)), kit_ty (by decide +kernel), _, rfl, ?_⟩
        refine iteT ⟨_, rfl, _, rfl, rfl, ?_⟩
        rw [decide_eq_true rfl]
        exact q _ sm1
      | int i =>
        cases hx1
        refine ⟨_, t, _, _, _, false, rfl, ht1, hpair, .base (.int i), (by rfl), _, rfl, iteF ?_⟩
        refine ⟨_, rfl, rfl, _, rfl, ite2 (fun h => absurd (of_decide_eq_true h) (by intro z; cases z)) (fun _ => ?_)⟩
        refine ⟨_, rfl, _, .ty _, _, _, false, rfl, .ty _, (.base (.int i)), kit_ty (by decide +kernel), _, rfl, iteF ?_⟩
        refine ⟨_, rfl, _, .ty _, _, _, false, rfl, .ty _, (.base (.int i)), kit_ty (by decide +kernel), _, rfl, iteF ?_⟩
        refine ⟨_, rfl, _, .ty _, _, _, true, rfl, .ty _, (.base (.int i)), kit_ty (by decide +kernel), _, rfl, iteT ?_⟩
        refine ⟨_, rfl, _, .ty _, _, _, false, rfl, .ty _, (.base (.int i)), kit_ty (by decide +kernel), _, rfl, _, rfl, ?_⟩
        refine iteT ⟨_, rfl, _, rfl, rfl, ?_⟩
        rw [decide_eq_true rfl]
        exact q _ sm1
      | str z =>
        cases hx1
        refine ⟨_, t, _, _, _, false, rfl, ht1, hpair, .base (.str z), (by rfl), _, rfl, iteF ?_⟩
        refine ⟨_, rfl, rfl, _, rfl, ite2 (fun h => absurd (of_decide_eq_true h) (by intro z; cases z)) (fun _ => ?_)⟩
        refine ⟨_, rfl, _, .ty _, _, _, false, rfl, .ty _, (.base (.str z)), kit_ty (by decide +kernel), _, rfl, iteF ?_⟩
        refine ⟨_, rfl, _, .ty _, _, _, true, rfl, .ty _, (.base (.str z)), kit_ty (by decide +kernel), _, rfl, iteT ?_⟩
        refine ⟨_, rfl, _, .ty _, _, _, true, rfl, .ty _, (.base (.str z)), kit_ty (by decide +kernel), _, rfl, ?_⟩
        refine iteT ⟨_, rfl, _, rfl, rfl, ?_⟩
        rw [decide_eq_true rfl]
        exact q _ sm1
      | @lst b ys ds hl ha =>
        cases hx1 with
        | @lst a xs _ hl' ha' =>
        have e1 : xs.length = ys.length := (dpAll_len ha').trans (dpAll_len ha).symm
        refine ⟨_, t, _, _, _, true, rfl, ht1, hpair, tyx_list hl, (by rfl), _, rfl, iteT ?_⟩
        refine ⟨_, rfl, _, .ty _, _, _, true, rfl, .ty _, (tyx_list hl'), kit_ty (by decide +kernel), _, rfl, _, .ty _, _, _, true, rfl, .ty _, (tyx_list hl), kit_ty (by decide +kernel), rfl, _, rfl, iteF ?_⟩
        refine ⟨_, rfl, _, .ty _, _, _, false, rfl, .ty _, (tyx_list hl'), kit_ty (by decide +kernel), _, rfl, _, .ty _, _, _, false, rfl, .ty _, (tyx_list hl), kit_ty (by decide +kernel), rfl, _, rfl, iteF ?_⟩
        refine ⟨_, rfl, _, xs.length, rfl, .inl ⟨xs, hl', rfl⟩, _, rfl, _, ys.length, rfl, .inl ⟨ys, hl, rfl⟩, rfl, _, rfl, ?_⟩
        rw [e1]
        refine ite2 (fun _ => ?_) (fun h => absurd (decide_eq_true rfl) h)
        refine ⟨_, rfl, _, rfl, a, b, xs, ys, rfl, .inl ⟨hl', hl, fun D hD => ?_⟩⟩
        refine lc_it (walk_zip (xs := xs) (ys := ys) (n := ys.length) (by rw [e1, Nat.min_self])) (fun i H2 => Same H1 H2 ∧ H1 D = none ∧ H2 D = some (.lst ((List.replicate i true).map V.bl))) ⟨same_upd hD, hD, upd_same⟩ (fun i H2 _ h => ⟨h.1.seq hl', h.1.seq hl⟩) ?_ ?_
        · rintro i v H2 H3 hi ⟨sm, nD, hL⟩ ⟨u, x1, y1, rfl, hu, rfl, gx, gy⟩
          have sm3 : Same H1 (upd H2 u (.tup [x1, y1])) := same_put sm (sm.free hu)
          obtain ⟨d1, g1, p1⟩ := dpAll_at ha' gx
          obtain ⟨d2, g2, p2⟩ := dpAll_at ha gy
          have ed : d1 = d2 := Option.some.inj (g1.symm.trans g2)
          subst ed
          refine ⟨u, _, rfl, .inl (.inl upd_same), rfl, _, _, rfl, _, _, rfl, rfl, rfl, tYes_at ?_⟩
          rw [if_pos rfl]
          refine ⟨_, rfl, _, rfl, x1, y1, d1, rfl, dp_same sm3 p1, dp_same sm3 p2, ?_, ?_, fun H4 s4 => ?_⟩
          · have h1 := depth_at g1
            have h2 : PyData.depthAll ds + 1 < k + 1 := hd
            omega
          · exact Nat.le_trans (wid_at g1) (Nat.le_trans (Nat.le_max_right _ _) hw)
          · have nuD : D ≠ u := ne_of_none hL hu
            refine ⟨_, s4 _ _ (by rw [upd_ne nuD]; exact hL), ?_, same_put (sm3.trans s4) nD, nD, ?_⟩
            · rw [List.length_map, List.length_replicate]
              exact Nat.lt_of_lt_of_le (dpAll_len ha ▸ hi) (Nat.le_trans (Nat.le_trans (Nat.le_max_left _ _) hw) (by decide))
            · rw [upd_same, List.replicate_succ', List.map_append]
              rfl
        · rintro H2 ⟨sm, nD, hL⟩
          refine ⟨D, _, rfl, SqL.of hL, ?_⟩
          have e : (List.replicate ys.length true).all id = true := by simp
          rw [e]
          exact q _ (sm1.trans sm)
      | @tup b ys ds hl ha =>
        cases hx1 with
        | @tup a xs _ hl' ha' =>
        have e1 : xs.length = ys.length := (dpAll_len ha').trans (dpAll_len ha).symm
        refine ⟨_, t, _, _, _, true, rfl, ht1, hpair, tyx_tup hl, (by rfl), _, rfl, iteT ?_⟩
        refine ⟨_, rfl, _, .ty _, _, _, false, rfl, .ty _, (tyx_tup hl'), kit_ty (by decide +kernel), _, rfl, _, .ty _, _, _, false, rfl, .ty _, (tyx_tup hl), kit_ty (by decide +kernel), rfl, _, rfl, iteF ?_⟩
        refine ⟨_, rfl, _, .ty _, _, _, true, rfl, .ty _, (tyx_tup hl'), kit_ty (by decide +kernel), _, rfl, _, .ty _, _, _, true, rfl, .ty _, (tyx_tup hl), kit_ty (by decide +kernel), rfl, _, rfl, iteF ?_⟩
        refine ⟨_, rfl, _, xs.length, rfl, .inr ⟨xs, hl', rfl⟩, _, rfl, _, ys.length, rfl, .inr ⟨ys, hl, rfl⟩, rfl, _, rfl, ?_⟩
        rw [e1]
        refine ite2 (fun _ => ?_) (fun h => absurd (decide_eq_true rfl) h)
        refine ⟨_, rfl, _, rfl, a, b, xs, ys, rfl, .inr ⟨hl', hl, fun D hD => ?_⟩⟩
        refine lc_it (walk_zipT (xs := xs) (ys := ys) (n := ys.length) (by rw [e1, Nat.min_self])) (fun i H2 => Same H1 H2 ∧ H1 D = none ∧ H2 D = some (.lst ((List.replicate i true).map V.bl))) ⟨same_upd hD, hD, upd_same⟩ (fun i H2 _ h => ⟨same_tup h.1 hl', same_tup h.1 hl⟩) ?_ ?_
        · rintro i v H2 H3 hi ⟨sm, nD, hL⟩ ⟨u, x1, y1, rfl, hu, rfl, gx, gy⟩
          have sm3 : Same H1 (upd H2 u (.tup [x1, y1])) := same_put sm (sm.free hu)
          obtain ⟨d1, g1, p1⟩ := dpAll_at ha' gx
          obtain ⟨d2, g2, p2⟩ := dpAll_at ha gy
          have ed : d1 = d2 := Option.some.inj (g1.symm.trans g2)
          subst ed
          refine ⟨u, _, rfl, .inl (.inl upd_same), rfl, _, _, rfl, _, _, rfl, rfl, rfl, tYes_at ?_⟩
          rw [if_pos rfl]
          refine ⟨_, rfl, _, rfl, x1, y1, d1, rfl, dp_same sm3 p1, dp_same sm3 p2, ?_, ?_, fun H4 s4 => ?_⟩
          · have h1 := depth_at g1
            have h2 : PyData.depthAll ds + 1 < k + 1 := hd
            omega
          · exact Nat.le_trans (wid_at g1) (Nat.le_trans (Nat.le_max_right _ _) hw)
          · have nuD : D ≠ u := ne_of_none hL hu
            refine ⟨_, s4 _ _ (by rw [upd_ne nuD]; exact hL), ?_, same_put (sm3.trans s4) nD, nD, ?_⟩
            · rw [List.length_map, List.length_replicate]
              exact Nat.lt_of_lt_of_le (dpAll_len ha ▸ hi) (Nat.le_trans (Nat.le_trans (Nat.le_max_left _ _) hw) (by decide))
            · rw [upd_same, List.replicate_succ', List.map_append]
              rfl
        · rintro H2 ⟨sm, nD, hL⟩
          refine ⟨D, _, rfl, SqL.of hL, ?_⟩
          have e : (List.replicate ys.length true).all id = true := by simp
          rw [e]
          exact q _ (sm1.trans sm)

end
end Pot

namespace Pot
open PySem PySem.Spec PyProof.Rows L2
section
variable {P : Program} {w : World} {K : PySem.W.Frag} {mg : Str → Option Value} {base : Heap}
/-! ### colour_row, of a colour that is there -/
abbrev s_colour_row : Stmt := topS 3
def n_colour_row : List Str := ["palette", "colour", "row"]
theorem sc_colour_row : FnScope n_colour_row ["palette", "colour"] (defScope s_colour_row) := ⟨rfl, rfl, rfl, by decide +kernel, rfl, by decide +kernel, by decide +kernel⟩
def spColour (K : PySem.W.Frag) : Sp := fun vs H Q _ => ∃ (v : V) (cs : List Col) (ws : List Wsh) (z : Str), vs = [v, .str z] ∧ Dp K H v (palD cs ws) ∧ (∃ c ∈ cs, c.1 = z) ∧
  ∀ (x : V) (c : Col), c ∈ cs → c.1 = z → Dp K H x (colD c) → Q x H
theorem ok_colour {f : Addr} {fd : FuncData} {k : Nat} (F : Fun K "colour_row" "colour_row" s_colour_row f fd) : FnOk P w K mg base CX0 (k + 1) f fd ["palette", "colour"] (spColour K) := by
  refine F.ok sc_colour_row (fun vs H Q E h => ?_) (fun cdv A outer s H vs Q E hr h => ?_)
  · obtain ⟨v, cs, ws, z, rfl, _⟩ := h
    rfl
  · obtain ⟨v, cs, ws, z, rfl, hp, hin, q⟩ := h
    have nd := sc_colour_row.nd
    obtain ⟨p, c, w2, xs, ys, rfl, hp, hc, hx, hw, hy⟩ := pal_dp hp
    refine ⟨_, (pss_cons (ps_for PassesOwn.never rfl (ki_tup (K := K) (pe_ix (kx_tup (K := K)) (pv 0) pe_int (fun _ _ => rfl))) (pg_name (i := 2) nd rfl (.inl rfl))
          (pss_one (ps_if (pt_cmpR op_eq (pe_ix (kx_tup (K := K)) (pv 2) pe_int (fun _ _ => rfl)) (pv 1) (nomark _))
              (pss_one (ps_ret (pv 2)))
              pss_nil)))
      (pss_one ps_never)), ?_⟩
    refine ⟨_, rfl, p, _, 0, .ref c, rfl, rfl, hp, rfl, c, rfl, ⟨_, hc⟩, ?_⟩
    refine for_it (walk_tup (xs := xs)) (fun i σ H2 => ∃ v2, σ = [some (.ref p), some (.str z), v2] ∧ H2 = H ∧ ∀ j d, j < i → cs[j]? = some d → d.1 ≠ z) ⟨none, rfl, rfl, fun j d hj => absurd hj (Nat.not_lt_zero _)⟩ (fun i σ H2 _ h => by obtain ⟨_, _, rfl, _⟩ := h; exact hc) ?_ ?_
    · rintro i x σ H2 H3 hi ⟨v2, rfl, rfl, old⟩ ⟨rfl, gx⟩
      obtain ⟨d, gd, dp⟩ := dpAll_map_at hx gx
      obtain ⟨r, rfl, hr2⟩ := col_dp dp
      refine ⟨_, rfl, r, _, 0, _, rfl, rfl, hr2, rfl, _, rfl, rfl, _, rfl, ?_⟩
      rw [decS]
      refine ite2 (fun hb => ?_) (fun hb => ?_)
      · exact ⟨_, rfl, q _ d (List.mem_of_getElem? gd) (of_decide_eq_true hb) dp⟩
      · refine ⟨_, rfl, rfl, fun j e hj ge => ?_⟩
        by_cases hji : j = i
        · subst hji
          rw [gd] at ge
          cases ge
          exact fun z => hb (decide_eq_true z)
        · exact old j e (by omega) ge
    · rintro σ H2 ⟨v2, rfl, rfl, old⟩
      obtain ⟨d, hd, e⟩ := hin
      obtain ⟨j, hj, rfl⟩ := List.mem_iff_getElem.mp hd
      exact old j _ (by rw [dpAll_map_len hx]; exact hj) (List.getElem?_eq_getElem hj) e
/-! ### wash_for, of colours that are there -/
abbrev s_wash_for : Stmt := topS 4
def n_wash_for : List Str := ["palette", "ahead", "behind", "row"]
theorem sc_wash_for : FnScope n_wash_for ["palette", "ahead", "behind"] (defScope s_wash_for) := ⟨rfl, rfl, rfl, by decide +kernel, rfl, by decide +kernel, by decide +kernel⟩
def spWash (K : PySem.W.Frag) : Sp := fun vs H Q _ => ∃ (v : V) (cs : List Col) (ws : List Wsh) (a : Option Str) (b : Str), vs = [v, namV a, .str b] ∧ Dp K H v (palD cs ws) ∧ (∀ z, a = some z → ∃ c ∈ cs, c.1 = z) ∧ (∃ c ∈ cs, c.1 = b) ∧ Q (optV (washF ws a b)) H
theorem ok_wash {f : Addr} {fd : FuncData} {k : Nat} (F : Fun K "wash_for" "wash_for" s_wash_for f fd) (c_colour_row : Cl P w K mg base (k + 1) "colour_row" (spColour K)) : FnOk P w K mg base CX0 (k + 2) f fd ["palette", "ahead", "behind"] (spWash K) := by
  refine F.ok sc_wash_for (fun vs H Q E h => ?_) (fun cdv A outer s H vs Q E hr h => ?_)
  · obtain ⟨v, cs, ws, a, b, rfl, _⟩ := h
    rfl
  · obtain ⟨v, cs, ws, a, b, rfl, hp0, hin, hib, q⟩ := h
    have nd := sc_wash_for.nd
    obtain ⟨p, c, w2, xs, ys, rfl, hp, hc, hx, hw, hy⟩ := pal_dp hp0
    refine ⟨_, (pss_cons (ps_if (pt_cmpR op_notN (pv 1) pe_non (nomark _))
          (pss_one (ps_expr (pe_cl c_colour_row hr (by omega) (by rfl) (pa_cons (pv 0) (pa_cons (pv 1) pa_nil)))))
          pss_nil)
      (pss_cons (ps_expr (pe_cl c_colour_row hr (by omega) (by rfl) (pa_cons (pv 0) (pa_cons (pv 2) pa_nil))))
      (pss_cons (ps_for PassesOwn.never rfl (ki_tup (K := K) (pe_ix (kx_tup (K := K)) (pv 0) pe_int (fun _ _ => rfl))) (pg_name (i := 3) nd rfl (.inl rfl))
          (pss_one (ps_if ((pw_and (pt_cmpR op_eq (pe_ix (kx_tup (K := K)) (pv 3) pe_int (fun _ _ => rfl)) (pv 1) (nomark _)) (pw_and1 (pt_cmpR op_eq (pe_ix (kx_tup (K := K)) (pv 3) pe_int (fun _ _ => rfl)) (pv 2) (nomark _))))).pt
              (pss_one (ps_ret (pe_ix (kx_tup (K := K)) (pv 3) pe_int (fun _ _ => rfl))))
              pss_nil)))
      (pss_one (ps_ret pe_int))))), ?_⟩
    have loop : ∀ v3, tSeq (tFor (iTup K (tOp (rIxT K) (tVar 0) (tC (.int 1)))) (gName 3) (tIfS (tAnd (tTest (tOp rEq (tOp (rIxT K) (tVar 3) (tC (.int 0))) (tVar 1))) (tTest (tOp rEq (tOp (rIxT K) (tVar 3) (tC (.int 1))) (tVar 2)))) (tRet (tOp (rIxT K) (tVar 3) (tC (.int 2)))) tNext)) (tRet (tC (.int 0)))
        { nx := fun x H' => Q V.non H', rt := Q } [some (.ref p), some (namV a), some (.str b), v3] H := by
      intro v3
      refine ⟨_, rfl, p, _, 1, .ref w2, rfl, rfl, hp, rfl, w2, rfl, ⟨_, hw⟩, ?_⟩
      refine for_it (walk_tup (xs := ys)) (fun i σ H2 => ∃ v3, σ = [some (.ref p), some (namV a), some (.str b), v3] ∧ H2 = H ∧ ∀ j r, j < i → ws[j]? = some r → ¬ (some r.1 = a ∧ r.2.1 = b)) ⟨_, rfl, rfl, fun j d hj => absurd hj (Nat.not_lt_zero _)⟩ (fun i σ H2 _ h => by obtain ⟨_, _, rfl, _⟩ := h; exact hw) ?_ ?_
      · rintro i x σ H2 H3 hi ⟨v4, rfl, rfl, old⟩ ⟨rfl, gx⟩
        obtain ⟨d, gd, dp⟩ := dpAll_map_at hy gx
        obtain ⟨r, rfl, hr2⟩ := wash_dp dp
        have stay : ¬ (some d.1 = a ∧ d.2.1 = b) → ∀ j e, j < i + 1 → ws[j]? = some e → ¬ (some e.1 = a ∧ e.2.1 = b) := fun hb j e hj ge => by
          by_cases hji : j = i
          · subst hji
            rw [gd] at ge
            cases ge
            exact hb
          · exact old j e (by omega) ge
        have sc : scal (.str d.1) (namV a) = true := by cases a <;> rfl
        have ed : decide (V.str d.1 = namV a) = decide (some d.1 = a) := by
          cases a with
          | none => rw [decide_eq_false (by intro z; cases z), decide_eq_false (by intro z; cases z)]
          | some z =>
            show decide (V.str d.1 = V.str z) = _
            rw [decS]
            by_cases h : d.1 = z
            · rw [decide_eq_true h, decide_eq_true (by rw [h])]
            · rw [decide_eq_false h, decide_eq_false fun q => h (Option.some.inj q)]
        refine ⟨_, rfl, r, _, 0, _, rfl, rfl, hr2, rfl, _, rfl, sc, _, rfl, ?_⟩
        rw [ed]
        refine ite2 (fun ha => ?_) (fun ha => ?_)
        · refine ⟨_, rfl, r, _, 1, _, rfl, rfl, hr2, rfl, _, rfl, rfl, _, rfl, ?_⟩
          rw [decS]
          refine ite2 (fun hb => ?_) (fun hb => ?_)
          · refine ⟨_, rfl, r, _, 2, _, rfl, rfl, hr2, rfl, ?_⟩
            rw [← washF_at old gd ⟨of_decide_eq_true ha, of_decide_eq_true hb⟩]
            exact q
          · exact ⟨_, rfl, rfl, stay fun z => hb (decide_eq_true z.2)⟩
        · refine iteF ?_
          exact ⟨_, rfl, rfl, stay fun z => ha (decide_eq_true z.1)⟩
      · rintro σ H2 ⟨v4, rfl, rfl, old⟩
        rw [washF_none (by rw [← dpAll_map_len hy]; exact old)] at q
        exact q
    have behind : tSeq (tDrop (tCall (spColour K) [] E0 (tCons (tVar 0) (tCons (tVar 2) tNil)))) (tSeq (tFor (iTup K (tOp (rIxT K) (tVar 0) (tC (.int 1)))) (gName 3) (tIfS (tAnd (tTest (tOp rEq (tOp (rIxT K) (tVar 3) (tC (.int 0))) (tVar 1))) (tTest (tOp rEq (tOp (rIxT K) (tVar 3) (tC (.int 1))) (tVar 2)))) (tRet (tOp (rIxT K) (tVar 3) (tC (.int 2)))) tNext)) (tRet (tC (.int 0)))) { nx := fun x H' => Q V.non H', rt := Q } [some (.ref p), some (namV a), some (.str b), none] H :=
      ⟨_, rfl, _, rfl, .ref p, cs, ws, b, rfl, hp0, hib, fun x d _ _ _ => loop none⟩
    cases a with
    | none => exact ⟨_, rfl, rfl, _, rfl, iteF behind⟩
    | some z => exact ⟨_, rfl, rfl, _, rfl, iteT ⟨_, rfl, _, rfl, .ref p, cs, ws, z, rfl, hp0, hin z rfl, fun x d _ _ _ => behind⟩⟩
/-! ### washing_of -/
abbrev s_washing_of : Stmt := topS 6
def n_washing_of : List Str := ["palette", "row", "first", "hours", "ahead", "colour", "wash"]
theorem sc_washing_of : FnScope n_washing_of ["palette", "row", "first"] (defScope s_washing_of) := ⟨rfl, rfl, rfl, by decide +kernel, rfl, by decide +kernel, by decide +kernel⟩
def spWashing (K : PySem.W.Frag) : Sp := fun vs H Q _ => ∃ (v : V) (cs : List Col) (ws : List Wsh) (l : Addr) (row : List Str) (a : Option Str), vs = [v, .ref l, namV a] ∧ Dp K H v (palD cs ws) ∧ SqL K H l (row.map V.str) ∧ (∀ z, a = some z → ∃ c ∈ cs, c.1 = z) ∧ (∀ z ∈ row, ∃ c ∈ cs, c.1 = z) ∧ Q (optV (sumF ws a row 0)) H
theorem ok_washing {f : Addr} {fd : FuncData} {k : Nat} (F : FunV K "washing_of" s_washing_of [.non] f fd) (c_wash_for : Cl P w K mg base (k + 2) "wash_for" (spWash K)) : FnOk P w K mg base CX0 (k + 3) f fd ["palette", "row", "first"] (spWashing K) := by
  refine okD F sc_washing_of (fun vs H Q E h => ?_) (fun cdv A outer s H vs Q E hr h => ?_)
  · obtain ⟨v, cs, ws, l, row, a, rfl, _⟩ := h
    rfl
  · obtain ⟨v, cs, ws, l, row, a, rfl, hp, hl, hin, hir, q⟩ := h
    have nd := sc_washing_of.nd
    refine ⟨_, (pss_cons (ps_set (i := 3) nd rfl (.inl rfl) pe_int)
      (pss_cons (ps_set (i := 4) nd rfl (.inl rfl) (pv 2))
      (pss_cons (ps_for PassesOwn.never rfl (ki_list (K := K) (pv 1)) (pg_name (i := 5) nd rfl (.inl rfl))
          (pss_cons (ps_set (i := 6) nd rfl (.inl rfl) (pe_cl c_wash_for hr (by omega) (by rfl) (pa_cons (pv 0) (pa_cons (pv 4) (pa_cons (pv 5) pa_nil)))))
          (pss_cons (ps_if (pt_cmpR op_isN (pv 6) pe_non (nomark _))
              (pss_one (ps_ret pe_non))
              pss_nil)
          (pss_cons (ps_aug (i := 3) nd rfl (.inl rfl) (pv 6) ip_add)
          (pss_one (ps_set (i := 4) nd rfl (.inl rfl) (pv 5)))))))
      (pss_one (ps_ret (pv 3)))))), ?_⟩
    refine ⟨_, rfl, _, rfl, l, rfl, ⟨_, hl⟩, ?_⟩
    refine for_it (walk_list (xs := row.map V.str)) (fun i σ H2 => ∃ (h : Int) (a2 : Option Str) (v5 v6 : Option V), σ = [some v, some (.ref l), some (namV a), some (.int h), some (namV a2), v5, v6] ∧ H2 = H ∧ sumF ws a row 0 = sumF ws a2 (row.drop i) h ∧ (∀ z, a2 = some z → ∃ c ∈ cs, c.1 = z))
      ⟨0, a, none, none, rfl, rfl, rfl, hin⟩ (fun i σ H2 _ h => by obtain ⟨_, _, _, _, _, rfl, _⟩ := h; exact hl) ?_ ?_
    · rintro i x σ H2 H3 hi ⟨h, a2, v5, v6, rfl, rfl, es, ha2⟩ ⟨rfl, gx⟩
      rw [List.getElem?_map] at gx
      obtain ⟨b, gb, rfl⟩ := Option.map_eq_some_iff.mp gx
      have hib := hir b (List.mem_of_getElem? gb)
      have ed : row.drop i = b :: row.drop (i + 1) := by
        rw [List.drop_eq_getElem_cons (List.getElem?_eq_some_iff.mp gb).1, (List.getElem?_eq_some_iff.mp gb).2]
      rw [ed] at es
      refine ⟨_, rfl, _, rfl, _, rfl, v, cs, ws, a2, b, rfl, hp, ha2, hib, ?_⟩
      cases ew : washF ws a2 b with
      | none =>
        refine ⟨_, rfl, rfl, _, rfl, iteT ?_⟩
        have en : sumF ws a row 0 = none := by
          rw [es]
          unfold sumF
          rw [ew]
        rw [en] at q
        exact q
      | some k2 =>
        refine ⟨_, rfl, rfl, _, rfl, iteF ?_⟩
        refine ⟨_, rfl, _, rfl, _, _, rfl, rfl, _, rfl, h + k2, some b, _, _, rfl, rfl, ?_, fun z e => by cases e; exact hib⟩
        rw [es]
        show (match washF ws a2 b with | none => none | some k => sumF ws (some b) (row.drop (i + 1)) (h + k)) = _
        rw [ew]
    · rintro σ H2 ⟨h, a2, v5, v6, rfl, rfl, es, ha2⟩
      rw [List.length_map, List.drop_length] at es
      rw [es] at q
      exact ⟨_, rfl, q⟩

end
end Pot

namespace Pot
open PySem PySem.Spec PyProof.Rows L2
section
variable {P : Program} {w : World} {K : PySem.W.Frag} {mg : Str → Option Value} {base : Heap}
/-! ### _law_some -/
abbrev s__law_some : Stmt := topS 10
def n__law_some : List Str := ["_law_state", "_law_things"]
theorem sc__law_some : FnScope n__law_some ["_law_state", "_law_things"] (defScope s__law_some) := ⟨rfl, rfl, rfl, by decide +kernel, rfl, by decide +kernel, by decide +kernel⟩
def spSome (K : PySem.W.Frag) : Sp := fun vs H Q _ => ∃ (d c l : Addr) (n : Nat) (xs : List V), vs = [.ref d, .ref l] ∧ StAt H d c n ∧ n < 2 ^ 40 ∧ SqL K H l xs ∧ xs ≠ [] ∧ xs.length ≤ 1000 ∧ l ≠ d ∧ l ≠ c ∧
  ∀ H' x, x ∈ xs → StAt H' d c (n + 1) → Kp d c H H' → Q x H'
theorem ok_some {f : Addr} {fd : FuncData} {k : Nat} (F : Fun K "_law_some" "_law_some" s__law_some f fd) (T : Txt mg) (c__law_take : Cl P w K mg base (k + 1) "_law_take" spTake) : FnOk P w K mg base CX0 (k + 2) f fd ["_law_state", "_law_things"] (spSome K) := by
  refine F.ok sc__law_some (fun vs H Q E h => ?_) (fun cdv A outer s H vs Q E hr h => ?_)
  · obtain ⟨d, c, l, n, xs, rfl, _⟩ := h
    rfl
  · obtain ⟨d, c, l, n, xs, rfl, hS, hn, hl, hx, h1000, n1, n2, q⟩ := h
    have nd := sc__law_some.nd
    refine ⟨_, (pss_one (ps_ret (pe_ix (kx_list (K := K)) (pv 1) (pe_cl c__law_take hr (by omega) (by rfl) (pa_cons (pv 0) (pa_cons (pe_callB (kc_len (K := K)) (by rfl) T.len PySem.boot_len (pa_cons (pv 1) pa_nil)) pa_nil))) (fun _ _ => rfl)))), ?_⟩
    have hp : 0 < xs.length := List.length_pos_iff.mpr hx
    refine ⟨_, rfl, _, rfl, _, rfl, _, _, rfl, .inl ⟨_, hl, rfl⟩, d, c, _, n, rfl, (by omega), (by omega), hS, hn, fun H1 r r0 r1 hS1 k1 => ?_⟩
    obtain ⟨i, rfl⟩ : ∃ i : Nat, r = (i : Int) := ⟨r.toNat, by omega⟩
    have hi : i < xs.length := by omega
    exact ⟨l, xs, _, xs[i], rfl, rfl, kp_seq k1 n1 n2 hl, atI_nat (List.getElem?_eq_getElem hi), q _ _ (List.getElem_mem hi) hS1 k1⟩

/-! ### _law_names: words of letters -/
abbrev s__law_names : Stmt := topS 11
def n__law_names : List Str := ["_law_state", "_law_many", "_law_letters", "_law_first", "_law_pairs", "_law_stem", "_law_at", "_law_step", "_law_short", "_law_found", "_law_k", "_law_name", "_law_turn"]
theorem sc__law_names : FnScope n__law_names ["_law_state", "_law_many"] (defScope s__law_names) := ⟨rfl, rfl, rfl, by decide +kernel, rfl, by decide +kernel, by decide +kernel⟩
def spNames : Sp := fun vs H Q _ => ∃ (d c : Addr) (n m : Nat), vs = [.ref d, .int (m : Nat)] ∧ StAt H d c n ∧ n + 2000 < 2 ^ 40 ∧ m ≤ 1000 ∧
  ∀ (H' : Hp) (L : Addr) (ys : List Str), StAt H' d c (n + 13 + m) → Kp d c H H' → H L = none → H' L = some (.lst (ys.map V.str)) → ys.length = m → (∀ y ∈ ys, Wd 8 y) → Q (.ref L) H'
theorem ok_names {f : Addr} {fd : FuncData} {k : Nat} (F : Fun K "_law_names" "_law_names" s__law_names f fd) (T : Txt mg) (c__law_take : Cl P w K mg base (k + 1) "_law_take" spTake) : FnOk P w K mg base CX0 (k + 2) f fd ["_law_state", "_law_many"] spNames := by
  refine F.ok sc__law_names (fun vs H Q E h => ?_) (fun cdv A outer s H vs Q E hr h => ?_)
  · obtain ⟨d, c, n, m, rfl, _⟩ := h
    rfl
  · obtain ⟨d, c, n, m, rfl, hS, hn, hm, q⟩ := h
    have nd := sc__law_names.nd
    refine ⟨_, (pss_cons (ps_asg (pe_tup (pa_cons pe_str (pa_cons (pe_cl c__law_take hr (by omega) (by rfl) (pa_cons (pv 0) (pa_cons pe_int pa_nil))) (pa_cons (pe_cl c__law_take hr (by omega) (by rfl) (pa_cons (pv 0) (pa_cons pe_int pa_nil))) pa_nil)))) (kg_tup (K := K) (n := 3) (pgs_cons (pg_name (i := 2) nd rfl (.inr rfl)) (pgs_cons (pg_name (i := 3) nd rfl (.inl rfl)) (pgs_cons (pg_name (i := 4) nd rfl (.inl rfl)) pgs_nil)))))
      (pss_cons (ps_set (i := 5) nd rfl (.inl rfl) (ke_join (K := K) pe_str (pe_lc (own := [("_law_turn", 12)]) rfl nd (pi_range1 (by rfl) T.range (pa_cons (pe_cl c__law_take hr (by omega) (by rfl) (pa_cons (pv 0) (pa_cons pe_int pa_nil))) pa_nil)) (blkOk_by (N := n__law_names) (sc := defScope s__law_names) (by decide +kernel)) (fun _ _ _ _ _ => (pg_name (i := 12) nd rfl (.inl rfl))) (fun _ _ _ _ _ => pts_nil) (fun _ _ _ _ _ => (pe_ix ix_str (pv 2) (pe_cl c__law_take hr (by omega) (by rfl) (pa_cons (pv 0) (pa_cons pe_int pa_nil))) (fun _ _ => rfl))))))
      (pss_cons (ps_par3 (i := 6) (j := 7) (l := 8) rfl nd rfl rfl rfl (by decide) (by decide) (by decide) rfl rfl rfl (pa_cons (pe_cl c__law_take hr (by omega) (by rfl) (pa_cons (pv 0) (pa_cons (pe_op op_add (pe_callB (kc_len (K := K)) (by rfl) T.len PySem.boot_len (pa_cons (pv 5) pa_nil)) pe_int) pa_nil))) (pa_cons (pe_ix (kx_list (K := K)) (pe_lst (pa_cons pe_int (pa_cons pe_int (pa_cons pe_int pa_nil)))) (pe_cl c__law_take hr (by omega) (by rfl) (pa_cons (pv 0) (pa_cons pe_int pa_nil))) (fun _ _ => rfl)) (pa_cons (pe_cl c__law_take hr (by omega) (by rfl) (pa_cons (pv 0) (pa_cons pe_int pa_nil))) pa_nil))) rfl)
      (pss_cons (ps_set (i := 9) nd rfl (.inl rfl) (pe_lst pa_nil))
      (pss_cons (ps_for PassesOwn.never rfl (pi_range1 (by rfl) T.range (pa_cons (pv 1) pa_nil)) (pg_name (i := 10) nd rfl (.inl rfl))
          (pss_cons (ps_set (i := 11) nd rfl (.inl rfl) (pe_op op_add_str (pe_slice sl_str (pv 5) po_none (po_some (pv 6))) (pe_ix ix_str (pv 2) (pe_op op_mod (pe_op op_add (pv 3) (pe_op op_mul (pv 7) (pv 10))) pe_int) (fun _ _ => rfl))))
          (pss_cons (ps_set (i := 11) nd rfl (.inl rfl) (pe_op op_add_str (pv 11) (pe_ix (kx_list (K := K)) (pe_lst (pa_cons (pe_slice sl_str (pv 5) (po_some (pv 6)) po_none) (pa_cons (pe_slice sl_str (pe_slice sl_str (pv 5) (po_some (pv 6)) po_none) po_none (po_some (pe_op op_mod (pv 10) pe_int))) pa_nil))) (pv 8) (fun _ _ => rfl))))
          (pss_cons (ps_if ((pw_and (pt_cmpR op_eq (pv 4) pe_int (nomark _)) (pw_and (pt_cmpR op_eq (pe_op op_mod (pv 10) pe_int) pe_int (nomark _)) (pw_and1 (pt_cmpR op_lt (pe_callB (kc_len (K := K)) (by rfl) T.len PySem.boot_len (pa_cons (pe_ix (kx_list (K := K)) (pv 9) (pe_un un_neg pe_int) (fun _ _ => rfl)) pa_nil)) pe_int (nomark _)))))).pt
              (pss_one (ps_set (i := 11) nd rfl (.inl rfl) (pe_op op_add_str (pe_ix (kx_list (K := K)) (pv 9) (pe_un un_neg pe_int) (fun _ _ => rfl)) (pe_ix ix_str (pv 2) (pe_cl c__law_take hr (by omega) (by rfl) (pa_cons (pv 0) (pa_cons pe_int pa_nil))) (fun _ _ => rfl)))))
              pss_nil)
          (pss_one (ps_expr (pe_bm PySem.F.plainAttrs_list PySem.F.slot_list_append PySem.F.type_list_append mt_append (pv 9) (pa_cons (pv 11) pa_nil))))))))
      (pss_one (ps_ret (pv 9)))))))), ?_⟩
    -- letters, first, pairs
    refine ⟨_, rfl, d, c, 26, n, rfl, (by decide), (by decide), hS, by omega, fun H1 fi f0 f1 hS1 k1 => ?_⟩
    refine ⟨_, rfl, d, c, 2, n + 1, rfl, (by decide), (by decide), hS1, by omega, fun H2 pr p0 p1 hS2 k2 => ⟨(by show 3 ≤ sizeLine; decide), fun t nt => ?_⟩⟩
    have k2 := k1.trans k2
    have k3 := kp_put (o := .tup [.str "abcdefghijklmnopqrstuvwxyz", .int fi, .int pr]) k2 (k2.free hS2 nt)
    have hS3 := hS2.put (o := .tup [.str "abcdefghijklmnopqrstuvwxyz", .int fi, .int pr]) (hS2.ne1 nt) (hS2.ne2 nt)
    refine ⟨t, _, rfl, .inl (.inl upd_same), rfl, _, _, rfl, _, _, rfl, _, _, rfl, rfl, ?_⟩
    generalize upd H2 t (.tup [.str "abcdefghijklmnopqrstuvwxyz", .int fi, .int pr]) = H3 at k3 hS3 ⊢
    -- stem
    refine ⟨⟨_, rfl⟩, _, rfl, d, c, 8, n + 2, rfl, (by decide), (by decide), hS3, by omega, fun H4 sn s0 s1 hS4 k4 => ⟨_, rfl, (by omega), (by omega), fun D nD => ?_⟩⟩
    have k4 := k3.trans k4
    have nD0 := k4.free hS4 nD
    have nDd := (hS4.ne1 nD).symm
    have nDc := (hS4.ne2 nD).symm
    refine lc_it walk_range (fun i H5 => StAt H5 d c (n + 3 + i) ∧ Kp d c H H5 ∧ ∃ ys : List Str, H5 D = some (.lst (ys.map V.str)) ∧ ys.length = i ∧ ∀ y ∈ ys, Wd 1 y) ⟨hS4.put nDd.symm nDc.symm, kp_put k4 nD0, [], upd_same, rfl, fun _ h => (List.not_mem_nil h).elim⟩ (fun _ _ _ _ => trivial) ?_ ?_
    · rintro i x H5 H6 hi ⟨hS5, k5, ys, hL, hy, hw⟩ ⟨rfl, rfl⟩
      refine ⟨rfl, tYes_at ?_⟩
      rw [if_pos rfl]
      refine ⟨_, rfl, _, rfl, d, c, 26, n + 3 + i, rfl, (by decide), (by decide), hS5, by omega, fun H7 r r0 r1 hS7 k7 => ?_⟩
      refine ⟨_, r, 97 + r.toNat, rfl, rfl, (by decide +kernel), az_ix r0 r1, _, k7 D _ nDd nDc hL, ?_, (hS7.put nDd.symm nDc.symm).mono (by omega), kp_put (k5.trans k7) nD0, ys ++ [⟨#[97 + r.toNat]⟩], ?_, ?_, ?_⟩
      · rw [List.length_map, hy]; exact Nat.lt_of_lt_of_le (show i < 8 by omega) (by decide)
      · rw [upd_same, List.map_append]; rfl
      · rw [List.length_append, hy]; rfl
      · intro y h
        rcases List.mem_append.mp h with h | h
        · exact hw y h
        · rw [List.mem_singleton.mp h]; exact wd_letter r0 r1
    rintro H5 ⟨hS5, k5, ys, hL, hy, hw⟩
    have hy7 : ys.length ≤ 7 := by omega
    refine ⟨_, D, ys, rfl, rfl, .inl (SqL.of hL), ?_, ?_⟩
    · have h : ∀ {l : List Str}, (∀ y ∈ l, Wd 1 y) → (l.map (·.length)).sum ≤ l.length := by
        intro l
        induction l with
        | nil => intro _; exact Nat.le_refl _
        | cons a r ih =>
          intro h
          have h1 := (h a List.mem_cons_self).1
          have h2 := ih fun y hy => h y (List.mem_cons_of_mem _ hy)
          simp only [List.map_cons, List.sum_cons, List.length_cons]
          omega
      have := h hw
      show _ + ys.length * 0 ≤ _
      omega
    have hst : Wd 7 (Txt.join (Str.ofString "") ys) := by rw [TL.join_eq]; exact (wd_join hw).mono hy7
    have hS5 : StAt H5 d c (n + 10) := hS5.mono (by omega)
    generalize Txt.join (Str.ofString "") ys = stem at hst ⊢
    -- at, step, short
    refine ⟨_, rfl, _, rfl, _, _, rfl, ⟨wd_small hst (by decide), rfl⟩, _, _, rfl, rfl, d, c, _, n + 10, rfl, (by omega), (by have := hst.1; omega), hS5, by omega, fun H6 at_ a0 a1 hS6 k6 => ?_⟩
    refine ⟨(by show 3 ≤ sizeLine; decide), fun z nz => ?_⟩
    have k6 := k5.trans k6
    have ndz := (hS6.ne1 nz).symm
    have ncz := (hS6.ne2 nz).symm
    have hS7 := hS6.put (o := .lst [.int 3, .int 5, .int 25]) ndz.symm ncz.symm
    have k7 := kp_put (o := .lst [.int 3, .int 5, .int 25]) k6 (k6.free hS6 nz)
    have hz : upd H6 z (.lst [.int 3, .int 5, .int 25]) z = _ := upd_same
    generalize upd H6 z (.lst [.int 3, .int 5, .int 25]) = H7 at hS7 k7 hz ⊢
    refine ⟨_, rfl, d, c, 3, n + 11, rfl, (by decide), (by decide), hS7, by omega, fun H8 r3 b0 b1 hS8 k8 => ?_⟩
    obtain ⟨stp, es⟩ : ∃ stp : Int, atI [V.int 3, .int 5, .int 25] r3 = some (.int stp) ∧ -100 ≤ stp ∧ stp ≤ 100 := by
      have h : r3 = 0 ∨ r3 = 1 ∨ r3 = 2 := by omega
      rcases h with rfl | rfl | rfl
      · exact ⟨3, rfl, by decide, by decide⟩
      · exact ⟨5, rfl, by decide, by decide⟩
      · exact ⟨25, rfl, by decide, by decide⟩
    refine ⟨z, _, r3, .int stp, rfl, rfl, SqL.of (k8 _ _ ndz ncz hz), es.1, ?_⟩
    refine ⟨_, rfl, d, c, 2, n + 12, rfl, (by decide), (by decide), hS8, by omega, fun H9 sh c0 c1 hS9 k9 => ⟨_, _, _, rfl, ?_⟩⟩
    have k9 := (k7.trans k8).trans k9
    obtain ⟨a2, rfl⟩ : ∃ a2 : Nat, at_ = (a2 : Int) := ⟨at_.toNat, by omega⟩
    have ha2 : a2 ≤ stem.length := by omega
    -- found = []
    refine ⟨Nat.zero_le _, fun L nL => ?_⟩
    have nL0 := k9.free hS9 nL
    have nLd := (hS9.ne1 nL).symm
    have nLc := (hS9.ne2 nL).symm
    refine ⟨_, rfl, _, rfl, (by omega), (by omega), ?_⟩
    refine for_it walk_range (fun i σ H10 => ∃ v10 v11, σ = [some (.ref d), some (.int (m : Nat)), some (.str "abcdefghijklmnopqrstuvwxyz"), some (.int fi), some (.int pr), some (.str stem), some (.int (a2 : Nat)), some (.int stp), some (.int sh), some (.ref L), v10, v11, none] ∧
        StAt H10 d c (n + 13 + i) ∧ Kp d c H H10 ∧ ∃ ys : List Str, H10 L = some (.lst (ys.map V.str)) ∧ ys.length = i ∧ ∀ y ∈ ys, Wd 8 y)
      ⟨none, none, rfl, hS9.put nLd.symm nLc.symm, kp_put k9 nL0, [], upd_same, rfl, fun _ h => (List.not_mem_nil h).elim⟩ (fun _ _ _ _ _ => trivial) ?_ ?_
    · rintro i x σ H10 H11 hi ⟨v10, v11, rfl, hS10, k10, ys2, hL2, hy2, hw2⟩ ⟨rfl, rfl⟩
      have hi2 : i < m := by omega
      have x0 : 0 ≤ (fi + stp * (0 + (i : Int))) % 26 := Int.emod_nonneg _ (by decide)
      have x1 : (fi + stp * (0 + (i : Int))) % 26 < 26 := Int.emod_lt_of_pos _ (by decide)
      have w1 := wd_head (k := a2) hst
      have w3 := wd_tail (k := a2) hst
      -- name = stem[:at] + letters[..]
      refine ⟨_, rfl, _, rfl, _, rfl, _, rfl, wd_small hst (by decide), ?_⟩
      refine ⟨_, rfl, _, rfl, _, rfl, _, rfl, _, _, rfl, rfl, .inl ⟨by omega, by omega⟩, _, _, rfl, rfl, _, _, rfl, rfl, (by show (0 : Int) < 26; decide), ?_⟩
      refine ⟨_, _, _, rfl, rfl, (by decide +kernel), az_ix x0 x1, _, _, rfl, rfl, ?_, ?_⟩
      · have := w1.1
        show _ + 1 ≤ sizeLine
        rw [sizeLine_eq]
        have := hst.1
        omega
      have w2 := wd_add w1 (wd_letter x0 x1)
      have nm1 := w2
      generalize cutS stem none (some ((a2 : Nat) : Int)) ++ ⟨#[97 + ((fi + stp * (0 + (i : Int))) % 26).toNat]⟩ = nam at nm1 ⊢
      -- name = name + [..][short]
      refine ⟨_, rfl, _, rfl, _, rfl, _, rfl, _, rfl, wd_small hst (by decide), ?_⟩
      refine ⟨_, rfl, _, rfl, _, rfl, _, rfl, wd_small hst (by decide), ?_⟩
      refine ⟨_, rfl, _, _, rfl, rfl, (by show (0 : Int) < 3; decide), _, rfl, _, rfl, wd_small (wd_cut hst) (by decide), (by show 2 ≤ sizeLine; decide), fun u nu => ?_⟩
      have k11 := kp_put (o := .lst [.str (cutS stem (some ((a2 : Nat) : Int)) none), .str (cutS (cutS stem (some ((a2 : Nat) : Int)) none) none (some ((0 + (i : Int)) % 3)))]) k10 (k10.free hS10 nu)
      have hS11 := hS10.put (o := .lst [.str (cutS stem (some ((a2 : Nat) : Int)) none), .str (cutS (cutS stem (some ((a2 : Nat) : Int)) none) none (some ((0 + (i : Int)) % 3)))]) (hS10.ne1 nu) (hS10.ne2 nu)
      have hu : upd H11 u (.lst [.str (cutS stem (some ((a2 : Nat) : Int)) none), .str (cutS (cutS stem (some ((a2 : Nat) : Int)) none) none (some ((0 + (i : Int)) % 3)))]) u = _ := upd_same
      have hL3 := same_upd (o := .lst [.str (cutS stem (some ((a2 : Nat) : Int)) none), .str (cutS (cutS stem (some ((a2 : Nat) : Int)) none) none (some ((0 + (i : Int)) % 3)))]) nu _ _ hL2
      obtain ⟨tl, etl, wtl⟩ : ∃ tl : Str, atI [V.str (cutS stem (some ((a2 : Nat) : Int)) none), .str (cutS (cutS stem (some ((a2 : Nat) : Int)) none) none (some ((0 + (i : Int)) % 3)))] sh = some (.str tl) ∧ Wd (stem.length - a2) tl := by
        have h : sh = 0 ∨ sh = 1 := by omega
        rcases h with rfl | rfl
        · exact ⟨_, rfl, w3⟩
        · exact ⟨_, rfl, wd_cut w3⟩
      generalize upd H11 u (.lst [.str (cutS stem (some ((a2 : Nat) : Int)) none), .str (cutS (cutS stem (some ((a2 : Nat) : Int)) none) none (some ((0 + (i : Int)) % 3)))]) = H12 at k11 hS11 hu hL3 ⊢
      have w8 : Wd 8 (nam ++ tl) := (wd_add nm1 wtl).mono (by have := hst.1; omega)
      refine ⟨_, rfl, u, _, sh, .str tl, rfl, rfl, SqL.of hu, etl, _, _, rfl, rfl, ?_, ?_⟩
      · have h1 := nm1.1
        have h2 := wtl.1
        have h3 := hst.1
        rw [sizeLine_eq]
        omega
      generalize nam ++ tl = nam2 at w8 ⊢
      have fin : ∀ (H13 : Hp) (nm : Str), Wd 8 nm → StAt H13 d c (n + 13 + i + 1) → Kp d c H H13 → H13 L = some (.lst (ys2.map V.str)) →
          ∃ v10 v11, [some (V.ref d), some (.int (m : Nat)), some (.str "abcdefghijklmnopqrstuvwxyz"), some (.int fi), some (.int pr), some (.str stem), some (.int (a2 : Nat)), some (.int stp), some (.int sh), some (.ref L), some (.int (0 + (i : Int))), some (.str nm), none] = [some (V.ref d), some (.int (m : Nat)), some (.str "abcdefghijklmnopqrstuvwxyz"), some (.int fi), some (.int pr), some (.str stem), some (.int (a2 : Nat)), some (.int stp), some (.int sh), some (.ref L), v10, v11, none] ∧
          StAt (upd H13 L (.lst (ys2.map V.str ++ [.str nm]))) d c (n + 13 + (i + 1)) ∧ Kp d c H (upd H13 L (.lst (ys2.map V.str ++ [.str nm]))) ∧ ∃ ys : List Str, upd H13 L (.lst (ys2.map V.str ++ [.str nm])) L = some (.lst (ys.map V.str)) ∧ ys.length = i + 1 ∧ ∀ y ∈ ys, Wd 8 y := by
        intro H13 nm wn hS13 k13 hL13
        refine ⟨_, _, rfl, hS13.put nLd.symm nLc.symm, kp_put k13 nL0, ys2 ++ [nm], by rw [upd_same, List.map_append]; rfl, by rw [List.length_append, hy2]; rfl, fun y hy => ?_⟩
        rcases List.mem_append.mp hy with h | h
        · exact hw2 y h
        · rw [List.mem_singleton.mp h]; exact wn
      have hS12 := hS11.mono (Nat.le_succ _)
      refine ⟨_, rfl, rfl, _, rfl, ite2 (fun h1 => ?_) (fun h1 => ?_)⟩
      · refine ⟨_, rfl, _, _, rfl, rfl, (by show (0 : Int) < 2; decide), rfl, _, rfl, ite2 (fun h2 => ?_) (fun h2 => ?_)⟩
        · have ei : (0 + (i : Int)) % 2 = 1 := V.int.inj (of_decide_eq_true h2)
          have ne2 : ys2 ≠ [] := fun z => by rw [z] at hy2; simp at hy2; omega
          obtain ⟨hd, y0, e0⟩ : ∃ hd y0, ys2 = hd ++ [y0] := ⟨_, _, (List.dropLast_concat_getLast ne2).symm⟩
          have el : atI (ys2.map V.str) (-1) = some (.str y0) := by
            rw [e0, List.map_append]; exact atI_last _ _
          have wy0 : Wd 8 y0 := hw2 y0 (by rw [e0]; simp)
          refine ⟨_, rfl, 1, rfl, L, _, -1, _, rfl, rfl, SqL.of hL3, el, _, _, rfl, ⟨wd_small wy0 (by decide), rfl⟩, _, _, rfl, rfl, _, rfl, ite2 (fun h3 => ?_) (fun h3 => ?_)⟩
          · have ly : y0.length < 8 := by have := of_decide_eq_true h3; omega
            refine ⟨_, rfl, 1, rfl, L, _, -1, _, rfl, rfl, SqL.of hL3, el, _, rfl, _, rfl, d, c, 26, n + 13 + i, rfl, (by decide), (by decide), hS11, by omega, fun H14 r r0 r1 hS14 k14 => ?_⟩
            have hL4 := k14 L _ nLd nLc hL3
            refine ⟨_, r, _, rfl, rfl, (by decide +kernel), az_ix r0 r1, _, _, rfl, rfl, ?_, ?_⟩
            · show _ + 1 ≤ sizeLine
              rw [sizeLine_eq]
              omega
            have wz : Wd 8 (y0 ++ ⟨#[97 + r.toNat]⟩) := ⟨by rw [strLen_append]; show _ + 1 ≤ 8; omega, (wd_add wy0 (wd_letter r0 r1)).2⟩
            refine ⟨_, rfl, .inl ⟨rfl, _, SqL.of hL4⟩, _, rfl, L, _, _, rfl, rfl, hL4, (by rw [List.length_map, hy2]; exact Nat.lt_of_lt_of_le (show i < 1001 by omega) (by decide)), fin _ _ wz hS14 (k11.trans k14) hL4⟩
          · refine ⟨_, rfl, .inl ⟨rfl, _, SqL.of hL3⟩, _, rfl, L, _, _, rfl, rfl, hL3, (by rw [List.length_map, hy2]; exact Nat.lt_of_lt_of_le (show i < 1001 by omega) (by decide)), fin _ _ w8 hS12 k11 hL3⟩
        · refine iteF ?_
          refine ⟨_, rfl, .inl ⟨rfl, _, SqL.of hL3⟩, _, rfl, L, _, _, rfl, rfl, hL3, (by rw [List.length_map, hy2]; exact Nat.lt_of_lt_of_le (show i < 1001 by omega) (by decide)), fin _ _ w8 hS12 k11 hL3⟩
      · refine iteF ?_
        refine ⟨_, rfl, .inl ⟨rfl, _, SqL.of hL3⟩, _, rfl, L, _, _, rfl, rfl, hL3, (by rw [List.length_map, hy2]; exact Nat.lt_of_lt_of_le (show i < 1001 by omega) (by decide)), fin _ _ w8 hS12 k11 hL3⟩
    · rintro σ H10 ⟨v10, v11, rfl, hS10, k10, ys2, hL2, hy2, hw2⟩
      exact ⟨_, rfl, q _ L ys2 hS10 k10 nL0 hL2 (by rw [hy2, Int.toNat_natCast]) hw2⟩

end
end Pot

namespace Pot
open PySem PySem.Spec PyProof.Rows L2
section
variable {P : Program} {w : World} {K : PySem.W.Frag} {mg : Str → Option Value} {base : Heap}

/-! ### _law_palette -/
abbrev s__law_palette : Stmt := topS 12
def n__law_palette : List Str := ["_law_state", "_law_names_here", "_law_colours", "_law_washes", "_law_name", "_law_charge", "_law_melt", "_law_other", "_law_way", "_law_hours"]
theorem sc__law_palette : FnScope n__law_palette ["_law_state", "_law_names_here"] (defScope s__law_palette) := ⟨rfl, rfl, rfl, by decide +kernel, rfl, by decide +kernel, by decide +kernel⟩
def spPalette (K : PySem.W.Frag) : Sp := fun vs H Q _ => ∃ (d c l : Addr) (n : Nat) (ys : List Str), vs = [.ref d, .ref l] ∧ StAt H d c n ∧ n + 5000 < 2 ^ 40 ∧ SqL K H l (ys.map V.str) ∧ ys.length ≤ 14 ∧ (∀ y ∈ ys, Wd 9 y) ∧ l ≠ d ∧ l ≠ c ∧
  ∀ (H' : Hp) (v : V) (cs : List Col) (ws : List Wsh), StAt H' d c (n + 1000) → Kp d c H H' → Dp K H' v (palD cs ws) → PalOk cs ws → (cs.map (·.1)).Perm ys → Q v H'
/-- what stands while a palette is made: colours at C, washes at W, the names in order at Z -/
structure PMk (K : PySem.W.Frag) (H0 : Hp) (d c C W Z : Addr) (zs : List Str) (n : Nat) (xs us : List V) (cs : List Col) (ws : List Wsh) (H : Hp) : Prop where
  st : StAt H d c n
  kp : Kp d c H0 H
  hZ : H Z = some (.lst (zs.map V.str))
  hC : H C = some (.lst xs)
  dC : DpAll K H xs (cs.map colD)
  hW : H W = some (.lst us)
  dW : DpAll K H us (ws.map washD)
structure PAp (H0 : Hp) (d c C W Z : Addr) : Prop where
  Cd : C ≠ d
  Cc : C ≠ c
  Wd : W ≠ d
  Wc : W ≠ c
  Zd : Z ≠ d
  Zc : Z ≠ c
  CW : C ≠ W
  CZ : C ≠ Z
  WZ : W ≠ Z
  nC : H0 C = none
  nW : H0 W = none
  nZ : H0 Z = none
section
variable {H0 H H' : Hp} {d c C W Z p : Addr} {zs : List Str} {n m : Nat} {xs us : List V} {cs : List Col} {ws : List Wsh} {o : HO}
theorem PMk.drawn (P : PMk K H0 d c C W Z zs n xs us cs ws H) (a : PAp H0 d c C W Z) (st : StAt H' d c m) (k : Kp d c H H') : PMk K H0 d c C W Z zs m xs us cs ws H' :=
  ⟨st, P.kp.trans k, k _ _ a.Zd a.Zc P.hZ, k _ _ a.Cd a.Cc P.hC, dpAll_kp P.st k (noL_map noL_col _) P.dC, k _ _ a.Wd a.Wc P.hW, dpAll_kp P.st k (noL_map noL_wash _) P.dW⟩
theorem PMk.put (P : PMk K H0 d c C W Z zs n xs us cs ws H) (h : H p = none) : PMk K H0 d c C W Z zs n xs us cs ws (upd H p o) :=
  ⟨P.st.put (P.st.ne1 h) (P.st.ne2 h), kp_put P.kp (P.kp.free P.st h), same_upd h _ _ P.hZ, same_upd h _ _ P.hC, dpAll_same (same_upd h) P.dC, same_upd h _ _ P.hW, dpAll_same (same_upd h) P.dW⟩
theorem PMk.mono (P : PMk K H0 d c C W Z zs n xs us cs ws H) (h : n ≤ m) : PMk K H0 d c C W Z zs m xs us cs ws H := ⟨P.st.mono h, P.kp, P.hZ, P.hC, P.dC, P.hW, P.dW⟩
theorem dpAll_lst {l : Addr} {ys zs : List V} {es : List PyData} (he : H l = some (.lst ys)) (hn : noLAll es) (h : DpAll K H xs es) : DpAll K (upd H l (.lst zs)) xs es := by
  have go : ∀ {a : Addr} {us : List V}, SqT K H a us → SqT K (upd H l (.lst zs)) a us := fun {a us} h => by
    rcases h with (h | ⟨o, h⟩) | h
    · exact .inl (.inl (by rw [upd_ne (ne_of h he (by intro z; cases z))]; exact h))
    · exact .inl (.inr ⟨o, by rw [upd_ne (ne_of h he (by intro z; cases z))]; exact h⟩)
    · exact .inr h
  exact dpAll_go (fun a us h => go h) hn h
theorem PMk.colour (P : PMk K H0 d c C W Z zs n xs us cs ws H) (a : PAp H0 d c C W Z) {v : V} {r : Col} (hv : Dp K H v (colD r)) : PMk K H0 d c C W Z zs n (xs ++ [v]) us (cs ++ [r]) ws (upd H C (.lst (xs ++ [v]))) :=
  ⟨P.st.put a.Cd.symm a.Cc.symm, kp_put P.kp a.nC, by rw [upd_ne a.CZ.symm]; exact P.hZ, upd_same, by rw [List.map_append]; exact dpAll_app (dpAll_lst P.hC (noL_map noL_col _) P.dC) (dpAll_lst P.hC ⟨noL_col r, trivial⟩ (.cons hv .nil)),
    by rw [upd_ne a.CW.symm]; exact P.hW, dpAll_lst P.hC (noL_map noL_wash _) P.dW⟩
theorem PMk.wash (P : PMk K H0 d c C W Z zs n xs us cs ws H) (a : PAp H0 d c C W Z) {v : V} {r : Wsh} (hv : Dp K H v (washD r)) : PMk K H0 d c C W Z zs n xs (us ++ [v]) cs (ws ++ [r]) (upd H W (.lst (us ++ [v]))) :=
  ⟨P.st.put a.Wd.symm a.Wc.symm, kp_put P.kp a.nW, by rw [upd_ne a.WZ.symm]; exact P.hZ, by rw [upd_ne a.CW]; exact P.hC, dpAll_lst P.hW (noL_map noL_col _) P.dC, upd_same,
    by rw [List.map_append]; exact dpAll_app (dpAll_lst P.hW (noL_map noL_wash _) P.dW) (dpAll_lst P.hW ⟨noL_wash r, trivial⟩ (.cons hv .nil))⟩
end
theorem ok_palette {f : Addr} {fd : FuncData} {k : Nat} (F : Fun K "_law_palette" "_law_palette" s__law_palette f fd) (T : Txt mg) (c__law_take : Cl P w K mg base (k + 1) "_law_take" spTake) : FnOk P w K mg base CX0 (k + 2) f fd ["_law_state", "_law_names_here"] (spPalette K) := by
  refine F.ok sc__law_palette (fun vs H Q E h => ?_) (fun cdv A outer s H vs Q E hr h => ?_)
  · obtain ⟨d, c, l, n, ys, rfl, _⟩ := h
    rfl
  · obtain ⟨d, c, l, n, ys, rfl, hS, hn, hl, h14, hw, ld, lc, q⟩ := h
    have nd := sc__law_palette.nd
    refine ⟨_, (pss_cons (ps_par (i := 2) (j := 3) rfl nd rfl rfl (by decide) rfl rfl (pa_cons (pe_lst pa_nil) (pa_cons (pe_lst pa_nil) pa_nil)) rfl)
      (pss_cons (ps_for PassesOwn.never rfl (ki_list (K := K) (pe_callB (kc_sortedS (K := K)) (by rfl) T.sorted (by decide +kernel) (pa_cons (pv 1) pa_nil))) (pg_name (i := 4) nd rfl (.inl rfl))
          (pss_cons (ps_par (i := 5) (j := 6) rfl nd rfl rfl (by decide) rfl rfl (pa_cons (pe_op op_add pe_int (pe_cl c__law_take hr (by omega) (by rfl) (pa_cons (pv 0) (pa_cons pe_int pa_nil)))) (pa_cons (pe_cl c__law_take hr (by omega) (by rfl) (pa_cons (pv 0) (pa_cons (pe_ix (kx_list (K := K)) (pe_lst (pa_cons pe_int (pa_cons pe_int pa_nil))) (pe_cl c__law_take hr (by omega) (by rfl) (pa_cons (pv 0) (pa_cons pe_int pa_nil))) (fun _ _ => rfl)) pa_nil))) pa_nil)) rfl)
          (pss_cons (ps_expr (pe_bm PySem.F.plainAttrs_list PySem.F.slot_list_append PySem.F.type_list_append mt_append (pv 2) (pa_cons (pe_tup (pa_cons (pv 4) (pa_cons (pv 5) (pa_cons (pv 6) (pa_cons (pe_op op_add pe_int (pe_cl c__law_take hr (by omega) (by rfl) (pa_cons (pv 0) (pa_cons (pe_ix (kx_list (K := K)) (pe_lst (pa_cons pe_int (pa_cons pe_int pa_nil))) (pe_cl c__law_take hr (by omega) (by rfl) (pa_cons (pv 0) (pa_cons pe_int pa_nil))) (fun _ _ => rfl)) pa_nil)))) pa_nil))))) pa_nil)))
          (pss_one (ps_for PassesOwn.never rfl (ki_list (K := K) (pe_callB (kc_sortedS (K := K)) (by rfl) T.sorted (by decide +kernel) (pa_cons (pv 1) pa_nil))) (pg_name (i := 7) nd rfl (.inl rfl))
              (pss_cons (ps_set (i := 8) nd rfl (.inl rfl) (pe_cl c__law_take hr (by omega) (by rfl) (pa_cons (pv 0) (pa_cons pe_int pa_nil))))
              (pss_one (ps_if ((pw_and (pt_cmpR op_ne (pv 7) (pv 4) (nomark _)) (pw_and (pt_cmpR op_gt (pv 8) pe_int (nomark _)) (pw_and1 (pt_cmpR op_lt (pe_callB (kc_len (K := K)) (by rfl) T.len PySem.boot_len (pa_cons (pv 3) pa_nil)) pe_int (nomark _)))))).pt
                  (pss_cons (ps_set (i := 9) nd rfl (.inl rfl) (pe_ix (kx_list (K := K)) (pe_lst (pa_cons (pe_cl c__law_take hr (by omega) (by rfl) (pa_cons (pv 0) (pa_cons pe_int pa_nil))) (pa_cons (pe_cl c__law_take hr (by omega) (by rfl) (pa_cons (pv 0) (pa_cons pe_int pa_nil))) (pa_cons pe_int (pa_cons pe_non (pa_cons (pe_op op_add pe_int (pe_cl c__law_take hr (by omega) (by rfl) (pa_cons (pv 0) (pa_cons pe_int pa_nil)))) pa_nil)))))) (pe_op op_sub (pv 8) pe_int) (fun _ _ => rfl)))
                  (pss_one (ps_expr (pe_bm PySem.F.plainAttrs_list PySem.F.slot_list_append PySem.F.type_list_append mt_append (pv 3) (pa_cons (pe_tup (pa_cons (pv 4) (pa_cons (pv 7) (pa_cons (pv 9) pa_nil)))) pa_nil)))))
                  pss_nil))))))))
      (pss_one (ps_ret (pe_tup (pa_cons (pe_callTy (kc_tuple (K := K)) (by rfl) T.tuple (by decide +kernel) (pa_cons (pv 2) pa_nil)) (pa_cons (pe_callTy (kc_tuple (K := K)) (by rfl) T.tuple (by decide +kernel) (pa_cons (pv 3) pa_nil)) pa_nil))))))), ?_⟩
    -- colours, washes
    refine ⟨Nat.zero_le _, fun C nC => ⟨Nat.zero_le _, fun W nW => ⟨_, _, rfl, ?_⟩⟩⟩
    have nW0 := (same_upd nC).free nW
    have nCW : C ≠ W := ne_of_none upd_same nW
    have Cd := (hS.ne1 nC).symm
    have Cc := (hS.ne2 nC).symm
    have Wd' := (hS.ne1 nW0).symm
    have Wc := (hS.ne2 nW0).symm
    -- sorted(names)
    refine ⟨_, rfl, l, ys, rfl, (((same_upd nC).trans (same_upd nW)).seq hl), (by omega), fun zs Z hz hsort nZ => ⟨Z, rfl, ⟨_, SqL.of upd_same⟩, ?_⟩⟩
    have nZ0 := (same_upd nC).free ((same_upd nW).free nZ)
    have nCZ : C ≠ Z := ne_of_none (by rw [upd_ne nCW]; exact upd_same) nZ
    have nWZ : W ≠ Z := ne_of_none upd_same nZ
    have Zd := (hS.ne1 nZ0).symm
    have Zc := (hS.ne2 nZ0).symm
    have hwz : ∀ y ∈ zs, Wd 9 y := fun y hy => hw y (hz.mem_iff.mp hy)
    have lz : zs.length ≤ 14 := by rw [hz.length_eq]; exact h14
    have ap : PAp H d c C W Z := ⟨Cd, Cc, Wd', Wc, Zd, Zc, nCW, nCZ, nWZ, nC, nW0, nZ0⟩
    have start : PMk K H d c C W Z zs n [] [] [] [] (upd (upd (upd H C (.lst [])) W (.lst [])) Z (.lst (zs.map V.str))) :=
      ⟨((hS.put Cd.symm Cc.symm).put Wd'.symm Wc.symm).put Zd.symm Zc.symm, kp_put (kp_put (kp_put (.refl d c H) nC) nW0) nZ0, upd_same, by rw [upd_ne nCZ, upd_ne nCW]; exact upd_same, .nil, by rw [upd_ne nWZ]; exact upd_same, .nil⟩
    refine for_it (walk_list (xs := zs.map V.str)) (fun i σ H2 => ∃ v4 v5 v6 v7 v8 v9 xs us cs ws, σ = [some (.ref d), some (.ref l), some (.ref C), some (.ref W), v4, v5, v6, v7, v8, v9] ∧ PMk K H d c C W Z zs (n + 65 * i) xs us cs ws H2 ∧ PalOk cs ws ∧ cs.map (·.1) = zs.take i)
      ⟨none, none, none, none, none, none, [], [], [], [], rfl, start, ⟨by decide, by decide, fun _ h => (List.not_mem_nil h).elim, fun _ h => (List.not_mem_nil h).elim⟩, rfl⟩
      (fun i σ H2 _ h => by obtain ⟨_, _, _, _, _, _, _, _, _, _, _, h, _⟩ := h; exact SqL.of h.hZ) ?_ ?_
    · rintro i x σ H2 H3 hi ⟨v4, v5, v6, v7, v8, v9, xs, us, cs, ws, rfl, M, ok, ecs⟩ ⟨rfl, gx⟩
      rw [List.getElem?_map] at gx
      obtain ⟨z, gz, rfl⟩ := Option.map_eq_some_iff.mp gx
      have wz := hwz z (List.mem_of_getElem? gz)
      have hi14 : i < 14 := by rw [List.length_map] at hi; omega
      -- charge, melt
      refine ⟨_, rfl, d, c, 20, _, rfl, (by decide), (by decide), M.st, by omega, fun H4 ch h40 h41 st4 k4 => ⟨_, _, rfl, rfl, ?_⟩⟩
      have M := M.drawn ap st4 k4
      refine ⟨_, rfl, (by show 2 ≤ sizeLine; decide), fun a1 na1 => ?_⟩
      have q1 := M.st.ne1 na1
      have q2 := M.st.ne2 na1
      have M := M.put (o := .lst [.int 4, .int 100]) na1
      have h1 : upd H4 a1 (.lst [.int 4, .int 100]) a1 = _ := upd_same
      generalize upd H4 a1 (.lst [.int 4, .int 100]) = H5 at M h1 ⊢
      refine ⟨_, rfl, d, c, 2, _, rfl, (by decide), (by decide), M.st, by omega, fun H6 r1 r10 r11 st6 k6 => ?_⟩
      obtain ⟨b1, e1, b10, b11⟩ : ∃ b1 : Int, atI [V.int 4, .int 100] r1 = some (.int b1) ∧ 0 < b1 ∧ b1 ≤ 100 := by
        have h : r1 = 0 ∨ r1 = 1 := by omega
        rcases h with rfl | rfl
        · exact ⟨4, rfl, by decide, by decide⟩
        · exact ⟨100, rfl, by decide, by decide⟩
      refine ⟨a1, _, r1, .int b1, rfl, rfl, SqL.of (k6 _ _ q1.symm q2.symm h1), e1, ?_⟩
      have M := M.drawn ap st6 k6
      refine ⟨d, c, b1, _, rfl, b10, by omega, M.st, by omega, fun H7 me m0 m1 st7 k7 => ⟨_, _, rfl, ?_⟩⟩
      have M := M.drawn ap st7 k7
      -- colours.append(..)
      refine ⟨_, rfl, .inl ⟨rfl, _, SqL.of M.hC⟩, _, rfl, _, rfl, _, rfl, _, rfl, (by show 2 ≤ sizeLine; decide), fun a2 na2 => ?_⟩
      have q3 := M.st.ne1 na2
      have q4 := M.st.ne2 na2
      have M := M.put (o := .lst [.int 9, .int 999]) na2
      have h2 : upd H7 a2 (.lst [.int 9, .int 999]) a2 = _ := upd_same
      generalize upd H7 a2 (.lst [.int 9, .int 999]) = H8 at M h2 ⊢
      refine ⟨_, rfl, d, c, 2, _, rfl, (by decide), (by decide), M.st, by omega, fun H9 r2 r20 r21 st9 k9 => ?_⟩
      obtain ⟨b2, e2, b20, b21⟩ : ∃ b2 : Int, atI [V.int 9, .int 999] r2 = some (.int b2) ∧ 0 < b2 ∧ b2 ≤ 999 := by
        have h : r2 = 0 ∨ r2 = 1 := by omega
        rcases h with rfl | rfl
        · exact ⟨9, rfl, by decide, by decide⟩
        · exact ⟨999, rfl, by decide, by decide⟩
      refine ⟨a2, _, r2, .int b2, rfl, rfl, SqL.of (k9 _ _ q3.symm q4.symm h2), e2, ?_⟩
      have M := M.drawn ap st9 k9
      refine ⟨d, c, b2, _, rfl, b20, by omega, M.st, by omega, fun H10 ga g0 g1 st10 k10 => ⟨_, _, rfl, rfl, (by show 4 ≤ sizeLine; decide), fun t nt => ?_⟩⟩
      have M := M.drawn ap st10 k10
      have M := M.put (o := .tup [.str z, .int (1 + ch), .int me, .int (1 + ga)]) nt
      have ht : upd H10 t (.tup [.str z, .int (1 + ch), .int me, .int (1 + ga)]) t = _ := upd_same
      generalize upd H10 t (.tup [.str z, .int (1 + ch), .int me, .int (1 + ga)]) = H11 at M ht ⊢
      have hv : Dp K H11 (.ref t) (colD (z, 1 + ch, me, 1 + ga)) := .tup (.inl (.inl ht)) (.cons (.str _) (.cons (.int _) (.cons (.int _) (.cons (.int _) .nil))))
      have lcs : cs.length = i := by
        have := congrArg List.length ecs
        rw [List.length_map, List.length_take] at this
        rw [List.length_map] at hi
        omega
      have lxs : xs.length = i := by rw [dpAll_map_len M.dC]; exact lcs
      refine ⟨C, _, _, rfl, rfl, M.hC, (by rw [lxs]; exact Nat.lt_of_lt_of_le hi14 (by decide)), ?_⟩
      have M := M.colour ap hv
      have ok := ok.addC (c := (z, 1 + ch, me, 1 + ga)) (by omega) ⟨wz.1, wd_codes wz, by show (1 + ch).natAbs < 10000; omega, by show me.natAbs < 10000; omega, by show (1 + ga).natAbs < 10000; omega⟩
      have ecs : (cs ++ [((z, 1 + ch, me, 1 + ga) : Col)]).map (·.1) = zs.take (i + 1) := by
        rw [List.map_append, ecs, List.take_add_one, gz]
        rfl
      generalize upd H11 C (.lst (xs ++ [.ref t])) = H12 at M ⊢
      generalize xs ++ [V.ref t] = xs2 at M
      generalize cs ++ [((z, 1 + ch, me, 1 + ga) : Col)] = cs2 at M ok ecs
      -- the washes of this one
      refine ⟨_, rfl, l, ys, rfl, kp_seq M.kp ld lc hl, (by omega), fun zs2 Z2 hz2 _ nZ2 => ⟨Z2, rfl, ⟨_, SqL.of upd_same⟩, ?_⟩⟩
      have z2d := (M.st.ne1 nZ2).symm
      have z2c := (M.st.ne2 nZ2).symm
      have z2W : W ≠ Z2 := ne_of_none M.hW nZ2
      have hw2 : ∀ y ∈ zs2, Wd 9 y := fun y hy => hw y (hz2.mem_iff.mp hy)
      have l2 : zs2.length ≤ 14 := by rw [hz2.length_eq]; exact h14
      refine for_it (walk_list (xs := zs2.map V.str)) (fun j σ H13 => ∃ v7 v8 v9 us ws, σ = [some (.ref d), some (.ref l), some (.ref C), some (.ref W), some (.str z), some (.int (1 + ch)), some (.int me), v7, v8, v9] ∧ PMk K H d c C W Z zs (n + 65 * i + 5 + 4 * j) xs2 us cs2 ws H13 ∧ H13 Z2 = some (.lst (zs2.map V.str)) ∧ PalOk cs2 ws)
        ⟨_, _, _, us, ws, rfl, (M.put nZ2).mono (by omega), upd_same, ok⟩ (fun j σ H13 _ h => by obtain ⟨_, _, _, _, _, _, _, h, _⟩ := h; exact SqL.of h) ?_ ?_
      · rintro j x σ H13 H14 hj ⟨v7, v8, v9, us, ws, rfl, M, hZ2, ok⟩ ⟨rfl, gx⟩
        rw [List.getElem?_map] at gx
        obtain ⟨y, gy, rfl⟩ := Option.map_eq_some_iff.mp gx
        have wy := hw2 y (List.mem_of_getElem? gy)
        have hj14 : j < 14 := by rw [List.length_map] at hj; omega
        refine ⟨_, rfl, d, c, 7, _, rfl, (by decide), (by decide), M.st, by omega, fun H15 wa w0 w1 st15 k15 => ?_⟩
        have M := M.drawn ap st15 k15
        have hZ2 := k15 _ _ z2d z2c hZ2
        have out : ∀ (v9 : Option V), ∃ v7 v8 v9' us ws, [some (V.ref d), some (.ref l), some (.ref C), some (.ref W), some (.str z), some (.int (1 + ch)), some (.int me), some (.str y), some (.int wa), v9] = [some (.ref d), some (.ref l), some (.ref C), some (.ref W), some (.str z), some (.int (1 + ch)), some (.int me), v7, v8, v9'] ∧ PMk K H d c C W Z zs (n + 65 * i + 5 + 4 * (j + 1)) xs2 us cs2 ws H15 ∧ H15 Z2 = some (.lst (zs2.map V.str)) ∧ PalOk cs2 ws := fun v9 => ⟨_, _, _, us, ws, rfl, M.mono (by omega), hZ2, ok⟩
        refine ⟨_, rfl, _, rfl, rfl, _, rfl, ite2 (fun c1 => ?_) (fun c1 => iteF (out _))⟩
        refine ⟨_, rfl, _, _, rfl, rfl, _, rfl, ite2 (fun c2 => ?_) (fun c2 => iteF (out _))⟩
        refine ⟨_, rfl, _, _, rfl, .inl ⟨_, SqL.of M.hW, rfl⟩, _, _, rfl, rfl, _, rfl, ite2 (fun c3 => ?_) (fun c3 => out _)⟩
        have hwa : 1 < wa := of_decide_eq_true c2
        have lus : us.length < 60 := by have := of_decide_eq_true c3; omega
        refine ⟨_, rfl, d, c, 4, _, rfl, (by decide), (by decide), M.st, by omega, fun H16 t1 t10 t11 st16 k16 => ?_⟩
        have M := M.drawn ap st16 k16
        refine ⟨_, rfl, d, c, 100, _, rfl, (by decide), (by decide), M.st, by omega, fun H17 t2 t20 t21 st17 k17 => ?_⟩
        have M := M.drawn ap st17 k17
        refine ⟨_, rfl, d, c, 9, _, rfl, (by decide), (by decide), M.st, by omega, fun H18 t3 t30 t31 st18 k18 => ⟨_, _, rfl, rfl, (by show 5 ≤ sizeLine; decide), fun e ne => ?_⟩⟩
        have M := M.drawn ap st18 k18
        have hZ2 := k18 _ _ z2d z2c (k17 _ _ z2d z2c (k16 _ _ z2d z2c hZ2))
        have hZ2 := same_upd (o := .lst [.int t1, .int t2, .int 0, .non, .int (1 + t3)]) ne _ _ hZ2
        have M := M.put (o := .lst [.int t1, .int t2, .int 0, .non, .int (1 + t3)]) ne
        have he : upd H18 e (.lst [.int t1, .int t2, .int 0, .non, .int (1 + t3)]) e = _ := upd_same
        generalize upd H18 e (.lst [.int t1, .int t2, .int 0, .non, .int (1 + t3)]) = H19 at M he hZ2 ⊢
        obtain ⟨o, eo, bo⟩ : ∃ o : Option Int, atI [V.int t1, .int t2, .int 0, .non, .int (1 + t3)] (wa - 2) = some (optV o) ∧ ∀ i, o = some i → i.natAbs < 10000 := by
          have h : wa = 2 ∨ wa = 3 ∨ wa = 4 ∨ wa = 5 ∨ wa = 6 := by omega
          rcases h with rfl | rfl | rfl | rfl | rfl
          · exact ⟨some t1, rfl, fun i e => by cases e; omega⟩
          · exact ⟨some t2, rfl, fun i e => by cases e; omega⟩
          · exact ⟨some 0, rfl, fun i e => by cases e; decide⟩
          · exact ⟨none, rfl, fun i e => by cases e⟩
          · exact ⟨some (1 + t3), rfl, fun i e => by cases e; omega⟩
        refine ⟨_, rfl, _, _, rfl, rfl, e, _, _, _, rfl, rfl, SqL.of he, eo, ?_⟩
        refine ⟨_, rfl, .inl ⟨rfl, _, SqL.of M.hW⟩, _, rfl, _, rfl, _, rfl, (by show 3 ≤ sizeLine; decide), fun g ng => ?_⟩
        have hZ2 := same_upd (o := .tup [.str z, .str y, optV o]) ng _ _ hZ2
        have M := M.put (o := .tup [.str z, .str y, optV o]) ng
        have hg : upd H19 g (.tup [.str z, .str y, optV o]) g = _ := upd_same
        generalize upd H19 g (.tup [.str z, .str y, optV o]) = H20 at M hg hZ2 ⊢
        have hv2 : Dp K H20 (.ref g) (washD (z, y, o)) := .tup (.inl (.inl hg)) (.cons (.str _) (.cons (.str _) (.cons (opt_dp o) .nil)))
        refine ⟨W, _, _, rfl, rfl, M.hW, (Nat.lt_of_lt_of_le lus (by decide)), ?_⟩
        refine ⟨_, _, _, _, _, rfl, (M.wash ap hv2).mono (by omega), by rw [upd_ne z2W.symm]; exact hZ2, ok.addW (by rw [← dpAll_map_len M.dW]; exact lus) ⟨⟨wz.1, wd_codes wz⟩, ⟨wy.1, wd_codes wy⟩, bo⟩⟩
      · rintro σ H13 ⟨v7, v8, v9, us, ws, rfl, M, hZ2, ok⟩
        exact ⟨_, _, _, _, _, _, _, _, _, _, rfl, M.mono (by rw [List.length_map]; omega), ok, ecs⟩
    · rintro σ H2 ⟨v4, v5, v6, v7, v8, v9, xs, us, cs, ws, rfl, M, ok, ecs⟩
      refine ⟨_, rfl, C, _, rfl, .inl ⟨SqL.of M.hC, fun t1 n1 => ?_⟩⟩
      have M := M.put (o := .tup xs) n1
      have h1 : upd H2 t1 (.tup xs) t1 = _ := upd_same
      generalize upd H2 t1 (.tup xs) = H3 at M h1 ⊢
      refine ⟨_, rfl, W, _, rfl, .inl ⟨SqL.of M.hW, fun t2 n2 => ⟨(by show 2 ≤ sizeLine; decide), fun t3 n3 => ?_⟩⟩⟩
      have h1 := same_upd (o := .tup us) n2 _ _ h1
      have M := M.put (o := .tup us) n2
      have h2 : upd H3 t2 (.tup us) t2 = _ := upd_same
      generalize upd H3 t2 (.tup us) = H4 at M h1 h2 n3 ⊢
      have h1 := same_upd (o := .tup [.ref t1, .ref t2]) n3 _ _ h1
      have h2 := same_upd (o := .tup [.ref t1, .ref t2]) n3 _ _ h2
      have M := M.put (o := .tup [.ref t1, .ref t2]) n3
      have h3 : upd H4 t3 (.tup [.ref t1, .ref t2]) t3 = _ := upd_same
      generalize upd H4 t3 (.tup [.ref t1, .ref t2]) = H5 at M h1 h2 h3 ⊢
      rw [List.length_map, List.take_length] at ecs
      refine q _ _ cs ws (M.st.mono (by rw [List.length_map]; omega)) M.kp (.tup (.inl (.inl h3)) (.cons (.tup (.inl (.inl h1)) M.dC) (.cons (.tup (.inl (.inl h2)) M.dW) .nil))) ok (by rw [ecs]; exact hz)

end
end Pot

namespace Pot
open PySem PySem.Spec PyProof.Rows L2
section
variable {P : Program} {w : World} {K : PySem.W.Frag} {mg : Str → Option Value} {base : Heap}
/-! ### the law's own washings -/
abbrev s__law_wash : Stmt := topS 14
def n__law_wash : List Str := ["_law_palette_here", "_law_ahead", "_law_behind", "_law_some_here", "_law_one", "_law_other", "_law_hours"]
theorem sc__law_wash : FnScope n__law_wash ["_law_palette_here", "_law_ahead", "_law_behind"] (defScope s__law_wash) := ⟨rfl, rfl, rfl, by decide +kernel, rfl, by decide +kernel, by decide +kernel⟩
def spLWash (K : PySem.W.Frag) : Sp := fun vs H Q _ => ∃ (v : V) (cs : List Col) (ws : List Wsh) (a : Option Str) (b : Str), vs = [v, namV a, .str b] ∧ Dp K H v (palD cs ws) ∧ PalOk cs ws ∧ (∀ z, a = some z → Sg z) ∧ Sg b ∧ ∀ H', Same H H' → Q (optV (washF ws a b)) H'
theorem ok_lwash {f : Addr} {fd : FuncData} {k : Nat} (F : Fun K "_law_wash" "_law_wash" s__law_wash f fd) : FnOk P w K mg base CX0 (k + 1) f fd ["_law_palette_here", "_law_ahead", "_law_behind"] (spLWash K) := by
  refine F.ok sc__law_wash (fun vs H Q E h => ?_) (fun cdv A outer s H vs Q E hr h => ?_)
  · obtain ⟨v, cs, ws, a, b, rfl, _⟩ := h
    rfl
  · obtain ⟨v, cs, ws, a, b, rfl, hp, ok, la, lb, q⟩ := h
    have nd := sc__law_wash.nd
    have hu64 := hr.units
    obtain ⟨p, c, w2, xs, ys, rfl, hp, hc, hx, hw, hy⟩ := pal_dp hp
    refine ⟨_, (pss_cons (ps_setLc (i := 3) (own := [("_law_one", 4), ("_law_other", 5), ("_law_hours", 6)]) rfl nd rfl rfl (sw_true rfl rfl rfl (by decide +kernel)) (ki_tup (K := K) (pe_ix (kx_tup (K := K)) (pv 0) pe_int (fun _ _ => rfl))) (blkOk_by (N := n__law_wash) (sc := defScope s__law_wash) (by decide +kernel)) (fun _ _ _ _ _ => (kg_tup (K := K) (n := 3) (pgs_cons (pg_name (i := 4) nd rfl (.inl rfl)) (pgs_cons (pg_name (i := 5) nd rfl (.inl rfl)) (pgs_cons (pg_name (i := 6) nd rfl (.inl rfl)) pgs_nil))))) (fun _ _ _ _ _ => (pts_one (pt_cmpR (ko_eq (K := K) hu64) (pe_tup (pa_cons (pv 4) (pa_cons (pv 5) pa_nil))) (pe_tup (pa_cons (pv 1) (pa_cons (pv 2) pa_nil))) (nomark _)))) (fun _ _ _ _ _ => (pv 6)))
      (pss_one (ps_ret (pe_ifExp (pt_cmpR (ko_ne (K := K) hu64) (pv 3) (pe_lst pa_nil) (nomark _)) (pe_ix (kx_list (K := K)) (pv 3) pe_int (fun _ _ => rfl)) pe_int)))), ?_⟩
    refine ⟨_, rfl, p, _, 1, .ref w2, rfl, rfl, hp, rfl, w2, rfl, ⟨_, hw⟩, fun D nD => ?_⟩
    have lws : ys.length = ws.length := dpAll_map_len hy
    refine lc_it (walk_tup (xs := ys)) (fun i H2 => Same H H2 ∧ H2 D = some (.lst (((ws.take i).filter (mat a b)).map fun r => optV r.2.2))) ⟨same_upd nD, upd_same⟩ (fun i H2 _ h => same_tup h.1 hw) ?_ ?_
    · rintro i x H2 H3 hi ⟨sm, hD⟩ ⟨rfl, gx⟩
      obtain ⟨r, gr, dp⟩ := dpAll_map_at hy gx
      obtain ⟨t, rfl, ht⟩ := wash_dp dp
      have rok := ok.wn r (List.mem_of_getElem? gr)
      refine ⟨t, _, rfl, same_tup sm ht, rfl, _, _, rfl, _, _, rfl, _, _, rfl, rfl, rfl, ?_⟩
      refine ⟨_, rfl, _, rfl, (by show 2 ≤ sizeLine; decide), fun t1 n1 => ⟨_, rfl, _, rfl, (by show 2 ≤ sizeLine; decide), fun t2 n2 => ?_⟩⟩
      have sm2 := same_upd (o := .tup [.str r.1, .str r.2.1]) n1
      have sm3 := same_upd (o := .tup [namV a, .str b]) n2
      have h1 : upd (upd H3 t1 (.tup [.str r.1, .str r.2.1])) t2 (.tup [namV a, .str b]) t1 = some (.tup [.str r.1, .str r.2.1]) := sm3 _ _ upd_same
      have h2 : upd (upd H3 t1 (.tup [.str r.1, .str r.2.1])) t2 (.tup [namV a, .str b]) t2 = some (.tup [namV a, .str b]) := upd_same
      have sm4 := sm.trans (sm2.trans sm3)
      have hD2 := sm3 _ _ (sm2 _ _ hD)
      generalize upd (upd H3 t1 (.tup [.str r.1, .str r.2.1])) t2 (.tup [namV a, .str b]) = H4 at h1 h2 sm4 hD2 ⊢
      refine ⟨.tuple [.str r.1, .str r.2.1], .tuple [namD a, .str b], .tup (.inl (.inl h1)) (.cons (.str _) (.cons (.str _) .nil)), .tup (.inl (.inl h2)) (.cons (nam_dp a) (.cons (.str _) .nil)), shaped_two rok.1.2 rok.2.1.2, shaped_nam la lb, _, rfl, ?_⟩
      rw [eqv_mat]
      rw [List.take_add_one, gr, Option.toList_some, List.filter_append]
      cases hm : mat a b r with
      | true =>
        rw [if_pos rfl]
        refine ⟨_, rfl, _, hD2, ?_, same_put sm4 nD, ?_⟩
        · rw [List.length_map]
          refine Nat.lt_of_le_of_lt (Nat.le_trans (List.length_filter_le ..) (List.length_take_le' ..)) ?_
          exact Nat.lt_of_le_of_lt ok.nw (by decide)
        · rw [upd_same]; simp [hm]
      | false =>
        rw [if_neg Bool.false_ne_true]
        refine ⟨sm4, ?_⟩
        rw [hD2]; simp [hm]
    · rintro H2 ⟨sm, hD⟩
      rw [lws, List.take_length] at hD
      refine ⟨_, rfl, Nat.zero_le _, fun e ne => ?_⟩
      have sm2 := same_upd (o := .lst []) ne
      have hD := sm2 _ _ hD
      have he : upd H2 e (.lst []) e = _ := upd_same
      have sm := sm.trans sm2
      generalize upd H2 e (.lst []) = H3 at sm hD he ⊢
      refine ⟨.list ((ws.filter (mat a b)).map fun r => optD r.2.2), .list [], .lst (SqL.of hD) (dpAll_opts _), .lst (SqL.of he) .nil, shaped_opts _, shaped_opts ([] : List Wsh), _, rfl, ?_⟩
      rw [washF_filter] at q
      cases ef : ws.filter (mat a b) with
      | nil =>
        rw [ef] at q
        show if (!PyData.eqv (.list []) (.list [])) = true then _ else _
        rw [if_neg (by intro z; cases z)]
        exact q _ sm
      | cons r l =>
        rw [ef] at q hD
        show if (!PyData.eqv (.list (optD r.2.2 :: l.map fun r => optD r.2.2)) (.list [])) = true then _ else _
        rw [if_pos (by rfl)]
        exact ⟨_, rfl, D, _, 0, _, rfl, rfl, SqL.of hD, atI_nat (j := 0) rfl, q _ sm⟩

/-! ### the law's own sum of washings -/
abbrev s__law_due : Stmt := topS 15
def n__law_due : List Str := ["_law_palette_here", "_law_row", "_law_first", "_law_hours", "_law_ahead", "_law_behind", "_law_more"]
theorem sc__law_due : FnScope n__law_due ["_law_palette_here", "_law_row", "_law_first"] (defScope s__law_due) := ⟨rfl, rfl, rfl, by decide +kernel, rfl, by decide +kernel, by decide +kernel⟩
def spLDue (K : PySem.W.Frag) : Sp := fun vs H Q _ => ∃ (v : V) (cs : List Col) (ws : List Wsh) (l : Addr) (row : List Str) (a : Option Str), vs = [v, .ref l, namV a] ∧ Dp K H v (palD cs ws) ∧ PalOk cs ws ∧ H l = some (.lst (row.map V.str)) ∧ row.length ≤ 1000 ∧
  (∀ z, a = some z → Sg z) ∧ (∀ z ∈ row, Sg z) ∧ ∀ H', Same H H' → Q (optV (sumF ws a row 0)) H'
theorem ok_ldue {f : Addr} {fd : FuncData} {k : Nat} (F : Fun K "_law_due" "_law_due" s__law_due f fd) (T : Txt mg) (c__law_wash : Cl P w K mg base (k + 1) "_law_wash" (spLWash K)) : FnOk P w K mg base CX0 (k + 2) f fd ["_law_palette_here", "_law_row", "_law_first"] (spLDue K) := by
  refine F.ok sc__law_due (fun vs H Q E h => ?_) (fun cdv A outer s H vs Q E hr h => ?_)
  · obtain ⟨v, cs, ws, l, row, a, rfl, _⟩ := h
    rfl
  · obtain ⟨v, cs, ws, l, row, a, rfl, hp, ok, hl, hlen, ha, hrow, q⟩ := h
    have nd := sc__law_due.nd
    refine ⟨_, (pss_cons (ps_set (i := 3) nd rfl (.inl rfl) pe_int)
      (pss_cons (ps_for PassesOwn.never rfl (ki_zip (K := K) (by rfl) T.zip (pa_cons (pe_op op_cat (pe_lst (pa_cons (pv 2) pa_nil)) (pv 1)) (pa_cons (pv 1) pa_nil))) (kg_tup (K := K) (n := 2) (pgs_cons (pg_name (i := 4) nd rfl (.inl rfl)) (pgs_cons (pg_name (i := 5) nd rfl (.inl rfl)) pgs_nil)))
          (pss_cons (ps_set (i := 6) nd rfl (.inl rfl) (pe_cl c__law_wash hr (by omega) (by rfl) (pa_cons (pv 0) (pa_cons (pv 4) (pa_cons (pv 5) pa_nil)))))
          (pss_cons (ps_if (pt_cmpR op_isN (pv 6) pe_non (nomark _))
              (pss_one (ps_ret pe_non))
              pss_nil)
          (pss_one (ps_set (i := 3) nd rfl (.inl rfl) (pe_op op_add (pv 3) (pv 6)))))))
      (pss_one (ps_ret (pv 3))))), ?_⟩
    refine ⟨_, rfl, (by show 1 ≤ sizeLine; decide), fun e ne => ?_⟩
    have nle : l ≠ e := ne_of_none hl ne
    have hl1 := same_upd (o := .lst [namV a]) ne _ _ hl
    refine ⟨_, rfl, e, l, _, _, rfl, rfl, upd_same, hl1, ?_, fun g ng => ?_⟩
    · rw [List.length_map, sizeLine_eq]
      show 1 + _ ≤ _
      omega
    have sm := (same_upd (o := .lst [namV a]) ne).trans (same_upd (o := .lst ([namV a] ++ row.map V.str)) ng)
    have hl2 := same_upd (o := .lst ([namV a] ++ row.map V.str)) ng _ _ hl1
    have hg : upd (upd H e (.lst [namV a])) g (.lst ([namV a] ++ row.map V.str)) g = _ := upd_same
    generalize upd (upd H e (.lst [namV a])) g (.lst ([namV a] ++ row.map V.str)) = H1 at sm hl2 hg ⊢
    refine ⟨_, rfl, g, l, _, _, rfl, .inl ⟨SqL.of hg, SqL.of hl2, ?_⟩⟩
    refine for_it (walk_zip (xs := [namV a] ++ row.map V.str) (ys := row.map V.str) (n := row.length) (by rw [List.length_append, List.length_map]; show _ = min (1 + _) _; omega))
      (fun i σ H2 => ∃ (h : Int) (a2 : Option Str) (v4 v5 v6 : Option V), σ = [some v, some (.ref l), some (namV a), some (.int h), v4, v5, v6] ∧ Same H1 H2 ∧ sumF ws a row 0 = sumF ws a2 (row.drop i) h ∧ ([namV a] ++ row.map V.str)[i]? = some (namV a2) ∧ (∀ z, a2 = some z → Sg z))
      ⟨0, a, none, none, none, rfl, Same.refl _, rfl, rfl, ha⟩ (fun i σ H2 _ h => by obtain ⟨_, _, _, _, _, _, s, _⟩ := h; exact ⟨SqL.of (s _ _ hg), SqL.of (s _ _ hl2)⟩) ?_ ?_
    · rintro i x σ H2 H3 hi ⟨h, a2, v4, v5, v6, rfl, s2, es, gi, ha2⟩ ⟨t, x1, y1, rfl, nt, rfl, gx, gy⟩
      have gx : ([namV a] ++ row.map V.str)[i]? = some x1 := gx
      have gy : (row.map V.str)[i]? = some y1 := gy
      rw [gi] at gx
      cases gx
      rw [List.getElem?_map] at gy
      obtain ⟨b, gb, rfl⟩ := Option.map_eq_some_iff.mp gy
      have ed : row.drop i = b :: row.drop (i + 1) := by
        rw [List.drop_eq_getElem_cons (List.getElem?_eq_some_iff.mp gb).1, (List.getElem?_eq_some_iff.mp gb).2]
      rw [ed] at es
      have s3 := s2.trans (same_upd (o := .tup [namV a2, .str b]) nt)
      refine ⟨t, _, rfl, .inl (.inl upd_same), rfl, _, _, rfl, _, _, rfl, rfl, ?_⟩
      have hb := hrow b (List.mem_of_getElem? gb)
      refine ⟨_, rfl, _, rfl, _, rfl, v, cs, ws, a2, b, rfl, dp_same (sm.trans s3) hp, ok, ha2, hb, fun H4 s4 => ?_⟩
      have s4 := s3.trans s4
      cases ew : washF ws a2 b with
      | none =>
        refine ⟨_, rfl, rfl, _, rfl, iteT ?_⟩
        have en : sumF ws a row 0 = none := by
          rw [es]
          unfold sumF
          rw [ew]
        rw [en] at q
        exact q _ (sm.trans s4)
      | some k2 =>
        refine ⟨_, rfl, rfl, _, rfl, iteF ?_⟩
        refine ⟨_, rfl, _, rfl, _, _, rfl, rfl, h + k2, some b, _, _, _, rfl, s4, ?_, ?_, fun z e => by cases e; exact hb⟩
        · rw [es]
          show (match washF ws a2 b with | none => none | some k => sumF ws (some b) (row.drop (i + 1)) (h + k)) = _
          rw [ew]
        · show (row.map V.str)[i]? = _
          rw [List.getElem?_map, gb]
          rfl
    · rintro σ H2 ⟨h, a2, v4, v5, v6, rfl, s2, es, gi, ha2⟩
      rw [List.drop_length] at es
      rw [es] at q
      exact ⟨_, rfl, q _ (sm.trans s2)⟩
/-! ### _law_mild: fewer rows of never -/
abbrev s__law_mild : Stmt := topS 16
def n__law_mild : List Str := ["_law_state", "_law_palette_here", "_law_row"]
theorem sc__law_mild : FnScope n__law_mild ["_law_state", "_law_palette_here"] (defScope s__law_mild) := ⟨rfl, rfl, rfl, by decide +kernel, rfl, by decide +kernel, by decide +kernel⟩
def spMild (K : PySem.W.Frag) : Sp := fun vs H Q _ => ∃ (d c : Addr) (n : Nat) (v : V) (cs : List Col) (ws : List Wsh), vs = [.ref d, v] ∧ StAt H d c n ∧ n + 1000 < 2 ^ 40 ∧ Dp K H v (palD cs ws) ∧ PalOk cs ws ∧
  ∀ (H' : Hp) (u : V) (ws' : List Wsh), StAt H' d c (n + 61) → Kp d c H H' → Dp K H' u (palD cs ws') → PalOk cs ws' → Q u H'
theorem ok_mild {f : Addr} {fd : FuncData} {k : Nat} (F : Fun K "_law_mild" "_law_mild" s__law_mild f fd) (T : Txt mg) (c__law_take : Cl P w K mg base (k + 1) "_law_take" spTake) : FnOk P w K mg base CX0 (k + 2) f fd ["_law_state", "_law_palette_here"] (spMild K) := by
  refine F.ok sc__law_mild (fun vs H Q E h => ?_) (fun cdv A outer s H vs Q E hr h => ?_)
  · obtain ⟨d, c, n, v, cs, ws, rfl, _⟩ := h
    rfl
  · obtain ⟨d, c, n, v, cs, ws, rfl, hS, hn, hp, ok, q⟩ := h
    have nd := sc__law_mild.nd
    refine ⟨_, (pss_cons (ps_if (pt_cmpR op_eq (pe_cl c__law_take hr (by omega) (by rfl) (pa_cons (pv 0) (pa_cons pe_int pa_nil))) pe_int (nomark _))
          (pss_one (ps_ret (pv 1)))
          pss_nil)
      (pss_one (ps_ret (pe_tup (pa_cons (pe_ix (kx_tup (K := K)) (pv 1) pe_int (fun _ _ => rfl)) (pa_cons (pe_callTy (kc_tuple (K := K)) (by rfl) T.tuple (by decide +kernel) (pa_cons (pe_lc (own := [("_law_row", 2)]) rfl nd (ki_tup (K := K) (pe_ix (kx_tup (K := K)) (pv 1) pe_int (fun _ _ => rfl))) (blkOk_by (N := n__law_mild) (sc := defScope s__law_mild) (by decide +kernel)) (fun _ _ _ _ _ => (pg_name (i := 2) nd rfl (.inl rfl))) (fun _ _ _ _ _ => (pts_one ((pw_or (pt_cmpR op_notN (pe_ix (kx_tup (K := K)) (pv 2) pe_int (fun _ _ => rfl)) pe_non (nomark _)) (pw_or1 (pt_cmpR op_eq (pe_cl c__law_take hr (by omega) (by rfl) (pa_cons (pv 0) (pa_cons pe_int pa_nil))) pe_int (nomark _))))).pt)) (fun _ _ _ _ _ => (pv 2))) pa_nil)) pa_nil)))))), ?_⟩
    refine ⟨_, rfl, d, c, 3, n, rfl, (by decide), (by decide), hS, by omega, fun H1 r r0 r1 hS1 k1 => ⟨rfl, _, rfl, ite2 (fun h => ?_) (fun h => ?_)⟩⟩
    · exact ⟨_, rfl, q _ _ ws (hS1.mono (by omega)) k1 (dp_kp hS k1 (noL_pal cs ws) hp) ok⟩
    · have hp1 := dp_kp hS k1 (noL_pal cs ws) hp
      obtain ⟨p, a, w2, xs, ys, rfl, hp2, hc, hx, hw, hy⟩ := pal_dp hp1
      refine ⟨_, rfl, p, _, 0, .ref a, rfl, rfl, hp2, rfl, ?_⟩
      refine ⟨_, rfl, p, _, 1, .ref w2, rfl, rfl, hp2, rfl, w2, rfl, ⟨_, hw⟩, fun D nD => ?_⟩
      have nDd := (hS1.ne1 nD).symm
      have nDc := (hS1.ne2 nD).symm
      have lys := dpAll_map_len hy
      refine lc_it (walk_tup (xs := ys)) (fun i H2 => StAt H2 d c (n + 1 + i) ∧ Kp d c H1 H2 ∧ ∃ (us : List V) (ws2 : List Wsh), H2 D = some (.lst us) ∧ DpAll K H2 us (ws2.map washD) ∧ ws2.length ≤ i ∧ ∀ r ∈ ws2, r ∈ ws) ⟨hS1.put nDd.symm nDc.symm, kp_put (.refl _ _ _) nD, [], [], upd_same, .nil, Nat.le_refl _, fun _ h => (List.not_mem_nil h).elim⟩ (fun i H2 _ h => kp_tup hS1 h.2.1 hw) ?_ ?_
      · rintro i x H2 H3 hi ⟨hS2, k2, us, ws2, hD, hus, l2, sub⟩ ⟨rfl, gx⟩
        obtain ⟨r, gr, dp⟩ := dpAll_map_at hy gx
        obtain ⟨t, rfl, ht⟩ := wash_dp dp
        have hi60 : i < 60 := by have := ok.nw; omega
        have yes : ∀ H4 m, StAt H4 d c m → m ≤ n + 1 + (i + 1) → Kp d c H1 H4 → H4 D = some (.lst us) → DpAll K H4 us (ws2.map washD) → ∃ acc, H4 D = some (.lst acc) ∧ acc.length < sizeLine ∧ StAt (upd H4 D (.lst (acc ++ [.ref t]))) d c (n + 1 + (i + 1)) ∧ Kp d c H1 (upd H4 D (.lst (acc ++ [.ref t]))) ∧ ∃ (us : List V) (ws2 : List Wsh), upd H4 D (.lst (acc ++ [.ref t])) D = some (.lst us) ∧ DpAll K (upd H4 D (.lst (acc ++ [.ref t]))) us (ws2.map washD) ∧ ws2.length ≤ i + 1 ∧ ∀ r ∈ ws2, r ∈ ws := by
          intro H4 m hS4 hm k4 hD4 hus4
          refine ⟨us, hD4, ?_, (hS4.mono hm).put nDd.symm nDc.symm, kp_put k4 nD, us ++ [.ref t], ws2 ++ [r], upd_same, ?_, ?_, ?_⟩
          · rw [dpAll_map_len hus4]; exact Nat.lt_of_le_of_lt l2 (Nat.lt_of_lt_of_le hi60 (by decide))
          · rw [List.map_append]
            exact dpAll_app (dpAll_lst hD4 (noL_map noL_wash _) hus4) (dpAll_lst hD4 ⟨noL_wash r, trivial⟩ (.cons (dp_kp hS1 k4 (noL_wash r) dp) .nil))
          · rw [List.length_append]; exact Nat.succ_le_succ l2
          · intro z hz
            rcases List.mem_append.mp hz with h | h
            · exact sub z h
            · rw [List.mem_singleton.mp h]; exact List.mem_of_getElem? gr
        refine ⟨rfl, ?_⟩
        have ht2 := kp_tup hS1 k2 ht
        refine ⟨_, rfl, t, _, 2, _, rfl, rfl, ht2, rfl, rfl, _, rfl, ?_⟩
        cases ho : r.2.2 with
        | some z =>
          refine iteT ?_
          show if true = true then _ else _
          rw [if_pos rfl]
          exact ⟨_, rfl, yes _ _ hS2 (by omega) k2 hD hus⟩
        | none =>
          refine iteF ?_
          refine ⟨_, rfl, d, c, 9, _, rfl, (by decide), (by decide), hS2, by omega, fun H5 r9 _ _ hS5 k5 => ⟨rfl, _, rfl, ?_⟩⟩
          have hD5 := k5 _ _ nDd nDc hD
          have hus5 := dpAll_kp hS2 k5 (noL_map noL_wash _) hus
          refine ite2 (fun _ => ?_) (fun _ => ?_)
          · exact ⟨_, rfl, yes _ _ hS5 (by omega) (k2.trans k5) hD5 hus5⟩
          · exact ⟨hS5.mono (by omega), k2.trans k5, us, ws2, hD5, hus5, Nat.le_succ_of_le l2, sub⟩
      · rintro H2 ⟨hS2, k2, us, ws2, hD, hus, l2, sub⟩
        refine ⟨D, _, rfl, .inl ⟨SqL.of hD, fun t1 n1 => ⟨(by show 2 ≤ sizeLine; decide), fun t2 n2 => ?_⟩⟩⟩
        have sm := (same_upd (o := .tup us) n1).trans (same_upd (o := .tup [.ref a, .ref t1]) n2)
        have h1 : upd (upd H2 t1 (.tup us)) t2 (.tup [.ref a, .ref t1]) t1 = some (.tup us) := same_upd n2 _ _ upd_same
        have h2 : upd (upd H2 t1 (.tup us)) t2 (.tup [.ref a, .ref t1]) t2 = _ := upd_same
        generalize upd (upd H2 t1 (.tup us)) t2 (.tup [.ref a, .ref t1]) = H3 at sm h1 h2 ⊢
        have lw : ws2.length ≤ 60 := by have := ok.nw; omega
        refine q _ _ ws2 ((hS2.same sm).mono (by have := ok.nw; omega)) ((k1.trans k2).trans (.of sm)) (.tup (.inl (.inl h2)) (.cons (dp_same sm (dp_kp hS1 k2 (noL_map noL_col cs) (.tup hc hx))) (.cons (.tup (.inl (.inl h1)) (dpAll_same sm hus)) .nil))) ⟨ok.nc, lw, ok.cn, fun r hr => ok.wn r (sub r hr)⟩

end
end Pot

namespace Pot
open PySem PySem.Spec PyProof.Rows L2
section
variable {P : Program} {w : World} {K : PySem.W.Frag} {mg : Str → Option Value} {base : Heap}
theorem dp_strs {H : Hp} : ∀ l : List Str, DpAll K H (l.map V.str) (l.map PyData.str)
  | [] => .nil
  | x :: r => .cons (.str x) (dp_strs r)
theorem shaped_strs {l : List Str} (h : ∀ z ∈ l, Sg z) : SeqAt.shaped (.list (l.map PyData.str)) = true := by
  have h1 : ∀ l : List Str, (∀ z ∈ l, Sg z) → PyData.canLayAll0 (l.map PyData.str) = true := by
    intro l
    induction l with
    | nil => intro _; rfl
    | cons r l ih =>
      intro h
      show (PyData.strOk r && PyData.canLayAll0 (l.map PyData.str)) = true
      rw [ih fun z hz => h z (List.mem_cons_of_mem _ hz), strOk_len (h r List.mem_cons_self)]
      rfl
  have h2 : PyData.depthAll (l.map PyData.str) ≤ 0 := depthAll_map fun r _ => Nat.le_refl _
  show (PyData.canLayAll0 (l.map PyData.str) && decide (PyData.depthAll (l.map PyData.str) + 1 ≤ 64)) = true
  rw [h1 l h, decide_eq_true (by omega)]
  rfl
theorem eqv_strs : ∀ l : List Str, PyData.eqv (.list (l.map PyData.str)) (.list (l.map PyData.str)) = true
  | [] => rfl
  | x :: r => by
    show ((x == x) && PyData.eqvAll (r.map PyData.str) (r.map PyData.str)) = true
    rw [beq_self_eq_true, show PyData.eqvAll (r.map PyData.str) (r.map PyData.str) = true from eqv_strs r]
    rfl
/-- what stands while rows are asked about: the names at L, the palette u -/
structure LB (K : PySem.W.Frag) (d c L : Addr) (ys : List Str) (u : V) (cs : List Col) (ws : List Wsh) (n : Nat) (H : Hp) : Prop where
  st : StAt H d c n
  hN : H L = some (.lst (ys.map V.str))
  dp : Dp K H u (palD cs ws)
section
variable {d c L p : Addr} {ys : List Str} {u : V} {cs : List Col} {ws : List Wsh} {n m : Nat} {H H' : Hp} {o : HO}
theorem LB.drawn (B : LB K d c L ys u cs ws n H) (h1 : L ≠ d) (h2 : L ≠ c) (st : StAt H' d c m) (k : Kp d c H H') : LB K d c L ys u cs ws m H' := ⟨st, k _ _ h1 h2 B.hN, dp_kp B.st k (noL_pal cs ws) B.dp⟩
theorem LB.same (B : LB K d c L ys u cs ws n H) (s : Same H H') : LB K d c L ys u cs ws n H' := ⟨B.st.same s, s _ _ B.hN, dp_same s B.dp⟩
theorem LB.mono (B : LB K d c L ys u cs ws n H) (h : n ≤ m) : LB K d c L ys u cs ws m H := ⟨B.st.mono h, B.hN, B.dp⟩
theorem LB.list {R : Addr} {xs zs : List V} (B : LB K d c L ys u cs ws n H) (h1 : R ≠ d) (h2 : R ≠ c) (h3 : R ≠ L) (hR : H R = some (.lst xs)) : LB K d c L ys u cs ws n (upd H R (.lst zs)) :=
  ⟨B.st.put h1.symm h2.symm, by rw [upd_ne h3.symm]; exact B.hN, by
    have h := dpAll_lst (zs := zs) (es := [palD cs ws]) hR ⟨noL_pal cs ws, trivial⟩ (.cons B.dp .nil)
    cases h with
    | cons h _ => exact h⟩
end
abbrev s_law : Stmt := topS 17
def n_law : List Str := ["_law_script", "_law_state", "_law_turn", "_law_many", "_law_names_here", "_law_palette_here", "_law_kept", "_law_again", "_law_row", "_law_first", "_law_due_here", "_law_same_here", "_law_place"]
theorem sc_law : FnScope n_law ["_law_script"] (defScope s_law) := ⟨rfl, rfl, rfl, by decide +kernel, rfl, by decide +kernel, by decide +kernel⟩
def spLaw (K : PySem.W.Frag) : Sp := fun vs H Q _ => ∃ (a : Addr) (ns : List Int), vs = [.ref a] ∧ SqL K H a (ns.map V.int) ∧ ns.length ≤ 63 ∧ ∀ H', Q (.bl true) H'
theorem ok_law {f : Addr} {fd : FuncData} (F : Fun K "law" "law" s_law f fd) (T : Txt mg) (c__law_begin : Cl P w K mg base 1 "_law_begin" (spBegin K)) (c__law_take : Cl P w K mg base 1 "_law_take" spTake) (c__law_some : Cl P w K mg base 2 "_law_some" (spSome K)) (c__law_names : Cl P w K mg base 2 "_law_names" spNames)
    (c__law_palette : Cl P w K mg base 2 "_law_palette" (spPalette K)) (c__law_mild : Cl P w K mg base 2 "_law_mild" (spMild K)) (c__law_due : Cl P w K mg base 2 "_law_due" (spLDue K)) (c__law_same : Cl P w K mg base 4 "_law_same" (spSame K 3))
    (cW : ClD P w K mg base 3 "washing_of" [] (spWashing K)) (cW1 : ClD P w K mg base 3 "washing_of" [.non] (spWashing K)) : FnG P w K mg base 5 f fd ["_law_script"] (spLaw K) := by
  refine okG F sc_law (fun vs H Q E h => ?_) (fun cdv A outer s H vs Q gd hr h => ?_)
  · obtain ⟨a, ns, rfl, _⟩ := h
    rfl
  · obtain ⟨a, ns, rfl, hS, h63, q⟩ := h
    have nd := sc_law.nd
    have hu64 := hr.units
    refine ⟨_, (pss_cons (ps_set (i := 1) nd rfl (.inr rfl) (pe_cl c__law_begin hr (by omega) (by rfl) (pa_cons (pv 0) pa_nil)))
      (pss_cons (ps_for PassesOwn.never rfl (pi_range1 (by rfl) T.range (pa_cons pe_int pa_nil)) (pg_name (i := 2) nd rfl (.inl rfl))
          (pss_cons (ps_set (i := 3) nd rfl (.inl rfl) (pe_ix (kx_list (K := K)) (pe_lst (pa_cons pe_int (pa_cons (pe_op op_add pe_int (pe_cl c__law_take hr (by omega) (by rfl) (pa_cons (pv 1) (pa_cons pe_int pa_nil)))) pa_nil))) (pe_callTy call_int1 (by rfl) T.int (by decide +kernel) (pa_cons (pe_cmpR op_gt (pe_cl c__law_take hr (by omega) (by rfl) (pa_cons (pv 1) (pa_cons pe_int pa_nil))) pe_int (nomark _)) pa_nil)) (fun _ _ => rfl)))
          (pss_cons (ps_set (i := 4) nd rfl (.inr rfl) (pe_cl c__law_names hr (by omega) (by rfl) (pa_cons (pv 1) (pa_cons (pv 3) pa_nil))))
          (pss_cons (ps_set (i := 5) nd rfl (.inl rfl) (pe_cl c__law_mild hr (by omega) (by rfl) (pa_cons (pv 1) (pa_cons (pe_cl c__law_palette hr (by omega) (by rfl) (pa_cons (pv 1) (pa_cons (pv 4) pa_nil))) pa_nil))))
          (pss_cons (ps_set (i := 6) nd rfl (.inl rfl) (pe_callB (kc_repr (K := K) gd hu64) (by rfl) T.repr (by decide +kernel) (pa_cons (pv 5) pa_nil)))
          (pss_cons (ps_for PassesOwn.never rfl (pi_range1 (by rfl) T.range (pa_cons pe_int pa_nil)) (pg_name (i := 7) nd rfl (.inl rfl))
              (pss_cons (ps_setLc (i := 8) (own := [("_law_place", 12)]) rfl nd rfl rfl (sw_true rfl rfl rfl (by decide +kernel)) (pi_range1 (by rfl) T.range (pa_cons (pe_cl c__law_take hr (by omega) (by rfl) (pa_cons (pv 1) (pa_cons pe_int pa_nil))) pa_nil)) (blkOk_by (N := n_law) (sc := defScope s_law) (by decide +kernel)) (fun _ _ _ _ _ => (pg_name (i := 12) nd rfl (.inl rfl))) (fun _ _ _ _ _ => pts_nil) (fun _ _ _ _ _ => (pe_cl c__law_some hr (by omega) (by rfl) (pa_cons (pv 1) (pa_cons (pv 4) pa_nil)))))
              (pss_cons (ps_set (i := 9) nd rfl (.inl rfl) (pe_cl c__law_some hr (by omega) (by rfl) (pa_cons (pv 1) (pa_cons (pe_op op_cat (pv 4) (pe_lst (pa_cons pe_non pa_nil))) pa_nil))))
              (pss_cons (ps_par (i := 10) (j := 11) rfl nd rfl rfl (by decide) rfl rfl (pa_cons (pe_cl c__law_due hr (by omega) (by rfl) (pa_cons (pv 5) (pa_cons (pv 8) (pa_cons (pv 9) pa_nil)))) (pa_cons (pe_callTy (kc_list (K := K)) (by rfl) T.list (by decide +kernel) (pa_cons (pv 8) pa_nil)) pa_nil)) rfl)
              (pss_cons (ps_if ((pw_or (pt_not (pt_val (pe_cl c__law_same hr (by omega) (by rfl) (pa_cons (pe_cd cW hr (by omega) (by rfl) (pa_cons (pv 5) (pa_cons (pv 8) (pa_cons (pv 9) pa_nil)))) (pa_cons (pv 10) pa_nil))))) (pw_or1 (pt_cmpR (ko_ne (K := K) hu64) (pv 8) (pv 11) (nomark _))))).pt
                  pss_never
                  pss_nil)
              (pss_cons (ps_set (i := 10) nd rfl (.inl rfl) (pe_cl c__law_due hr (by omega) (by rfl) (pa_cons (pv 5) (pa_cons (pv 8) (pa_cons pe_non pa_nil)))))
              (pss_cons (ps_if (pt_not (pt_val (pe_cl c__law_same hr (by omega) (by rfl) (pa_cons (pe_lst (pa_cons (pe_cd cW1 hr (by omega) (by rfl) (pa_cons (pv 5) (pa_cons (pv 8) pa_nil))) (pa_cons (pe_cd cW hr (by omega) (by rfl) (pa_cons (pv 5) (pa_cons (pv 8) (pa_cons pe_non pa_nil)))) pa_nil))) (pa_cons (pe_lst (pa_cons (pv 10) (pa_cons (pv 10) pa_nil))) pa_nil)))))
                  pss_never
                  pss_nil)
              (pss_one (ps_if (pt_cmpR (ko_ne (K := K) hu64) (pv 8) (pe_lst pa_nil) (nomark _))
                  (pss_cons (ps_asg (pe_cl c__law_some hr (by omega) (by rfl) (pa_cons (pv 1) (pa_cons (pv 4) pa_nil))) (pg_sub (pv 8) (pe_cl c__law_take hr (by omega) (by rfl) (pa_cons (pv 1) (pa_cons (pe_callB (kc_len (K := K)) (by rfl) T.len PySem.boot_len (pa_cons (pv 8) pa_nil)) pa_nil))) set_list))
                  (pss_cons (ps_expr (pe_bm0 PySem.F.plainAttrs_list PySem.F.slot_list_reverse PySem.F.type_list_reverse mt_reverse (pv 8)))
                  (pss_one (ps_if (pt_not (pt_val (pe_cl c__law_same hr (by omega) (by rfl) (pa_cons (pe_cd cW hr (by omega) (by rfl) (pa_cons (pv 5) (pa_cons (pv 8) (pa_cons (pv 9) pa_nil)))) (pa_cons (pe_cl c__law_due hr (by omega) (by rfl) (pa_cons (pv 5) (pa_cons (pv 8) (pa_cons (pv 9) pa_nil)))) pa_nil)))))
                      pss_never
                      pss_nil))))
                  pss_nil)))))))))
          (pss_one (ps_if (pt_cmpR op_ne (pe_callB (kc_repr (K := K) gd hu64) (by rfl) T.repr (by decide +kernel) (pa_cons (pv 5) pa_nil)) (pv 6) (nomark _))
              pss_never
              pss_nil))))))))
      (pss_one (ps_ret pe_bl)))), ?_⟩
    refine ⟨_, rfl, a, ns, rfl, hS, h63, fun H1 d c sm1 hSt nd0 nc0 => ?_⟩
    refine ⟨_, rfl, (by decide), (by decide), ?_⟩
    refine for_it walk_range (fun i σ H2 => ∃ v2 v3 v4 v5 v6 v7 v8 v9 v10 v11 v12, σ = [some (.ref a), some (.ref d), v2, v3, v4, v5, v6, v7, v8, v9, v10, v11, v12] ∧ StAt H2 d c (20000 * i)) ⟨none, none, none, none, none, none, none, none, none, none, none, rfl, hSt⟩ (fun _ _ _ _ _ => trivial) ?_ ?_
    · rintro i x σ H2 H3 hi ⟨v2, v3, v4, v5, v6, v7, v8, v9, v10, v11, v12, rfl, hS2⟩ ⟨rfl, rfl⟩
      have hi' : i < 4 := hi
      -- many
      refine ⟨_, rfl, d, c, 6, _, rfl, (by decide), (by decide), hS2, by omega, fun H4 r1 r10 r11 hS4 k4 => ⟨_, _, rfl, rfl, (by show 2 ≤ sizeLine; decide), fun z nz => ?_⟩⟩
      have zd := (hS4.ne1 nz).symm
      have zc := (hS4.ne2 nz).symm
      have hS5 := hS4.put (o := .lst [.int 12, .int (1 + r1)]) zd.symm zc.symm
      have hz : upd H4 z (.lst [.int 12, .int (1 + r1)]) z = _ := upd_same
      generalize upd H4 z (.lst [.int 12, .int (1 + r1)]) = H5 at hS5 hz ⊢
      refine ⟨_, rfl, d, c, 6, _, rfl, (by decide), (by decide), hS5, by omega, fun H6 r2 r20 r21 hS6 k6 => ⟨_, _, rfl, rfl, .inr ⟨_, rfl, ?_⟩⟩⟩
      obtain ⟨m, em, m1, m12⟩ : ∃ m : Nat, atI [V.int 12, .int (1 + r1)] (if decide (0 < r2) = true then 1 else 0) = some (.int (m : Int)) ∧ 1 ≤ m ∧ m ≤ 12 := by
        by_cases h : 0 < r2
        · rw [if_pos (decide_eq_true h)]
          refine ⟨(1 + r1).toNat, ?_, by omega, by omega⟩
          rw [show (((1 + r1).toNat : Nat) : Int) = 1 + r1 by omega]
          rfl
        · rw [if_neg (by simp [h])]
          exact ⟨12, rfl, by decide, by decide⟩
      refine ⟨z, _, _, _, rfl, rfl, SqL.of (k6 _ _ zd zc hz), em, ?_⟩
      -- names
      refine ⟨_, rfl, _, rfl, d, c, _, m, rfl, hS6, by omega, by omega, fun H7 L ys hS7 k7 nL hL ly wy => ?_⟩
      have Ld := (hS6.ne1 nL).symm
      have Lc := (hS6.ne2 nL).symm
      -- palette
      refine ⟨_, rfl, _, rfl, _, rfl, d, c, L, _, ys, rfl, hS7, by omega, SqL.of hL, by omega, (fun y hy => (wy y hy).mono (by decide)), Ld, Lc, fun H8 v cs ws0 hS8 k8 dp8 ok8 perm => ?_⟩
      refine ⟨d, c, _, v, cs, ws0, rfl, hS8, by omega, dp8, ok8, fun H9 u ws hS9 k9 dp9 ok => ?_⟩
      have B : LB K d c L ys u cs ws _ H9 := ⟨hS9, k9 _ _ Ld Lc (k8 _ _ Ld Lc hL), dp9⟩
      obtain ⟨p, _, _, _, _, rfl, _⟩ := pal_dp dp9
      have isin : ∀ y ∈ ys, ∃ c ∈ cs, c.1 = y := fun y hy => by
        obtain ⟨x, hx, e⟩ := List.mem_map.mp (perm.mem_iff.mpr hy)
        exact ⟨x, hx, e⟩
      have sg : ∀ y ∈ ys, Sg y := fun y hy => wd_codes (wy y hy)
      have nonempty : ys.map V.str ≠ [] := fun z => by
        have := congrArg List.length z
        rw [List.length_map, ly] at this
        simp at this
        omega
      -- kept
      refine ⟨_, rfl, p, _, rfl, dp9, pal_fine ok, Nat.le_trans (pal_depth cs ws) (by decide), Nat.le_trans (pal_cost ok) (by decide), ?_⟩
      refine ⟨_, rfl, (by decide), (by decide), ?_⟩
      generalize hn0 : 20000 * i + 1 + 1 + 13 + m + 1000 + 61 = n0 at B
      refine for_it walk_range (fun j σ H10 => ∃ v7 v8 v9 v10 v11 v12, σ = [some (.ref a), some (.ref d), some (.int (0 + (i : Int))), some (.int (m : Int)), some (.ref L), some (.ref p), some (.str (palD cs ws).shown), v7, v8, v9, v10, v11, v12] ∧ LB K d c L ys (.ref p) cs ws (n0 + 100 * j) H10) ⟨_, _, _, _, _, _, rfl, B⟩ (fun _ _ _ _ _ => trivial) ?_ ?_
      · rintro j x σ H10 H11 hj ⟨v7, v8, v9, v10, v11, v12, rfl, B⟩ ⟨rfl, rfl⟩
        have hj' : j < 6 := hj
        -- row
        refine ⟨_, rfl, d, c, 8, _, rfl, (by decide), (by decide), B.st, by omega, fun H12 r3 r30 r31 hS12 k12 => ⟨_, rfl, (by omega), (by omega), fun R nR => ?_⟩⟩
        have B := B.drawn Ld Lc hS12 k12
        have Rd := (B.st.ne1 nR).symm
        have Rc := (B.st.ne2 nR).symm
        have RL : R ≠ L := (ne_of_none B.hN nR).symm
        refine lc_it walk_range (fun k H13 => LB K d c L ys (.ref p) cs ws (n0 + 100 * j + 1 + k) H13 ∧ ∃ rs : List Str, H13 R = some (.lst (rs.map V.str)) ∧ rs.length = k ∧ ∀ y ∈ rs, y ∈ ys) ⟨B.same (same_upd nR), [], upd_same, rfl, fun _ h => (List.not_mem_nil h).elim⟩ (fun _ _ _ _ => trivial) ?_ ?_
        · rintro k x H13 H14 hk ⟨B, rs, hR, lr, sub⟩ ⟨rfl, rfl⟩
          refine ⟨rfl, tYes_at ?_⟩
          rw [if_pos rfl]
          refine ⟨_, rfl, _, rfl, d, c, L, _, _, rfl, B.st, by omega, SqL.of B.hN, nonempty, (by rw [List.length_map]; omega), Ld, Lc, fun H15 x hx hS15 k15 => ?_⟩
          obtain ⟨y, hy, rfl⟩ := List.mem_map.mp hx
          have B := B.drawn Ld Lc hS15 k15
          have hR := k15 _ _ Rd Rc hR
          refine ⟨_, hR, ?_, (B.list Rd Rc RL hR).mono (by omega), rs ++ [y], ?_, ?_, ?_⟩
          · rw [List.length_map, lr]; exact Nat.lt_of_lt_of_le (show k < 8 by omega) (by decide)
          · rw [upd_same, List.map_append]; rfl
          · rw [List.length_append, lr]; rfl
          · intro z hz
            rcases List.mem_append.mp hz with h | h
            · exact sub z h
            · rw [List.mem_singleton.mp h]; exact hy
        rintro H13 ⟨B, rs, hR, lr, sub⟩
        have l7 : rs.length ≤ 7 := by omega
        have B := B.mono (show _ ≤ n0 + 100 * j + 10 by omega)
        -- first
        refine ⟨_, rfl, _, rfl, (by show 1 ≤ sizeLine; decide), fun e ne => ?_⟩
        have hN1 := same_upd (o := .lst [.non]) ne _ _ B.hN
        refine ⟨L, e, _, _, rfl, rfl, hN1, upd_same, ?_, fun g ng => ?_⟩
        · rw [List.length_map, sizeLine_eq]
          show _ + 1 ≤ _
          omega
        have B1 := B.same (same_upd (o := .lst [.non]) ne)
        have gd' : g ≠ d := (B1.st.ne1 ng).symm
        have gc' : g ≠ c := (B1.st.ne2 ng).symm
        have sm := (same_upd (o := .lst [.non]) ne).trans (same_upd (o := .lst (ys.map V.str ++ [.non])) ng)
        have B := B.same sm
        have hR := sm _ _ hR
        have hg : upd (upd H13 e (.lst [.non])) g (.lst (ys.map V.str ++ [.non])) g = _ := upd_same
        generalize upd (upd H13 e (.lst [.non])) g (.lst (ys.map V.str ++ [.non])) = H14 at B hR hg ⊢
        refine ⟨d, c, g, _, _, rfl, B.st, by omega, SqL.of hg, (by intro z; have := congrArg List.length z; simp at this), (by rw [List.length_append, List.length_map]; show _ + 1 ≤ _; omega), gd', gc', fun H15 x hx hS15 k15 => ?_⟩
        obtain ⟨fa, rfl, hfa⟩ : ∃ fa : Option Str, x = namV fa ∧ ∀ z, fa = some z → z ∈ ys := by
          rcases List.mem_append.mp hx with h | h
          · obtain ⟨y, hy, rfl⟩ := List.mem_map.mp h
            exact ⟨some y, rfl, fun z e => by cases e; exact hy⟩
          · exact ⟨none, List.mem_singleton.mp h, fun z e => by cases e⟩
        have B := B.drawn Ld Lc hS15 k15
        have hR := k15 _ _ Rd Rc hR
        have sgf : ∀ z, fa = some z → Sg z := fun z e => sg z (hfa z e)
        have sgr : ∀ z ∈ rs, Sg z := fun z hz => sg z (sub z hz)
        have inf : ∀ z, fa = some z → ∃ c ∈ cs, c.1 = z := fun z e => isin z (hfa z e)
        have inr : ∀ z ∈ rs, ∃ c ∈ cs, c.1 = z := fun z hz => isin z (sub z hz)
        -- due, same
        refine ⟨_, rfl, _, rfl, _, rfl, .ref p, cs, ws, R, rs, fa, rfl, B.dp, ok, hR, by omega, sgf, sgr, fun H16 s16 => ?_⟩
        have B := B.same s16
        have hR := s16 _ _ hR
        refine ⟨_, rfl, R, _, rfl, .inl (SqL.of hR), fun S nS => ⟨_, _, rfl, ?_⟩⟩
        have sS := same_upd (o := .lst (rs.map V.str)) nS
        have B := B.same sS
        have hR := sS _ _ hR
        have hSl : upd H16 S (.lst (rs.map V.str)) S = _ := upd_same
        generalize upd H16 S (.lst (rs.map V.str)) = H17 at B hR hSl ⊢
        -- the first look
        refine ⟨_, rfl, _, rfl, _, rfl, .ref p, cs, ws, R, rs, fa, rfl, B.dp, SqL.of hR, inf, inr, ?_⟩
        refine ⟨_, rfl, _, _, optD (sumF ws fa rs 0), rfl, opt_dp _, opt_dp _, (by rw [depth_opt]; decide), (by cases sumF ws fa rs 0 <;> exact Nat.zero_le _), fun H18 s18 => ⟨_, rfl, iteF ?_⟩⟩
        have B := B.same s18
        have hR := s18 _ _ hR
        have hSl := s18 _ _ hSl
        refine ⟨_, rfl, _, rfl, .list (rs.map PyData.str), .list (rs.map PyData.str), .lst (SqL.of hR) (dp_strs rs), .lst (SqL.of hSl) (dp_strs rs), shaped_strs sgr, shaped_strs sgr, _, rfl, ?_⟩
        rw [eqv_strs]
        refine iteF ?_
        -- due with None
        refine ⟨_, rfl, _, rfl, .ref p, cs, ws, R, rs, none, rfl, B.dp, ok, hR, by omega, (fun z e => by cases e), sgr, fun H19 s19 => ?_⟩
        have B := B.same s19
        have hR := s19 _ _ hR
        refine ⟨_, rfl, _, rfl, .ref p, cs, ws, R, rs, none, rfl, B.dp, SqL.of hR, (fun z e => by cases e), inr, ?_⟩
        refine ⟨_, rfl, _, rfl, .ref p, cs, ws, R, rs, none, rfl, B.dp, SqL.of hR, (fun z e => by cases e), inr, (by show 2 ≤ sizeLine; decide), fun l1 nl1 => ?_⟩
        refine ⟨_, rfl, _, rfl, (by show 2 ≤ sizeLine; decide), fun l2 nl2 => ?_⟩
        have s20 := (same_upd (o := .lst [optV (sumF ws none rs 0), optV (sumF ws none rs 0)]) nl1).trans (same_upd (o := .lst [optV (sumF ws none rs 0), optV (sumF ws none rs 0)]) nl2)
        have hl1 : upd (upd H19 l1 (.lst [optV (sumF ws none rs 0), optV (sumF ws none rs 0)])) l2 (.lst [optV (sumF ws none rs 0), optV (sumF ws none rs 0)]) l1 = some (.lst [optV (sumF ws none rs 0), optV (sumF ws none rs 0)]) := same_upd nl2 _ _ upd_same
        have hl2 : upd (upd H19 l1 (.lst [optV (sumF ws none rs 0), optV (sumF ws none rs 0)])) l2 (.lst [optV (sumF ws none rs 0), optV (sumF ws none rs 0)]) l2 = _ := upd_same
        have B := B.same s20
        have hR := s20 _ _ hR
        generalize upd (upd H19 l1 (.lst [optV (sumF ws none rs 0), optV (sumF ws none rs 0)])) l2 (.lst [optV (sumF ws none rs 0), optV (sumF ws none rs 0)]) = H20 at B hR hl1 hl2 ⊢
        refine ⟨_, _, .list [optD (sumF ws none rs 0), optD (sumF ws none rs 0)], rfl, .lst (SqL.of hl1) (.cons (opt_dp _) (.cons (opt_dp _) .nil)), .lst (SqL.of hl2) (.cons (opt_dp _) (.cons (opt_dp _) .nil)), ?_, ?_, fun H21 s21 => ⟨_, rfl, iteF ?_⟩⟩
        · show max (optD _).depth (max (optD _).depth 0) + 1 < 3
          rw [depth_opt]
          decide
        · show max 2 (max (widAll.wid (optD _)) (max (widAll.wid (optD _)) 0)) ≤ 1000
          have : widAll.wid (optD (sumF ws none rs 0)) = 0 := by cases sumF ws none rs 0 <;> rfl
          rw [this]
          decide
        have B := B.same s21
        have hR := s21 _ _ hR
        -- the row changed in place
        refine ⟨_, rfl, Nat.zero_le _, fun e2 ne2 => ?_⟩
        have s22 := same_upd (o := .lst []) ne2
        have B := B.same s22
        have hR := s22 _ _ hR
        have he2 : upd H21 e2 (.lst []) e2 = _ := upd_same
        generalize upd H21 e2 (.lst []) = H22 at B hR he2 ⊢
        refine ⟨.list (rs.map PyData.str), .list [], .lst (SqL.of hR) (dp_strs rs), .lst (SqL.of he2) .nil, shaped_strs sgr, shaped_strs (l := []) (fun _ h => (List.not_mem_nil h).elim), _, rfl, ?_⟩
        have done : ∀ (σ7 : Option V) v8 v9 v10 v11 v12 H23 n1, LB K d c L ys (.ref p) cs ws n1 H23 → n1 ≤ n0 + 100 * (j + 1) → ∃ v7 w8 w9 w10 w11 w12, [some (V.ref a), some (V.ref d), some (V.int (0 + (i : Int))), some (V.int (m : Int)), some (V.ref L), some (V.ref p), some (V.str (palD cs ws).shown), σ7, v8, v9, v10, v11, v12] = [some (V.ref a), some (V.ref d), some (V.int (0 + (i : Int))), some (V.int (m : Int)), some (V.ref L), some (V.ref p), some (V.str (palD cs ws).shown), v7, w8, w9, w10, w11, w12] ∧ LB K d c L ys (.ref p) cs ws (n0 + 100 * (j + 1)) H23 :=
          fun _ _ _ _ _ _ _ _ B h => ⟨_, _, _, _, _, _, rfl, B.mono h⟩
        by_cases hrs : rs = []
        · subst hrs
          show if (!PyData.eqv (.list []) (.list [])) = true then _ else _
          rw [if_neg (by intro z; cases z)]
          exact done _ _ _ _ _ _ _ _ B (by omega)
        · have en : PyData.eqv (.list (rs.map PyData.str)) (.list []) = false := by
            cases rs with
            | nil => exact absurd rfl hrs
            | cons _ _ => rfl
          rw [en]
          refine iteT ?_
          have lpos : 0 < rs.length := List.length_pos_iff.mpr hrs
          refine ⟨_, rfl, _, rfl, d, c, L, _, _, rfl, B.st, by omega, SqL.of B.hN, nonempty, (by rw [List.length_map]; omega), Ld, Lc, fun H23 x hx hS23 k23 => ?_⟩
          obtain ⟨y, hy, rfl⟩ := List.mem_map.mp hx
          have B := B.drawn Ld Lc hS23 k23
          have hR := k23 _ _ Rd Rc hR
          refine ⟨_, rfl, _, rfl, _, rfl, _, _, rfl, .inl ⟨_, SqL.of hR, rfl⟩, d, c, _, _, rfl, (by rw [List.length_map]; omega), (by rw [List.length_map]; omega), B.st, by omega, fun H24 r7 r70 r71 hS24 k24 => ?_⟩
          have B := B.drawn Ld Lc hS24 k24
          have hR := k24 _ _ Rd Rc hR
          rw [List.length_map] at r71
          obtain ⟨q7, rfl⟩ : ∃ q7 : Nat, r7 = (q7 : Int) := ⟨r7.toNat, by omega⟩
          refine ⟨R, _, _, q7, rfl, rfl, hR, (by rw [List.length_map]; exact Evl.ixN_nat (by omega)), ?_⟩
          have B := B.list (zs := (rs.map V.str).set q7 (.str y)) Rd Rc RL hR
          have hR2 : upd H24 R (.lst ((rs.map V.str).set q7 (.str y))) R = _ := upd_same
          generalize upd H24 R (.lst ((rs.map V.str).set q7 (.str y))) = H25 at B hR2 ⊢
          refine ⟨_, rfl, .inl ⟨rfl, _, SqL.of hR2⟩, R, _, rfl, rfl, hR2, ?_⟩
          have B := B.list (zs := ((rs.map V.str).set q7 (.str y)).reverse) Rd Rc RL hR2
          have hR3 : upd H25 R (.lst ((rs.map V.str).set q7 (.str y)).reverse) R = _ := upd_same
          generalize upd H25 R (.lst ((rs.map V.str).set q7 (.str y)).reverse) = H26 at B hR3 ⊢
          have er : ((rs.map V.str).set q7 (.str y)).reverse = ((rs.set q7 y).reverse).map V.str := by
            rw [List.map_reverse, List.map_set]
          rw [er] at hR3
          have l8 : ((rs.set q7 y).reverse).length ≤ 7 := by rw [List.length_reverse, List.length_set]; exact l7
          have sub3 : ∀ z ∈ (rs.set q7 y).reverse, z ∈ ys := fun z hz => by
            rcases List.mem_or_eq_of_mem_set (List.mem_reverse.mp hz) with h | h
            · exact sub z h
            · rw [h]; exact hy
          generalize (rs.set q7 y).reverse = rs3 at hR3 l8 sub3
          refine ⟨_, rfl, _, rfl, _, rfl, .ref p, cs, ws, R, rs3, fa, rfl, B.dp, SqL.of hR3, inf, (fun z hz => isin z (sub3 z hz)), ?_⟩
          refine ⟨_, rfl, _, rfl, _, rfl, .ref p, cs, ws, R, rs3, fa, rfl, B.dp, ok, hR3, by omega, sgf, (fun z hz => sg z (sub3 z hz)), fun H27 s27 => ?_⟩
          have B := B.same s27
          refine ⟨_, _, optD (sumF ws fa rs3 0), rfl, opt_dp _, opt_dp _, (by rw [depth_opt]; decide), (by cases sumF ws fa rs3 0 <;> exact Nat.zero_le _), fun H28 s28 => ⟨_, rfl, iteF ?_⟩⟩
          exact done _ _ _ _ _ _ _ _ (B.same s28) (by omega)
      · rintro σ H10 ⟨v7, v8, v9, v10, v11, v12, rfl, B⟩
        refine ⟨_, rfl, p, _, rfl, B.dp, pal_fine ok, Nat.le_trans (pal_depth cs ws) (by decide), Nat.le_trans (pal_cost ok) (by decide), _, rfl, rfl, _, rfl, ?_⟩
        rw [decide_eq_true rfl]
        refine iteF ?_
        exact ⟨_, _, _, _, _, _, _, _, _, _, _, rfl, B.st.mono (by show n0 + 100 * 6 ≤ 20000 * (i + 1); omega)⟩
    · rintro σ H2 ⟨v2, v3, v4, v5, v6, v7, v8, v9, v10, v11, v12, rfl, hS2⟩
      exact q _
end
end Pot

namespace Pot
open PySem PySem.Spec PyProof.Rows L2
theorem all_mk {l : PySem.W.OpenLaw} {w : World} {K : PySem.W.Frag} {h : Heap} {mg : Str → Option Value} {fa : Addr} (X : K.In h) (G : h.Ns mainGlobals mg) (hfa : mg "law" = some (.ref fa))
    {f1 : Addr} {od1 an1 : Option Addr} {sl1 : Array (Option Value)} {oc1 kV1 dc1 pm1 cd1 ct1 : Value}
    {f2 : Addr} {od2 an2 : Option Addr} {sl2 : Array (Option Value)} {oc2 kV2 dc2 pm2 cd2 ct2 : Value}
    {f3 : Addr} {od3 an3 : Option Addr} {sl3 : Array (Option Value)} {oc3 kV3 dc3 pm3 cd3 ct3 : Value}
    {T3 : Addr} {ocT3 : Value} {odT3 : Option Addr} {slT3 : Array (Option Value)} {nT3 : Nat}
    {f4 : Addr} {od4 an4 : Option Addr} {sl4 : Array (Option Value)} {oc4 kV4 dc4 pm4 cd4 ct4 : Value}
    {f5 : Addr} {od5 an5 : Option Addr} {sl5 : Array (Option Value)} {oc5 kV5 dc5 pm5 cd5 ct5 : Value}
    {f6 : Addr} {od6 an6 : Option Addr} {sl6 : Array (Option Value)} {oc6 kV6 dc6 pm6 cd6 ct6 : Value}
    {f7 : Addr} {od7 an7 : Option Addr} {sl7 : Array (Option Value)} {oc7 kV7 dc7 pm7 cd7 ct7 : Value}
    {f8 : Addr} {od8 an8 : Option Addr} {sl8 : Array (Option Value)} {oc8 kV8 dc8 pm8 cd8 ct8 : Value}
    {f9 : Addr} {od9 an9 : Option Addr} {sl9 : Array (Option Value)} {oc9 kV9 dc9 pm9 cd9 ct9 : Value}
    {f10 : Addr} {od10 an10 : Option Addr} {sl10 : Array (Option Value)} {oc10 kV10 dc10 pm10 cd10 ct10 : Value}
    {f11 : Addr} {od11 an11 : Option Addr} {sl11 : Array (Option Value)} {oc11 kV11 dc11 pm11 cd11 ct11 : Value}
    {f12 : Addr} {od12 an12 : Option Addr} {sl12 : Array (Option Value)} {oc12 kV12 dc12 pm12 cd12 ct12 : Value}
    {f13 : Addr} {od13 an13 : Option Addr} {sl13 : Array (Option Value)} {oc13 kV13 dc13 pm13 cd13 ct13 : Value}
    (a1 : PySem.W.nsIn K mainGlobals "colour_row" = some (some (.ref f1))) (l1 : K.lookup f1 = some ⟨oc1, od1, .func (PySem.W.fnOf "colour_row" "colour_row" (defArgs s_colour_row) (defBody s_colour_row) (defScope s_colour_row) .none kV1 dc1 pm1 an1 cd1 ct1), sl1⟩) (c1 : PySem.W.codeIn K cd1 "colour_row" = true) (k1 : PySem.W.keepIn K (.ref f1) = true)
    (a2 : PySem.W.nsIn K mainGlobals "wash_for" = some (some (.ref f2))) (l2 : K.lookup f2 = some ⟨oc2, od2, .func (PySem.W.fnOf "wash_for" "wash_for" (defArgs s_wash_for) (defBody s_wash_for) (defScope s_wash_for) .none kV2 dc2 pm2 an2 cd2 ct2), sl2⟩) (c2 : PySem.W.codeIn K cd2 "wash_for" = true) (k2 : PySem.W.keepIn K (.ref f2) = true)
    (a3 : PySem.W.nsIn K mainGlobals "washing_of" = some (some (.ref f3))) (l3 : K.lookup f3 = some ⟨oc3, od3, .func (PySem.W.fnOf "washing_of" "washing_of" (defArgs s_washing_of) (defBody s_washing_of) (defScope s_washing_of) (.ref T3) kV3 dc3 pm3 an3 cd3 ct3), sl3⟩) (c3 : PySem.W.codeIn K cd3 "washing_of" = true) (k3 : PySem.W.keepIn K (.ref f3) = true)
    (t3 : K.lookup T3 = some ⟨ocT3, odT3, .seq #[.none] nT3, slT3⟩)
    (a4 : PySem.W.nsIn K mainGlobals "_law_begin" = some (some (.ref f4))) (l4 : K.lookup f4 = some ⟨oc4, od4, .func (PySem.W.fnOf "_law_begin" "_law_begin" (defArgs s__law_begin) (defBody s__law_begin) (defScope s__law_begin) .none kV4 dc4 pm4 an4 cd4 ct4), sl4⟩) (c4 : PySem.W.codeIn K cd4 "_law_begin" = true) (k4 : PySem.W.keepIn K (.ref f4) = true)
    (a5 : PySem.W.nsIn K mainGlobals "_law_take" = some (some (.ref f5))) (l5 : K.lookup f5 = some ⟨oc5, od5, .func (PySem.W.fnOf "_law_take" "_law_take" (defArgs s__law_take) (defBody s__law_take) (defScope s__law_take) .none kV5 dc5 pm5 an5 cd5 ct5), sl5⟩) (c5 : PySem.W.codeIn K cd5 "_law_take" = true) (k5 : PySem.W.keepIn K (.ref f5) = true)
    (a6 : PySem.W.nsIn K mainGlobals "_law_some" = some (some (.ref f6))) (l6 : K.lookup f6 = some ⟨oc6, od6, .func (PySem.W.fnOf "_law_some" "_law_some" (defArgs s__law_some) (defBody s__law_some) (defScope s__law_some) .none kV6 dc6 pm6 an6 cd6 ct6), sl6⟩) (c6 : PySem.W.codeIn K cd6 "_law_some" = true) (k6 : PySem.W.keepIn K (.ref f6) = true)
    (a7 : PySem.W.nsIn K mainGlobals "_law_names" = some (some (.ref f7))) (l7 : K.lookup f7 = some ⟨oc7, od7, .func (PySem.W.fnOf "_law_names" "_law_names" (defArgs s__law_names) (defBody s__law_names) (defScope s__law_names) .none kV7 dc7 pm7 an7 cd7 ct7), sl7⟩) (c7 : PySem.W.codeIn K cd7 "_law_names" = true) (k7 : PySem.W.keepIn K (.ref f7) = true)
    (a8 : PySem.W.nsIn K mainGlobals "_law_palette" = some (some (.ref f8))) (l8 : K.lookup f8 = some ⟨oc8, od8, .func (PySem.W.fnOf "_law_palette" "_law_palette" (defArgs s__law_palette) (defBody s__law_palette) (defScope s__law_palette) .none kV8 dc8 pm8 an8 cd8 ct8), sl8⟩) (c8 : PySem.W.codeIn K cd8 "_law_palette" = true) (k8 : PySem.W.keepIn K (.ref f8) = true)
    (a9 : PySem.W.nsIn K mainGlobals "_law_same" = some (some (.ref f9))) (l9 : K.lookup f9 = some ⟨oc9, od9, .func (PySem.W.fnOf "_law_same" "_law_same" (defArgs s__law_same) (defBody s__law_same) (defScope s__law_same) .none kV9 dc9 pm9 an9 cd9 ct9), sl9⟩) (c9 : PySem.W.codeIn K cd9 "_law_same" = true) (k9 : PySem.W.keepIn K (.ref f9) = true)
    (a10 : PySem.W.nsIn K mainGlobals "_law_wash" = some (some (.ref f10))) (l10 : K.lookup f10 = some ⟨oc10, od10, .func (PySem.W.fnOf "_law_wash" "_law_wash" (defArgs s__law_wash) (defBody s__law_wash) (defScope s__law_wash) .none kV10 dc10 pm10 an10 cd10 ct10), sl10⟩) (c10 : PySem.W.codeIn K cd10 "_law_wash" = true) (k10 : PySem.W.keepIn K (.ref f10) = true)
    (a11 : PySem.W.nsIn K mainGlobals "_law_due" = some (some (.ref f11))) (l11 : K.lookup f11 = some ⟨oc11, od11, .func (PySem.W.fnOf "_law_due" "_law_due" (defArgs s__law_due) (defBody s__law_due) (defScope s__law_due) .none kV11 dc11 pm11 an11 cd11 ct11), sl11⟩) (c11 : PySem.W.codeIn K cd11 "_law_due" = true) (k11 : PySem.W.keepIn K (.ref f11) = true)
    (a12 : PySem.W.nsIn K mainGlobals "_law_mild" = some (some (.ref f12))) (l12 : K.lookup f12 = some ⟨oc12, od12, .func (PySem.W.fnOf "_law_mild" "_law_mild" (defArgs s__law_mild) (defBody s__law_mild) (defScope s__law_mild) .none kV12 dc12 pm12 an12 cd12 ct12), sl12⟩) (c12 : PySem.W.codeIn K cd12 "_law_mild" = true) (k12 : PySem.W.keepIn K (.ref f12) = true)
    (a13 : PySem.W.nsIn K mainGlobals "law" = some (some (.ref f13))) (l13 : K.lookup f13 = some ⟨oc13, od13, .func (PySem.W.fnOf "law" "law" (defArgs s_law) (defBody s_law) (defScope s_law) .none kV13 dc13 pm13 an13 cd13 ct13), sl13⟩) (c13 : PySem.W.codeIn K cd13 "law" = true) (k13 : PySem.W.keepIn K (.ref f13) = true)
    (z1 : PySem.W.nsIn K mainGlobals "len" = some none)
    (z2 : PySem.W.nsIn K mainGlobals "divmod" = some none)
    (z3 : PySem.W.nsIn K mainGlobals "range" = some none)
    (z4 : PySem.W.nsIn K mainGlobals "sum" = some none)
    (z5 : PySem.W.nsIn K mainGlobals "all" = some none)
    (z6 : PySem.W.nsIn K mainGlobals "any" = some none)
    (z7 : PySem.W.nsIn K mainGlobals "isinstance" = some none)
    (z8 : PySem.W.nsIn K mainGlobals "str" = some none)
    (z9 : PySem.W.nsIn K mainGlobals "int" = some none)
    (z10 : PySem.W.nsIn K mainGlobals "list" = some none)
    (z11 : PySem.W.nsIn K mainGlobals "tuple" = some none)
    (z12 : PySem.W.nsIn K mainGlobals "bool" = some none)
    (z13 : PySem.W.nsIn K mainGlobals "zip" = some none)
    (z14 : PySem.W.nsIn K mainGlobals "set" = some none)
    (z15 : PySem.W.nsIn K mainGlobals "sorted" = some none)
    (z16 : PySem.W.nsIn K mainGlobals "enumerate" = some none)
    (z17 : PySem.W.nsIn K mainGlobals "repr" = some none)
    (z18 : PySem.W.nsIn K mainGlobals "min" = some none)
    (z19 : PySem.W.nsIn K mainGlobals "max" = some none)
    (z20 : PySem.W.nsIn K mainGlobals "abs" = some none)
    : ∃ fd : FuncData, (∀ (s : Shared) (v : Value), BindsTo s fd ⟨[v], []⟩ [("_law_script", v)]) ∧ ∀ base : Heap, K.In base → base.Ns mainGlobals mg → FnG l.prog w K mg base 5 fa fd ["_law_script"] (spLaw K) := by
  have e := hfa.symm.trans (PySem.W.mg_of X G a13)
  cases e
  have T : Txt mg := ⟨PySem.W.mg_none_of X G z1, PySem.W.mg_none_of X G z2, PySem.W.mg_none_of X G z3, PySem.W.mg_none_of X G z4, PySem.W.mg_none_of X G z5, PySem.W.mg_none_of X G z6, PySem.W.mg_none_of X G z7, PySem.W.mg_none_of X G z8, PySem.W.mg_none_of X G z9, PySem.W.mg_none_of X G z10, PySem.W.mg_none_of X G z11, PySem.W.mg_none_of X G z12, PySem.W.mg_none_of X G z13, PySem.W.mg_none_of X G z14, PySem.W.mg_none_of X G z15, PySem.W.mg_none_of X G z16, PySem.W.mg_none_of X G z17, PySem.W.mg_none_of X G z18, PySem.W.mg_none_of X G z19, PySem.W.mg_none_of X G z20⟩
  have F1 := fun_mk (st := s_colour_row) l1 c1 k1
  have b1 := F1.binds (ps := ["palette", "colour"]) fun _ _ _ _ _ _ us hl => match us, hl with | [_, _], _ => rfl
  have g1 := PySem.W.mg_of X G a1
  have F2 := fun_mk (st := s_wash_for) l2 c2 k2
  have b2 := F2.binds (ps := ["palette", "ahead", "behind"]) fun _ _ _ _ _ _ us hl => match us, hl with | [_, _, _], _ => rfl
  have g2 := PySem.W.mg_of X G a2
  have F3 : FunV K "washing_of" s_washing_of [.non] f3 _ := ⟨⟨_, _, _, _, _, _, _, _, _, _, rfl, l3, c3, .inr ⟨(by intro z; cases z), T3, _, [_], _, rfl, t3, rfl, .cons (rfl) (.nil)⟩, .inl rfl⟩, k3⟩
  obtain ⟨ds3_0, v3_0, b3_0⟩ := FunD.binds1 (ps := ["palette", "row", "first"]) F3 3 1 (by intro z; cases z) rfl (fun T kV doc pm an cdv ct us its hu hi => match us, hu, its, hi with | [_, _, _], _, [_], _ => ⟨_, rfl, rfl⟩)
  obtain ⟨ds3_1, v3_1, b3_1⟩ := FunD.binds1 (ps := ["palette", "row", "first"]) F3 2 0 (by intro z; cases z) rfl (fun T kV doc pm an cdv ct us its hu hi => match us, hu, its, hi with | [_, _], _, [_], _ => ⟨_, rfl, rfl⟩)
  have g3 := PySem.W.mg_of X G a3
  have F4 := fun_mk (st := s__law_begin) l4 c4 k4
  have b4 := F4.binds (ps := ["_law_script"]) fun _ _ _ _ _ _ us hl => match us, hl with | [_], _ => rfl
  have g4 := PySem.W.mg_of X G a4
  have F5 := fun_mk (st := s__law_take) l5 c5 k5
  have b5 := F5.binds (ps := ["_law_state", "_law_many"]) fun _ _ _ _ _ _ us hl => match us, hl with | [_, _], _ => rfl
  have g5 := PySem.W.mg_of X G a5
  have F6 := fun_mk (st := s__law_some) l6 c6 k6
  have b6 := F6.binds (ps := ["_law_state", "_law_things"]) fun _ _ _ _ _ _ us hl => match us, hl with | [_, _], _ => rfl
  have g6 := PySem.W.mg_of X G a6
  have F7 := fun_mk (st := s__law_names) l7 c7 k7
  have b7 := F7.binds (ps := ["_law_state", "_law_many"]) fun _ _ _ _ _ _ us hl => match us, hl with | [_, _], _ => rfl
  have g7 := PySem.W.mg_of X G a7
  have F8 := fun_mk (st := s__law_palette) l8 c8 k8
  have b8 := F8.binds (ps := ["_law_state", "_law_names_here"]) fun _ _ _ _ _ _ us hl => match us, hl with | [_, _], _ => rfl
  have g8 := PySem.W.mg_of X G a8
  have F9 := fun_mk (st := s__law_same) l9 c9 k9
  have b9 := F9.binds (ps := ["_law_found", "_law_due_here"]) fun _ _ _ _ _ _ us hl => match us, hl with | [_, _], _ => rfl
  have g9 := PySem.W.mg_of X G a9
  have F10 := fun_mk (st := s__law_wash) l10 c10 k10
  have b10 := F10.binds (ps := ["_law_palette_here", "_law_ahead", "_law_behind"]) fun _ _ _ _ _ _ us hl => match us, hl with | [_, _, _], _ => rfl
  have g10 := PySem.W.mg_of X G a10
  have F11 := fun_mk (st := s__law_due) l11 c11 k11
  have b11 := F11.binds (ps := ["_law_palette_here", "_law_row", "_law_first"]) fun _ _ _ _ _ _ us hl => match us, hl with | [_, _, _], _ => rfl
  have g11 := PySem.W.mg_of X G a11
  have F12 := fun_mk (st := s__law_mild) l12 c12 k12
  have b12 := F12.binds (ps := ["_law_state", "_law_palette_here"]) fun _ _ _ _ _ _ us hl => match us, hl with | [_, _], _ => rfl
  have g12 := PySem.W.mg_of X G a12
  have F13 := fun_mk (st := s_law) l13 c13 k13
  refine ⟨PySem.W.fnOf "law" "law" (defArgs s_law) (defBody s_law) (defScope s_law) .none kV13 dc13 pm13 an13 cd13 ct13, fun s v => .of_eq rfl, fun base _ _ => ?_⟩
  have cT : Cl l.prog w K mg base 1 "_law_take" spTake := ⟨_, _, _, ok_take F5 T, g5, F5.kp, b5⟩
  have cC : Cl l.prog w K mg base 1 "colour_row" (spColour K) := ⟨_, _, _, ok_colour F1, g1, F1.kp, b1⟩
  have cF : Cl l.prog w K mg base 2 "wash_for" (spWash K) := ⟨_, _, _, ok_wash F2 cC, g2, F2.kp, b2⟩
  have cLW : Cl l.prog w K mg base 1 "_law_wash" (spLWash K) := ⟨_, _, _, ok_lwash F10, g10, F10.kp, b10⟩
  exact ok_law F13 T ⟨_, _, _, ok_begin F4 T, g4, F4.kp, b4⟩ cT ⟨_, _, _, ok_some F6 T cT, g6, F6.kp, b6⟩ ⟨_, _, _, ok_names F7 T cT, g7, F7.kp, b7⟩ ⟨_, _, _, ok_palette F8 T cT, g8, F8.kp, b8⟩ ⟨_, _, _, ok_mild F12 T cT, g12, F12.kp, b12⟩
    ⟨_, _, _, ok_ldue F11 T cLW, g11, F11.kp, b11⟩ ⟨_, _, _, ok_same F9 T b9 g9 3, g9, F9.kp, b9⟩ ⟨_, _, _, _, ok_washing F3 cF, g3, F3.kp, b3_0, v3_0⟩ ⟨_, _, _, _, ok_washing F3 cF, g3, F3.kp, b3_1, v3_1⟩
end Pot
open PySem PySem.W PyProof.Rows
set_option maxRecDepth 100000 in
set_option maxHeartbeats 0 in
theorem PySem.Challenge.cw_potround_k06_washing_of_rows_holds : PySem.Challenge.rw_potround_k06_washing_of_rows.Holds := by
  w_on; o_law; k_head; (case hw => w_witness2)
  k_fill
  refine Pot.walkG (l := PySem.Challenge.rw_potround_k06_washing_of_rows) (n := 63) (k := 5) (x := "_law_script") (sp := fun w => Pot.spLaw _) rfl (by decide) rfl ⟨rfl, by decide, by decide⟩ (fun w h Y => PySem.W.kIn_of Y) ?F (fun _ _ a ns hl _ hS => ⟨a, ns, rfl, hS, hl, fun _ => rfl⟩)
  case F =>
    intro w mg fa h KX G hmg
    refine' Pot.all_mk KX G hmg ?a1 ?l1 ?c1 ?k1 ?a2 ?l2 ?c2 ?k2 ?a3 ?l3 ?c3 ?k3 ?t3 ?a4 ?l4 ?c4 ?k4 ?a5 ?l5 ?c5 ?k5 ?a6 ?l6 ?c6 ?k6 ?a7 ?l7 ?c7 ?k7 ?a8 ?l8 ?c8 ?k8 ?a9 ?l9 ?c9 ?k9 ?a10 ?l10 ?c10 ?k10 ?a11 ?l11 ?c11 ?k11 ?a12 ?l12 ?c12 ?k12 ?a13 ?l13 ?c13 ?k13 ?z1 ?z2 ?z3 ?z4 ?z5 ?z6 ?z7 ?z8 ?z9 ?z10 ?z11 ?z12 ?z13 ?z14 ?z15 ?z16 ?z17 ?z18 ?z19 ?z20
    (case a1 => k_is)
    (case l1 => k_is)
    (case c1 => k_is)
    (case k1 => k_is)
    (case a2 => k_is)
    (case l2 => k_is)
    (case c2 => k_is)
    (case k2 => k_is)
    (case a3 => k_is)
    (case l3 => k_is)
    (case c3 => k_is)
    (case k3 => k_is)
    (case t3 => k_is)
    (case a4 => k_is)
    (case l4 => k_is)
    (case c4 => k_is)
    (case k4 => k_is)
    (case a5 => k_is)
    (case l5 => k_is)
    (case c5 => k_is)
    (case k5 => k_is)
    (case a6 => k_is)
    (case l6 => k_is)
    (case c6 => k_is)
    (case k6 => k_is)
    (case a7 => k_is)
    (case l7 => k_is)
    (case c7 => k_is)
    (case k7 => k_is)
    (case a8 => k_is)
    (case l8 => k_is)
    (case c8 => k_is)
    (case k8 => k_is)
    (case a9 => k_is)
    (case l9 => k_is)
    (case c9 => k_is)
    (case k9 => k_is)
    (case a10 => k_is)
    (case l10 => k_is)
    (case c10 => k_is)
    (case k10 => k_is)
    (case a11 => k_is)
    (case l11 => k_is)
    (case c11 => k_is)
    (case k11 => k_is)
    (case a12 => k_is)
    (case l12 => k_is)
    (case c12 => k_is)
    (case k12 => k_is)
    (case a13 => k_is)
    (case l13 => k_is)
    (case c13 => k_is)
    (case k13 => k_is)
    (case z1 => k_is)
    (case z2 => k_is)
    (case z3 => k_is)
    (case z4 => k_is)
    (case z5 => k_is)
    (case z6 => k_is)
    (case z7 => k_is)
    (case z8 => k_is)
    (case z9 => k_is)
    (case z10 => k_is)
    (case z11 => k_is)
    (case z12 => k_is)
    (case z13 => k_is)
    (case z14 => k_is)
    (case z15 => k_is)
    (case z16 => k_is)
    (case z17 => k_is)
    (case z18 => k_is)
    (case z19 => k_is)
    (case z20 => k_is)
