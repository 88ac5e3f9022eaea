import PyProof.Rows.All
import Wide.All
import OpenK.AllK
import Wide.FinOn
import HandS.ForMost
import HandS.Strs
import HandS.SetFor
import HandS.Zip
import PyProof.ReprRoads
import HandS.FStrTup
import HandS.ForExc
import HandS.IsInst
import HandS.Evl
import HandS.Conv
import HandS.Flow
import HandS.Style
import HandS.Sort
import HandS.Walk
import HandS.Codes
import HandS.StrMore
import HandS.TupAny
import HandS.Defaults
import KE.KEqSeq
import HandS.More
import HandS.WideBits
import PyProof.SetRoads
import PySem.Challenge.RW_potround_k47_who_is_in
set_option Elab.async false
set_option linter.all false
set_option maxRecDepth 100000
namespace Pot
open PySem PySem.Spec PyProof.Rows L2 PySem.W PySem.Calls
/-! ### set(xs) of a list of ints -/
/-- the object that set() makes first -/
abbrev emptySet (w : World) : Obj := { cls := .type "set", dict := none, data := .set #[] 0 (.fresh 0 0 (!w.params.followText "set-order")) }
section
variable {P : Program} {w : World} {A : Around} {E : Value → Shared → Prop} {s : Shared}
/-- what is wanted behind the filling -/
def Filled (w : World) (s : Shared) (ns : List Int) (s' : Shared) : Prop := ∃ h' tk c, s' = { s with heap := h', toks := tk } ∧ SetR w h' s.heap.objs.size (fun j => decide (j ∈ ns)) c ∧ c ≤ ns.length ∧ ∀ b o, s.heap.get? b = some o → h'.get? b = some o
set_option maxHeartbeats 4000000 in
theorem call_set_li {l : Addr} {items : Array Value} (ns : List Int) {Q : Value → Shared → Prop} (hh : A.handled = none) (hl : s.heap.IsList l items) (hit : IntsAre items.toList ns) (hb : ns.length + 1 < scanBound)
    (hq : ∀ s', Filled w s ns s' → Q (.ref s.heap.objs.size) s') : wpAny (model P w) A (call (.type "set") [.ref l]) Q E s := by
  have size : items.size = ns.length := by
    rw [← Array.length_toList]; exact IntsAre.length hit
  have made := F.called_set.made
  have below := F.called_set.sub
  obtain ⟨_, _, chain⟩ := F.called_set.mro
  have nt := F.called_set.notType
  have cc := F.called_set.canCreate
  have ck := F.typeCall_set_1 (.ref l)
  refine wpAny_call (codeAny_of_tree (show wpAny _ _ (callAny (.type "set") _) _ _ _ from wpAny_pure ⟨Code.quiet_builtin _ (by decide +kernel), codeAny_builtin F.entry_type_call ?_⟩))
  rw [Around.under_plain (weight_type_call_type "set" [.ref l] []) rfl]
  repeat (any_goals (first | assumption | wp_step))
  refine codeAny_mono (code_set_led1 (.ref l) (E := E) (Q₁ := fun obj z => obj = .ref s.heap.objs.size ∧ z = { s with heap := s.heap.push (emptySet w) }) ⟨rfl, rfl⟩) fun r z hr => ?_
  rcases r with _ | fl
  case error => exact hr
  cases fl <;> first | exact hr.elim | skip
  obtain ⟨rfl, rfl⟩ := hr
  have at0 : (s.heap.push (emptySet w)).get? s.heap.objs.size = some (emptySet w) := Heap.get?_push_size _ rfl
  have ty0 : Shared.TypeIs { s with heap := s.heap.push (emptySet w) } (.ref s.heap.objs.size) "set" := ⟨_, at0, rfl⟩
  have li := F.called_set.init.lookup
  have bi := F.called_set.init.bind (.ref s.heap.objs.size)
  repeat (any_goals (first | assumption | wp_step))
  refine codeAny_mono (codeAny_call_builtin (R := wants (fun r z => r = .none ∧ Filled w s ns z) E) F.called_set.init.plain F.entry_set_init (check_set_init_1 ty0 ?_)) fun r z hz => ?_
  · obtain ⟨⟨_, od, _, os⟩, hol, hcl, nl, hdl⟩ := hl
    simp only at hcl hdl
    subst hcl
    subst hdl
    have keep : (s.heap.push (emptySet w)).get? l = some { cls := .type "list", dict := od, data := .seq items nl, slots := os } := Heap.get?_push_of_some _ hol
    have s1 := F.sub_list_set
    have s2 := F.sub_list_frozenset
    have s3 : (Value.type "list" == Value.type "dict") = false := by decide
    have isl : (s.heap.push (emptySet w)).IsList l items := ⟨_, keep, rfl, nl, rfl⟩
    unfold Builtin.«set.__init__» noKeywords Builtin.Frozenset.updateFrom
    generalize hPI : pyIter = PI
    wp_walk
    subst hPI
    refine wpAny_pyIter_list isl (wpAny_bind (wpAny_runValue ?_))
    have lt : l < s.heap.objs.size := Heap.lt_size hol
    have sz : (s.heap.push (emptySet w)).objs.size = s.heap.objs.size + 1 := Heap.size_push ..
    have ne1 : l ≠ (s.heap.push (emptySet w)).objs.size := by rw [sz]; exact Nat.ne_of_lt (Nat.lt_succ_of_lt lt)
    have ne2 : s.heap.objs.size ∉ [(s.heap.push (emptySet w)).objs.size, l] := by
      rw [sz]
      intro z
      rcases List.mem_cons.mp z with z | z
      · exact absurd z (Nat.ne_of_lt (Nat.lt_succ_self _))
      · exact absurd (List.mem_singleton.mp z) (Nat.ne_of_gt lt)
    have each : ∀ (i : Nat) (v : Value), items[i]? = some v → ∃ k t, ns[i]? = some k ∧ v = .int k t := fun i v hv => by
      have hi : i < ns.length := size ▸ (Array.getElem?_eq_some_iff.mp hv).1
      obtain ⟨t, e⟩ := IntsAre.int_at hit i v (by rw [Array.getElem?_toList]; exact hv)
      exact ⟨ns[i], t, List.getElem?_eq_getElem hi, by rw [e, List.getD_eq_getElem?_getD, List.getElem?_eq_getElem hi]; rfl⟩
    refine set_update_ints ((Walks.list (show A.in1.in1.in1.handled = none by simp [hh]) _ l ne1 items).toS) s.heap.objs.size ne2 ns size hb each (items.size - 0) 0 _ (by omega) (Nat.zero_le _) ⟨⟨_, Heap.get?_push_size _ rfl, rfl, rfl⟩, isl.push _⟩ ⟨0, Nat.le_refl 0, setR_new_at (Heap.get?_push_of_some _ at0)⟩ fun s' c hm hc hS => ?_
    obtain ⟨h', g, d, tk, o⟩ := s'
    cases (show g = s.gens from hm.gens)
    cases (show d = s.drawn from hm.drawn)
    cases (show o = s.os from hm.os)
    refine (show wpAny _ _ _ _ _ _ from wpAny_pure (show wpAny _ _ (ret Value.none) _ _ _ from wpAny_pure ⟨rfl, h', tk, c, rfl, hS, size ▸ hc, fun b o e => ?_⟩))
    have hb0 : b < s.heap.objs.size := Heap.lt_size e
    refine hm.heap b o (fun z => ?_) (Heap.get?_push_of_some _ (Heap.get?_push_of_some _ e))
    rcases List.mem_cons.mp z with z | z
    · exact absurd z (Nat.ne_of_lt hb0)
    · exact absurd ((List.mem_singleton.mp z).trans sz) (Nat.ne_of_lt (Nat.lt_succ_of_lt hb0))
  · rcases r with _ | fl
    case error => exact hz
    cases fl <;> first | exact hz.elim | skip
    obtain ⟨rfl, f⟩ := hz
    obtain ⟨h', tk, c, rfl, hS, hc, k⟩ := id f
    repeat (any_goals (first | assumption | wp_step))
    exact hq _ ⟨_, _, _, rfl, hS, hc, k⟩
end
section
variable {X : Cx}
/-- set(xs), at most 60 ints: a set of just these -/
def rSetLi (K : PySem.W.Frag) (w : World) : List V → Hp → VK → Prop := fun xs H Q => ∃ (a : Addr) (ns : List Int), xs = [V.ref a] ∧ SqL K H a (ns.map V.int) ∧ ns.length ≤ 1000 ∧
  ∀ (p : Addr) (c : Nat), H p = none → c ≤ ns.length → Q (.ref p) (upd H p (SetO w p (fun k => decide (k ∈ ns)) c))
theorem cr_setLi (hc : X.calm = true) : CallR X (.type "set") (rSetLi X.K X.w) := by
  intro pins s σ H vs us Q I r h
  obtain ⟨a, ns, rfl, hS, hl, q⟩ := h
  rw [Vals.ref1 r]
  obtain ⟨its, rv, pl, hz⟩ := I.list hS
  refine call_set_li ns (I.ok.hd hc) pl.isList (by simpa using Vals.ints rv) (by unfold scanBound; omega) fun s' f => ?_
  obtain ⟨h', tk, c, rfl, R, hcn, k⟩ := f
  have hn : H s.heap.objs.size = none := I.hok.fresh (Nat.le_refl _)
  have J : Inv X pins σ (upd H s.heap.objs.size (SetO X.w s.heap.objs.size (fun k => decide (k ∈ ns)) c)) { s with heap := h', toks := tk } := I.laid (t' := tk) k (Nat.le_refl _) (setO_new R)
  exact ⟨.ref s.heap.objs.size, _, J, rfl, q _ _ hn hcn⟩
end
end Pot

namespace Pot
open PySem PySem.Spec PyProof.Rows L2
/-! ### defs that are called where no text of a thing is under way -/
structure FnG (P : Program) (w : World) (K : PySem.W.Frag) (mg : Str → Option Value) (base : Heap) (k : Nat) (f : Addr) (fd : FuncData) (ps : List Str) (sp : Sp) : Prop where
  many : ∀ vs H Q E, sp vs H Q E → vs.length = ps.length
  does : ∀ (A : Around) (outer : List Env) (s : Shared) (H : Hp) (args : Args) (us : List Value) (vs : List V) (Q : VK), A.guards = some [] → Room k A → Env0 P w K mg base A outer s H →
    BindsTo s fd args (ps.zip us) → Vals vs us → sp vs H Q E0 → codeAny (model P w) A (.call (.ref f) args) (CR CX0 outer P w H s Q E0) s
section
variable {P : Program} {w : World} {K : PySem.W.Frag} {mg : Str → Option Value} {base : Heap}
theorem FnG.of {k : Nat} {f : Addr} {fd : FuncData} {ps : List Str} {sp : Sp} (F : FnOk P w K mg base CX0 k f fd ps sp) : FnG P w K mg base k f fd ps sp :=
  ⟨F.len, fun A outer s H args us vs Q _ hr e hb r h => F.run A outer s H args us vs Q E0 hr e hb r h⟩
theorem okG {x qual : Str} {st : Stmt} {f : Addr} {fd : FuncData} {N ps : List Str} {k : Nat} {sp : Sp} (F : Fun K x qual st f fd) (S : FnScope N ps (defScope st)) (many : ∀ vs H Q E, sp vs H Q E → vs.length = ps.length)
    (body : ∀ (cdv : Value) (A : Around) (outer : List Env) (s : Shared) (H : Hp) (vs : List V) (Q : VK), A.guards = some [] → Room k (A.deeper (envOfC qual (defScope st) s.heap.objs.size f cdv)) → sp vs H Q E0 →
      ∃ t, PSs (cxOf CX0 P w K mg base N qual (defScope st) f cdv A outer s H E0).nox (defBody st) t ∧ t { nx := fun _ H' => Q .non H', rt := Q } (start N vs) H) : FnG P w K mg base (k + 1) f fd ps sp := by
  obtain ⟨oc, od, kV, doc, pm, an, cdv, ct, osl, rfl, at_, code⟩ := F.ex
  refine ⟨many, fun A outer s H args us vs Q gd room e0 bind rel want => ?_⟩
  have kin : K.In s.heap := e0.mod.kin.keeps fun b o e => (e0.bs b o e).1
  have nolim : s.heap.NoLimit := e0.mod.nolimit.keeps fun b o e => (e0.bs b o e).1
  refine codeAny_call_function room.depth (kin _ _ at_) rfl S.co S.gen rfl (PySem.W.codeRec_of kin code) (bind _ _ _ _ (wpAny_newFunctionEnv_cells S.kind (fun y hy => ?_) fun env he s1 x => ?_))
  · obtain ⟨n, v⟩ := y
    exact (S.par n (List.of_mem_zip hy).1).imp id fun q => ⟨q, PySem.W.cellsFrom_some _ _ _ (.inl q)⟩
  · subst he
    obtain ⟨t, ht, hq⟩ := body cdv A outer s H vs Q gd (room.deeper _) want
    have I : Inv (cxOf CX0 P w K mg base N qual (defScope st) f cdv A outer s H E0) [] (start N vs) H s1 := inv_start S room.hd e0 (many _ _ _ _ want) rel x
    refine ⟨nolim.keeps x.toInCall.keep, codeAny_func (wpAny_mono (ht.nox.run [] s1 (start N vs) H _ I hq) (fun fl s' hs => ?_) fun _ _ z => z)⟩
    cases fl with
    | ret u =>
      obtain ⟨v, σ', H', J, rv, q⟩ := hs
      exact ⟨v, H', J.os, J.bare, J.base, J.hok, rv, q⟩
    | next =>
      obtain ⟨σ', H', J, q⟩ := hs
      exact ⟨V.non, H', J.os, J.bare, J.base, J.hok, rfl, q⟩
    | brk => obtain ⟨_, _, _, q⟩ := hs; exact q.elim
    | cont => obtain ⟨_, _, _, q⟩ := hs; exact q.elim
/-! calls -/
/-- a def that may be called by its name where no text is under way -/
def ClG (P : Program) (w : World) (K : PySem.W.Frag) (mg : Str → Option Value) (base : Heap) (k : Nat) (x : Str) (ds : List V) (sp : Sp) : Prop :=
  ∃ (f : Addr) (fd : FuncData) (ps : List Str) (dus : List Value), FnG P w K mg base k f fd ps sp ∧ mg x = some (.ref f) ∧ PySem.W.keepIn K (.ref f) = true ∧ Binds K fd ps dus ∧ Vals ds dus
theorem pe_clG {X : Cx} {k j : Nat} {x : Str} {ds : List V} {sp : Sp} {e : Expr} {es : List Expr} {t : TA} {p pos : Pos} (c : ClG X.prog X.w X.K X.mg X.base k x ds sp) (hr : Room j X.A) (gd : X.A.guards = some []) (hk : k ≤ j) (hg : Gl X x) (ha : PA X (e :: es) t)
    (hdb : (x == ("__debug__" : Str)) = false := by decide) (he : starEach (e :: es) X.env = (false, eval e X.env) :: starEach es X.env := by rfl) (hpl : (backTo pos (starEach es X.env)).any (·.1) = false := by rfl) :
    PE X (.Call (.Name x p) (e :: es) [] pos) (tCall sp ds E0 t) := by
  obtain ⟨f, fd, ps, dus, G, named, kept, binds, dv⟩ := c
  refine ⟨fun pins s σ H Q I h => wpAny_Call_Name_kw (ld_glob I hg named (PySem.W.callWith_K (h₀ := X.base) I.ok.mod.kin kept (thn (ha.run pos pins s σ H _ I h) fun us s1 hh => ?_) he hpl) hdb)⟩
  obtain ⟨vs, H1, I1, r, q⟩ := hh
  refine ⟨I1.kIn, ?_⟩
  have rel := r.append dv
  have n : (us ++ dus).length = ps.length := rel.length ▸ G.many _ _ _ _ q
  refine wpAny_call (codeAny_mono (G.does X.A X.stack s1 H1 ⟨us, []⟩ (us ++ dus) (vs ++ ds) Q gd (hr.mono hk) I1.env0 (binds s1 us I1.kIn n) rel q) fun res s' hq => ?_)
  rcases res with _ | fl
  case error => exact (show False from hq).elim
  cases fl <;> first | exact I1.after hq | exact (show False from hq).elim
/-! the law's own call -/
theorem law_callG {mb : Str → Option Value} {k : Nat} {fa a : Addr} {fd : FuncData} {x : Str} {sp : Sp} {s : Shared} {vs : List Value} {ns : List Int} (kin : K.In s.heap) (glob : s.heap.Ns mainGlobals mg) (blt : s.heap.Ns builtinsNs mb)
    (boot : ∀ y : Str, y ≠ "__name__" → mb y = bootBuiltins y) (lim : s.heap.NoLimit) (gens : s.gens = #[]) (obj : s.heap.get? a = some { cls := .type "list", data := .seq vs.toArray }) (whole : IntsAre vs ns) (small : ns.length ≤ sizeLine) (room : Room k callerA)
    (F : ∀ base : Heap, K.In base → base.Ns mainGlobals mg → FnG P w K mg base k fa fd [x] sp) (bind : ∀ (s : Shared) (u : Value), BindsTo s fd ⟨[u], []⟩ [(x, u)])
    (want : ∀ H : Hp, Only H → SqL K H a (ns.map V.int) → sp [.ref a] H (fun v _ => v = .bl true) E0) :
    codeAny (model P w) callerA (.call (.ref fa) ⟨[.ref a], []⟩) (fun r s' => r = .ok (.ret (.bool true)) ∧ OldK s.heap s'.heap ∧ s'.os = s.os ∧ AllBare s'.gens) s := by
  have rv := vals_ints whole
  have nv := whole.length
  -- which heap is told: the script, locked, where it isn't one of the written part
  obtain ⟨H, only, seq, fine, alone, apart⟩ : ∃ H : Hp, Only H ∧ SqL K H a (ns.map V.int) ∧ HOk P w H s.heap ∧ (∀ b u, H b = some u → b = a) ∧ (∀ u, H a = some u → K.lookup a = none) := by
    cases lk : K.lookup a with
    | some o =>
      have same := kin a o lk
      rw [obj] at same
      cases same
      exact ⟨fun _ => none, fun _ => .inl rfl, .inr ⟨_, vs.toArray, _, lk, rfl, rfl, rfl, by rw [List.size_toArray, nv]; exact small, by simpa using rv⟩, (fun b u z => nomatch (show (none : Option HO) = some u from z)), (fun b u z => nomatch (show (none : Option HO) = some u from z)), fun u z => nomatch (show (none : Option HO) = some u from z)⟩
    | none =>
      have hit : ∀ b u, (if b = a then some (HO.frz { cls := .type "list", data := .seq vs.toArray } (.lst (ns.map V.int))) else none) = some u → b = a ∧ u = .frz { cls := .type "list", data := .seq vs.toArray } (.lst (ns.map V.int)) := fun b u z => by
        split at z
        · cases z; exact ⟨‹_›, rfl⟩
        · cases z
      refine ⟨fun b => if b = a then some (.frz { cls := .type "list", data := .seq vs.toArray } (.lst (ns.map V.int))) else none, fun b => ?_, .inl (.inr ⟨_, if_pos rfl⟩), fun b u z => ?_, fun b u z => (hit b u z).1, fun _ _ => rfl⟩
      · by_cases hb : b = a
        · exact .inr ⟨_, _, if_pos hb⟩
        · exact .inl (if_neg hb)
      · obtain ⟨rfl, rfl⟩ := hit b u z
        exact ⟨obj, by rw [List.length_map]; exact small, vs, _, rv, obj⟩
  have hid : ∀ {b : Addr} {o : Obj}, s.heap.get? b = some o → (b = a → H a = none) → (hidT s.heap H).get? b = some o := fun {b o} e n => hidT_get e (by
    cases q : H b with
    | none => rfl
    | some u =>
      have e2 := alone b u q
      subst e2
      rw [n rfl] at q
      cases q)
  have kinB : K.In (hidT s.heap H) := fun b o e => hid (kin b o e) fun z => by
    subst z
    cases q : H b with
    | none => rfl
    | some u => rw [apart u q] at e; cases e
  have ns_ : ∀ {b : Addr} {m : Str → Option Value}, s.heap.Ns b m → (hidT s.heap H).Ns b m := fun {b m} h => by
    obtain ⟨o, es, ep, e, d, r⟩ := h
    refine ⟨o, es, ep, hid e fun z => ?_, d, r⟩
    subst z
    rw [obj] at e
    cases e
    exact nomatch (show Data.seq vs.toArray _ = Data.dict es ep from d)
  have md : Mod K mg (hidT s.heap H) := ⟨kinB, ns_ glob, ⟨mb, ns_ blt, boot⟩, by obtain ⟨mc, h1, h2⟩ := lim; exact ⟨mc, ns_ h1, h2⟩⟩
  have e0 : Env0 P w K mg (hidT s.heap H) callerA [] s H := ⟨rfl, md, fun b o e => of_hidT e, Nat.le_of_eq (hidT_size _ _), trivial, (fun b hb => nomatch (show b ∈ ([] : List Addr) from hb)), fine, .of_eq gens⟩
  refine codeAny_mono ((F _ kinB (ns_ glob)).does callerA [] s H ⟨[.ref a], []⟩ [.ref a] [.ref a] _ rfl room e0 (bind s (.ref a)) (.cons rfl .nil) (want H only seq)) fun res s' h => ?_
  rcases res with _ | fl
  case error => exact (show False from h).elim
  cases fl <;> first | exact (show False from h).elim | skip
  obtain ⟨v, H', os, bare, un, fine', rel, q⟩ := h
  cases (show v = .bl true from q)
  cases (show _ = Value.bool true from rel)
  refine ⟨rfl, OldK.of_keep fun b o e => ?_, os, bare⟩
  cases q : H b with
  | none => exact un.keep b o e q (fun z => nomatch (show b ∈ ([] : List Addr) from z)) (fun z => nomatch z)
  | some u =>
    rcases only b with z | ⟨ob, xs, z⟩
    · rw [q] at z; cases z
    · obtain ⟨e1, _⟩ := fine b _ z
      obtain ⟨e2, _⟩ := fine' b _ (un.frzs b ob _ z)
      rw [e] at e1; cases e1
      exact e2
end
theorem walkG {l : PySem.W.OpenLaw} {n k : Nat} {q : Program} {loose : List Str} {XP : (Str → Option Value) → Heap → Prop} {YP : World → Heap → Prop} {d : DefRec} {K : Params → PySem.W.Frag} {sp : World → Sp} {x : Str}
    (most : l.most = some n) (fits : n ≤ sizeLine) (plain : d.params.defaults = []) (room : Room k callerA) (part : ∀ (w : World) (h : Heap), YP w h → (K w.params).In h)
    (F : ∀ (w : World) (mg : Str → Option Value) (fa : Addr) (h : Heap), (K w.params).In h → h.Ns mainGlobals mg → mg d.name = some (.ref fa) →
      ∃ fd : FuncData, (∀ (s : Shared) (u : Value), BindsTo s fd ⟨[u], []⟩ [(x, u)]) ∧ ∀ base : Heap, (K w.params).In base → base.Ns mainGlobals mg → FnG l.prog w (K w.params) mg base k fa fd [x] (sp w))
    (want : ∀ (w : World) (H : Hp) (a : Addr) (ns : List Int), ns.length ≤ n → Only H → SqL (K w.params) H a (ns.map V.int) → sp w [.ref a] H (fun v _ => v = .bl true) E0) :
    PySem.W.WalkO q loose XP YP l.row.toRowW d [] (fun f vs => PySem.call f vs) := by
  refine Att.attach_call most plain fun w s₀ s₁ mg mb fa o pm cd doc a vs ns G Y _ _ _ named obj whole len gens => ?_
  obtain ⟨fd, bind, hF⟩ := F w mg fa _ (part w _ Y) G.T.g named
  exact law_callG (part w _ Y) G.T.g G.T.b G.T.builtins G.T.nolimit gens obj whole (Nat.le_trans len fits) room hF bind fun H only seq => want w H a ns len only seq
end Pot

namespace Pot
open PySem PySem.Spec PyProof.Rows L2
/-! ### repr of what is made of numbers, texts, truths, None, lists and tuples -/
section
variable {K : PySem.W.Frag}
mutual
theorem dp_noDict {H : Hp} : ∀ {v : V} {d : PyData}, Dp K H v d → d.hasDict = false
  | _, _, .non => rfl
  | _, _, .bl _ => rfl
  | _, _, .int _ => rfl
  | _, _, .str _ => rfl
  | _, _, .lst _ a => dpAll_noDict a
  | _, _, .tup _ a => dpAll_noDict a
theorem dpAll_noDict {H : Hp} : ∀ {vs : List V} {ds : List PyData}, DpAll K H vs ds → PyData.hasDictAll ds = false
  | _, _, .nil => rfl
  | _, _, .cons h t => by
    show (PyData.hasDict _ || PyData.hasDictAll _) = false
    rw [dp_noDict h, dpAll_noDict t]
    rfl
end
/-- how long its text may be, told roughly -/
def costAll : List PyData → Nat
  | [] => 0
  | x :: xs => cost x + 2 + costAll xs
where cost : PyData → Nat
  | .none => 4
  | .bool _ => 5
  | .int _ => 1921
  | .str x => 10 * x.length + 2
  | .list xs => costAll xs + 3
  | .tuple xs => costAll xs + 3
  | .dict _ => 0
/-- what repr is asked of here: its texts of plain signs -/
def fineAll : List PyData → Prop
  | [] => True
  | x :: xs => fine x ∧ fineAll xs
where fine : PyData → Prop
  | .none => True
  | .bool _ => True
  | .int i => i.natAbs.log2 < 1920
  | .str x => ∀ c ∈ x.cps.toList, c < 16 ^ 8
  | .list xs => fineAll xs
  | .tuple xs => fineAll xs
  | .dict _ => False
theorem from_len : ∀ (ts : List Str) (k : Nat) (acc : Str), (textFrom k acc ts).length ≤ acc.length + piled ts
  | [], k, acc => by rw [piled_nil]; exact Nat.le_refl _
  | t :: r, k, acc => by
    have ih := from_len r (k + 1)
    rw [piled_cons]
    unfold textFrom
    refine Nat.le_trans (ih _) ?_
    rw [strLen_append]
    split
    · rw [strLen_append]
      have e : (", " : Str).length = 2 := by decide +kernel
      omega
    · rw [strLen_append]
      have e : ("" : Str).length = 0 := by decide +kernel
      omega
theorem list_len (ts : List Str) : (listText ts).length ≤ piled ts + 2 := by
  unfold listText
  rw [strLen_append]
  have h := from_len ts 0 "["
  have e1 : ("[" : Str).length = 1 := by decide +kernel
  have e2 : ("]" : Str).length = 1 := by decide +kernel
  omega
mutual
theorem shown_len : ∀ d : PyData, fineAll.fine d → d.shown.length ≤ costAll.cost d
  | .none, _ => by decide +kernel
  | .bool b, _ => by cases b <;> decide +kernel
  | .int i, h => PyProof.Rows.int_text_len_1921 h
  | .str x, h => StrLaws.reprText_len x h
  | .list xs, h => Nat.le_trans (list_len _) (Nat.add_le_add (piled_len xs h) (by decide))
  | .tuple xs, h => Nat.le_trans (fmt_text _) (Nat.add_le_add (piled_len xs h) (by decide))
  | .dict _, h => h.elim
theorem piled_len : ∀ ds : List PyData, fineAll ds → piled (PyData.shownAll ds) ≤ costAll ds
  | [], _ => Nat.le_refl _
  | x :: xs, h => by
    have h1 := shown_len x h.1
    have h2 := piled_len xs h.2
    show piled (x.shown :: PyData.shownAll xs) ≤ costAll.cost x + 2 + costAll xs
    rw [piled_cons]
    omega
end
mutual
theorem fine_show : ∀ d : PyData, fineAll.fine d → d.showable = true
  | .none, _ => rfl
  | .bool _, _ => rfl
  | .int i, h => decide_eq_true h
  | .str _, _ => rfl
  | .list xs, h => fineAll_show xs h
  | .tuple xs, h => fineAll_show xs h
  | .dict _, h => h.elim
theorem fineAll_show : ∀ ds : List PyData, fineAll ds → PyData.showableAll ds = true
  | [], _ => rfl
  | x :: xs, h => by
    show (PyData.showable x && PyData.showableAll xs) = true
    rw [fine_show x h.1, fineAll_show xs h.2]
    rfl
end
end
section
variable {X : Cx}
def rRepr (K : PySem.W.Frag) : List V → Hp → VK → Prop := fun xs H Q => ∃ (a : Addr) (d : PyData), xs = [V.ref a] ∧ Dp K H (.ref a) d ∧ fineAll.fine d ∧ d.depth ≤ 60 ∧ costAll.cost d ≤ 16777216 ∧ Q (.str d.shown) H
theorem cr_repr (gd : X.A.guards = some []) (hu : X.A.units + 64 < cLine) : CallR X (.builtin "repr") (rRepr X.K) := by
  intro pins s σ H vs us Q I r h
  obtain ⟨a, d, rfl, dp, sh, dep, sz, q⟩ := h
  rw [Vals.ref1 r]
  obtain ⟨as, rd⟩ := Dp.reads I d (.ref a) (.ref a) dp rfl
  refine repr_of_reads' rd (fine_show d sh) (fun z => ?_) gd (by omega) (fun _ _ e => e) (fun h' u tk k => ⟨.str d.shown, H, I.kept k, ⟨u, rfl⟩, q⟩) (Nat.le_trans (shown_len d sh) (by rw [sizeLine_eq]; exact sz))
  rw [dp_noDict dp] at z
  cases z
end
end Pot

/-! The rules whose readings name the written part, with it as a letter of its own. -/
namespace Pot
open PySem PySem.Spec PyProof.Rows L2
section
variable {X : Cx} {K : PySem.W.Frag}
theorem kx_list (h : X.K = K := by rfl) : IxR X (rIxL K) := h ▸ ix_list
theorem kx_tup (h : X.K = K := by rfl) : IxR X (rIxT K) := h ▸ ix_tup
theorem kl_list (h : X.K = K := by rfl) : SlR X (rSlL K) := h ▸ sl_list
theorem kl_tup (h : X.K = K := by rfl) : SlR X (rSlA K) := h ▸ sl_tupA
theorem ko_in (h : X.K = K := by rfl) : OpR X (compareOp .In) (rIn K false) := h ▸ op_in_seq
theorem ko_eq (hu : X.A.units + 64 < cLine) (h : X.K = K := by rfl) : OpR X (compareOp .Eq) (rEqD K) := h ▸ op_eqD hu
theorem ko_ne (hu : X.A.units + 64 < cLine) (h : X.K = K := by rfl) : OpR X (compareOp .NotEq) (rNeD K) := h ▸ op_neD hu
def rLen (K : PySem.W.Frag) : List V → Hp → VK → Prop := fun xs H Q => ∃ x n, xs = [x] ∧ LenV K x H n ∧ Q (.int n) H
theorem kc_len (h : X.K = K := by rfl) : CallR X (.builtin "len") (rLen K) := by subst h; exact call_len
def rListOf (K : PySem.W.Frag) : List V → Hp → VK → Prop := fun xs H Q => ∃ p ys, xs = [.ref p] ∧ (SqL K H p ys ∨ SqT K H p ys) ∧ ∀ l, H l = none → Q (.ref l) (upd H l (.lst ys))
theorem kc_list (h : X.K = K := by rfl) : CallR X (.type "list") (rListOf K) := by subst h; exact call_list_of
def rTupleOf (K : PySem.W.Frag) : List V → Hp → VK → Prop := fun xs H Q => ∃ p ys, xs = [.ref p] ∧ ((SqL K H p ys ∧ ∀ l, H l = none → Q (.ref l) (upd H l (.tup ys))) ∨ (SqT K H p ys ∧ Q (.ref p) H))
theorem kc_tuple (h : X.K = K := by rfl) : CallR X (.type "tuple") (rTupleOf K) := by subst h; exact call_tuple_of
theorem kc_sum (hc : X.calm = true := by rfl) (h : X.K = K := by rfl) : CallR X (.builtin "sum") (rSum K) := h ▸ cr_sum hc
theorem kc_all (hc : X.calm = true := by rfl) (h : X.K = K := by rfl) : CallR X (.builtin "all") (rAll K) := h ▸ cr_all hc
theorem kc_any (hc : X.calm = true := by rfl) (h : X.K = K := by rfl) : CallR X (.builtin "any") (rAny K) := h ▸ cr_any hc
theorem kc_sorted (h : X.K = K := by rfl) : CallR X (.builtin "sorted") (rSorted K) := h ▸ cr_sorted
theorem kc_sortedS (h : X.K = K := by rfl) : CallR X (.builtin "sorted") (rSortedS K) := h ▸ cr_sortedS
theorem kc_isi (h : X.K = K := by rfl) : CallR X (.builtin "isinstance") (rIsi K) := h ▸ call_isi
theorem kc_isiT (h : X.K = K := by rfl) : CallR X (.builtin "isinstance") (rIsiT K) := h ▸ call_isiT
theorem kc_repr (gd : X.A.guards = some []) (hu : X.A.units + 64 < cLine) (h : X.K = K := by rfl) : CallR X (.builtin "repr") (rRepr K) := h ▸ cr_repr gd hu
theorem kc_setLi {w : World} (hc : X.calm = true := by rfl) (h : X.K = K := by rfl) (hw : X.w = w := by rfl) : CallR X (.type "set") (rSetLi K w) := by subst h; subst hw; exact cr_setLi hc
theorem kc_sortedSet {w : World} (hc : X.calm = true := by rfl) (hw : X.w = w := by rfl) : CallR X (.builtin "sorted") (rSortedSet w) := hw ▸ cr_sortedSet hc
theorem ki_list {tg l : Expr} {tl : TE} (hl : PE X l tl) (h : X.K = K := by rfl) : PI X tg l (iList K tl) := h ▸ pi_list hl
theorem ki_tup {tg l : Expr} {tl : TE} (hl : PE X l tl) (h : X.K = K := by rfl) : PI X tg l (iTup K tl) := h ▸ pi_tup hl
theorem ki_zip {e e2 : Expr} {ta : TA} {p pos tpos : Pos} {elts : List Expr} {kk : Nat} (hg : Gl X "zip") (hm : X.mg "zip" = none) (ha : PA X [e, e2] ta) (hs : starEach [e, e2] X.env = (false, eval e X.env) :: starEach [e2] X.env := by rfl)
    (hpl : (backTo pos (starEach [e2] X.env)).any (·.1) = false := by rfl) (h : X.K = K := by rfl) : PI X (.Tuple elts kk tpos) (.Call (.Name "zip" p) [e, e2] [] pos) (RZ.iZipA K ta) := h ▸ RZ.pi_zipA hg hm ha hs hpl
theorem ki_enum {e : Expr} {ta : TA} {p pos tpos : Pos} {elts : List Expr} {kk : Nat} (hg : Gl X "enumerate") (hm : X.mg "enumerate" = none) (ha : PA X [e] ta) (hs : starEach [e] X.env = [(false, eval e X.env)] := by rfl) (h : X.K = K := by rfl)
    : PI X (.Tuple elts kk tpos) (.Call (.Name "enumerate" p) [e] [] pos) (iEnum K ta) := h ▸ pi_enum hg hm ha hs
theorem kg_tup {pos : Pos} {es : List Expr} {k : Nat} {t : TGs} {n : Nat} (h : PGs X es t) (hc : X.calm = true := by rfl) (hn : (assignEach es X.env).length = n := by rfl) (hst : (assignEach es X.env).findIdx? (·.1) = none := by rfl) (hk : X.K = K := by rfl) : PG X (.Tuple es k pos) (gTup K n t) := hk ▸ pg_tup hc h hn hst
def tTru (K : PySem.W.Frag) (ta : TE) : TT := fun σ H Q => ta σ H fun x H' => ∃ k, TruV K x H' k ∧ Q k H'
theorem kt_truth {a : Expr} {ta : TE} (ha : PE X a ta) (he : ∀ whole, isTrue a X.env whole = (do let v ← whole; standAt a.pos; holding [v] (truthy v)) := by intro _; rfl) (h : X.K = K := by rfl) : PT X a (tTru K ta) := by subst h; exact pt_truth ha he
def rJoin (K : PySem.W.Frag) : V → List V → Hp → VK → Prop := fun x xs H Q => ∃ a p, ∃ ys : List Str, x = .str a ∧ xs = [.ref p] ∧ (SqL K H p (ys.map V.str) ∨ SqT K H p (ys.map V.str)) ∧ (ys.map (·.length)).sum + ys.length * a.length ≤ 16777216 ∧ Q (.str (Txt.join a ys)) H
theorem ke_join {o e : Expr} {to te : TE} {apos pos : Pos} (ho : PE X o to) (he : PE X e te) (hs : starEach [e] X.env = [(false, eval e X.env)] := by rfl) (hbase : attributeBase o "join" X.env (eval o X.env) = eval o X.env := by rfl) (hline : (apos.endLine == pos.line) = true := by rfl) (h : X.K = K := by rfl) :
    PE X (.Call (.Attribute o "join" apos) [e] [] pos) (tM1 (rJoin K) to te) := by subst h; exact pe_join ho he hs hbase hline
theorem pss_never {st : List Stmt} : PSs X st (fun _ _ _ => False) := ⟨fun _ _ _ _ _ _ h => h.elim⟩
theorem ps_never {st : Stmt} : PS X st (fun _ _ _ => False) := ⟨fun _ _ _ _ _ _ h => h.elim⟩
theorem pe_never {e : Expr} : PE X e (fun _ _ _ => False) := ⟨fun _ _ _ _ _ _ h => h.elim⟩
theorem tYes_at {σ : L2.St} {H : Hp} {Q : Bool → Hp → Prop} (h : Q true H) : tYes σ H Q := h
end
end Pot

namespace Pot
open PySem PySem.Spec PyProof.Rows L2
theorem nodup_le {α : Type} [BEq α] [LawfulBEq α] : ∀ {ks l : List α}, ks.Nodup → (∀ k ∈ ks, k ∈ l) → ks.length ≤ l.length
  | [], _, _, _ => Nat.zero_le _
  | k :: ks, l, h, s => by
    have hk := s k List.mem_cons_self
    have h2 := (List.nodup_cons.mp h)
    have := nodup_le (ks := ks) (l := l.erase k) h2.2 fun x hx => by
      have ne : x ≠ k := fun e => h2.1 (e ▸ hx)
      exact (List.mem_erase_of_ne ne).mpr (s x (List.mem_cons_of_mem _ hx))
    rw [List.length_erase_of_mem hk] at this
    have : 0 < l.length := List.length_pos_of_mem hk
    simp only [List.length_cons]
    omega
section
variable {X : Cx} {K : PySem.W.Frag}
theorem ko_notIn (h : X.K = K := by rfl) : OpR X (compareOp .NotIn) (rIn K true) := h ▸ op_notIn_seq
/-- set(xs) of ints: how many members it has -/
def rSetLj (K : PySem.W.Frag) (w : World) : List V → Hp → VK → Prop := fun xs H Q => ∃ (a : Addr) (ns : List Int), xs = [V.ref a] ∧ SqL K H a (ns.map V.int) ∧ ns.length ≤ 4000 ∧
  ∀ (p : Addr) (ks : List Int), H p = none → ks.Nodup → (∀ k, k ∈ ks ↔ k ∈ ns) → Q (.ref p) (upd H p (SetO w p (fun k => decide (k ∈ ns)) ks.length))
theorem cr_setLj (hc : X.calm = true) : CallR X (.type "set") (rSetLj X.K X.w) := by
  intro pins s σ H vs us Q I r h
  obtain ⟨a, ns, rfl, hS, hl, q⟩ := h
  rw [Vals.ref1 r]
  obtain ⟨its, rv, pl, hz⟩ := I.list hS
  refine call_set_li ns (I.ok.hd hc) pl.isList (by simpa using Vals.ints rv) (by unfold scanBound; omega) fun s' f => ?_
  obtain ⟨h', tk, c, rfl, R, hcn, k⟩ := f
  have hn : H s.heap.objs.size = none := I.hok.fresh (Nat.le_refl _)
  have J : Inv X pins σ (upd H s.heap.objs.size (SetO X.w s.heap.objs.size (fun k => decide (k ∈ ns)) c)) { s with heap := h', toks := tk } := I.laid (t' := tk) k (Nat.le_refl _) (setO_new R)
  obtain ⟨o, es, ep, t, _, _, _, _, nod, mem, _, _, size, _⟩ := R
  have q2 := q s.heap.objs.size (es.toList.map keyOf) hn nod fun k => by rw [← mem k, decide_eq_true_eq]
  rw [List.length_map, Array.length_toList, size] at q2
  exact ⟨.ref s.heap.objs.size, _, J, rfl, q2⟩
theorem kc_setLj {w : World} (hc : X.calm = true := by rfl) (h : X.K = K := by rfl) (hw : X.w = w := by rfl) : CallR X (.type "set") (rSetLj K w) := by subst h; subst hw; exact cr_setLj hc
end
end Pot

namespace Pot
open PySem PySem.Spec PyProof.Rows L2
section
variable {X : Cx} {K : PySem.W.Frag}
/-- len of a set of ints -/
def rLenSet (w : World) : List V → Hp → VK → Prop := fun xs H Q => ∃ (a : Addr) (S : Int → Bool) (n : Nat), xs = [V.ref a] ∧ H a = some (SetO w a S n) ∧ Q (.int n) H
theorem cr_lenSet : CallR X (.builtin "len") (rLenSet X.w) := by
  intro pins s σ H vs us Q I r h
  obtain ⟨a, S, n, rfl, ha, q⟩ := h
  rw [Vals.ref1 r]
  obtain ⟨o, es, ep, t, ho, hex, hd, _, _, _, hb, hf, rfl, _⟩ := setO_get I ha
  exact PySem.call_len_set ho hex hd hf (by unfold scanBound at hb; omega) ⟨.int _, H, I.tok _, ⟨_, rfl⟩, q⟩
theorem kc_lenSet {w : World} (hw : X.w = w := by rfl) : CallR X (.builtin "len") (rLenSet w) := by subst hw; exact cr_lenSet
/-- repr of any data -/
def rReprA (K : PySem.W.Frag) : List V → Hp → VK → Prop := fun xs H Q => ∃ (x : V) (d : PyData), xs = [x] ∧ Dp K H x d ∧ fineAll.fine d ∧ d.depth ≤ 60 ∧ costAll.cost d ≤ 16777216 ∧ Q (.str d.shown) H
theorem cr_reprA (gd : X.A.guards = some []) (hu : X.A.units + 64 < cLine) : CallR X (.builtin "repr") (rReprA X.K) := by
  intro pins s σ H vs us Q I r h
  obtain ⟨x, d, rfl, dp, sh, dep, sz, q⟩ := h
  obtain ⟨u, rfl, rx⟩ := vals1 r
  have sz2 := Nat.le_trans (shown_len d sh) (by rw [sizeLine_eq]; exact sz : costAll.cost d ≤ sizeLine)
  cases x with
  | ref a =>
    cases rx
    obtain ⟨as, rd⟩ := Dp.reads I d (.ref a) (.ref a) dp rfl
    refine repr_of_reads' rd (fine_show d sh) (fun z => ?_) gd (by omega) (fun _ _ e => e) (fun h' u tk k => ⟨.str d.shown, H, I.kept k, ⟨u, rfl⟩, q⟩) sz2
    rw [dp_noDict dp] at z
    cases z
  | int i =>
    cases dp
    obtain ⟨t, rfl⟩ := rx
    exact PySem.P.repr_of_int sh ⟨.str _, H, I.tok _, ⟨_, rfl⟩, q⟩
  | str z =>
    cases dp
    obtain ⟨t, rfl⟩ := rx
    exact PySem.P.repr_of_str ⟨.str _, H, I.tok _, ⟨_, rfl⟩, q⟩ sz2
  | bl b =>
    cases dp
    cases rx
    refine PySem.P.repr_of_bool ⟨.str _, H, I.tok _, ⟨_, rfl⟩, ?_⟩
    exact q
  | non =>
    cases dp
    cases rx
    exact PySem.P.repr_of_none ⟨.str _, H, I.tok _, ⟨_, rfl⟩, q⟩
  | _ => cases dp
theorem kc_reprA (gd : X.A.guards = some []) (hu : X.A.units + 64 < cLine) (h : X.K = K := by rfl) : CallR X (.builtin "repr") (rReprA K) := h ▸ cr_reprA gd hu
end
theorem short_of {α : Type} [DecidableEq α] : ∀ {ns : List α}, ¬ ns.Nodup → ∃ ns' : List α, ns'.length < ns.length ∧ ∀ k ∈ ns, k ∈ ns'
  | [], h => (h List.nodup_nil).elim
  | x :: ns, h => by
    by_cases hx : x ∈ ns
    · exact ⟨ns, by simp, fun k hk => by
        rcases List.mem_cons.mp hk with e | e
        · rw [e]; exact hx
        · exact e⟩
    · obtain ⟨ns', l, s⟩ := short_of (ns := ns) fun hn => h (List.nodup_cons.mpr ⟨hx, hn⟩)
      exact ⟨x :: ns', by simp only [List.length_cons]; omega, fun k hk => by
        rcases List.mem_cons.mp hk with e | e
        · rw [e]; exact List.mem_cons_self
        · exact List.mem_cons_of_mem _ (s k e)⟩
theorem set_count {ks ns : List Int} (hk : ks.Nodup) (h : ∀ k, k ∈ ks ↔ k ∈ ns) : ks.length ≤ ns.length ∧ (ks.length = ns.length ↔ ns.Nodup) := by
  have le := nodup_le hk fun k x => (h k).mp x
  refine ⟨le, fun e => ?_, fun hn => Nat.le_antisymm le (nodup_le hn fun k x => (h k).mpr x)⟩
  by_cases hn : ns.Nodup
  · exact hn
  · obtain ⟨ns', l, s⟩ := short_of hn
    have := nodup_le hk fun k x => s k ((h k).mp x)
    omega
end Pot

namespace Pot
open PySem PySem.Spec PyProof.Rows L2
/-- built-in names that the module gives no other meaning -/
structure Txt (mg : Str → Option Value) : Prop where
  len : mg "len" = none
  divmod : mg "divmod" = none
  range : mg "range" = none
  sum : mg "sum" = none
  all : mg "all" = none
  any : mg "any" = none
  isinstance : mg "isinstance" = none
  str : mg "str" = none
  int : mg "int" = none
  list : mg "list" = none
  tuple : mg "tuple" = none
  bool : mg "bool" = none
  zip : mg "zip" = none
  set : mg "set" = none
  sorted : mg "sorted" = none
  enumerate : mg "enumerate" = none
  repr : mg "repr" = none
  min : mg "min" = none
  max : mg "max" = none
  abs : mg "abs" = none
/-- a def that may be called by its name: what it keeps, at which level -/
def Cl (P : Program) (w : World) (K : PySem.W.Frag) (mg : Str → Option Value) (base : Heap) (k : Nat) (x : Str) (sp : Sp) : Prop :=
  ∃ (f : Addr) (fd : FuncData) (ps : List Str), FnOk P w K mg base CX0 k f fd ps sp ∧ mg x = some (.ref f) ∧ PySem.W.keepIn K (.ref f) = true ∧ Binds K fd ps []
theorem pe_cl {X : Cx} {k j : Nat} {x : Str} {sp : Sp} {e : Expr} {es : List Expr} {t : TA} {p pos : Pos} (c : Cl X.prog X.w X.K X.mg X.base k x sp) (hr : Room j X.A) (hk : k ≤ j) (hg : Gl X x) (ha : PA X (e :: es) t) (hdb : (x == ("__debug__" : Str)) = false := by decide)
    (he : starEach (e :: es) X.env = (false, eval e X.env) :: starEach es X.env := by rfl) (hpl : (backTo pos (starEach es X.env)).any (·.1) = false := by rfl) : PE X (.Call (.Name x p) (e :: es) [] pos) (tCall sp [] E0 t) := by
  obtain ⟨f, fd, ps, G, hm, kp, b⟩ := c
  exact pe_call G (hr.mono hk) hg hm kp b .nil pass0 ha hdb he hpl
/-! ### the drawing state -/
def dS (c : Addr) (t : Int) : List (Key × V) := [(Sum.inr "cells", .ref c), (Sum.inr "turn", .int t)]
/-- at d stands a state of the law: its cells at c, its turn at most n -/
def StAt (H : Hp) (d c : Addr) (n : Nat) : Prop := d ≠ c ∧ ∃ (xs : List Int) (t : Int),
  H d = some (.dK (dS c t)) ∧ H c = some (.lst (xs.map V.int)) ∧ xs ≠ [] ∧ xs.length ≤ 63 ∧ 0 ≤ t ∧ t ≤ n
/-- all that was tracked stands, but d and c -/
def Kp (d c : Addr) (H H' : Hp) : Prop := ∀ b o, b ≠ d → b ≠ c → H b = some o → H' b = some o
theorem Kp.refl (d c : Addr) (H : Hp) : Kp d c H H := fun _ _ _ _ e => e
theorem Kp.trans {d c : Addr} {H H1 H2 : Hp} (a : Kp d c H H1) (b : Kp d c H1 H2) : Kp d c H H2 := fun x o h1 h2 e => b x o h1 h2 (a x o h1 h2 e)
theorem Kp.of {d c : Addr} {H H' : Hp} (s : Same H H') : Kp d c H H' := fun x o _ _ e => s x o e
theorem same_upd {H : Hp} {p : Addr} {o : HO} (h : H p = none) : Same H (upd H p o) := fun b x e => by
  rw [upd_ne (ne_of_none e h)]
  exact e
theorem same_put {H H' : Hp} {p : Addr} {o : HO} (s : Same H H') (h : H p = none) : Same H (upd H' p o) := fun b x e => by
  rw [upd_ne (ne_of_none e h)]
  exact s b x e
theorem kp_put {d c : Addr} {H H' : Hp} {p : Addr} {o : HO} (s : Kp d c H H') (h : H p = none) : Kp d c H (upd H' p o) := fun b x h1 h2 e => by
  rw [upd_ne (ne_of_none e h)]
  exact s b x h1 h2 e
theorem StAt.mono {H : Hp} {d c : Addr} {n m : Nat} (h : StAt H d c n) (k : n ≤ m) : StAt H d c m := by
  obtain ⟨h0, xs, t, h1, h2, h3, h4, h5, h6⟩ := h
  exact ⟨h0, xs, t, h1, h2, h3, h4, h5, by omega⟩
theorem StAt.same {H H' : Hp} {d c : Addr} {n : Nat} (h : StAt H d c n) (s : Same H H') : StAt H' d c n := by
  obtain ⟨h0, xs, t, h1, h2, h3, h4, h5, h6⟩ := h
  exact ⟨h0, xs, t, s _ _ h1, s _ _ h2, h3, h4, h5, h6⟩
theorem Kp.free {d c : Addr} {H H' : Hp} {n : Nat} {l : Addr} (k : Kp d c H H') (s : StAt H' d c n) (h : H' l = none) : H l = none := by
  obtain ⟨_, xs, t, h1, h2, _⟩ := s
  have n1 : l ≠ d := (ne_of_none h1 h).symm
  have n2 : l ≠ c := (ne_of_none h2 h).symm
  cases e : H l with
  | none => rfl
  | some o =>
    rw [k l o n1 n2 e] at h
    cases h
theorem StAt.ne1 {H : Hp} {d c : Addr} {n : Nat} {l : Addr} (s : StAt H d c n) (h : H l = none) : d ≠ l := by
  obtain ⟨_, xs, t, h1, h2, _⟩ := s
  exact ne_of_none h1 h
theorem StAt.ne2 {H : Hp} {d c : Addr} {n : Nat} {l : Addr} (s : StAt H d c n) (h : H l = none) : c ≠ l := by
  obtain ⟨_, xs, t, h1, h2, _⟩ := s
  exact ne_of_none h2 h
theorem StAt.put {H : Hp} {d c : Addr} {n : Nat} {l : Addr} {o : HO} (s : StAt H d c n) (n1 : d ≠ l) (n2 : c ≠ l) : StAt (upd H l o) d c n := by
  obtain ⟨h0, xs, t, h1, h2, h3, h4, h5, h6⟩ := s
  exact ⟨h0, xs, t, by rw [upd_ne n1]; exact h1, by rw [upd_ne n2]; exact h2, h3, h4, h5, h6⟩
theorem val_turn (c : Addr) (t : Int) : valV (dS c t) (Sum.inr "turn") = some (.int t) := by
  have e : ¬ ((Sum.inr (Str.ofString "cells") : Key) = Sum.inr (Str.ofString "turn")) := by decide +kernel
  unfold dS; rw [valV_neg e, valV_pos rfl]
theorem val_cells (c : Addr) (t : Int) : valV (dS c t) (Sum.inr "cells") = some (.ref c) := by
  unfold dS; rw [valV_pos rfl]
theorem put_turn (c : Addr) (t u : Int) : putK (dS c t) (Sum.inr "turn") (.int u) = dS c u := by
  have e : ¬ ((Sum.inr (Str.ofString "cells") : Key) = Sum.inr (Str.ofString "turn")) := by decide +kernel
  unfold putK dS
  simp [e]

theorem dget_turn {H : Hp} {d c : Addr} {t : Int} (h : H d = some (.dK (dS c t))) : DGet H d (.str "turn") (some (.int t)) := by
  rw [← val_turn c t]; exact DGet.k (k := Sum.inr "turn") h
theorem dget_cells {H : Hp} {d c : Addr} {t : Int} (h : H d = some (.dK (dS c t))) : DGet H d (.str "cells") (some (.ref c)) := by
  rw [← val_cells c t]; exact DGet.k (k := Sum.inr "cells") h
theorem dput_turn {H : Hp} {d c : Addr} {t : Int} (u : Int) (h : H d = some (.dK (dS c t))) : DPut H d (.str "turn") (.int u) (upd H d (.dK (dS c u))) := by
  rw [← put_turn c t u]; exact DPut.k (k := Sum.inr "turn") h (by show 2 < sizeLine; decide)
theorem ge18 (x : Int) : (decide ((10 : Int) ^ (18 : Int).toNat ≤ x) = true) ↔ 1000000000000000000 ≤ x := by
  have e : (10 : Int) ^ (18 : Int).toNat = 1000000000000000000 := by decide
  rw [e, decide_eq_true_eq]
theorem cmul_mod (a b : Int) {m : Int} (h0 : 0 < m) (h1 : m < 2 ^ 64) : CMul (a % m) b := by
  have p := Int.emod_nonneg a (show m ≠ 0 by omega)
  have q := Int.emod_lt_of_pos a h0
  exact .inl ⟨by omega, by omega⟩
theorem mod_at {xs : List Int} {u : Int} (hx : xs ≠ []) : ∃ (j : Nat) (y : Int), u % ((xs.map V.int).length : Int) = (j : Int) ∧ j < xs.length ∧ xs[j]? = some y := by
  have h0 : 0 < xs.length := List.length_pos_iff.mpr hx
  rw [List.length_map]
  have a := Int.emod_nonneg u (show (xs.length : Int) ≠ 0 by omega)
  have b := Int.emod_lt_of_pos u (show (0 : Int) < (xs.length : Int) by omega)
  refine ⟨(u % (xs.length : Int)).toNat, xs[(u % (xs.length : Int)).toNat]'(by omega), by omega, by omega, ?_⟩
  exact List.getElem?_eq_getElem _

section
variable {K : PySem.W.Frag}
theorem cut63 {xs : List V} (h : xs.length ≤ 63) : cutV xs none (some 63) = xs := by
  unfold cutV
  rw [HT.sIx_none, show HT.sIx xs.length xs.length (some 63) = min 63 xs.length from HT.sIx_nat xs.length xs.length 63, Nat.min_eq_right h]
  simp
theorem dp_ints {H : Hp} (ns : List Int) : DpAll K H (ns.map V.int) (ns.map PyData.int) := by
  induction ns with
  | nil => exact .nil
  | cons n r ih => exact .cons (.int n) ih
theorem same_tup {H H' : Hp} {a : Addr} {xs : List V} (e : Same H H') (h : SqT K H a xs) : SqT K H' a xs := by
  rcases h with (h | ⟨o, h⟩) | h
  · exact .inl (.inl (e _ _ h))
  · exact .inl (.inr ⟨o, e _ _ h⟩)
  · exact .inr h
mutual
theorem dp_same {H H' : Hp} (s : Same H H') : ∀ {v : V} {d : PyData}, Dp K H v d → Dp K H' v d
  | _, _, .non => .non
  | _, _, .bl b => .bl b
  | _, _, .int i => .int i
  | _, _, .str x => .str x
  | _, _, .lst h a => .lst (s.seq h) (dpAll_same s a)
  | _, _, .tup h a => .tup (same_tup s h) (dpAll_same s a)
theorem dpAll_same {H H' : Hp} (s : Same H H') : ∀ {vs : List V} {ds : List PyData}, DpAll K H vs ds → DpAll K H' vs ds
  | _, _, .nil => .nil
  | _, _, .cons h t => .cons (dp_same s h) (dpAll_same s t)
end
theorem dpAll_len {H : Hp} : ∀ {vs : List V} {ds : List PyData}, DpAll K H vs ds → vs.length = ds.length
  | _, _, .nil => rfl
  | _, _, .cons _ t => by rw [List.length_cons, List.length_cons, dpAll_len t]
theorem dpAll_at {H : Hp} : ∀ {vs : List V} {ds : List PyData} {i : Nat} {v : V}, DpAll K H vs ds → vs[i]? = some v → ∃ d, ds[i]? = some d ∧ Dp K H v d
  | _, _, _, _, .nil, h => by simp at h
  | _, _, 0, _, .cons h _, e => ⟨_, rfl, by cases e; exact h⟩
  | _, _, i + 1, _, .cons _ t, e => dpAll_at (i := i) t e
theorem depth_at : ∀ {ds : List PyData} {i : Nat} {d : PyData}, ds[i]? = some d → d.depth ≤ PyData.depthAll ds
  | [], _, _, h => by simp at h
  | x :: r, 0, d, h => by cases h; unfold PyData.depthAll; exact Nat.le_max_left ..
  | x :: r, i + 1, d, h => by
    have := depth_at (ds := r) (i := i) (d := d) h
    unfold PyData.depthAll
    exact Nat.le_trans this (Nat.le_max_right ..)
theorem tyx_list {H : Hp} {a : Addr} {xs : List V} (h : SqL K H a xs) : TyX K H (.ref a) (.type "list") := by
  rcases h with (h | ⟨o, h⟩) | ⟨o, its, n, h1, h2, _⟩
  · exact .base (.lst h)
  · exact .base (.frz h)
  · exact .kList h1 h2
theorem tyx_tup {H : Hp} {a : Addr} {xs : List V} (h : SqT K H a xs) : TyX K H (.ref a) (.type "tuple") := by
  rcases h with (h | ⟨o, h⟩) | ⟨o, its, n, h1, h2, _⟩
  · exact .base (.tup h)
  · exact .fTuple h
  · exact .kTuple h1 h2
theorem walk_zipT {a b : Addr} {xs ys : List V} {n : Nat} (hn : n = min xs.length ys.length) : Walk (RZ.ItzT K a b) n (fun H => SqT K H a xs ∧ SqT K H b ys) (YPair (fun i => xs[i]?) (fun i => ys[i]?)) := by
  subst hn
  refine ⟨fun i _ hi q => ?_, fun _ q => ⟨xs, ys, q.1, q.2, by omega⟩, fun i H v H' _ q y => ?_⟩
  · exact ⟨xs, ys, xs[i]'(by omega), ys[i]'(by omega), q.1, q.2, List.getElem?_eq_getElem _, List.getElem?_eq_getElem _⟩
  · obtain ⟨T, x, z, e1, e2, e3, e4, e5⟩ := y
    exact ⟨T, x, z, e1, e2, e3, e4 xs q.1, e5 ys q.2⟩
/-- the longest list within -/
def widAll : List PyData → Nat
  | [] => 0
  | x :: xs => max (wid x) (widAll xs)
where wid : PyData → Nat
  | .list xs => max xs.length (widAll xs)
  | .tuple xs => max xs.length (widAll xs)
  | _ => 0
theorem wid_at : ∀ {ds : List PyData} {i : Nat} {d : PyData}, ds[i]? = some d → widAll.wid d ≤ widAll ds
  | [], _, _, h => by simp at h
  | x :: r, 0, d, h => by cases h; unfold widAll; exact Nat.le_max_left ..
  | x :: r, i + 1, d, h => by
    have := wid_at (ds := r) (i := i) (d := d) h
    unfold widAll
    exact Nat.le_trans this (Nat.le_max_right ..)
theorem depth_ints (ns : List Int) : (PyData.list (ns.map PyData.int)).depth = 1 := by
  have h : ∀ l : List Int, PyData.depthAll (l.map PyData.int) = 0 := by
    intro l
    induction l with
    | nil => rfl
    | cons x r ih =>
      show max 0 (PyData.depthAll (r.map PyData.int)) = 0
      rw [ih]
      rfl
  show PyData.depthAll (ns.map PyData.int) + 1 = 1
  rw [h]
theorem wid_ints (ns : List Int) : widAll.wid (PyData.list (ns.map PyData.int)) = ns.length := by
  have h : ∀ l : List Int, widAll (l.map PyData.int) = 0 := by
    intro l
    induction l with
    | nil => rfl
    | cons x r ih =>
      show max 0 (widAll (r.map PyData.int)) = 0
      rw [ih]
      rfl
  show max (ns.map PyData.int).length (widAll (ns.map PyData.int)) = ns.length
  rw [h, List.length_map, Nat.max_zero]
theorem flat_ints (ns : List Int) : (ns.map V.int).all flatV = true := by
  rw [List.all_eq_true]
  intro x hx
  obtain ⟨k, _, rfl⟩ := List.mem_map.mp hx
  rfl
end
section
variable {P : Program} {w : World} {K : PySem.W.Frag} {mg : Str → Option Value} {base : Heap}
/-- a def with values that may be left out -/
abbrev FunV (K : PySem.W.Frag) (x : Str) (st : Stmt) (dvs : List V) (f : Addr) (fd : FuncData) : Prop := FunD K x x (defArgs st) (defBody st) (defScope st) dvs [] f fd
theorem okD {x : Str} {st : Stmt} {dvs : List V} {f : Addr} {fd : FuncData} {N ps : List Str} {k : Nat} {sp : Sp} (F : FunV K x st dvs f fd) (S : FnScope N ps (defScope st)) (len : ∀ vs H Q E, sp vs H Q E → vs.length = ps.length)
    (body : ∀ (cdv : Value) (A : Around) (outer : List Env) (s : Shared) (H : Hp) (vs : List V) (Q : VK) (E : XK), Room k (A.deeper (envOfC x (defScope st) s.heap.objs.size f cdv)) → sp vs H Q E →
      ∃ t, PSs (cxOf CX0 P w K mg base N x (defScope st) f cdv A outer s H E).nox (defBody st) t ∧ t { nx := fun _ H' => Q .non H', rt := Q } (start N vs) H) : FnOk P w K mg base CX0 (k + 1) f fd ps sp :=
  FunD.ok F S len fun cdv A outer s H vs Q E hr h => by
    obtain ⟨t, ht, hq⟩ := body cdv A outer s H vs Q E hr h
    exact ⟨t, ht.nox, hq⟩
/-- a def that may be called by its name, the values ds being left out -/
def ClD (P : Program) (w : World) (K : PySem.W.Frag) (mg : Str → Option Value) (base : Heap) (k : Nat) (x : Str) (ds : List V) (sp : Sp) : Prop :=
  ∃ (f : Addr) (fd : FuncData) (ps : List Str) (dus : List Value), FnOk P w K mg base CX0 k f fd ps sp ∧ mg x = some (.ref f) ∧ PySem.W.keepIn K (.ref f) = true ∧ Binds K fd ps dus ∧ Vals ds dus
theorem pe_cd {X : Cx} {k j : Nat} {x : Str} {ds : List V} {sp : Sp} {e : Expr} {es : List Expr} {t : TA} {p pos : Pos} (c : ClD X.prog X.w X.K X.mg X.base k x ds sp) (hr : Room j X.A) (hk : k ≤ j) (hg : Gl X x) (ha : PA X (e :: es) t) (hdb : (x == ("__debug__" : Str)) = false := by decide)
    (he : starEach (e :: es) X.env = (false, eval e X.env) :: starEach es X.env := by rfl) (hpl : (backTo pos (starEach es X.env)).any (·.1) = false := by rfl) : PE X (.Call (.Name x p) (e :: es) [] pos) (tCall sp ds E0 t) := by
  obtain ⟨f, fd, ps, dus, G, hm, kp, b, dv⟩ := c
  exact pe_call G (hr.mono hk) hg hm kp b dv pass0 ha hdb he hpl
theorem Cl.mono {k j : Nat} {x : Str} {sp : Sp} (c : Cl P w K mg base k x sp) (h : k ≤ j) : Cl P w K mg base j x sp := by
  obtain ⟨f, fd, ps, G, r⟩ := c
  exact ⟨f, fd, ps, G.mono h, r⟩
end
end Pot

namespace Pot
open PySem PySem.Spec PyProof.Rows L2
/-! ### a box of three numbers from which is drawn, and all that stands beside it -/
def Bx (H : Hp) (b : Addr) : Prop := ∃ x y z : Int, H b = some (.lst [.int x, .int y, .int z])
/-- the heap without some -/
def off (H : Hp) (S : List Addr) : Hp := fun x => if x ∈ S then none else H x
theorem off_in {H : Hp} {S : List Addr} {x : Addr} (h : x ∈ S) : off H S x = none := if_pos h
theorem off_out {H : Hp} {S : List Addr} {x : Addr} (h : x ∉ S) : off H S x = H x := if_neg h
theorem off_mem {H : Hp} {S : List Addr} {x : Addr} {o : HO} (h : off H S x = some o) : x ∉ S := fun e => by rw [off_in e] at h; cases h
theorem off_sub {H : Hp} {S : List Addr} : Same (off H S) H := fun x o h => by
  have n := off_mem h
  rw [off_out n] at h; exact h
theorem off_mono {H : Hp} {S T : List Addr} (h : ∀ x ∈ T, x ∈ S) : Same (off H S) (off H T) := fun x o e => by
  have n := off_mem e
  rw [off_out n] at e
  rw [off_out fun z => n (h x z)]; exact e
/-- what stands beside S stands -/
abbrev Sm (S : List Addr) (H H' : Hp) : Prop := Same (off H S) (off H' S)
theorem sm_mono {H H' : Hp} {S T : List Addr} (h : ∀ x ∈ T, x ∈ S) (s : Sm T H H') : Sm S H H' := fun x o e => by
  have n := off_mem e
  rw [off_out n] at e ⊢
  have n2 : x ∉ T := fun z => n (h x z)
  have := s x o (by rw [off_out n2]; exact e)
  rw [off_out n2] at this; exact this
theorem sm_one {H H' : Hp} {S : List Addr} {b : Addr} (h : b ∈ S) (s : Sm [b] H H') : Sm S H H' := sm_mono (fun x hx => by rw [List.mem_singleton.mp hx]; exact h) s
theorem sm_of {H H' : Hp} {S : List Addr} (s : Same H H') : Sm S H H' := fun x o h => by
  have n := off_mem h
  rw [off_out n] at h ⊢; exact s x o h
theorem sm_put {H : Hp} {S : List Addr} {p : Addr} {o : HO} (h : H p = none) : Sm S H (upd H p o) := sm_of (same_upd h)
theorem sm_wr {H : Hp} {S : List Addr} {p : Addr} {o : HO} (h : p ∈ S) : Sm S H (upd H p o) := fun x u e => by
  have n := off_mem e
  rw [off_out n] at e ⊢
  have ne : x ≠ p := fun z => n (by rw [z]; exact h)
  rw [upd_ne ne]; exact e
theorem at_off {H : Hp} {S : List Addr} {x : Addr} {o : HO} (h : off H S x = some o) : H x = some o := off_sub x o h
theorem Bx.bx {H : Hp} {b : Addr} (B : Bx H b) : Bx H b := B
theorem Bx.ne {H : Hp} {b p : Addr} (B : Bx H b) (h : H p = none) : p ≠ b := fun e => by
  obtain ⟨x, y, z, B⟩ := B
  rw [e, B] at h; cases h
theorem Bx.same {H H' : Hp} {b : Addr} (B : Bx H b) (s : Same H H') : Bx H' b := by
  obtain ⟨x, y, z, B⟩ := B
  exact ⟨x, y, z, s _ _ B⟩
theorem Bx.put {H : Hp} {b p : Addr} {o : HO} (B : Bx H b) (h : H p = none) : Bx (upd H p o) b := B.same (same_upd h)
theorem Bx.wr {H : Hp} {b p : Addr} {o : HO} (B : Bx H b) (h : p ≠ b) : Bx (upd H p o) b := by
  obtain ⟨x, y, z, B⟩ := B
  exact ⟨x, y, z, by rw [upd_ne h.symm]; exact B⟩
/-- all of S are there -/
def Live (S : List Addr) (H : Hp) : Prop := ∀ s ∈ S, H s ≠ none
theorem Live.same {S : List Addr} {H H' : Hp} (L : Live S H) (s : Same H H') : Live S H' := fun x hx e => by
  cases h : H x with
  | none => exact L x hx h
  | some o => rw [s x o h] at e; cases e
theorem Live.box {S : List Addr} {H H' : Hp} {b : Addr} (L : Live S H) (B : Bx H' b) (s : Sm [b] H H') : Live S H' := fun x hx e => by
  by_cases hb : x = b
  · obtain ⟨_, _, _, B⟩ := B
    rw [hb, B] at e; cases e
  · have n : x ∉ [b] := fun z => hb (List.mem_singleton.mp z)
    cases h : H x with
    | none => exact L x hx h
    | some o =>
      have := s x o (by rw [off_out n]; exact h)
      rw [off_out n, e] at this; cases this
theorem Live.put {S : List Addr} {H : Hp} {p : Addr} {o : HO} (L : Live S H) (h : H p = none) : Live S (upd H p o) := L.same (same_upd h)
theorem Live.wr {S : List Addr} {H : Hp} {p : Addr} {o : HO} (L : Live S H) : Live S (upd H p o) := fun x hx e => by
  by_cases hp : x = p
  · rw [hp, upd_same] at e; cases e
  · rw [upd_ne hp] at e; exact L x hx e
theorem Live.one {H : Hp} {b : Addr} (B : Bx H b) : Live [b] H := fun x hx e => by
  obtain ⟨_, _, _, B⟩ := B
  rw [List.mem_singleton.mp hx, B] at e; cases e
theorem Live.out {S : List Addr} {H : Hp} {p : Addr} (L : Live S H) (h : H p = none) : p ∉ S := fun z => L p z h
theorem Live.cons {S : List Addr} {H : Hp} {p : Addr} {o : HO} (L : Live S H) (h : H p = some o) : Live (p :: S) H := fun x hx e => by
  rcases List.mem_cons.mp hx with z | z
  · rw [z, h] at e; cases e
  · exact L x z e
theorem off_new {H : Hp} {S : List Addr} {p : Addr} {o : HO} (L : Live S H) (h : H p = none) : off (upd H p o) S p = some o := by
  rw [off_out (L.out h)]; exact upd_same
theorem off_upd {H : Hp} {S : List Addr} {p : Addr} {o : HO} (h : p ∉ S) : off (upd H p o) S p = some o := by
  rw [off_out h]; exact upd_same
section
variable {K : PySem.W.Frag}
theorem sq_off {H : Hp} {S : List Addr} {a : Addr} {xs : List V} (h : SqL K (off H S) a xs) : SqL K H a xs := off_sub.seq h
theorem sqt_off {H : Hp} {S : List Addr} {a : Addr} {xs : List V} (h : SqT K (off H S) a xs) : SqT K H a xs := same_tup off_sub h
theorem dp_off {H : Hp} {S : List Addr} {v : V} {d : PyData} (h : Dp K (off H S) v d) : Dp K H v d := dp_same off_sub h
/-- a new list is none of S, beside which the rest stands as it was -/
theorem off_fresh {H : Hp} {S : List Addr} {p : Addr} {o : HO} (h : H p = none) : off (upd H p o) (p :: S) = off H S := by
  funext x; unfold off
  by_cases e : x = p
  · subst e
    rw [if_pos List.mem_cons_self, h]
    split <;> rfl
  · have : (x ∈ p :: S) ↔ x ∈ S := by rw [List.mem_cons]; exact ⟨fun z => z.resolve_left e, .inr⟩
    by_cases m : x ∈ S
    · rw [if_pos m, if_pos (this.mpr m)]
    · rw [if_neg m, if_neg fun z => m (this.mp z), upd_ne e]
end
/-! ### what is made of numbers, texts, truths, None, lists and tuples -/
/-- numbers within m, texts of at most 2000 signs -/
def gdAll (m : Nat) : List PyData → Prop
  | [] => True
  | x :: xs => gd m x ∧ gdAll m xs
where gd (m : Nat) : PyData → Prop
  | .none => True
  | .bool _ => True
  | .int i => i.natAbs ≤ m
  | .str x => x.length ≤ 2000 ∧ ∀ c ∈ x.cps.toList, c < 1114112
  | .list xs => gdAll m xs
  | .tuple xs => gdAll m xs
  | .dict _ => False
abbrev gd (m : Nat) (d : PyData) : Prop := gdAll.gd m d
theorem gdAll_iff {m : Nat} : ∀ {ds : List PyData}, gdAll m ds ↔ ∀ d ∈ ds, gd m d
  | [] => ⟨fun _ _ h => (List.not_mem_nil h).elim, fun _ => trivial⟩
  | x :: xs => by
    constructor
    · intro h d hd
      rcases List.mem_cons.mp hd with e | e
      · rw [e]; exact h.1
      · exact gdAll_iff.mp h.2 d e
    · intro h
      exact ⟨h x List.mem_cons_self, gdAll_iff.mpr fun d hd => h d (List.mem_cons_of_mem _ hd)⟩
mutual
theorem gd_mono {m n : Nat} (h : m ≤ n) : ∀ d : PyData, gd m d → gd n d
  | .none, _ => trivial
  | .bool _, _ => trivial
  | .int i, g => Nat.le_trans g h
  | .str _, g => g
  | .list xs, g => gdAll_mono h xs g
  | .tuple xs, g => gdAll_mono h xs g
  | .dict _, g => g.elim
theorem gdAll_mono {m n : Nat} (h : m ≤ n) : ∀ ds : List PyData, gdAll m ds → gdAll n ds
  | [], _ => trivial
  | x :: xs, g => ⟨gd_mono h x g.1, gdAll_mono h xs g.2⟩
end
theorem log_small' {i : Int} (h : i.natAbs ≤ 2000000) : i.natAbs.log2 < 1920 := by
  by_cases z : i.natAbs = 0
  · rw [z]; decide
  · have := (Nat.log2_lt z).mpr (show i.natAbs < 2 ^ 21 from Nat.lt_of_le_of_lt h (by decide))
    omega
mutual
theorem gd_fine {m : Nat} (h : m ≤ 2000000) : ∀ d : PyData, gd m d → fineAll.fine d
  | .none, _ => trivial
  | .bool _, _ => trivial
  | .int i, g => log_small' (Nat.le_trans g h)
  | .str _, g => fun c hc => Nat.lt_trans (g.2 c hc) (by decide)
  | .list xs, g => gdAll_fine h xs g
  | .tuple xs, g => gdAll_fine h xs g
  | .dict _, g => g.elim
theorem gdAll_fine {m : Nat} (h : m ≤ 2000000) : ∀ ds : List PyData, gdAll m ds → fineAll ds
  | [], _ => trivial
  | x :: xs, g => ⟨gd_fine h x g.1, gdAll_fine h xs g.2⟩
end
theorem costAll_app (xs ys : List PyData) : costAll (xs ++ ys) = costAll xs + costAll ys := by
  induction xs with
  | nil => simp [costAll]
  | cons x xs ih => simp only [List.cons_append, costAll, ih]; omega
theorem cost_mem {ds : List PyData} {d : PyData} (h : d ∈ ds) : costAll.cost d + 2 ≤ costAll ds := by
  induction ds with
  | nil => exact (List.not_mem_nil h).elim
  | cons x xs ih =>
    show _ ≤ costAll.cost x + 2 + costAll xs
    rcases List.mem_cons.mp h with e | e
    · rw [e]; omega
    · have := ih e; omega
theorem len_cost : ∀ ds : List PyData, 2 * ds.length ≤ costAll ds
  | [] => Nat.le_refl _
  | x :: xs => by
    have := len_cost xs
    show 2 * (xs.length + 1) ≤ costAll.cost x + 2 + costAll xs
    omega
theorem depthAll_iff {D : Nat} : ∀ {ds : List PyData}, PyData.depthAll ds ≤ D ↔ ∀ d ∈ ds, d.depth ≤ D
  | [] => ⟨fun _ _ h => (List.not_mem_nil h).elim, fun _ => Nat.zero_le _⟩
  | x :: xs => by
    show max x.depth (PyData.depthAll xs) ≤ D ↔ _
    rw [Nat.max_le, depthAll_iff (ds := xs)]
    constructor
    · rintro ⟨h1, h2⟩ d hd
      rcases List.mem_cons.mp hd with e | e
      · rw [e]; exact h1
      · exact h2 d e
    · intro h
      exact ⟨h x List.mem_cons_self, fun d hd => h d (List.mem_cons_of_mem _ hd)⟩
/-- rows of parts: of numbers within m, their cost, how deep and how wide each -/
structure Ths (m C D W : Nat) (ds : List PyData) : Prop where
  g : ∀ d ∈ ds, gd m d
  c : costAll ds ≤ C
  d : ∀ d ∈ ds, d.depth ≤ D
  w : ∀ d ∈ ds, widAll.wid d ≤ W
/-- a thing: of numbers within m, its cost, how deep, how wide -/
structure Th (m C D W : Nat) (dd : PyData) : Prop where
  g : gd m dd
  c : costAll.cost dd ≤ C
  d : dd.depth ≤ D
  w : widAll.wid dd ≤ W
theorem widAll_iff {D : Nat} : ∀ {ds : List PyData}, widAll ds ≤ D ↔ ∀ d ∈ ds, widAll.wid d ≤ D
  | [] => ⟨fun _ _ h => (List.not_mem_nil h).elim, fun _ => Nat.zero_le _⟩
  | x :: xs => by
    show max (widAll.wid x) (widAll xs) ≤ D ↔ _
    rw [Nat.max_le, widAll_iff (ds := xs)]
    constructor
    · rintro ⟨h1, h2⟩ d hd
      rcases List.mem_cons.mp hd with e | e
      · rw [e]; exact h1
      · exact h2 d e
    · intro h
      exact ⟨h x List.mem_cons_self, fun d hd => h d (List.mem_cons_of_mem _ hd)⟩
section
variable {m n C E D F W U : Nat} {d x : PyData} {ds xs ys : List PyData}
theorem Th.mono (h : Th m C D W d) (a : m ≤ n) (b : C ≤ E) (c : D ≤ F) (e : W ≤ U) : Th n E F U d := ⟨gd_mono a d h.g, Nat.le_trans h.c b, Nat.le_trans h.d c, Nat.le_trans h.w e⟩
theorem Ths.mono (h : Ths m C D W ds) (a : m ≤ n) (b : C ≤ E) (c : D ≤ F) (e : W ≤ U) : Ths n E F U ds := ⟨fun x hx => gd_mono a x (h.g x hx), Nat.le_trans h.c b, fun x hx => Nat.le_trans (h.d x hx) c, fun x hx => Nat.le_trans (h.w x hx) e⟩
theorem Ths.app (h : Ths m C D W xs) (k : Ths m E D W ys) : Ths m (C + E) D W (xs ++ ys) :=
  ⟨fun d hd => (List.mem_append.mp hd).elim (h.g d) (k.g d), by rw [costAll_app]; exact Nat.add_le_add h.c k.c, fun d hd => (List.mem_append.mp hd).elim (h.d d) (k.d d), fun d hd => (List.mem_append.mp hd).elim (h.w d) (k.w d)⟩
theorem Ths.nil : Ths m 0 D W [] := ⟨fun _ h => (List.not_mem_nil h).elim, Nat.le_refl _, fun _ h => (List.not_mem_nil h).elim, fun _ h => (List.not_mem_nil h).elim⟩
theorem Ths.one (h : Th m C D W x) : Ths m (C + 2) D W [x] :=
  ⟨fun d hd => by rw [List.mem_singleton.mp hd]; exact h.g, by show costAll.cost x + 2 + 0 ≤ _; have := h.c; omega, fun d hd => by rw [List.mem_singleton.mp hd]; exact h.d, fun d hd => by rw [List.mem_singleton.mp hd]; exact h.w⟩
theorem Ths.mem (h : Ths m C D W ds) (e : d ∈ ds) : Th m C D W d := ⟨h.g d e, by have := cost_mem e; have := h.c; omega, h.d d e, h.w d e⟩
theorem Ths.len (h : Ths m C D W ds) : 2 * ds.length ≤ C := Nat.le_trans (len_cost ds) h.c
theorem Ths.list (h : Ths m C D W ds) (l : ds.length ≤ W) : Th m (C + 3) (D + 1) W (.list ds) :=
  ⟨gdAll_iff.mpr h.g, by show costAll ds + 3 ≤ _; have := h.c; omega, by show PyData.depthAll ds + 1 ≤ _; have := depthAll_iff.mpr h.d; omega, by show max ds.length (widAll ds) ≤ W; exact Nat.max_le.mpr ⟨l, widAll_iff.mpr h.w⟩⟩
theorem Ths.tuple (h : Ths m C D W ds) (l : ds.length ≤ W) : Th m (C + 3) (D + 1) W (.tuple ds) :=
  ⟨gdAll_iff.mpr h.g, by show costAll ds + 3 ≤ _; have := h.c; omega, by show PyData.depthAll ds + 1 ≤ _; have := depthAll_iff.mpr h.d; omega, by show max ds.length (widAll ds) ≤ W; exact Nat.max_le.mpr ⟨l, widAll_iff.mpr h.w⟩⟩
theorem Th.ofList (h : Th m C D W (.list ds)) : Ths m (C - 3) (D - 1) W ds ∧ ds.length ≤ W ∧ 3 ≤ C ∧ 1 ≤ D := by
  have h1 : costAll ds + 3 ≤ C := h.c
  have h2 : PyData.depthAll ds + 1 ≤ D := h.d
  have h3 : max ds.length (widAll ds) ≤ W := h.w
  exact ⟨⟨gdAll_iff.mp h.g, by omega, depthAll_iff.mp (by omega), widAll_iff.mp (Nat.le_trans (Nat.le_max_right ..) h3)⟩, Nat.le_trans (Nat.le_max_left ..) h3, by omega, by omega⟩
theorem Th.ofTuple (h : Th m C D W (.tuple ds)) : Ths m (C - 3) (D - 1) W ds ∧ ds.length ≤ W ∧ 3 ≤ C ∧ 1 ≤ D := by
  have h1 : costAll ds + 3 ≤ C := h.c
  have h2 : PyData.depthAll ds + 1 ≤ D := h.d
  have h3 : max ds.length (widAll ds) ≤ W := h.w
  exact ⟨⟨gdAll_iff.mp h.g, by omega, depthAll_iff.mp (by omega), widAll_iff.mp (Nat.le_trans (Nat.le_max_right ..) h3)⟩, Nat.le_trans (Nat.le_max_left ..) h3, by omega, by omega⟩
theorem costAll_take (n : Nat) (ds : List PyData) : costAll (ds.take n) ≤ costAll ds := by
  have := costAll_app (ds.take n) (ds.drop n)
  rw [List.take_append_drop] at this; omega
theorem costAll_drop (n : Nat) (ds : List PyData) : costAll (ds.drop n) ≤ costAll ds := by
  have := costAll_app (ds.take n) (ds.drop n)
  rw [List.take_append_drop] at this; omega
theorem costAll_rev : ∀ ds : List PyData, costAll ds.reverse = costAll ds
  | [] => rfl
  | x :: xs => by rw [List.reverse_cons, costAll_app, costAll_rev xs]; show _ + (costAll.cost x + 2 + 0) = costAll.cost x + 2 + costAll xs; omega
theorem Ths.sub (h : Ths m C D W ds) (s : ∀ x ∈ xs, x ∈ ds) (c : costAll xs ≤ C) : Ths m C D W xs := ⟨fun d hd => h.g d (s d hd), c, fun d hd => h.d d (s d hd), fun d hd => h.w d (s d hd)⟩
theorem Ths.take (h : Ths m C D W ds) (n : Nat) : Ths m C D W (ds.take n) := h.sub (fun d hd => List.mem_of_mem_take hd) (Nat.le_trans (costAll_take n ds) h.c)
theorem Ths.drop (h : Ths m C D W ds) (n : Nat) : Ths m C D W (ds.drop n) := h.sub (fun d hd => List.mem_of_mem_drop hd) (Nat.le_trans (costAll_drop n ds) h.c)
theorem Ths.rev (h : Ths m C D W ds) : Ths m C D W ds.reverse := h.sub (fun d hd => List.mem_reverse.mp hd) (by rw [costAll_rev]; exact h.c)
theorem costAll_set : ∀ (ds : List PyData) (i : Nat) (x : PyData), costAll (ds.set i x) ≤ costAll ds + (costAll.cost x + 2)
  | [], _, _ => Nat.zero_le _
  | y :: ys, 0, x => by show costAll.cost x + 2 + costAll ys ≤ costAll.cost y + 2 + costAll ys + _; omega
  | y :: ys, i + 1, x => by
    have := costAll_set ys i x
    show costAll.cost y + 2 + costAll (ys.set i x) ≤ costAll.cost y + 2 + costAll ys + _
    omega
theorem Ths.set {i : Nat} (h : Ths m C D W ds) (k : Th m E D W x) : Ths m (C + E + 2) D W (ds.set i x) :=
  ⟨fun d hd => (List.mem_or_eq_of_mem_set hd).elim (h.g d) fun e => by rw [e]; exact k.g, Nat.le_trans (costAll_set ds i x) (by have := h.c; have := k.c; omega), fun d hd => (List.mem_or_eq_of_mem_set hd).elim (h.d d) fun e => by rw [e]; exact k.d, fun d hd => (List.mem_or_eq_of_mem_set hd).elim (h.w d) fun e => by rw [e]; exact k.w⟩
end
section
variable {K : PySem.W.Frag} {H : Hp}
theorem dpAll_app' : ∀ {xs ys : List V} {ds es : List PyData}, DpAll K H xs ds → DpAll K H ys es → DpAll K H (xs ++ ys) (ds ++ es)
  | _, _, _, _, .nil, h => h
  | _, _, _, _, .cons h t, h2 => .cons h (dpAll_app' t h2)
theorem dpAll_take : ∀ {xs : List V} {ds : List PyData} (n : Nat), DpAll K H xs ds → DpAll K H (xs.take n) (ds.take n)
  | _, _, 0, _ => .nil
  | _, _, _ + 1, .nil => .nil
  | _, _, n + 1, .cons h t => .cons h (dpAll_take n t)
theorem dpAll_drop : ∀ {xs : List V} {ds : List PyData} (n : Nat), DpAll K H xs ds → DpAll K H (xs.drop n) (ds.drop n)
  | _, _, 0, h => h
  | _, _, _ + 1, .nil => .nil
  | _, _, n + 1, .cons _ t => dpAll_drop n t
theorem dpAll_rev : ∀ {xs : List V} {ds : List PyData}, DpAll K H xs ds → DpAll K H xs.reverse ds.reverse
  | _, _, .nil => .nil
  | _, _, .cons h t => by rw [List.reverse_cons, List.reverse_cons]; exact dpAll_app' (dpAll_rev t) (.cons h .nil)
theorem dpAll_set : ∀ {xs : List V} {ds : List PyData} {i : Nat} {v : V} {d : PyData}, DpAll K H xs ds → Dp K H v d → DpAll K H (xs.set i v) (ds.set i d)
  | _, _, _, _, _, .nil, _ => .nil
  | _, _, 0, _, _, .cons _ t, k => .cons k t
  | _, _, _ + 1, _, _, .cons h t, k => .cons h (dpAll_set t k)
/-- a slice of a row of parts -/
theorem dp_cut {xs : List V} {ds : List PyData} {lo hi : Option Int} {m C D W : Nat} (h : DpAll K H xs ds) (t : Ths m C D W ds) : ∃ es, DpAll K H (cutV xs lo hi) es ∧ Ths m C D W es ∧ es.length ≤ ds.length := by
  unfold cutV
  exact ⟨_, dpAll_take _ (dpAll_drop _ h), (t.drop _).take _, by rw [List.length_take, List.length_drop]; omega⟩
theorem dp_lst' {v : V} {ds : List PyData} (h : Dp K H v (.list ds)) : ∃ a xs, v = .ref a ∧ SqL K H a xs ∧ DpAll K H xs ds := by
  cases h with
  | lst h a => exact ⟨_, _, rfl, h, a⟩
end
end Pot
namespace Pot
open PySem PySem.Spec PyProof.Rows L2
theorem sm_at {H H' : Hp} {S : List Addr} {x : Addr} {o : HO} (s : Sm S H H') (n : x ∉ S) (h : H x = some o) : H' x = some o := by
  have := s x o (by rw [off_out n]; exact h)
  rw [off_out n] at this; exact this
theorem sm1_at {H H' : Hp} {b x : Addr} {o : HO} (s : Sm [b] H H') (n : x ≠ b) (h : H x = some o) : H' x = some o := sm_at s (fun z => n (List.mem_singleton.mp z)) h
theorem smp {H H' : Hp} {S : List Addr} {p : Addr} {o : HO} (s : Sm S H H') (h : H p = none) : Sm S H (upd H' p o) := fun x u e => by
  have n := off_mem e
  have ne : x ≠ p := fun z => by
    rw [off_out n, z, h] at e; cases e
  have := s x u e
  rw [off_out n] at this ⊢
  rw [upd_ne ne]; exact this
theorem sm_free {H H' : Hp} {b l : Addr} (s : Sm [b] H H') (B : Bx H' b) (h : H' l = none) : H l = none := by
  have nb := B.ne h
  have n : l ∉ [b] := fun z => nb (List.mem_singleton.mp z)
  cases e : H l with
  | none => rfl
  | some o => rw [sm_at s n e] at h; cases h
theorem cut_map {α : Type} (f : α → V) (ns : List α) (lo hi : Option Int) : cutV (ns.map f) lo hi = ((ns.drop (HT.sIx ns.length 0 lo)).take (HT.sIx ns.length ns.length hi - HT.sIx ns.length 0 lo)).map f := by
  unfold cutV
  rw [List.length_map, List.map_take, List.map_drop]
theorem cut_head {xs : List V} {k : Nat} : cutV xs none (some (k : Int)) = xs.take k := by
  unfold cutV
  rw [HT.sIx_none, HT.sIx_nat, List.drop_zero, Nat.sub_zero]
  by_cases h : k ≤ xs.length
  · rw [Nat.min_eq_left h]
  · rw [Nat.min_eq_right (by omega), List.take_length, List.take_of_length_le (by omega)]
theorem cut_tail {xs : List V} {k : Nat} : cutV xs (some (k : Int)) none = xs.drop k := by
  unfold cutV
  rw [HT.sIx_none, HT.sIx_nat]
  by_cases h : k ≤ xs.length
  · rw [Nat.min_eq_left h, List.take_of_length_le (by rw [List.length_drop]; exact Nat.le_refl _)]
  · rw [Nat.min_eq_right (by omega), Nat.sub_self, List.take_zero, List.drop_of_length_le (by omega)]
end Pot
namespace Pot
open PySem PySem.Spec PyProof.Rows L2
section
variable {K : PySem.W.Frag} {H : Hp} {t : Addr} {d : PyData} {ds : List PyData}
theorem seq_dp {x : V} (h : Dp K H x d) (e : d = .list ds ∨ d = .tuple ds) : ∃ t zs, x = .ref t ∧ (SqL K H t zs ∨ SqT K H t zs) ∧ DpAll K H zs ds := by
  rcases e with rfl | rfl
  · cases h with
    | lst h a => exact ⟨_, _, rfl, .inl h, a⟩
  · cases h with
    | tup h a => exact ⟨_, _, rfl, .inr h, a⟩
theorem len_dp (h : Dp K H (.ref t) d) (e : d = .list ds ∨ d = .tuple ds) : LenV K (.ref t) H ds.length := by
  rcases e with rfl | rfl
  · cases h with
    | lst h a => exact .inl ⟨_, h, (dpAll_len a).symm⟩
  · cases h with
    | tup h a => exact .inr ⟨_, h, (dpAll_len a).symm⟩
theorem Th.parts {m C D W : Nat} (h : Th m C D W d) (e : d = .list ds ∨ d = .tuple ds) : Ths m (C - 3) (D - 1) W ds ∧ ds.length ≤ W ∧ 3 ≤ C ∧ 1 ≤ D := by
  rcases e with rfl | rfl
  · exact h.ofList
  · exact h.ofTuple
end
theorem sm_in {H H' : Hp} {S : List Addr} {x : Addr} {o : HO} (s : Sm S H H') (h : off H S x = some o) : off H' S x = some o := s x o h
end Pot
namespace Pot
open PySem PySem.Spec PyProof.Rows L2
theorem costAll_set_eq : ∀ {ds : List PyData} {i : Nat} {x y : PyData}, ds[i]? = some y → costAll (ds.set i x) + costAll.cost y = costAll ds + costAll.cost x
  | [], _, _, _, h => by simp at h
  | z :: zs, 0, x, y, h => by
    have e : z = y := by simpa using h
    subst e
    show costAll.cost x + 2 + costAll zs + costAll.cost z = costAll.cost z + 2 + costAll zs + costAll.cost x
    omega
  | z :: zs, i + 1, x, y, h => by
    have := costAll_set_eq (ds := zs) (i := i) (x := x) (y := y) (by simpa using h)
    show costAll.cost z + 2 + costAll (zs.set i x) + costAll.cost y = costAll.cost z + 2 + costAll zs + costAll.cost x
    omega
theorem codes_ofString (s : String) : ∀ c ∈ (Str.ofString s).cps.toList, c < 1114112 := by
  intro c hc
  rw [Str.ofString_eq_toList] at hc
  have : c ∈ s.toList.map Char.toNat := by simpa using hc
  obtain ⟨ch, _, rfl⟩ := List.mem_map.mp this
  have v := ch.valid
  have e : ch.toNat = ch.val.toNat := rfl
  rcases v with v | ⟨_, v⟩
  · have : ch.val.toNat < 0xD800 := v
    omega
  · have : ch.val.toNat < 0x110000 := v
    omega
theorem th_text {i : Int} (h : i.natAbs ≤ 2000000) {m : Nat} : Th m 19212 0 0 (.str (toString i)) := by
  have l : (Str.ofString (toString i)).length ≤ 1921 := PyProof.Rows.int_text_len_1921 (log_small' h)
  exact ⟨⟨by omega, codes_ofString _⟩, by show 10 * (Str.ofString (toString i)).length + 2 ≤ 19212; omega, Nat.le_refl _, Nat.le_refl _⟩
end Pot

namespace Pot
open PySem PySem.Spec PyProof.Rows L2
/-! ### kinds of data -/
def tyD : PyData → String
  | .none => "NoneType"
  | .bool _ => "bool"
  | .int _ => "int"
  | .str _ => "str"
  | .list _ => "list"
  | .tuple _ => "tuple"
  | .dict _ => "dict"
def isIntD : PyData → Bool
  | .int _ => true
  | .bool _ => true
  | _ => false
def isBoolD : PyData → Bool
  | .bool _ => true
  | _ => false
def isStrD : PyData → Bool
  | .str _ => true
  | _ => false
def isListD : PyData → Bool
  | .list _ => true
  | _ => false
def isTupD : PyData → Bool
  | .tuple _ => true
  | _ => false
section
variable {K : PySem.W.Frag} {H : Hp} {x : V} {d : PyData} {Q : VK}
theorem tyx_dp (h : Dp K H x d) : TyX K H x (.type (tyD d)) := by
  cases h with
  | non => exact .base .non
  | bl b => exact .base (.bl b)
  | int i => exact .base (.int i)
  | str z => exact .base (.str z)
  | lst h _ => exact tyx_list h
  | tup h _ => exact tyx_tup h
theorem kit_int (h : Dp K H x d) : PySem.W.kitOne K (.type (tyD d)) (.type "int") = some (isIntD d) := by
  cases h with
  | non => exact kit_ty (show kitB "NoneType" "int" = some false by decide +kernel)
  | bl _ => exact kit_ty (show kitB "bool" "int" = some true by decide +kernel)
  | int _ => exact kit_ty (show kitB "int" "int" = some true by decide +kernel)
  | str _ => exact kit_ty (show kitB "str" "int" = some false by decide +kernel)
  | lst _ _ => exact kit_ty (show kitB "list" "int" = some false by decide +kernel)
  | tup _ _ => exact kit_ty (show kitB "tuple" "int" = some false by decide +kernel)
theorem kit_bool (h : Dp K H x d) : PySem.W.kitOne K (.type (tyD d)) (.type "bool") = some (isBoolD d) := by
  cases h with
  | non => exact kit_ty (show kitB "NoneType" "bool" = some false by decide +kernel)
  | bl _ => exact kit_ty (show kitB "bool" "bool" = some true by decide +kernel)
  | int _ => exact kit_ty (show kitB "int" "bool" = some false by decide +kernel)
  | str _ => exact kit_ty (show kitB "str" "bool" = some false by decide +kernel)
  | lst _ _ => exact kit_ty (show kitB "list" "bool" = some false by decide +kernel)
  | tup _ _ => exact kit_ty (show kitB "tuple" "bool" = some false by decide +kernel)
theorem kit_str (h : Dp K H x d) : PySem.W.kitOne K (.type (tyD d)) (.type "str") = some (isStrD d) := by
  cases h with
  | non => exact kit_ty (show kitB "NoneType" "str" = some false by decide +kernel)
  | bl _ => exact kit_ty (show kitB "bool" "str" = some false by decide +kernel)
  | int _ => exact kit_ty (show kitB "int" "str" = some false by decide +kernel)
  | str _ => exact kit_ty (show kitB "str" "str" = some true by decide +kernel)
  | lst _ _ => exact kit_ty (show kitB "list" "str" = some false by decide +kernel)
  | tup _ _ => exact kit_ty (show kitB "tuple" "str" = some false by decide +kernel)
theorem kit_list (h : Dp K H x d) : PySem.W.kitOne K (.type (tyD d)) (.type "list") = some (isListD d) := by
  cases h with
  | non => exact kit_ty (show kitB "NoneType" "list" = some false by decide +kernel)
  | bl _ => exact kit_ty (show kitB "bool" "list" = some false by decide +kernel)
  | int _ => exact kit_ty (show kitB "int" "list" = some false by decide +kernel)
  | str _ => exact kit_ty (show kitB "str" "list" = some false by decide +kernel)
  | lst _ _ => exact kit_ty (show kitB "list" "list" = some true by decide +kernel)
  | tup _ _ => exact kit_ty (show kitB "tuple" "list" = some false by decide +kernel)
theorem kit_tup (h : Dp K H x d) : PySem.W.kitOne K (.type (tyD d)) (.type "tuple") = some (isTupD d) := by
  cases h with
  | non => exact kit_ty (show kitB "NoneType" "tuple" = some false by decide +kernel)
  | bl _ => exact kit_ty (show kitB "bool" "tuple" = some false by decide +kernel)
  | int _ => exact kit_ty (show kitB "int" "tuple" = some false by decide +kernel)
  | str _ => exact kit_ty (show kitB "str" "tuple" = some false by decide +kernel)
  | lst _ _ => exact kit_ty (show kitB "list" "tuple" = some false by decide +kernel)
  | tup _ _ => exact kit_ty (show kitB "tuple" "tuple" = some true by decide +kernel)
theorem kit_lt (h : Dp K H x d) : PySem.W.kitAny K (.type (tyD d)) [.type "list", .type "tuple"] = some (isListD d || isTupD d) := by
  cases h <;> rfl
end
/-! ### numbers within bounds -/
def numD (lo hi : Int) : PyData → Bool
  | .int i => decide (lo ≤ i) && decide (i ≤ hi)
  | _ => false
def toI : PyData → Int
  | .int i => i
  | _ => 0
theorem numD_int {lo hi : Int} : ∀ {d : PyData}, numD lo hi d = true → d = .int (toI d) ∧ lo ≤ toI d ∧ toI d ≤ hi
  | .int i, h => by
    obtain ⟨h1, h2⟩ := Bool.and_eq_true_iff.mp (show (decide (lo ≤ i) && decide (i ≤ hi)) = true from h)
    exact ⟨rfl, of_decide_eq_true h1, of_decide_eq_true h2⟩
/-- rising -/
def risI : List Int → Bool
  | a :: b :: r => decide (a < b) && risI (b :: r)
  | _ => true
def risD (lo hi : Int) : PyData → Bool
  | .list ds => ds.all (numD lo hi) && risI (ds.map toI)
  | _ => false
theorem risI_pair : ∀ {ns : List Int}, risI ns = true ↔ ns.Pairwise (· < ·)
  | [] => by simp [risI]
  | [a] => by simp [risI]
  | a :: b :: r => by
    have ih := risI_pair (ns := b :: r)
    show (decide (a < b) && risI (b :: r)) = true ↔ _
    rw [Bool.and_eq_true_iff, decide_eq_true_eq, ih]
    constructor
    · rintro ⟨h1, h2⟩
      refine List.pairwise_cons.mpr ⟨fun x hx => ?_, h2⟩
      rcases List.mem_cons.mp hx with e | e
      · rw [e]; exact h1
      · exact Int.lt_trans h1 ((List.pairwise_cons.mp h2).1 x e)
    · intro h
      obtain ⟨h1, h2⟩ := List.pairwise_cons.mp h
      exact ⟨h1 b List.mem_cons_self, h2⟩
theorem nums_of {lo hi : Int} {ds : List PyData} (h : ds.all (numD lo hi) = true) : ds = (ds.map toI).map PyData.int ∧ ∀ k ∈ ds.map toI, lo ≤ k ∧ k ≤ hi := by
  rw [List.all_eq_true] at h
  constructor
  · rw [List.map_map]
    conv => lhs; rw [← List.map_id ds]
    exact List.map_congr_left fun d hd => (numD_int (h d hd)).1
  · intro k hk
    obtain ⟨d, hd, rfl⟩ := List.mem_map.mp hk
    exact (numD_int (h d hd)).2
section
variable {K : PySem.W.Frag} {H : Hp}
theorem dp_intsV : ∀ {xs : List V} {ns : List Int}, DpAll K H xs (ns.map PyData.int) → xs = ns.map V.int
  | [], [], _ => rfl
  | [], _ :: _, h => by cases h
  | _ :: _, [], h => by cases h
  | x :: xs, n :: ns, h => by
    cases h with
    | cons h t => cases h; rw [dp_intsV t]; rfl
end
/-- of a row that rises just the same: a row in which all stand in order, none twice -/
theorem sorted_uniq : ∀ {xs ys : List Int}, xs.Pairwise (· < ·) → ys.Pairwise (· < ·) → (∀ k, k ∈ xs ↔ k ∈ ys) → xs = ys
  | [], [], _, _, _ => rfl
  | [], y :: ys, _, _, h => by have := (h y).mpr List.mem_cons_self; simp at this
  | x :: xs, [], _, _, h => by have := (h x).mp List.mem_cons_self; simp at this
  | x :: xs, y :: ys, h1, h2, h => by
    rw [List.pairwise_cons] at h1 h2
    have e : x = y := by
      rcases List.mem_cons.mp ((h x).mp List.mem_cons_self) with e | e
      · exact e
      · rcases List.mem_cons.mp ((h y).mpr List.mem_cons_self) with e2 | e2
        · exact e2.symm
        · have := h2.1 x e; have := h1.1 y e2; omega
    subst e
    have : xs = ys := sorted_uniq h1.2 h2.2 fun k => by
      constructor
      · intro hk
        rcases List.mem_cons.mp ((h k).mp (List.mem_cons_of_mem _ hk)) with e | e
        · have := h1.1 k hk; omega
        · exact e
      · intro hk
        rcases List.mem_cons.mp ((h k).mpr (List.mem_cons_of_mem _ hk)) with e | e
        · have := h2.1 k hk; omega
        · exact e
    rw [this]
theorem eqv_ints : ∀ xs ys : List Int, PyData.eqv (.list (xs.map PyData.int)) (.list (ys.map PyData.int)) = decide (xs = ys)
  | [], [] => rfl
  | [], _ :: _ => rfl
  | _ :: _, [] => rfl
  | x :: xs, y :: ys => by
    have ih := eqv_ints xs ys
    show (PyData.eqv (.int x) (.int y) && PyData.eqvAll (xs.map PyData.int) (ys.map PyData.int)) = _
    rw [show PyData.eqvAll (xs.map PyData.int) (ys.map PyData.int) = decide (xs = ys) from ih]
    show ((x == y) && _) = _
    by_cases h : x = y
    · subst h; simp
    · simp [h]
/-- thing == sorted(set(thing)): just where it rises -/
theorem eq_sorted {ns zs : List Int} (h : zs.Pairwise (· < ·)) (m : ∀ k, k ∈ zs ↔ k ∈ ns) : decide (ns = zs) = risI ns := by
  by_cases e : ns = zs
  · rw [decide_eq_true e, e]; exact (risI_pair.mpr h).symm
  · rw [decide_eq_false e]
    cases hr : risI ns with
    | false => rfl
    | true => exact absurd (sorted_uniq (risI_pair.mp hr) h fun k => (m k).symm) e
theorem nodup_60 {ks : List Int} (h : ks.Nodup) (b : ∀ k ∈ ks, 0 ≤ k ∧ k ≤ 60) : ks.length < 64 := by
  have := nodup_le (l := (List.range 61).map fun (i : Nat) => (i : Int)) h fun k hk => by
    obtain ⟨h0, h1⟩ := b k hk
    exact List.mem_map.mpr ⟨k.toNat, List.mem_range.mpr (by omega), by omega⟩
  rw [List.length_map, List.length_range] at this
  omega
end Pot
namespace Pot
open PySem PySem.Spec PyProof.Rows L2
/-! ### a comprehension that changes nothing that stood: out i is what is told up to turn i -/
def PvL (H1 : Hp) (D : Addr) (out : Nat → List V) (i : Nat) (H2 : Hp) : Prop := Same H1 H2 ∧ H2 D = some (.lst (out i))
section
variable {H1 H2 H3 : Hp} {D : Addr} {out : Nat → List V} {i : Nat} {y : V}
theorem pv_start (nD : H1 D = none) (e : out 0 = []) : PvL H1 D out 0 (upd H1 D (.lst [])) := ⟨same_upd nD, by rw [e]; exact upd_same⟩
theorem pv_put (nD : H1 D = none) (p : PvL H1 D out i H2) (s : Same H2 H3) (e : out (i + 1) = out i ++ [y]) (l : (out i).length < sizeLine) : ∃ acc, H3 D = some (.lst acc) ∧ acc.length < sizeLine ∧ PvL H1 D out (i + 1) (upd H3 D (.lst (acc ++ [y]))) :=
  ⟨out i, s _ _ p.2, l, same_put (p.1.trans s) nD, by rw [e]; exact upd_same⟩
theorem pv_skip (p : PvL H1 D out i H2) (s : Same H2 H3) (e : out (i + 1) = out i) : PvL H1 D out (i + 1) H3 := ⟨p.1.trans s, by rw [e]; exact s _ _ p.2⟩
end
theorem take_map {α : Type} (f : α → V) {l : List α} {i : Nat} {x : α} (h : l[i]? = some x) : (l.take (i + 1)).map f = (l.take i).map f ++ [f x] := by
  rw [List.take_add_one, h, List.map_append]; rfl
theorem take_len_lt {α : Type} {f : α → V} {l : List α} {i : Nat} (h : i < 100000) : ((l.take i).map f).length < sizeLine := by
  rw [List.length_map, List.length_take, sizeLine_eq]; omega
theorem take_len_le {α : Type} {f : α → V} {l : List α} {i : Nat} (h : l.length < 100000) : ((l.take i).map f).length < sizeLine := by
  rw [List.length_map, List.length_take, sizeLine_eq]; omega
/-- each below the next -/
def rb : List Int → List Bool
  | a :: b :: r => decide (a < b) :: rb (b :: r)
  | _ => []
theorem rb_all : ∀ ns : List Int, (rb ns).all id = risI ns
  | [] => rfl
  | [_] => rfl
  | a :: b :: r => by show (decide (a < b) && (rb (b :: r)).all id) = _; rw [rb_all (b :: r)]; rfl
theorem rb_len : ∀ ns : List Int, (rb ns).length = ns.length - 1
  | [] => rfl
  | [_] => rfl
  | a :: b :: r => by show (rb (b :: r)).length + 1 = _; rw [rb_len (b :: r)]; simp
theorem rb_at : ∀ {ns : List Int} {i : Nat} {x y : Int}, ns[i]? = some x → ns[i + 1]? = some y → (rb ns)[i]? = some (decide (x < y))
  | [], _, _, _, h, _ => by simp at h
  | [_], i, _, _, _, h => by simp at h
  | a :: b :: r, 0, x, y, h, k => by
    have e1 : a = x := by simpa using h
    have e2 : b = y := by simpa using k
    subst e1 e2; rfl
  | a :: b :: r, i + 1, x, y, h, k => rb_at (ns := b :: r) (i := i) (by simpa using h) (by simpa using k)
/-- what is told of each of some data -/
theorem all_map {ds : List PyData} {f : PyData → Bool} : (ds.map f).all id = ds.all f := by
  rw [List.all_map]; rfl
end Pot
namespace Pot
open PySem PySem.Spec PyProof.Rows L2
theorem pv_end {H1 H2 : Hp} {D : Addr} {out : Nat → List V} {n : Nat} {zs : List V} (p : PvL H1 D out n H2) (e : out n = zs) : Same H1 H2 ∧ H2 D = some (.lst zs) := ⟨p.1, by rw [← e]; exact p.2⟩
theorem take_all {α : Type} {f : α → V} {l : List α} {n : Nat} (h : l.length ≤ n) : (l.take n).map f = l.map f := by rw [List.take_of_length_le h]
end Pot

namespace Pot
open PySem PySem.Spec PyProof.Rows L2
/-! ### palettes as data -/
abbrev Col := Str × Int × Int × Int
abbrev Wsh := Str × Str × Option Int
def colD (c : Col) : PyData := .tuple [.str c.1, .int c.2.1, .int c.2.2.1, .int c.2.2.2]
def optD : Option Int → PyData
  | none => .none
  | some i => .int i
def washD (r : Wsh) : PyData := .tuple [.str r.1, .str r.2.1, optD r.2.2]
def palD (cs : List Col) (ws : List Wsh) : PyData := .tuple [.tuple (cs.map colD), .tuple (ws.map washD)]
def optV : Option Int → V
  | none => .non
  | some i => .int i
def namV : Option Str → V
  | none => .non
  | some z => .str z
/-- the washing between two: the first row that tells -/
def washF (ws : List Wsh) (a : Option Str) (b : Str) : Option Int := match ws with
  | [] => some 0
  | r :: ws => if some r.1 = a ∧ r.2.1 = b then r.2.2 else washF ws a b
/-- the washing of a row -/
def sumF (ws : List Wsh) : Option Str → List Str → Int → Option Int
  | _, [], h => some h
  | a, b :: r, h => match washF ws a b with
    | none => none
    | some k => sumF ws (some b) r (h + k)
section
variable {K : PySem.W.Frag} {H : Hp}
theorem dp_tup {v : V} {ds : List PyData} (h : Dp K H v (.tuple ds)) : ∃ a xs, v = .ref a ∧ SqT K H a xs ∧ DpAll K H xs ds := by
  cases h with
  | tup h a => exact ⟨_, _, rfl, h, a⟩
theorem dp_lst {v : V} {ds : List PyData} (h : Dp K H v (.list ds)) : ∃ a xs, v = .ref a ∧ SqL K H a xs ∧ DpAll K H xs ds := by
  cases h with
  | lst h a => exact ⟨_, _, rfl, h, a⟩
theorem dp_str {v : V} {z : Str} (h : Dp K H v (.str z)) : v = .str z := by cases h; rfl
theorem dp_int {v : V} {z : Int} (h : Dp K H v (.int z)) : v = .int z := by cases h; rfl
theorem dp_opt {v : V} : ∀ {z : Option Int}, Dp K H v (optD z) → v = optV z
  | none, h => by cases h; rfl
  | some i, h => by cases h; rfl
theorem opt_dp : ∀ (z : Option Int), Dp K H (optV z) (optD z)
  | none => .non
  | some i => .int i
theorem dp_two {xs : List V} {d e : PyData} (h : DpAll K H xs [d, e]) : ∃ x y, xs = [x, y] ∧ Dp K H x d ∧ Dp K H y e := by
  cases h with
  | cons h1 t => cases t with
    | cons h2 t => cases t; exact ⟨_, _, rfl, h1, h2⟩
theorem dp_three {xs : List V} {d e f : PyData} (h : DpAll K H xs [d, e, f]) : ∃ x y z, xs = [x, y, z] ∧ Dp K H x d ∧ Dp K H y e ∧ Dp K H z f := by
  cases h with
  | cons h1 t => obtain ⟨y, z, rfl, h2, h3⟩ := dp_two t; exact ⟨_, _, _, rfl, h1, h2, h3⟩
theorem dp_four {xs : List V} {d e f g : PyData} (h : DpAll K H xs [d, e, f, g]) : ∃ x y z u, xs = [x, y, z, u] ∧ Dp K H x d ∧ Dp K H y e ∧ Dp K H z f ∧ Dp K H u g := by
  cases h with
  | cons h1 t => obtain ⟨y, z, u, rfl, h2, h3, h4⟩ := dp_three t; exact ⟨_, _, _, _, rfl, h1, h2, h3, h4⟩
/-- a colour's tuple -/
theorem col_dp {v : V} {c : Col} (h : Dp K H v (colD c)) : ∃ a, v = .ref a ∧ SqT K H a [.str c.1, .int c.2.1, .int c.2.2.1, .int c.2.2.2] := by
  obtain ⟨a, xs, rfl, hs, ha⟩ := dp_tup h
  obtain ⟨x, y, z, u, rfl, h1, h2, h3, h4⟩ := dp_four ha
  rw [dp_str h1, dp_int h2, dp_int h3, dp_int h4] at hs
  exact ⟨a, rfl, hs⟩
theorem wash_dp {v : V} {r : Wsh} (h : Dp K H v (washD r)) : ∃ a, v = .ref a ∧ SqT K H a [.str r.1, .str r.2.1, optV r.2.2] := by
  obtain ⟨a, xs, rfl, hs, ha⟩ := dp_tup h
  obtain ⟨x, y, z, rfl, h1, h2, h3⟩ := dp_three ha
  rw [dp_str h1, dp_str h2, dp_opt h3] at hs
  exact ⟨a, rfl, hs⟩
/-- a palette in the heap -/
theorem pal_dp {v : V} {cs : List Col} {ws : List Wsh} (h : Dp K H v (palD cs ws)) :
    ∃ p c w xs ys, v = .ref p ∧ SqT K H p [.ref c, .ref w] ∧ SqT K H c xs ∧ DpAll K H xs (cs.map colD) ∧ SqT K H w ys ∧ DpAll K H ys (ws.map washD) := by
  obtain ⟨p, zs, rfl, hp, hz⟩ := dp_tup h
  obtain ⟨x, y, rfl, h1, h2⟩ := dp_two hz
  obtain ⟨c, xs, rfl, hc, hx⟩ := dp_tup h1
  obtain ⟨w, ys, rfl, hw, hy⟩ := dp_tup h2
  exact ⟨p, c, w, xs, ys, rfl, hp, hc, hx, hw, hy⟩
theorem dpAll_map_at {α : Type} {f : α → PyData} {xs : List V} {l : List α} {i : Nat} {x : V} (h : DpAll K H xs (l.map f)) (e : xs[i]? = some x) : ∃ y, l[i]? = some y ∧ Dp K H x (f y) := by
  obtain ⟨d, g, p⟩ := dpAll_at h e
  rw [List.getElem?_map] at g
  obtain ⟨y, hy, rfl⟩ := Option.map_eq_some_iff.mp g
  exact ⟨y, hy, p⟩
theorem dpAll_map_len {α : Type} {f : α → PyData} {xs : List V} {l : List α} (h : DpAll K H xs (l.map f)) : xs.length = l.length := by
  rw [dpAll_len h, List.length_map]
end
theorem decS {a b : Str} : decide (V.str a = V.str b) = decide (a = b) := by
  by_cases h : a = b
  · subst h; rw [decide_eq_true rfl, decide_eq_true rfl]
  · rw [decide_eq_false h, decide_eq_false fun z => h (V.str.inj z)]
/-- behind rows that don't tell -/
theorem washF_skip {a : Option Str} {b : Str} : ∀ {ws : List Wsh} {i : Nat}, (∀ j r, j < i → ws[j]? = some r → ¬ (some r.1 = a ∧ r.2.1 = b)) → washF ws a b = washF (ws.drop i) a b
  | ws, 0, _ => rfl
  | [], i + 1, _ => rfl
  | r :: ws, i + 1, h => by
    show (if some r.1 = a ∧ r.2.1 = b then r.2.2 else washF ws a b) = washF (ws.drop i) a b
    rw [if_neg (h 0 r (Nat.succ_pos _) rfl)]
    exact washF_skip (a := a) (b := b) (ws := ws) (i := i) fun j q hj e => h (j + 1) q (Nat.succ_lt_succ hj) e
theorem washF_at {a : Option Str} {b : Str} {ws : List Wsh} {i : Nat} {r : Wsh} (h : ∀ j r, j < i → ws[j]? = some r → ¬ (some r.1 = a ∧ r.2.1 = b)) (e : ws[i]? = some r) (hr : some r.1 = a ∧ r.2.1 = b) : washF ws a b = r.2.2 := by
  rw [washF_skip h, List.drop_eq_getElem_cons (List.getElem?_eq_some_iff.mp e).1, (List.getElem?_eq_some_iff.mp e).2]
  unfold washF
  rw [if_pos hr]
theorem washF_none {a : Option Str} {b : Str} {ws : List Wsh} (h : ∀ j r, j < ws.length → ws[j]? = some r → ¬ (some r.1 = a ∧ r.2.1 = b)) : washF ws a b = some 0 := by
  rw [washF_skip h, List.drop_length]
  rfl
/-! ### data without lists stays while the law draws -/
def noLAll : List PyData → Prop
  | [] => True
  | x :: xs => noL x ∧ noLAll xs
where noL : PyData → Prop
  | .list _ => False
  | .dict _ => False
  | .tuple xs => noLAll xs
  | _ => True
section
variable {K : PySem.W.Frag}
theorem kp_tup {d c : Addr} {H H' : Hp} {n : Nat} {a : Addr} {xs : List V} (st : StAt H d c n) (k : Kp d c H H') (h : SqT K H a xs) : SqT K H' a xs := by
  obtain ⟨_, ys, t, h1, h2, _⟩ := st
  have go : ∀ o, (H a = some (.tup xs) ∨ H a = some (.frz o (.tup xs))) → a ≠ d ∧ a ≠ c := fun o e => by
    constructor
    · intro z; subst z; rw [h1] at e; rcases e with e | e <;> cases e
    · intro z; subst z; rw [h2] at e; rcases e with e | e <;> cases e
  rcases h with (h | ⟨o, h⟩) | h
  · have g := go ⟨.none, none, .fields #[], #[]⟩ (.inl h); exact .inl (.inl (k _ _ g.1 g.2 h))
  · have g := go o (.inr h); exact .inl (.inr ⟨o, k _ _ g.1 g.2 h⟩)
  · exact .inr h
mutual
theorem dp_kp {d c : Addr} {H H' : Hp} {n : Nat} (st : StAt H d c n) (k : Kp d c H H') : ∀ {v : V} {e : PyData}, noLAll.noL e → Dp K H v e → Dp K H' v e
  | _, _, _, .non => .non
  | _, _, _, .bl b => .bl b
  | _, _, _, .int i => .int i
  | _, _, _, .str x => .str x
  | _, _, h, .lst _ _ => h.elim
  | _, _, h, .tup s a => .tup (kp_tup st k s) (dpAll_kp st k h a)
theorem dpAll_kp {d c : Addr} {H H' : Hp} {n : Nat} (st : StAt H d c n) (k : Kp d c H H') : ∀ {vs : List V} {es : List PyData}, noLAll es → DpAll K H vs es → DpAll K H' vs es
  | _, _, _, .nil => .nil
  | _, _, h, .cons x t => .cons (dp_kp st k h.1 x) (dpAll_kp st k h.2 t)
end
mutual
theorem dp_go {H H' : Hp} (go : ∀ a us, SqT K H a us → SqT K H' a us) : ∀ {v : V} {e : PyData}, noLAll.noL e → Dp K H v e → Dp K H' v e
  | _, _, _, .non => .non
  | _, _, _, .bl b => .bl b
  | _, _, _, .int i => .int i
  | _, _, _, .str x => .str x
  | _, _, h, .lst _ _ => h.elim
  | _, _, h, .tup s a => .tup (go _ _ s) (dpAll_go go h a)
theorem dpAll_go {H H' : Hp} (go : ∀ a us, SqT K H a us → SqT K H' a us) : ∀ {vs : List V} {es : List PyData}, noLAll es → DpAll K H vs es → DpAll K H' vs es
  | _, _, _, .nil => .nil
  | _, _, h, .cons x t => .cons (dp_go go h.1 x) (dpAll_go go h.2 t)
end
theorem noL_map {α : Type} {f : α → PyData} (h : ∀ x, noLAll.noL (f x)) : ∀ l : List α, noLAll (l.map f)
  | [] => trivial
  | x :: r => ⟨h x, noL_map h r⟩
theorem noL_col (c : Col) : noLAll.noL (colD c) := ⟨trivial, trivial, trivial, trivial, trivial⟩
theorem noL_wash (r : Wsh) : noLAll.noL (washD r) := ⟨trivial, trivial, by cases r.2.2 <;> trivial, trivial⟩
theorem noL_pal (cs : List Col) (ws : List Wsh) : noLAll.noL (palD cs ws) := ⟨noL_map noL_col cs, noL_map noL_wash ws, trivial⟩
theorem dpAll_app {H : Hp} : ∀ {xs ys : List V} {ds es : List PyData}, DpAll K H xs ds → DpAll K H ys es → DpAll K H (xs ++ ys) (ds ++ es)
  | _, _, _, _, .nil, h => h
  | _, _, _, _, .cons h t, h2 => .cons h (dpAll_app t h2)
end
/-! ### how long a palette's text may be -/
structure PalOk (cs : List Col) (ws : List Wsh) : Prop where
  nc : cs.length ≤ 20
  nw : ws.length ≤ 60
  cn : ∀ c ∈ cs, c.1.length ≤ 9 ∧ (∀ x ∈ c.1.cps.toList, x < 1114112) ∧ c.2.1.natAbs < 10000 ∧ c.2.2.1.natAbs < 10000 ∧ c.2.2.2.natAbs < 10000
  wn : ∀ r ∈ ws, (r.1.length ≤ 9 ∧ ∀ x ∈ r.1.cps.toList, x < 1114112) ∧ (r.2.1.length ≤ 9 ∧ ∀ x ∈ r.2.1.cps.toList, x < 1114112) ∧ ∀ i, r.2.2 = some i → i.natAbs < 10000
theorem PalOk.addC {cs : List Col} {ws : List Wsh} {c : Col} (h : PalOk cs ws) (n : cs.length < 20) (ok : c.1.length ≤ 9 ∧ (∀ x ∈ c.1.cps.toList, x < 1114112) ∧ c.2.1.natAbs < 10000 ∧ c.2.2.1.natAbs < 10000 ∧ c.2.2.2.natAbs < 10000) : PalOk (cs ++ [c]) ws :=
  ⟨by rw [List.length_append]; exact n, h.nw, fun x hx => (List.mem_append.mp hx).elim (h.cn x) fun z => by rw [List.mem_singleton.mp z]; exact ok, h.wn⟩
theorem PalOk.addW {cs : List Col} {ws : List Wsh} {r : Wsh} (h : PalOk cs ws) (n : ws.length < 60) (ok : (r.1.length ≤ 9 ∧ ∀ x ∈ r.1.cps.toList, x < 1114112) ∧ (r.2.1.length ≤ 9 ∧ ∀ x ∈ r.2.1.cps.toList, x < 1114112) ∧ ∀ i, r.2.2 = some i → i.natAbs < 10000) : PalOk cs (ws ++ [r]) :=
  ⟨h.nc, by rw [List.length_append]; exact n, h.cn, fun x hx => (List.mem_append.mp hx).elim (h.wn x) fun z => by rw [List.mem_singleton.mp z]; exact ok⟩
theorem log_small {i : Int} (h : i.natAbs < 10000) : i.natAbs.log2 < 1920 := by
  by_cases z : i.natAbs = 0
  · rw [z]; decide
  · have := (Nat.log2_lt z).mpr (show i.natAbs < 2 ^ 14 from Nat.lt_of_lt_of_le h (by decide))
    omega
theorem fineAll_map {α : Type} {f : α → PyData} : ∀ {l : List α}, (∀ x ∈ l, fineAll.fine (f x)) → fineAll (l.map f)
  | [], _ => trivial
  | x :: r, h => ⟨h x List.mem_cons_self, fineAll_map fun y hy => h y (List.mem_cons_of_mem _ hy)⟩
theorem costAll_map {α : Type} {f : α → PyData} {b : Nat} : ∀ {l : List α}, (∀ x ∈ l, costAll.cost (f x) ≤ b) → costAll (l.map f) ≤ l.length * (b + 2)
  | [], _ => Nat.zero_le _
  | x :: r, h => by
    have h1 := h x List.mem_cons_self
    have h2 := costAll_map (l := r) fun y hy => h y (List.mem_cons_of_mem _ hy)
    show costAll.cost (f x) + 2 + costAll (r.map f) ≤ (r.length + 1) * (b + 2)
    rw [Nat.succ_mul]
    omega
theorem depthAll_map {α : Type} {f : α → PyData} {b : Nat} : ∀ {l : List α}, (∀ x ∈ l, (f x).depth ≤ b) → PyData.depthAll (l.map f) ≤ b
  | [], _ => Nat.zero_le _
  | x :: r, h => by
    show max (f x).depth (PyData.depthAll (r.map f)) ≤ b
    exact Nat.max_le.mpr ⟨h x List.mem_cons_self, depthAll_map fun y hy => h y (List.mem_cons_of_mem _ hy)⟩
theorem fine_col {c : Col} (h : c.1.length ≤ 9 ∧ (∀ x ∈ c.1.cps.toList, x < 1114112) ∧ c.2.1.natAbs < 10000 ∧ c.2.2.1.natAbs < 10000 ∧ c.2.2.2.natAbs < 10000) : fineAll.fine (colD c) :=
  ⟨fun x hx => Nat.lt_trans (h.2.1 x hx) (by decide), log_small h.2.2.1, log_small h.2.2.2.1, log_small h.2.2.2.2, trivial⟩
theorem fine_opt {o : Option Int} (h : ∀ i, o = some i → i.natAbs < 10000) : fineAll.fine (optD o) := by
  cases o with
  | none => trivial
  | some i => exact log_small (h i rfl)
theorem pal_fine {cs : List Col} {ws : List Wsh} (h : PalOk cs ws) : fineAll.fine (palD cs ws) :=
  ⟨fineAll_map fun c hc => fine_col (h.cn c hc), fineAll_map fun r hr => ⟨fun x hx => Nat.lt_trans ((h.wn r hr).1.2 x hx) (by decide), fun x hx => Nat.lt_trans ((h.wn r hr).2.1.2 x hx) (by decide), fine_opt (h.wn r hr).2.2, trivial⟩, trivial⟩
theorem cost_opt (o : Option Int) : costAll.cost (optD o) ≤ 1921 := by
  cases o with
  | none => decide
  | some i => exact Nat.le_refl _
theorem pal_cost {cs : List Col} {ws : List Wsh} (h : PalOk cs ws) : costAll.cost (palD cs ws) ≤ 1000000 := by
  have h1 : costAll (cs.map colD) ≤ cs.length * (10000 + 2) := costAll_map fun c hc => by
    have := (h.cn c hc).1
    show (10 * c.1.length + 2) + 2 + (1921 + 2 + (1921 + 2 + (1921 + 2 + 0))) + 3 ≤ 10000
    omega
  have h2 : costAll (ws.map washD) ≤ ws.length * (10000 + 2) := costAll_map fun r hr => by
    have a := (h.wn r hr).1.1
    have b := (h.wn r hr).2.1.1
    have c := cost_opt r.2.2
    show (10 * r.1.length + 2) + 2 + ((10 * r.2.1.length + 2) + 2 + (costAll.cost (optD r.2.2) + 2 + 0)) + 3 ≤ 10000
    omega
  have h3 := Nat.mul_le_mul_right 10002 h.nc
  have h4 := Nat.mul_le_mul_right 10002 h.nw
  show (costAll (cs.map colD) + 3) + 2 + ((costAll (ws.map washD) + 3) + 2 + 0) + 3 ≤ 1000000
  omega
theorem depth_opt (o : Option Int) : (optD o).depth = 0 := by cases o <;> rfl
theorem pal_depth (cs : List Col) (ws : List Wsh) : (palD cs ws).depth ≤ 3 := by
  have h1 : PyData.depthAll (cs.map colD) ≤ 1 := depthAll_map fun c _ => by show 1 ≤ 1; decide
  have h2 : PyData.depthAll (ws.map washD) ≤ 1 := depthAll_map fun r _ => by
    show max 0 (max 0 (max (optD r.2.2).depth 0)) + 1 ≤ 1
    rw [depth_opt]
    decide
  show max (PyData.depthAll (cs.map colD) + 1) (max (PyData.depthAll (ws.map washD) + 1) 0) + 1 ≤ 3
  omega
end Pot

namespace Pot
open PySem PySem.Spec PyProof.Rows L2
theorem Ths.parts2 {m C E D W a b : Nat} {ds es : List PyData} (h : Ths m C D W ds) (hab : a ≤ b) (k : Ths m E D W es) : Ths m (C + E) D W (ds.take a ++ es ++ ds.drop b) := by
  have mem : ∀ d, d ∈ ds.take a ++ es ++ ds.drop b → d ∈ ds ∨ d ∈ es := fun d hd => by
    rcases List.mem_append.mp hd with z | z
    · rcases List.mem_append.mp z with y | y
      · exact .inl (List.mem_of_mem_take y)
      · exact .inr y
    · exact .inl (List.mem_of_mem_drop z)
  refine ⟨fun d hd => (mem d hd).elim (h.g d) (k.g d), ?_, fun d hd => (mem d hd).elim (h.d d) (k.d d), fun d hd => (mem d hd).elim (h.w d) (k.w d)⟩
  rw [costAll_app, costAll_app]
  have e := costAll_app (ds.take a) (ds.drop a)
  rw [List.take_append_drop] at e
  have e2 : ds.drop b = (ds.drop a).drop (b - a) := by rw [List.drop_drop]; congr 1; omega
  have e3 := costAll_drop (b - a) (ds.drop a)
  rw [← e2] at e3
  have := h.c
  have := k.c
  omega
end Pot

namespace Pot
open PySem PySem.Spec PyProof.Rows L2
/-! ### a box of three numbers whose last is at most n -/
def Bq (H : Hp) (b : Addr) (n : Nat) : Prop := ∃ x y z : Int, H b = some (.lst [.int x, .int y, .int z]) ∧ 0 ≤ z ∧ z ≤ n
section
variable {H H' : Hp} {b p : Addr} {n m : Nat} {o : HO}
theorem Bq.bx (B : Bq H b n) : Bx H b := by
  obtain ⟨x, y, z, h, _⟩ := B
  exact ⟨x, y, z, h⟩
theorem Bq.same (B : Bq H b n) (s : Same H H') : Bq H' b n := by
  obtain ⟨x, y, z, h, h2⟩ := B
  exact ⟨x, y, z, s _ _ h, h2⟩
theorem Bq.put (B : Bq H b n) (h : H p = none) : Bq (upd H p o) b n := B.same (same_upd h)
theorem Bq.wr (B : Bq H b n) (h : p ≠ b) : Bq (upd H p o) b n := by
  obtain ⟨x, y, z, e, h2⟩ := B
  exact ⟨x, y, z, by rw [upd_ne h.symm]; exact e, h2⟩
theorem Bq.mono (B : Bq H b n) (h : n ≤ m) : Bq H b m := by
  obtain ⟨x, y, z, e, h1, h2⟩ := B
  exact ⟨x, y, z, e, h1, by omega⟩
theorem Bq.ne (B : Bq H b n) (h : H p = none) : p ≠ b := B.bx.ne h
theorem Live.q (B : Bq H b n) : Live [b] H := Live.one B.bx
end
theorem b01 (k : Bool) : -(2 ^ 64 : Int) < (if k = true then 1 else 0) ∧ (if k = true then 1 else 0) < (2 ^ 64 : Int) := by cases k <;> decide
theorem CDivW.of {i j : Int} (h0 : 0 < j) (h1 : j < 2 ^ 64) : CDivW i j := by
  refine ⟨h0, ?_⟩
  have z : j.natAbs ≠ 0 := by omega
  have := (Nat.log2_lt z).mpr (show j.natAbs < 2 ^ 64 by omega)
  omega
mutual
theorem gd_lay {m : Nat} : ∀ d : PyData, gd m d → d.canLay0 = true
  | .none, _ => rfl
  | .bool _, _ => rfl
  | .int _, _ => rfl
  | .str x, g => by
    show x.cps.all (fun c => decide (c < 0x110000)) = true
    rw [← Array.all_toList, List.all_eq_true]
    exact fun c hc => decide_eq_true (g.2 c hc)
  | .list xs, g => gdAll_lay xs g
  | .tuple xs, g => gdAll_lay xs g
  | .dict _, g => g.elim
theorem gdAll_lay {m : Nat} : ∀ ds : List PyData, gdAll m ds → PyData.canLayAll0 ds = true
  | [], _ => rfl
  | x :: xs, g => by
    show (x.canLay0 && PyData.canLayAll0 xs) = true
    rw [gd_lay x g.1, gdAll_lay xs g.2]; rfl
end
theorem Th.shaped {m C D W : Nat} {d : PyData} (h : Th m C D W d) (hD : D ≤ 64) : SeqAt.shaped d = true := by
  unfold SeqAt.shaped
  rw [gd_lay d h.g, decide_eq_true (Nat.le_trans h.d hD)]; rfl
theorem gd_shaped {m : Nat} {d : PyData} (h : gd m d) (hD : d.depth ≤ 64) : SeqAt.shaped d = true := by
  unfold SeqAt.shaped
  rw [gd_lay d h, decide_eq_true hD]; rfl
end Pot

namespace Pot
open PySem PySem.Spec PyProof.Rows L2
def topS (i : Nat) : Stmt := PySem.Challenge.pw_potround_k47_who_is_in.main.body.getD i (.Pass ⟨0, 0, 0, 0⟩)
section
variable {P : Program} {w : World} {K : PySem.W.Frag} {mg : Str → Option Value} {base : Heap}
abbrev s__law_take : Stmt := topS 8
def n__law_take : List Str := ["_law_state", "_law_many", "_law_digit", "_law_low", "_law_high", "_law_turn", "_law_once", "_law_twice"]
theorem sc__law_take : FnScope n__law_take ["_law_state", "_law_many"] (defScope s__law_take) := ⟨rfl, rfl, rfl, by decide +kernel, rfl, by decide +kernel, by decide +kernel⟩
/-! ### _law_take -/
def spTake : Sp := fun vs H Q _ => ∃ (b : Addr) (m : Int) (n : Nat), vs = [.ref b, .int m] ∧ 0 < m ∧ m < 1073741824 ∧ Bq H b n ∧ n < 2 ^ 40 ∧
  ∀ H' r, 0 ≤ r → r < m → Bq H' b (n + 1) → Sm [b] H H' → Q (.int r) H'
theorem ok_take {f : Addr} {fd : FuncData} {k : Nat} (F : Fun K "_law_take" "_law_take" s__law_take f fd) (T : Txt mg) :
    FnOk P w K mg base CX0 (k + 1) f fd ["_law_state", "_law_many"] spTake := by
  refine F.ok sc__law_take (fun vs H Q E h => ?_) (fun cdv A outer s H vs Q E hr h => ?_)
  · obtain ⟨b, m, n, rfl, _⟩ := h
    rfl
  · obtain ⟨b, m, n, rfl, hm0, hm1, ⟨x, y, z, B, z0, zn⟩, hn, q⟩ := h
    have nd := sc__law_take.nd
    refine ⟨_, (pss_cons (ps_if (pt_cmpR op_gt (pe_ix (kx_list (K := K)) (pv 0) pe_int (fun _ _ => rfl)) pe_int (nomark _))
          (pss_cons (ps_asg (pe_callB call_divmod (by rfl) T.divmod (by decide +kernel) (pa_cons (pe_ix (kx_list (K := K)) (pv 0) pe_int (fun _ _ => rfl)) (pa_cons (pv 1) pa_nil))) (kg_tup (K := K) (n := 2) (pgs_cons (pg_sub (pv 0) pe_int set_list) (pgs_cons (pg_name (i := 2) nd rfl (.inl rfl)) pgs_nil))))
          (pss_one (ps_ret (pv 2))))
          pss_nil)
      (pss_cons (ps_asg (pe_op op_add (pe_ix (kx_list (K := K)) (pv 0) pe_int (fun _ _ => rfl)) pe_int) (pg_sub (pv 0) pe_int set_list))
      (pss_cons (ps_par3 (i := 3) (j := 4) (l := 5) rfl nd rfl rfl rfl (by decide) (by decide) (by decide) rfl rfl rfl (pa_cons (pe_op op_mod (pe_ix (kx_list (K := K)) (pv 0) pe_int (fun _ _ => rfl)) pe_int) (pa_cons (pe_op op_fdivW (pe_ix (kx_list (K := K)) (pv 0) pe_int (fun _ _ => rfl)) pe_int) (pa_cons (pe_ix (kx_list (K := K)) (pv 0) pe_int (fun _ _ => rfl)) pa_nil))) rfl)
      (pss_cons (ps_set (i := 6) nd rfl (.inl rfl) (pe_op op_mod (pe_op op_mul (pe_op op_add (pe_op op_add (pv 3) (pe_op op_mul (pe_op op_mul (pv 5) (pv 5)) pe_int)) pe_int) pe_int) pe_int))
      (pss_cons (ps_set (i := 7) nd rfl (.inl rfl) (pe_op op_mod (pe_op op_add (pe_op op_add (pe_op op_mul (pv 6) (pe_op op_add (pe_op op_mod (pv 6) pe_int) pe_int)) (pv 4)) (pv 5)) pe_int))
      (pss_one (ps_ret (pe_op op_mod (pe_op op_fdiv (pe_op op_mod (pe_op op_add (pe_op op_mul (pv 7) pe_int) (pv 6)) pe_int) pe_int) (pv 1))))))))), ?_⟩
    refine ⟨_, rfl, b, _, 0, .int x, rfl, rfl, SqL.of B, rfl, _, _, rfl, rfl, _, rfl, ite2 (fun hb => ?_) (fun hb => ?_)⟩
    · refine ⟨_, rfl, b, _, 0, .int x, rfl, rfl, SqL.of B, rfl, _, rfl, _, _, rfl, ⟨hm0, hm1⟩, fun p np => ?_⟩
      have nb : b ≠ p := ne_of_none B np
      have B1 : upd H p (.tup [.int (x / m), .int (x % m)]) b = some (.lst [.int x, .int y, .int z]) := by rw [upd_ne nb]; exact B
      refine ⟨p, _, rfl, .inl (.inl upd_same), rfl, _, _, rfl, _, rfl, b, _, 0, 0, rfl, rfl, B1, rfl, ?_⟩
      refine ⟨_, _, rfl, rfl, _, rfl, ?_⟩
      exact q _ _ (Int.emod_nonneg _ (by omega)) (Int.emod_lt_of_pos _ hm0) ⟨_, _, _, upd_same, z0, by omega⟩ ((sm_put np).trans (sm_wr List.mem_cons_self))
    · refine ⟨_, rfl, b, _, 2, .int z, rfl, rfl, SqL.of B, rfl, _, _, rfl, rfl, _, rfl, b, _, 2, 2, rfl, rfl, B, rfl, ?_⟩
      have B2 : upd H b (.lst [.int x, .int y, .int (z + 1)]) b = some (.lst [.int x, .int y, .int (z + 1)]) := upd_same
      have s2 : Sm [b] H (upd H b (.lst [.int x, .int y, .int (z + 1)])) := sm_wr List.mem_cons_self
      show tSeq _ _ _ _ (upd H b (.lst [.int x, .int y, .int (z + 1)]))
      generalize upd H b (.lst [.int x, .int y, .int (z + 1)]) = H2 at B2 s2 ⊢
      have t2 : z + 1 < 2 ^ 41 := by omega
      refine ⟨_, rfl, b, _, 1, .int y, rfl, rfl, SqL.of B2, rfl, _, _, rfl, rfl, (by show (0 : Int) < 2147483629; decide), ?_⟩
      refine ⟨_, rfl, b, _, 1, .int y, rfl, rfl, SqL.of B2, rfl, _, _, rfl, rfl, CDivW.of (by decide) (by decide), ?_⟩
      refine ⟨_, rfl, b, _, 2, .int (z + 1), rfl, rfl, SqL.of B2, rfl, _, _, _, rfl, ?_⟩
      refine ⟨_, rfl, _, rfl, _, rfl, _, _, rfl, rfl, .inl ⟨by omega, by omega⟩, _, _, rfl, rfl, .inr ⟨by decide, by decide⟩, _, _, rfl, rfl, _, _, rfl, rfl, _, _, rfl, rfl, .inr ⟨by decide, by decide⟩, _, _, rfl, rfl, (by show (0 : Int) < 2147483647; decide), ?_⟩
      refine ⟨_, rfl, _, rfl, _, _, rfl, rfl, (by show (0 : Int) < 30011; decide), _, _, rfl, rfl, _, _, rfl, rfl, cmul_mod _ _ (by decide) (by decide), _, rfl, _, _, rfl, rfl, _, rfl, _, _, rfl, rfl, _, _, rfl, rfl, (by show (0 : Int) < 2147483587; decide), ?_⟩
      refine ⟨_, rfl, _, _, rfl, rfl, .inr ⟨by decide, by decide⟩, _, rfl, _, _, rfl, rfl, _, _, rfl, rfl, (by show (0 : Int) < 2147483629; decide), _, _, rfl, rfl, ⟨by decide, by decide⟩, _, rfl, _, _, rfl, rfl, hm0, ?_⟩
      exact q _ _ (Int.emod_nonneg _ (by omega)) (Int.emod_lt_of_pos _ hm0) ⟨_, _, _, B2, by omega, by omega⟩ s2

abbrev s__law_begin : Stmt := topS 7
def n__law_begin : List Str := ["_law_script", "_law_k", "_law_cell"]
theorem sc__law_begin : FnScope n__law_begin ["_law_script", "_law_k"] (defScope s__law_begin) := ⟨rfl, rfl, rfl, by decide +kernel, rfl, by decide +kernel, by decide +kernel⟩
/-! ### _law_begin -/
def spBegin (K : PySem.W.Frag) : Sp := fun vs H Q _ => ∃ (a : Addr) (ns : List Int) (k : Nat), vs = [.ref a, .int (k : Nat)] ∧ SqL K H a (ns.map V.int) ∧ k ≤ 63 ∧ ∀ H' b, Same H H' → Bq H' b 0 → H b = none → Q (.ref b) H'
theorem ok_begin {f : Addr} {fd : FuncData} {k : Nat} (F : Fun K "_law_begin" "_law_begin" s__law_begin f fd) (T : Txt mg) : FnOk P w K mg base CX0 (k + 1) f fd ["_law_script", "_law_k"] (spBegin K) := by
  refine F.ok sc__law_begin (fun vs H Q E h => ?_) (fun cdv A outer s H vs Q E hr h => ?_)
  · obtain ⟨a, ns, k, rfl, _⟩ := h
    rfl
  · obtain ⟨a, ns, k, rfl, hS, h63, q⟩ := h
    have nd := sc__law_begin.nd
    refine ⟨_, (pss_cons (ps_set (i := 2) nd rfl (.inl rfl) (pe_ifExp (pt_cmpR op_lt (pv 1) (pe_callB (kc_len (K := K)) (by rfl) T.len PySem.boot_len (pa_cons (pv 0) pa_nil)) (nomark _)) (pe_ix (kx_list (K := K)) (pv 0) (pv 1) (fun _ _ => rfl)) pe_int))
      (pss_one (ps_ret (pe_lst (pa_cons (pe_op op_mul (pe_callB call_abs (by rfl) T.abs (by decide +kernel) (pa_cons (pv 2) pa_nil)) (pe_callTy call_int1 (by rfl) T.int (by decide +kernel) (pa_cons (pe_cmpR op_ge (pe_callB call_abs (by rfl) T.abs (by decide +kernel) (pa_cons (pv 2) pa_nil)) (pe_op op_pow pe_int pe_int) (nomark _)) pa_nil))) (pa_cons (pe_op op_add (pe_op op_add (pe_op op_mod (pe_callB call_abs (by rfl) T.abs (by decide +kernel) (pa_cons (pv 2) pa_nil)) (pe_op op_pow pe_int pe_int)) (pe_op op_mul pe_int (pv 1))) (pe_callTy call_int1 (by rfl) T.int (by decide +kernel) (pa_cons (pe_cmpR op_lt (pv 2) pe_int (nomark _)) pa_nil))) (pa_cons pe_int pa_nil))))))), ?_⟩
    refine ⟨_, rfl, _, rfl, _, _, rfl, .inl ⟨_, hS, rfl⟩, _, _, rfl, rfl, _, rfl, ite2 (fun hb => ?_) (fun hb => ?_)⟩
    · have hk : k < ns.length := by have := of_decide_eq_true hb; rw [List.length_map] at this; omega
      refine ⟨_, rfl, _, rfl, a, _, _, _, rfl, rfl, hS, atI_nat (by rw [List.getElem?_map, List.getElem?_eq_getElem hk]; rfl), ?_⟩
      refine ⟨_, rfl, _, rfl, _, rfl, _, rfl, _, _, rfl, rfl, ⟨by decide, by decide, by decide⟩, _, _, rfl, rfl, .inr ⟨_, rfl, _, _, rfl, rfl, .inr (b01 _), ?_⟩⟩
      refine ⟨_, rfl, _, rfl, _, _, rfl, rfl, ⟨by decide, by decide, by decide⟩, _, _, rfl, rfl, (by show (0 : Int) < 10 ^ 40; decide), _, rfl, _, _, rfl, rfl, .inl ⟨by decide, by decide⟩, _, _, rfl, rfl, _, rfl, _, _, rfl, rfl, .inr ⟨_, rfl, _, _, rfl, rfl, (by show 3 ≤ sizeLine; decide), fun p np => ?_⟩⟩
      exact q _ _ (same_upd np) ⟨_, _, _, upd_same, Int.le_refl _, Int.le_refl _⟩ np
    · skip
      refine ⟨_, rfl, _, rfl, _, rfl, _, rfl, _, _, rfl, rfl, ⟨by decide, by decide, by decide⟩, _, _, rfl, rfl, .inr ⟨_, rfl, _, _, rfl, rfl, .inr (b01 _), ?_⟩⟩
      refine ⟨_, rfl, _, rfl, _, _, rfl, rfl, ⟨by decide, by decide, by decide⟩, _, _, rfl, rfl, (by show (0 : Int) < 10 ^ 40; decide), _, rfl, _, _, rfl, rfl, .inl ⟨by decide, by decide⟩, _, _, rfl, rfl, _, rfl, _, _, rfl, rfl, .inr ⟨_, rfl, _, _, rfl, rfl, (by show 3 ≤ sizeLine; decide), fun p np => ?_⟩⟩
      exact q _ _ (same_upd np) ⟨_, _, _, upd_same, Int.le_refl _, Int.le_refl _⟩ np

end
end Pot

namespace Pot
open PySem PySem.Spec PyProof.Rows L2
section
variable {P : Program} {w : World} {K : PySem.W.Frag} {mg : Str → Option Value} {base : Heap}
abbrev s__law_same : Stmt := topS 9
def n__law_same : List Str := ["_law_found", "_law_due", "_law_one", "_law_other"]
theorem sc__law_same : FnScope n__law_same ["_law_found", "_law_due"] (defScope s__law_same) := ⟨rfl, rfl, rfl, by decide +kernel, rfl, by decide +kernel, by decide +kernel⟩
/-! ### _law_same: two of one and the same make are told to be so -/
def spSame (K : PySem.W.Frag) (k : Nat) : Sp := fun vs H Q _ => ∃ (x y : V) (d : PyData) (m : Nat), vs = [x, y] ∧ Dp K H x d ∧ Dp K H y d ∧ d.depth < k ∧ widAll.wid d ≤ 1000 ∧ gd m d ∧ ∀ H', Same H H' → Q (.bl true) H'
theorem ok_same {f : Addr} {fd : FuncData} (F : Fun K "_law_same" "_law_same" s__law_same f fd) (T : Txt mg) (bF : Binds K fd ["_law_found", "_law_due"] []) (gF : mg "_law_same" = some (.ref f)) :
    ∀ k : Nat, FnOk P w K mg base CX0 (k + 1) f fd ["_law_found", "_law_due"] (spSame K k) := by
  intro k
  induction k with
  | zero =>
    refine F.ok sc__law_same (fun vs H Q E h => ?_) (fun cdv A outer s H vs Q E hr h => ?_)
    · obtain ⟨x, y, d, m, rfl, _⟩ := h
      rfl
    · obtain ⟨x, y, d, m, rfl, hx, hy, hd, hw, hg, q⟩ := h
      exact absurd hd (Nat.not_lt_zero _)
  | succ k G =>
    refine F.ok sc__law_same (fun vs H Q E h => ?_) (fun cdv A outer s H vs Q E hr h => ?_)
    · obtain ⟨x, y, d, m, rfl, _⟩ := h
      rfl
    · obtain ⟨x, y, d, m, rfl, hx, hy, hd, hw, hg, q⟩ := h
      have nd := sc__law_same.nd
      have hu64 := hr.units
      refine ⟨_, (pss_cons (ps_if (pt_val (pe_callB (kc_isiT (K := K)) (by rfl) T.isinstance (by decide +kernel) (pa_cons (pv 1) (pa_cons (pe_tup (pa_cons (pe_bltn (v := .ty "list") (by rfl) T.list (by decide +kernel) rfl) (pa_cons (pe_bltn (v := .ty "tuple") (by rfl) T.tuple (by decide +kernel) rfl) pa_nil))) pa_nil))))
          (pss_cons (ps_if ((pw_or (pt_cmpR op_ne (pe_callB (kc_isi (K := K)) (by rfl) T.isinstance (by decide +kernel) (pa_cons (pv 0) (pa_cons (pe_bltn (v := .ty "list") (by rfl) T.list (by decide +kernel) rfl) pa_nil))) (pe_callB (kc_isi (K := K)) (by rfl) T.isinstance (by decide +kernel) (pa_cons (pv 1) (pa_cons (pe_bltn (v := .ty "list") (by rfl) T.list (by decide +kernel) rfl) pa_nil))) (nomark _)) (pw_or1 (pt_cmpR op_ne (pe_callB (kc_isi (K := K)) (by rfl) T.isinstance (by decide +kernel) (pa_cons (pv 0) (pa_cons (pe_bltn (v := .ty "tuple") (by rfl) T.tuple (by decide +kernel) rfl) pa_nil))) (pe_callB (kc_isi (K := K)) (by rfl) T.isinstance (by decide +kernel) (pa_cons (pv 1) (pa_cons (pe_bltn (v := .ty "tuple") (by rfl) T.tuple (by decide +kernel) rfl) pa_nil))) (nomark _))))).pt
              pss_never
              pss_nil)
          (pss_one (ps_ret (pe_and (pe_cmpR op_eq (pe_callB (kc_len (K := K)) (by rfl) T.len PySem.boot_len (pa_cons (pv 0) pa_nil)) (pe_callB (kc_len (K := K)) (by rfl) T.len PySem.boot_len (pa_cons (pv 1) pa_nil)) (nomark _)) (pe_one (pe_callB (kc_all (K := K)) (by rfl) T.all (by decide +kernel) (pa_cons (pe_lc (own := [("_law_one", 2), ("_law_other", 3)]) rfl nd (ki_zip (K := K) (by rfl) T.zip (pa_cons (pv 0) (pa_cons (pv 1) pa_nil))) (blkOk_by (N := n__law_same) (sc := defScope s__law_same) (by decide +kernel)) (fun _ _ _ _ _ => (kg_tup (K := K) (n := 2) (pgs_cons (pg_name (i := 2) nd rfl (.inl rfl)) (pgs_cons (pg_name (i := 3) nd rfl (.inl rfl)) pgs_nil)))) (fun _ _ _ _ _ => pts_nil) (fun _ _ _ _ _ => (pe_call G hr (by rfl) gF F.kp bF .nil pass0 (pa_cons (pv 2) (pa_cons (pv 3) pa_nil))))) pa_nil)))))))
          pss_nil)
      (pss_cons (ps_if ((pw_or (pt_cmpR op_isN (pv 1) pe_non (nomark _)) (pw_or1 (pt_val (pe_callB (kc_isi (K := K)) (by rfl) T.isinstance (by decide +kernel) (pa_cons (pv 1) (pa_cons (pe_bltn (v := .ty "str") (by rfl) T.str (by decide +kernel) rfl) pa_nil))))))).pt
          (pss_one (ps_ret (pe_and (pe_cmpR (ko_eq (K := K) hu64) (pv 0) (pv 1) (nomark _)) (pe_one (pe_cmpR op_eq (pe_callB (kc_isi (K := K)) (by rfl) T.isinstance (by decide +kernel) (pa_cons (pv 0) (pa_cons (pe_bltn (v := .ty "str") (by rfl) T.str (by decide +kernel) rfl) pa_nil))) (pe_callB (kc_isi (K := K)) (by rfl) T.isinstance (by decide +kernel) (pa_cons (pv 1) (pa_cons (pe_bltn (v := .ty "str") (by rfl) T.str (by decide +kernel) rfl) pa_nil))) (nomark _))))))
          pss_nil)
      (pss_one (ps_ret (pe_and (pe_callB (kc_isi (K := K)) (by rfl) T.isinstance (by decide +kernel) (pa_cons (pv 0) (pa_cons (pe_bltn (v := .ty "int") (by rfl) T.int (by decide +kernel) rfl) pa_nil))) (pe_and (pe_cmpR op_eq (pe_callB (kc_isi (K := K)) (by rfl) T.isinstance (by decide +kernel) (pa_cons (pv 0) (pa_cons (pe_bltn (v := .ty "bool") (by rfl) T.bool (by decide +kernel) rfl) pa_nil))) (pe_callB (kc_isi (K := K)) (by rfl) T.isinstance (by decide +kernel) (pa_cons (pv 1) (pa_cons (pe_bltn (v := .ty "bool") (by rfl) T.bool (by decide +kernel) rfl) pa_nil))) (nomark _)) (pe_one (pe_cmpR (ko_eq (K := K) hu64) (pv 0) (pv 1) (nomark _))))))))), ?_⟩
      refine ⟨_, rfl, (by show 2 ≤ sizeLine; decide), fun t ht => ?_⟩
      have sm1 : Same H (upd H t (.tup [.ty "list", .ty "tuple"])) := same_upd ht
      have hx1 := dp_same sm1 hx
      have hy1 := dp_same sm1 hy
      have ht1 : (upd H t (.tup [.ty "list", .ty "tuple"])) t = some (.tup [.ty "list", .ty "tuple"]) := upd_same
      generalize upd H t (.tup [.ty "list", .ty "tuple"]) = H1 at sm1 hx1 hy1 ht1 ⊢
      refine ⟨_, t, _, _, _, _, rfl, ht1, .cons (.ty _) (.cons (.ty _) .nil), tyx_dp hy1, kit_lt hy1, _, rfl, ?_⟩
      have hx2 := hx1
      have hy2 := hy1
      cases hy1 with
      | non =>
        cases hx1
        refine iteF ?_
        refine ⟨_, rfl, rfl, _, rfl, iteT ?_⟩
        refine ⟨_, rfl, _, rfl, _, _, hx2, hy2, rfl, rfl, _, rfl, ?_⟩
        refine iteT ⟨_, rfl, _, .ty _, _, _, isStrD _, rfl, .ty _, tyx_dp hx2, kit_str hx2, _, rfl, _, .ty _, _, _, isStrD _, rfl, .ty _, tyx_dp hy2, kit_str hy2, rfl, ?_⟩
        rw [decide_eq_true rfl]
        exact q _ sm1
      | str z =>
        cases hx1
        have hsh := gd_shaped hg (by show 0 ≤ 64; decide)
        refine iteF ?_
        refine ⟨_, rfl, rfl, _, rfl, iteF ⟨_, rfl, _, .ty _, _, _, isStrD _, rfl, .ty _, tyx_dp hy2, kit_str hy2, _, rfl, iteT ?_⟩⟩
        refine ⟨_, rfl, _, rfl, _, _, hx2, hy2, hsh, hsh, _, rfl, ?_⟩
        have e : PyData.eqv (.str z) (.str z) = true := by simp [PyData.eqv]
        rw [e]
        refine iteT ⟨_, rfl, _, .ty _, _, _, isStrD _, rfl, .ty _, tyx_dp hx2, kit_str hx2, _, rfl, _, .ty _, _, _, isStrD _, rfl, .ty _, tyx_dp hy2, kit_str hy2, rfl, ?_⟩
        rw [decide_eq_true rfl]
        exact q _ sm1
      | bl b =>
        cases hx1
        refine iteF ?_
        refine ⟨_, rfl, rfl, _, rfl, iteF ⟨_, rfl, _, .ty _, _, _, isStrD _, rfl, .ty _, tyx_dp hy2, kit_str hy2, _, rfl, iteF ?_⟩⟩
        refine ⟨_, rfl, _, .ty _, _, _, isIntD _, rfl, .ty _, tyx_dp hx2, kit_int hx2, _, rfl, iteT ⟨_, rfl, _, .ty _, _, _, isBoolD _, rfl, .ty _, tyx_dp hx2, kit_bool hx2, _, rfl, _, .ty _, _, _, isBoolD _, rfl, .ty _, tyx_dp hy2, kit_bool hy2, rfl, _, rfl, iteT ?_⟩⟩
        refine ⟨_, rfl, _, rfl, _, _, hx2, hy2, rfl, rfl, ?_⟩
        have e : PyData.eqv (.bool b) (.bool b) = true := by cases b <;> rfl
        rw [e]
        exact q _ sm1
      | int i =>
        cases hx1
        refine iteF ?_
        refine ⟨_, rfl, rfl, _, rfl, iteF ⟨_, rfl, _, .ty _, _, _, isStrD _, rfl, .ty _, tyx_dp hy2, kit_str hy2, _, rfl, iteF ?_⟩⟩
        refine ⟨_, rfl, _, .ty _, _, _, isIntD _, rfl, .ty _, tyx_dp hx2, kit_int hx2, _, rfl, iteT ⟨_, rfl, _, .ty _, _, _, isBoolD _, rfl, .ty _, tyx_dp hx2, kit_bool hx2, _, rfl, _, .ty _, _, _, isBoolD _, rfl, .ty _, tyx_dp hy2, kit_bool hy2, rfl, _, rfl, iteT ?_⟩⟩
        refine ⟨_, rfl, _, rfl, _, _, hx2, hy2, rfl, rfl, ?_⟩
        have e : PyData.eqv (.int i) (.int i) = true := by show (i == i) = true; exact beq_self_eq_true i
        rw [e]
        exact q _ sm1
      | @lst b ys ds hl ha =>
        cases hx1 with
        | @lst a xs _ hl' ha' =>
        have e1 : xs.length = ys.length := (dpAll_len ha').trans (dpAll_len ha).symm
        refine iteT ?_
        refine ⟨_, rfl, _, .ty _, _, _, isListD _, rfl, .ty _, tyx_dp hx2, kit_list hx2, _, rfl, _, .ty _, _, _, isListD _, rfl, .ty _, tyx_dp hy2, kit_list hy2, rfl, _, rfl, iteF ?_⟩
        refine ⟨_, rfl, _, .ty _, _, _, isTupD _, rfl, .ty _, tyx_dp hx2, kit_tup hx2, _, rfl, _, .ty _, _, _, isTupD _, rfl, .ty _, tyx_dp hy2, kit_tup hy2, rfl, _, rfl, iteF ?_⟩
        refine ⟨_, rfl, _, xs.length, rfl, .inl ⟨xs, hl', rfl⟩, _, rfl, _, ys.length, rfl, .inl ⟨ys, hl, rfl⟩, rfl, _, rfl, ?_⟩
        rw [e1]
        refine ite2 (fun _ => ?_) (fun h => absurd (decide_eq_true rfl) h)
        refine ⟨_, rfl, _, rfl, a, b, xs, ys, rfl, .inl ⟨hl', hl, fun D hD => ?_⟩⟩
        refine lc_it (walk_zip (xs := xs) (ys := ys) (n := ys.length) (by rw [e1, Nat.min_self])) (fun i H2 => Same H1 H2 ∧ H1 D = none ∧ H2 D = some (.lst ((List.replicate i true).map V.bl))) ⟨same_upd hD, hD, upd_same⟩ (fun i H2 _ h => ⟨h.1.seq hl', h.1.seq hl⟩) ?_ ?_
        · skip
          rintro i v H2 H3 hi ⟨sm, nD, hL⟩ ⟨u, x1, y1, rfl, hu, rfl, gx, gy⟩
          have sm3 : Same H1 (upd H2 u (.tup [x1, y1])) := same_put sm (sm.free hu)
          obtain ⟨d1, g1, p1⟩ := dpAll_at ha' gx
          obtain ⟨d2, g2, p2⟩ := dpAll_at ha gy
          have ed : d1 = d2 := Option.some.inj (g1.symm.trans g2)
          subst ed
          refine ⟨u, _, rfl, .inl (.inl upd_same), rfl, _, _, rfl, _, _, rfl, rfl, rfl, tYes_at ?_⟩
          rw [if_pos rfl]
          refine ⟨_, rfl, _, rfl, x1, y1, d1, m, rfl, dp_same sm3 p1, dp_same sm3 p2, ?_, ?_, gdAll_iff.mp hg d1 (List.mem_of_getElem? g1), fun H4 s4 => ?_⟩
          · have h1 := depth_at g1
            have h2 : PyData.depthAll ds + 1 < k + 1 := hd
            omega
          · exact Nat.le_trans (wid_at g1) (Nat.le_trans (Nat.le_max_right _ _) hw)
          · have nuD : D ≠ u := ne_of_none hL hu
            refine ⟨_, s4 _ _ (by rw [upd_ne nuD]; exact hL), ?_, same_put (sm3.trans s4) nD, nD, ?_⟩
            · rw [List.length_map, List.length_replicate]
              exact Nat.lt_of_lt_of_le (dpAll_len ha ▸ hi) (Nat.le_trans (Nat.le_trans (Nat.le_max_left _ _) hw) (by decide))
            · rw [upd_same, List.replicate_succ', List.map_append]
              rfl
        · skip
          rintro H2 ⟨sm, nD, hL⟩
          refine ⟨D, _, rfl, SqL.of hL, ?_⟩
          have e : (List.replicate ys.length true).all id = true := by simp
          rw [e]
          exact q _ (sm1.trans sm)
      | @tup b ys ds hl ha =>
        cases hx1 with
        | @tup a xs _ hl' ha' =>
        have e1 : xs.length = ys.length := (dpAll_len ha').trans (dpAll_len ha).symm
        refine iteT ?_
        refine ⟨_, rfl, _, .ty _, _, _, isListD _, rfl, .ty _, tyx_dp hx2, kit_list hx2, _, rfl, _, .ty _, _, _, isListD _, rfl, .ty _, tyx_dp hy2, kit_list hy2, rfl, _, rfl, iteF ?_⟩
        refine ⟨_, rfl, _, .ty _, _, _, isTupD _, rfl, .ty _, tyx_dp hx2, kit_tup hx2, _, rfl, _, .ty _, _, _, isTupD _, rfl, .ty _, tyx_dp hy2, kit_tup hy2, rfl, _, rfl, iteF ?_⟩
        refine ⟨_, rfl, _, xs.length, rfl, .inr ⟨xs, hl', rfl⟩, _, rfl, _, ys.length, rfl, .inr ⟨ys, hl, rfl⟩, rfl, _, rfl, ?_⟩
        rw [e1]
        refine ite2 (fun _ => ?_) (fun h => absurd (decide_eq_true rfl) h)
        refine ⟨_, rfl, _, rfl, a, b, xs, ys, rfl, .inr ⟨hl', hl, fun D hD => ?_⟩⟩
        refine lc_it (walk_zipT (xs := xs) (ys := ys) (n := ys.length) (by rw [e1, Nat.min_self])) (fun i H2 => Same H1 H2 ∧ H1 D = none ∧ H2 D = some (.lst ((List.replicate i true).map V.bl))) ⟨same_upd hD, hD, upd_same⟩ (fun i H2 _ h => ⟨same_tup h.1 hl', same_tup h.1 hl⟩) ?_ ?_
        · skip
          rintro i v H2 H3 hi ⟨sm, nD, hL⟩ ⟨u, x1, y1, rfl, hu, rfl, gx, gy⟩
          have sm3 : Same H1 (upd H2 u (.tup [x1, y1])) := same_put sm (sm.free hu)
          obtain ⟨d1, g1, p1⟩ := dpAll_at ha' gx
          obtain ⟨d2, g2, p2⟩ := dpAll_at ha gy
          have ed : d1 = d2 := Option.some.inj (g1.symm.trans g2)
          subst ed
          refine ⟨u, _, rfl, .inl (.inl upd_same), rfl, _, _, rfl, _, _, rfl, rfl, rfl, tYes_at ?_⟩
          rw [if_pos rfl]
          refine ⟨_, rfl, _, rfl, x1, y1, d1, m, rfl, dp_same sm3 p1, dp_same sm3 p2, ?_, ?_, gdAll_iff.mp hg d1 (List.mem_of_getElem? g1), fun H4 s4 => ?_⟩
          · have h1 := depth_at g1
            have h2 : PyData.depthAll ds + 1 < k + 1 := hd
            omega
          · exact Nat.le_trans (wid_at g1) (Nat.le_trans (Nat.le_max_right _ _) hw)
          · have nuD : D ≠ u := ne_of_none hL hu
            refine ⟨_, s4 _ _ (by rw [upd_ne nuD]; exact hL), ?_, same_put (sm3.trans s4) nD, nD, ?_⟩
            · rw [List.length_map, List.length_replicate]
              exact Nat.lt_of_lt_of_le (dpAll_len ha ▸ hi) (Nat.le_trans (Nat.le_trans (Nat.le_max_left _ _) hw) (by decide))
            · rw [upd_same, List.replicate_succ', List.map_append]
              rfl
        · skip
          rintro H2 ⟨sm, nD, hL⟩
          refine ⟨D, _, rfl, SqL.of hL, ?_⟩
          have e : (List.replicate ys.length true).all id = true := by simp
          rw [e]
          exact q _ (sm1.trans sm)

end
end Pot

namespace Pot
open PySem PySem.Spec PyProof.Rows L2
section
variable {P : Program} {w : World} {K : PySem.W.Frag} {mg : Str → Option Value} {base : Heap}
abbrev Pc := Int × Int
def pc0 : Pc := (0, 0)
def pcD (p : Pc) : PyData := .tuple [.int p.1, .int p.2]
def inB (p : Pc) (h : Int) : Bool := decide (p.1 ≤ h) && decide (h < p.1 + p.2)
def hereN (ps : List Pc) (h : Int) (i : Nat) : List Nat := (List.range i).filter fun k => inB (ps.getD k pc0) h
def natV (k : Nat) : V := .int ((k : Nat) : Int)
def hereF (ps : List Pc) (h : Int) : List Int := (hereN ps h ps.length).map fun k => ((k : Nat) : Int)
theorem hereN_yes {ps : List Pc} {h : Int} {i : Nat} (e : inB (ps.getD i pc0) h = true) : hereN ps h (i + 1) = hereN ps h i ++ [i] := by
  unfold hereN
  rw [List.range_succ, List.filter_append, List.filter_cons_of_pos (p := fun k => inB (ps.getD k pc0) h) e]; rfl
theorem hereN_no {ps : List Pc} {h : Int} {i : Nat} (e : inB (ps.getD i pc0) h = false) : hereN ps h (i + 1) = hereN ps h i := by
  unfold hereN
  rw [List.range_succ, List.filter_append, List.filter_cons_of_neg (p := fun k => inB (ps.getD k pc0) h) (by rw [e]; exact Bool.false_ne_true), List.filter_nil, List.append_nil]
theorem hereN_len (ps : List Pc) (h : Int) (i : Nat) : (hereN ps h i).length ≤ i := by
  have := List.length_filter_le (fun k => inB (ps.getD k pc0) h) (List.range i)
  rw [List.length_range] at this; exact this
theorem hereF_len (ps : List Pc) (h : Int) : (hereF ps h).length ≤ ps.length := by
  unfold hereF
  rw [List.length_map]; exact hereN_len ..
theorem hereF_map (ps : List Pc) (h : Int) : (hereN ps h ps.length).map natV = (hereF ps h).map V.int := by
  unfold hereF natV
  rw [List.map_map]; rfl
def stepM (ps : List Pc) (b : Int × Option Int) (h : Int) : Int × Option Int := if b.1 < ((hereF ps h).length : Int) then (((hereF ps h).length : Int), some h) else b
def bestF (ps : List Pc) (zs : List Int) : Int × Option Int := zs.foldl (stepM ps) (0, none)
theorem bestF_one {ps : List Pc} {zs : List Int} {i : Nat} {z : Int} (g : zs[i]? = some z) : bestF ps (zs.take (i + 1)) = stepM ps (bestF ps (zs.take i)) z := by
  unfold bestF
  rw [List.take_add_one, g, List.foldl_append]; rfl
def opV : Option Int → V
  | none => .non
  | some h => .int h
def opD : Option Int → PyData
  | none => .none
  | some h => .int h
theorem dp_op {H : Hp} (o : Option Int) : Dp K H (opV o) (opD o) := by
  cases o with
  | none => exact .non
  | some h => exact .int h
def bestD (b : Int × Option Int) : PyData := .tuple [.int b.1, opD b.2]
theorem best_dp {H : Hp} {t : Addr} {b : Int × Option Int} (h : SqT K H t [.int b.1, opV b.2]) : Dp K H (.ref t) (bestD b) := .tup h (.cons (.int _) (.cons (dp_op _) .nil))
def HoursOk (ps : List Pc) (zs : List Int) : Prop := zs.Pairwise (· < ·) ∧ ∀ k, k ∈ zs ↔ k ∈ ps.map (·.1)
theorem hours_uniq {ps : List Pc} {zs ys : List Int} (h1 : HoursOk ps zs) (h2 : HoursOk ps ys) : zs = ys := sorted_uniq h1.1 h2.1 fun k => by rw [h1.2 k, h2.2 k]
theorem pc_dp {H : Hp} {v : V} {p : Pc} (h : Dp K H v (pcD p)) : ∃ a, v = .ref a ∧ SqT K H a [.int p.1, .int p.2] := by
  obtain ⟨a, xs, rfl, hs, ha⟩ := dp_tup h
  obtain ⟨x, y, rfl, h1, h2⟩ := dp_two ha
  rw [dp_int h1, dp_int h2] at hs
  exact ⟨a, rfl, hs⟩
theorem pcs_at {H : Hp} {xs : List V} {ps : List Pc} (h : DpAll K H xs (ps.map pcD)) {i : Nat} {v : V} (g : xs[i]? = some v) : ∃ a, v = .ref a ∧ SqT K H a [.int (ps.getD i pc0).1, .int (ps.getD i pc0).2] ∧ i < ps.length ∧ Dp K H v (pcD (ps.getD i pc0)) := by
  obtain ⟨d, gd, dp⟩ := dpAll_at h g
  rw [List.getElem?_map] at gd
  obtain ⟨p, gp, rfl⟩ := Option.map_eq_some_iff.mp gd
  have e : ps.getD i pc0 = p := by rw [List.getD_eq_getElem?_getD, gp]; rfl
  rw [e]
  obtain ⟨a, rfl, hs⟩ := pc_dp dp
  exact ⟨a, rfl, hs, (List.getElem?_eq_some_iff.mp gp).1, dp⟩

abbrev s_out_at : Stmt := topS 3
def n_out_at : List Str := ["piece", "come", "cool"]
theorem sc_out_at : FnScope n_out_at ["piece"] (defScope s_out_at) := ⟨rfl, rfl, rfl, by decide +kernel, rfl, by decide +kernel, by decide +kernel⟩
def spOut (K : PySem.W.Frag) : Sp := fun vs H Q _ => ∃ (a : Addr) (p : Pc), vs = [.ref a] ∧ SqT K H a [.int p.1, .int p.2] ∧ Q (.int (p.1 + p.2)) H
theorem ok_out {f : Addr} {fd : FuncData} {k : Nat} (F : Fun K "out_at" "out_at" s_out_at f fd) : FnOk P w K mg base CX0 (k + 1) f fd ["piece"] (spOut K) := by
  refine F.ok sc_out_at (fun vs H Q E h => ?_) (fun cdv A outer s H vs Q E hr h => ?_)
  · obtain ⟨a, p, rfl, _⟩ := h
    rfl
  · obtain ⟨a, p, rfl, hS, q⟩ := h
    have nd := sc_out_at.nd
    refine ⟨_, (pss_cons (ps_asg (pv 0) (kg_tup (K := K) (n := 2) (pgs_cons (pg_name (i := 1) nd rfl (.inl rfl)) (pgs_cons (pg_name (i := 2) nd rfl (.inl rfl)) pgs_nil))))
      (pss_one (ps_ret (pe_op op_add (pv 1) (pv 2))))), ?_⟩
    refine ⟨_, rfl, a, _, rfl, hS, rfl, _, _, rfl, _, _, rfl, rfl, _, rfl, _, rfl, _, _, rfl, rfl, q⟩
abbrev s_is_in : Stmt := topS 2
def n_is_in : List Str := ["piece", "hour"]
theorem sc_is_in : FnScope n_is_in ["piece", "hour"] (defScope s_is_in) := ⟨rfl, rfl, rfl, by decide +kernel, rfl, by decide +kernel, by decide +kernel⟩
def spIn (K : PySem.W.Frag) : Sp := fun vs H Q _ => ∃ (a : Addr) (p : Pc) (h : Int), vs = [.ref a, .int h] ∧ SqT K H a [.int p.1, .int p.2] ∧ Q (.bl (inB p h)) H
theorem ok_in {f : Addr} {fd : FuncData} {k : Nat} (F : Fun K "is_in" "is_in" s_is_in f fd) (c_out_at : Cl P w K mg base (k + 1) "out_at" (spOut K)) : FnOk P w K mg base CX0 (k + 2) f fd ["piece", "hour"] (spIn K) := by
  refine F.ok sc_is_in (fun vs H Q E h => ?_) (fun cdv A outer s H vs Q E hr h => ?_)
  · obtain ⟨a, p, h, rfl, _⟩ := h
    rfl
  · obtain ⟨a, p, h, rfl, hS, q⟩ := h
    have nd := sc_is_in.nd
    refine ⟨_, (pss_one (ps_ret (pe_chain op_le op_lt (pe_ix (kx_tup (K := K)) (pv 0) pe_int (fun _ _ => rfl)) (pv 1) (pe_cl c_out_at hr (by omega) (by rfl) (pa_cons (pv 0) pa_nil))))), ?_⟩
    refine ⟨_, rfl, a, _, 0, _, rfl, rfl, hS, rfl, _, rfl, _, _, rfl, rfl, _, rfl, ite2 (fun h1 => ?_) (fun h1 => ?_)⟩
    · refine ⟨_, rfl, a, p, rfl, hS, _, _, rfl, rfl, ?_⟩
      have e : inB p h = decide (h < p.1 + p.2) := by unfold inB; rw [h1]; rfl
      rw [e] at q; exact q
    · have e : inB p h = false := by unfold inB; rw [Bool.not_eq_true _ |>.mp h1]; rfl
      rw [e] at q; exact q
abbrev s_in_at : Stmt := topS 1
def n_in_at : List Str := ["pieces", "hour", "number", "piece"]
theorem sc_in_at : FnScope n_in_at ["pieces", "hour"] (defScope s_in_at) := ⟨rfl, rfl, rfl, by decide +kernel, rfl, by decide +kernel, by decide +kernel⟩
def spAt (K : PySem.W.Frag) : Sp := fun vs H Q _ => ∃ (a : Addr) (xs : List V) (ps : List Pc) (h : Int), vs = [.ref a, .int h] ∧ SqL K H a xs ∧ DpAll K H xs (ps.map pcD) ∧ ps.length ≤ 60 ∧ ∀ H' L, Same H H' → H L = none → H' L = some (.lst ((hereF ps h).map V.int)) → Q (.ref L) H'
theorem ok_at {f : Addr} {fd : FuncData} {k : Nat} (F : Fun K "in_at" "in_at" s_in_at f fd) (T : Txt mg) (c_is_in : Cl P w K mg base (k + 2) "is_in" (spIn K)) : FnOk P w K mg base CX0 (k + 3) f fd ["pieces", "hour"] (spAt K) := by
  refine F.ok sc_in_at (fun vs H Q E h => ?_) (fun cdv A outer s H vs Q E hr h => ?_)
  · obtain ⟨a, xs, ps, h, rfl, _⟩ := h
    rfl
  · obtain ⟨a, xs, ps, h, rfl, hS, hx, l60, q⟩ := h
    have nd := sc_in_at.nd
    have lx : xs.length = ps.length := dpAll_map_len hx
    refine ⟨_, (pss_one (ps_ret (pe_lc (own := [("number", 2), ("piece", 3)]) rfl nd (ki_enum (K := K) (by rfl) T.enumerate (pa_cons (pv 0) pa_nil)) (blkOk_by (N := n_in_at) (sc := defScope s_in_at) (by decide +kernel)) (fun _ _ _ _ _ => (kg_tup (K := K) (n := 2) (pgs_cons (pg_name (i := 2) nd rfl (.inl rfl)) (pgs_cons (pg_name (i := 3) nd rfl (.inl rfl)) pgs_nil)))) (fun _ _ _ _ _ => (pts_one (pt_val (pe_cl c_is_in hr (by omega) (by rfl) (pa_cons (pv 3) (pa_cons (pv 1) pa_nil)))))) (fun _ _ _ _ _ => (pv 2))))), ?_⟩
    refine ⟨_, rfl, a, _, rfl, hS, fun D nD => ?_⟩
    refine lc_it (walk_enum (xs := xs)) (PvL H D fun i => (hereN ps h i).map natV) (pv_start nD rfl) (fun i H4 _ h => h.1.seq hS) ?_ ?_
    · rintro i y H4 H5 hi p ⟨u, x1, x2, rfl, nu, rfl, g1, g2⟩
      cases g1
      replace g2 : xs[i]? = some x2 := g2
      obtain ⟨b, rfl, hb, hi2, _⟩ := pcs_at (dpAll_same p.1 hx) g2
      have su := same_upd (o := .tup [.int (i : Nat), .ref b]) nu
      refine ⟨u, _, rfl, .inl (.inl upd_same), rfl, _, _, rfl, _, _, rfl, rfl, rfl, ?_⟩
      refine ⟨_, rfl, _, rfl, b, ps.getD i pc0, h, rfl, same_tup su hb, _, rfl, ?_⟩
      have lf : ((hereN ps h i).map natV).length < sizeLine := by
        rw [List.length_map, sizeLine_eq]
        have := hereN_len ps h i
        omega
      cases e : inB (ps.getD i pc0) h with
      | true =>
        refine iteT ⟨_, rfl, ?_⟩
        exact pv_put nD p su (by rw [hereN_yes e, List.map_append]; rfl) lf
      | false =>
        refine iteF ?_
        exact pv_skip p su (by rw [hereN_no e])
    · intro H4 p
      obtain ⟨s4, hD⟩ := pv_end p (show _ = (hereF ps h).map V.int by rw [← hereF_map, lx])
      exact q _ _ s4 nD hD
abbrev s_hours_of_coming : Stmt := topS 5
def n_hours_of_coming : List Str := ["pieces", "come", "cool"]
theorem sc_hours_of_coming : FnScope n_hours_of_coming ["pieces"] (defScope s_hours_of_coming) := ⟨rfl, rfl, rfl, by decide +kernel, rfl, by decide +kernel, by decide +kernel⟩
def spHrs (K : PySem.W.Frag) : Sp := fun vs H Q _ => ∃ (a : Addr) (xs : List V) (ps : List Pc), vs = [.ref a] ∧ SqL K H a xs ∧ DpAll K H xs (ps.map pcD) ∧ ps.length ≤ 60 ∧ ∀ H' L zs, Same H H' → H L = none → H' L = some (.lst (zs.map V.int)) → HoursOk ps zs → Q (.ref L) H'
theorem ok_hrs {f : Addr} {fd : FuncData} {k : Nat} (F : Fun K "hours_of_coming" "hours_of_coming" s_hours_of_coming f fd) (T : Txt mg) : FnOk P w K mg base CX0 (k + 1) f fd ["pieces"] (spHrs K) := by
  refine F.ok sc_hours_of_coming (fun vs H Q E h => ?_) (fun cdv A outer s H vs Q E hr h => ?_)
  · obtain ⟨a, xs, ps, rfl, _⟩ := h
    rfl
  · obtain ⟨a, xs, ps, rfl, hS, hx, l60, q⟩ := h
    have nd := sc_hours_of_coming.nd
    have lx : xs.length = ps.length := dpAll_map_len hx
    refine ⟨_, (pss_one (ps_ret (pe_callB (kc_sortedSet (w := w)) (by rfl) T.sorted (by decide +kernel) (pa_cons (pe_callTy (kc_setLj (K := K) (w := w)) (by rfl) T.set (by decide +kernel) (pa_cons (pe_lc (own := [("come", 1), ("cool", 2)]) rfl nd (ki_list (K := K) (pv 0)) (blkOk_by (N := n_hours_of_coming) (sc := defScope s_hours_of_coming) (by decide +kernel)) (fun _ _ _ _ _ => (kg_tup (K := K) (n := 2) (pgs_cons (pg_name (i := 1) nd rfl (.inl rfl)) (pgs_cons (pg_name (i := 2) nd rfl (.inl rfl)) pgs_nil)))) (fun _ _ _ _ _ => pts_nil) (fun _ _ _ _ _ => (pv 1))) pa_nil)) pa_nil)))), ?_⟩
    refine ⟨_, rfl, a, rfl, ⟨_, hS⟩, fun D nD => ?_⟩
    refine lc_it (walk_list (xs := xs)) (PvL H D fun i => ((ps.map (·.1)).take i).map V.int) (pv_start nD rfl) (fun i H4 _ h => h.1.seq hS) ?_ ?_
    · rintro i y H4 H5 hi p ⟨rfl, gx⟩
      obtain ⟨b, rfl, hb, hi2, _⟩ := pcs_at (dpAll_same p.1 hx) gx
      refine ⟨b, _, rfl, hb, rfl, _, _, rfl, _, _, rfl, rfl, rfl, tYes_at ?_⟩
      rw [if_pos rfl]
      refine ⟨_, rfl, ?_⟩
      exact pv_put nD p (Same.refl _) (take_map V.int (by rw [List.getElem?_map, List.getElem?_eq_getElem hi2]; show some _ = some (ps.getD i pc0).1; rw [List.getD_eq_getElem?_getD, List.getElem?_eq_getElem hi2]; rfl)) (take_len_le (by rw [List.length_map]; omega))
    · intro H4 p
      obtain ⟨s4, hD⟩ := pv_end p (take_all (by rw [List.length_map, lx]; exact Nat.le_refl _))
      have ln : (ps.map (·.1)).length ≤ 60 := by rw [List.length_map]; exact l60
      refine ⟨D, ps.map (·.1), rfl, SqL.of hD, (by omega), fun p1 ks np1 nod mem => ?_⟩
      refine ⟨p1, _, _, rfl, upd_same, ?_, fun zs p2 hz hm hl np2 => ?_⟩
      · have := nodup_le (l := ps.map (·.1)) nod fun k hk => (mem k).mp hk
        omega
      · have s2 := (s4.trans (same_upd (o := SetO w p1 (fun k => decide (k ∈ ps.map (·.1))) ks.length) np1)).trans (same_upd (o := .lst (zs.map V.int)) np2)
        refine q _ p2 zs s2 ?_ upd_same ⟨hz, fun k => by rw [hm k, decide_eq_true_eq]⟩
        exact s4.free ((same_upd np1).free np2)

end
end Pot

namespace Pot
open PySem PySem.Spec PyProof.Rows L2
section
variable {P : Program} {w : World} {K : PySem.W.Frag} {mg : Str → Option Value} {base : Heap}
abbrev s__law_here : Stmt := topS 11
def n__law_here : List Str := ["_law_pieces_here", "_law_hour", "_law_found", "_law_number", "_law_come", "_law_cool"]
theorem sc__law_here : FnScope n__law_here ["_law_pieces_here", "_law_hour"] (defScope s__law_here) := ⟨rfl, rfl, rfl, by decide +kernel, rfl, by decide +kernel, by decide +kernel⟩
theorem ok_here {f : Addr} {fd : FuncData} {k : Nat} (F : Fun K "_law_here" "_law_here" s__law_here f fd) (T : Txt mg) : FnOk P w K mg base CX0 (k + 1) f fd ["_law_pieces_here", "_law_hour"] (spAt K) := by
  refine F.ok sc__law_here (fun vs H Q E h => ?_) (fun cdv A outer s H vs Q E hr h => ?_)
  · obtain ⟨a, xs, ps, h, rfl, _⟩ := h
    rfl
  · obtain ⟨a, xs, ps, h, rfl, hS, hx, l60, q⟩ := h
    have nd := sc__law_here.nd
    have lx : xs.length = ps.length := dpAll_map_len hx
    refine ⟨_, (pss_cons (ps_set (i := 2) nd rfl (.inl rfl) (pe_lst pa_nil))
      (pss_cons (ps_for PassesOwn.never rfl (ki_enum (K := K) (by rfl) T.enumerate (pa_cons (pv 0) pa_nil)) (kg_tup (K := K) (n := 2) (pgs_cons (pg_name (i := 3) nd rfl (.inl rfl)) (pgs_cons (kg_tup (K := K) (n := 2) (pgs_cons (pg_name (i := 4) nd rfl (.inl rfl)) (pgs_cons (pg_name (i := 5) nd rfl (.inl rfl)) pgs_nil))) pgs_nil)))
          (pss_one (ps_if ((pw_and (pt_cmpR op_le (pv 4) (pv 1) (nomark _)) (pw_and1 (pt_cmpR op_lt (pe_op op_sub (pv 1) (pv 4)) (pv 5) (nomark _))))).pt
              (pss_one (ps_expr (pe_bm PySem.F.plainAttrs_list PySem.F.slot_list_append PySem.F.type_list_append mt_append (pv 2) (pa_cons (pv 3) pa_nil))))
              pss_nil)))
      (pss_one (ps_ret (pv 2))))), ?_⟩
    refine ⟨Nat.zero_le _, fun L nL => ?_⟩
    refine ⟨_, rfl, a, _, rfl, (same_upd nL).seq hS, ?_⟩
    refine for_it (walk_enum (xs := xs)) (fun i σ H2 => ∃ v3 v4 v5, σ = [some (.ref a), some (.int h), some (.ref L), v3, v4, v5] ∧ PvL H L (fun i => (hereN ps h i).map natV) i H2) ⟨_, _, _, rfl, pv_start nL rfl⟩ (fun i σ H4 _ h => by obtain ⟨_, _, _, _, h⟩ := h; exact h.1.seq hS) ?_ ?_
    · rintro i y σ H4 H5 hi ⟨v3, v4, v5, rfl, p⟩ ⟨u, x1, x2, rfl, nu, rfl, g1, g2⟩
      cases g1
      replace g2 : xs[i]? = some x2 := g2
      obtain ⟨b, rfl, hb, hi2, _⟩ := pcs_at (dpAll_same p.1 hx) g2
      have su := same_upd (o := .tup [.int (i : Nat), .ref b]) nu
      have lf : ((hereN ps h i).map natV).length < sizeLine := by
        rw [List.length_map, sizeLine_eq]
        have := hereN_len ps h i
        omega
      refine ⟨u, _, rfl, .inl (.inl upd_same), rfl, _, _, rfl, _, _, rfl, b, _, rfl, same_tup su hb, rfl, _, _, rfl, _, _, rfl, rfl, rfl, ?_⟩
      refine ⟨_, rfl, _, rfl, _, _, rfl, rfl, _, rfl, ite2 (fun h1 => ?_) (fun h1 => ?_)⟩
      · refine ⟨_, rfl, _, rfl, _, _, rfl, rfl, _, rfl, _, _, rfl, rfl, _, rfl, ite2 (fun h2 => ?_) (fun h2 => ?_)⟩
        · have e : inB (ps.getD i pc0) h = true := by unfold inB; rw [h1, decide_eq_true (by have := of_decide_eq_true h2; omega)]; rfl
          refine ⟨_, rfl, .inl ⟨rfl, _, SqL.of (su _ _ p.2)⟩, _, rfl, L, _, _, rfl, rfl, su _ _ p.2, lf, ?_⟩
          refine ⟨_, _, _, rfl, same_put (p.1.trans su) nL, ?_⟩
          show _ = some (HO.lst ((hereN ps h (i + 1)).map natV))
          rw [hereN_yes e, List.map_append]; exact upd_same
        · have e : inB (ps.getD i pc0) h = false := by unfold inB; rw [h1, decide_eq_false (fun z => h2 (decide_eq_true (by omega)))]; rfl
          exact ⟨_, _, _, rfl, pv_skip p su (by rw [hereN_no e])⟩
      · have e : inB (ps.getD i pc0) h = false := by unfold inB; rw [Bool.not_eq_true _ |>.mp h1]; rfl
        exact ⟨_, _, _, rfl, pv_skip p su (by rw [hereN_no e])⟩
    · rintro σ H4 ⟨v3, v4, v5, rfl, p⟩
      obtain ⟨s4, hL⟩ := pv_end p (show _ = (hereF ps h).map V.int by rw [← hereF_map, lx])
      exact ⟨_, rfl, q _ _ s4 nL hL⟩
abbrev s_most_in : Stmt := topS 4
def n_most_in : List Str := ["pieces", "best", "hour", "many"]
theorem sc_most_in : FnScope n_most_in ["pieces"] (defScope s_most_in) := ⟨rfl, rfl, rfl, by decide +kernel, rfl, by decide +kernel, by decide +kernel⟩
def spMost (K : PySem.W.Frag) : Sp := fun vs H Q _ => ∃ (a : Addr) (xs : List V) (ps : List Pc), vs = [.ref a] ∧ SqL K H a xs ∧ DpAll K H xs (ps.map pcD) ∧ ps.length ≤ 60 ∧ ∀ H' t zs, Same H H' → HoursOk ps zs → SqT K H' t [.int (bestF ps zs).1, opV (bestF ps zs).2] → Q (.ref t) H'
theorem ok_most {f : Addr} {fd : FuncData} {k : Nat} (F : Fun K "most_in" "most_in" s_most_in f fd) (T : Txt mg) (c_in_at : Cl P w K mg base (k + 3) "in_at" (spAt K)) (c_hours_of_coming : Cl P w K mg base (k + 1) "hours_of_coming" (spHrs K)) : FnOk P w K mg base CX0 (k + 4) f fd ["pieces"] (spMost K) := by
  refine F.ok sc_most_in (fun vs H Q E h => ?_) (fun cdv A outer s H vs Q E hr h => ?_)
  · obtain ⟨a, xs, ps, rfl, _⟩ := h
    rfl
  · obtain ⟨a, xs, ps, rfl, hS, hx, l60, q⟩ := h
    have nd := sc_most_in.nd
    refine ⟨_, (pss_cons (ps_set (i := 1) nd rfl (.inl rfl) (pe_tup (pa_cons pe_int (pa_cons pe_non pa_nil))))
      (pss_cons (ps_for PassesOwn.never rfl (ki_list (K := K) (pe_cl c_hours_of_coming hr (by omega) (by rfl) (pa_cons (pv 0) pa_nil))) (pg_name (i := 2) nd rfl (.inl rfl))
          (pss_cons (ps_set (i := 3) nd rfl (.inl rfl) (pe_callB (kc_len (K := K)) (by rfl) T.len PySem.boot_len (pa_cons (pe_cl c_in_at hr (by omega) (by rfl) (pa_cons (pv 0) (pa_cons (pv 2) pa_nil))) pa_nil)))
          (pss_one (ps_if (pt_cmpR op_gt (pv 3) (pe_ix (kx_tup (K := K)) (pv 1) pe_int (fun _ _ => rfl)) (nomark _))
              (pss_one (ps_set (i := 1) nd rfl (.inl rfl) (pe_tup (pa_cons (pv 3) (pa_cons (pv 2) pa_nil)))))
              pss_nil))))
      (pss_one (ps_ret (pv 1))))), ?_⟩
    refine ⟨(by show 2 ≤ sizeLine; decide), fun t0 n0 => ?_⟩
    have s0 := same_upd (o := .tup [.int 0, .non]) n0
    have h0 : upd H t0 (.tup [.int 0, .non]) t0 = _ := upd_same
    generalize upd H t0 (.tup [.int 0, .non]) = H0 at s0 h0 ⊢
    refine ⟨_, rfl, a, xs, ps, rfl, s0.seq hS, dpAll_same s0 hx, l60, fun H1 Z zs s1 nZ hZ ok => ?_⟩
    refine ⟨Z, rfl, ⟨_, SqL.of hZ⟩, ?_⟩
    refine for_it (walk_list (xs := zs.map V.int)) (fun i σ H2 => ∃ v2 v3 t, σ = [some (.ref a), some (.ref t), v2, v3] ∧ Same H1 H2 ∧ SqT K H2 t [.int (bestF ps (zs.take i)).1, opV (bestF ps (zs.take i)).2]) ⟨_, _, t0, rfl, Same.refl _, .inl (.inl (s1 _ _ h0))⟩ (fun i σ H4 _ h => by obtain ⟨_, _, _, _, h, _⟩ := h; exact SqL.of (h _ _ hZ)) ?_ ?_
    · rintro i y σ H4 H5 hi ⟨v2, v3, t, rfl, s5, ht⟩ ⟨rfl, gx⟩
      rw [List.getElem?_map] at gx
      obtain ⟨z, gz, rfl⟩ := Option.map_eq_some_iff.mp gx
      have sa := (s0.trans s1).trans s5
      refine ⟨_, rfl, _, rfl, a, xs, ps, z, rfl, sa.seq hS, dpAll_same sa hx, l60, fun H6 L s6 nL hL => ?_⟩
      refine ⟨_, _, rfl, .inl ⟨_, SqL.of hL, rfl⟩, ?_⟩
      refine ⟨_, rfl, _, rfl, t, _, 0, _, rfl, rfl, same_tup s6 ht, rfl, _, _, rfl, rfl, _, rfl, ite2 (fun h1 => ?_) (fun h1 => ?_)⟩
      · have h1 := of_decide_eq_true h1
        rw [List.length_map] at h1
        refine ⟨_, rfl, _, rfl, (by show 2 ≤ sizeLine; decide), fun t2 n2 => ?_⟩
        refine ⟨_, _, t2, rfl, (s5.trans s6).trans (same_upd n2), ?_⟩
        rw [bestF_one gz]; unfold stepM; rw [if_pos h1]
        refine .inl (.inl ?_)
        rw [List.length_map]; exact upd_same
      · have h1 : ¬ (bestF ps (zs.take i)).1 < ((hereF ps z).length : Int) := fun z2 => h1 (decide_eq_true (by rw [List.length_map]; exact z2))
        refine ⟨_, _, t, rfl, s5.trans s6, ?_⟩
        rw [bestF_one gz]; unfold stepM; rw [if_neg h1]
        exact same_tup s6 ht
    · rintro σ H4 ⟨v2, v3, t, rfl, s5, ht⟩
      rw [List.length_map, List.take_length] at ht
      exact ⟨_, rfl, q _ t zs ((s0.trans s1).trans s5) ok ht⟩
abbrev s__law_most : Stmt := topS 12
def n__law_most : List Str := ["_law_pieces_here", "_law_best", "_law_hour", "_law_many", "_law_come", "_law_cool"]
theorem sc__law_most : FnScope n__law_most ["_law_pieces_here"] (defScope s__law_most) := ⟨rfl, rfl, rfl, by decide +kernel, rfl, by decide +kernel, by decide +kernel⟩
theorem ok_lmost {f : Addr} {fd : FuncData} {k : Nat} (F : Fun K "_law_most" "_law_most" s__law_most f fd) (T : Txt mg) (c__law_here : Cl P w K mg base (k + 1) "_law_here" (spAt K)) : FnOk P w K mg base CX0 (k + 2) f fd ["_law_pieces_here"] (spMost K) := by
  refine F.ok sc__law_most (fun vs H Q E h => ?_) (fun cdv A outer s H vs Q E hr h => ?_)
  · obtain ⟨a, xs, ps, rfl, _⟩ := h
    rfl
  · obtain ⟨a, xs, ps, rfl, hS, hx, l60, q⟩ := h
    have nd := sc__law_most.nd
    have lx : xs.length = ps.length := dpAll_map_len hx
    refine ⟨_, (pss_cons (ps_set (i := 1) nd rfl (.inl rfl) (pe_tup (pa_cons pe_int (pa_cons pe_non pa_nil))))
      (pss_cons (ps_for PassesOwn.never rfl (ki_list (K := K) (pe_callB (kc_sortedSet (w := w)) (by rfl) T.sorted (by decide +kernel) (pa_cons (pe_callTy (kc_setLj (K := K) (w := w)) (by rfl) T.set (by decide +kernel) (pa_cons (pe_lc (own := [("_law_come", 4), ("_law_cool", 5)]) rfl nd (ki_list (K := K) (pv 0)) (blkOk_by (N := n__law_most) (sc := defScope s__law_most) (by decide +kernel)) (fun _ _ _ _ _ => (kg_tup (K := K) (n := 2) (pgs_cons (pg_name (i := 4) nd rfl (.inl rfl)) (pgs_cons (pg_name (i := 5) nd rfl (.inl rfl)) pgs_nil)))) (fun _ _ _ _ _ => pts_nil) (fun _ _ _ _ _ => (pv 4))) pa_nil)) pa_nil))) (pg_name (i := 2) nd rfl (.inl rfl))
          (pss_cons (ps_set (i := 3) nd rfl (.inl rfl) (pe_callB (kc_len (K := K)) (by rfl) T.len PySem.boot_len (pa_cons (pe_cl c__law_here hr (by omega) (by rfl) (pa_cons (pv 0) (pa_cons (pv 2) pa_nil))) pa_nil)))
          (pss_one (ps_if (pt_cmpR op_gt (pv 3) (pe_ix (kx_tup (K := K)) (pv 1) pe_int (fun _ _ => rfl)) (nomark _))
              (pss_one (ps_set (i := 1) nd rfl (.inl rfl) (pe_tup (pa_cons (pv 3) (pa_cons (pv 2) pa_nil)))))
              pss_nil))))
      (pss_one (ps_ret (pv 1))))), ?_⟩
    refine ⟨(by show 2 ≤ sizeLine; decide), fun t0 n0 => ?_⟩
    have s0 := same_upd (o := .tup [.int 0, .non]) n0
    have h0 : upd H t0 (.tup [.int 0, .non]) t0 = _ := upd_same
    generalize upd H t0 (.tup [.int 0, .non]) = H0 at s0 h0 ⊢
    refine ⟨_, rfl, a, rfl, ⟨_, s0.seq hS⟩, fun D nD => ?_⟩
    refine lc_it (walk_list (xs := xs)) (PvL H0 D fun i => ((ps.map (·.1)).take i).map V.int) (pv_start nD rfl) (fun i H4 _ h => (s0.trans h.1).seq hS) ?_ ?_
    · rintro i y H4 H5 hi p ⟨rfl, gx⟩
      obtain ⟨b, rfl, hb, hi2, _⟩ := pcs_at (dpAll_same (s0.trans p.1) hx) gx
      refine ⟨b, _, rfl, hb, rfl, _, _, rfl, _, _, rfl, rfl, rfl, tYes_at ?_⟩
      rw [if_pos rfl]
      refine ⟨_, rfl, ?_⟩
      exact pv_put nD p (Same.refl _) (take_map V.int (by rw [List.getElem?_map, List.getElem?_eq_getElem hi2]; show some _ = some (ps.getD i pc0).1; rw [List.getD_eq_getElem?_getD, List.getElem?_eq_getElem hi2]; rfl)) (take_len_le (by rw [List.length_map]; omega))
    intro H4 p
    obtain ⟨s4, hD⟩ := pv_end p (take_all (by rw [List.length_map, lx]; exact Nat.le_refl _))
    have ln : (ps.map (·.1)).length ≤ 60 := by rw [List.length_map]; exact l60
    refine ⟨D, ps.map (·.1), rfl, SqL.of hD, (by omega), fun p1 ks np1 nod mem => ?_⟩
    refine ⟨p1, _, _, rfl, upd_same, ?_, fun zs Z hz hm hl np2 => ?_⟩
    · have := nodup_le (l := ps.map (·.1)) nod fun k hk => (mem k).mp hk
      omega
    have s1 := (s4.trans (same_upd (o := SetO w p1 (fun k => decide (k ∈ ps.map (·.1))) ks.length) np1)).trans (same_upd (o := .lst (zs.map V.int)) np2)
    have hZ : upd (upd H4 p1 (SetO w p1 (fun k => decide (k ∈ ps.map (·.1))) ks.length)) Z (.lst (zs.map V.int)) Z = _ := upd_same
    generalize upd (upd H4 p1 (SetO w p1 (fun k => decide (k ∈ ps.map (·.1))) ks.length)) Z (.lst (zs.map V.int)) = H1 at s1 hZ ⊢
    have ok : HoursOk ps zs := ⟨hz, fun k => by rw [hm k, decide_eq_true_eq]⟩
    refine ⟨Z, rfl, ⟨_, SqL.of hZ⟩, ?_⟩
    refine for_it (walk_list (xs := zs.map V.int)) (fun i σ H2 => ∃ v2 v3 t, σ = [some (.ref a), some (.ref t), v2, v3, none, none] ∧ Same H1 H2 ∧ SqT K H2 t [.int (bestF ps (zs.take i)).1, opV (bestF ps (zs.take i)).2]) ⟨_, _, t0, rfl, Same.refl _, .inl (.inl (s1 _ _ h0))⟩ (fun i σ H4 _ h => by obtain ⟨_, _, _, _, h, _⟩ := h; exact SqL.of (h _ _ hZ)) ?_ ?_
    · rintro i y σ H4 H5 hi ⟨v2, v3, t, rfl, s5, ht⟩ ⟨rfl, gx⟩
      rw [List.getElem?_map] at gx
      obtain ⟨z, gz, rfl⟩ := Option.map_eq_some_iff.mp gx
      have sa := (s0.trans s1).trans s5
      refine ⟨_, rfl, _, rfl, a, xs, ps, z, rfl, sa.seq hS, dpAll_same sa hx, l60, fun H6 L s6 nL hL => ?_⟩
      refine ⟨_, _, rfl, .inl ⟨_, SqL.of hL, rfl⟩, ?_⟩
      refine ⟨_, rfl, _, rfl, t, _, 0, _, rfl, rfl, same_tup s6 ht, rfl, _, _, rfl, rfl, _, rfl, ite2 (fun h1 => ?_) (fun h1 => ?_)⟩
      · have h1 := of_decide_eq_true h1
        rw [List.length_map] at h1
        refine ⟨_, rfl, _, rfl, (by show 2 ≤ sizeLine; decide), fun t2 n2 => ?_⟩
        refine ⟨_, _, t2, rfl, (s5.trans s6).trans (same_upd n2), ?_⟩
        rw [bestF_one gz]; unfold stepM; rw [if_pos h1]
        refine .inl (.inl ?_)
        rw [List.length_map]; exact upd_same
      · have h1 : ¬ (bestF ps (zs.take i)).1 < ((hereF ps z).length : Int) := fun z2 => h1 (decide_eq_true (by rw [List.length_map]; exact z2))
        refine ⟨_, _, t, rfl, s5.trans s6, ?_⟩
        rw [bestF_one gz]; unfold stepM; rw [if_neg h1]
        exact same_tup s6 ht
    · rintro σ H4 ⟨v2, v3, t, rfl, s5, ht⟩
      rw [List.length_map, List.take_length] at ht
      exact ⟨_, rfl, q _ t zs ((s0.trans s1).trans s5) ok ht⟩

end
end Pot

namespace Pot
open PySem PySem.Spec PyProof.Rows L2
section
variable {P : Program} {w : World} {K : PySem.W.Frag} {mg : Str → Option Value} {base : Heap}
theorem sm_wr0 {H H2 : Hp} {S : List Addr} {L : Addr} {o : HO} (s : Sm S H H2) (n : H L = none) : Sm S H (upd H2 L o) := fun x u e => by
  have nm := off_mem e
  have e2 := s x u e
  rw [off_out nm] at e e2 ⊢
  have ne : x ≠ L := fun z => by rw [z, n] at e; cases e
  rw [upd_ne ne]; exact e2
theorem pcs_gd : ∀ {ps : List Pc}, (∀ p ∈ ps, 0 ≤ p.1 ∧ p.1 ≤ 1000000 ∧ 1 ≤ p.2 ∧ p.2 ≤ 99) → gd 1000000 (.list (ps.map pcD)) := fun h => gdAll_iff.mpr fun d hd => by
  obtain ⟨p, hp, rfl⟩ := List.mem_map.mp hd
  have := h p hp
  exact ⟨by show p.1.natAbs ≤ _; omega, by show p.2.natAbs ≤ _; omega, trivial⟩
theorem pcs_depth : ∀ (ps : List Pc), PyData.depth (.list (ps.map pcD)) ≤ 3 := fun ps => by
  show PyData.depthAll (ps.map pcD) + 1 ≤ 3
  have : PyData.depthAll (ps.map pcD) ≤ 2 := depthAll_iff.mpr fun d hd => by
    obtain ⟨p, hp, rfl⟩ := List.mem_map.mp hd
    simp [pcD, PyData.depth, PyData.depthAll]
  omega
theorem pcs_shaped {ps : List Pc} (h : ∀ p ∈ ps, 0 ≤ p.1 ∧ p.1 ≤ 1000000 ∧ 1 ≤ p.2 ∧ p.2 ≤ 99) : SeqAt.shaped (.list (ps.map pcD)) = true := gd_shaped (pcs_gd h) (Nat.le_trans (pcs_depth ps) (by decide))
structure PcOk (ps : List Pc) : Prop where
  len : ps.length ≤ 40
  each : ∀ p ∈ ps, 0 ≤ p.1 ∧ p.1 ≤ 1000000 ∧ 1 ≤ p.2 ∧ p.2 ≤ 99
theorem noL_pc (p : Pc) : noLAll.noL (pcD p) := ⟨trivial, trivial, trivial⟩
def spPieces (K : PySem.W.Frag) : Sp := fun vs H Q _ => ∃ (b : Addr) (n : Nat), vs = [.ref b, .int 40] ∧ Bq H b n ∧ n < 2 ^ 39 ∧
  ∀ (H' : Hp) (L : Addr) (xs : List V) (ps : List Pc), Bq H' b (n + 250) → Sm [b] H H' → H L = none → H' L = some (.lst xs) → DpAll K (off H' [L, b]) xs (ps.map pcD) → PcOk ps → Q (.ref L) H'
abbrev s__law_pieces : Stmt := topS 10
def n__law_pieces : List Str := ["_law_state", "_law_most_here", "_law_found", "_law_near", "_law_wide", "_law_long", "_law_k", "_law_piece"]
theorem sc__law_pieces : FnScope n__law_pieces ["_law_state", "_law_most_here"] (defScope s__law_pieces) := ⟨rfl, rfl, rfl, by decide +kernel, rfl, by decide +kernel, by decide +kernel⟩
theorem ok_pieces {f : Addr} {fd : FuncData} {k : Nat} (F : Fun K "_law_pieces" "_law_pieces" s__law_pieces f fd) (T : Txt mg) (c__law_take : Cl P w K mg base (k + 1) "_law_take" spTake) : FnOk P w K mg base CX0 (k + 2) f fd ["_law_state", "_law_most_here"] (spPieces K) := by
  refine F.ok sc__law_pieces (fun vs H Q E h => ?_) (fun cdv A outer s H vs Q E hr h => ?_)
  · obtain ⟨b, n, rfl, _⟩ := h
    rfl
  · obtain ⟨b, n, rfl, B, hn, q⟩ := h
    have nd := sc__law_pieces.nd
    have hu64 := hr.units
    refine ⟨_, (pss_cons (ps_par (i := 2) (j := 3) rfl nd rfl rfl (by decide) rfl rfl (pa_cons (pe_lst pa_nil) (pa_cons (pe_ix (kx_list (K := K)) (pe_lst (pa_cons pe_int (pa_cons (pe_cl c__law_take hr (by omega) (by rfl) (pa_cons (pv 0) (pa_cons pe_int pa_nil))) (pa_cons (pe_op op_sub (pe_op op_pow pe_int pe_int) (pe_cl c__law_take hr (by omega) (by rfl) (pa_cons (pv 0) (pa_cons pe_int pa_nil)))) pa_nil)))) (pe_cl c__law_take hr (by omega) (by rfl) (pa_cons (pv 0) (pa_cons pe_int pa_nil))) (fun _ _ => rfl)) pa_nil)) rfl)
      (pss_cons (ps_par (i := 4) (j := 5) rfl nd rfl rfl (by decide) rfl rfl (pa_cons (pe_ix (kx_list (K := K)) (pe_lst (pa_cons pe_int (pa_cons pe_int (pa_cons pe_int (pa_cons pe_int pa_nil))))) (pe_cl c__law_take hr (by omega) (by rfl) (pa_cons (pv 0) (pa_cons pe_int pa_nil))) (fun _ _ => rfl)) (pa_cons (pe_ix (kx_list (K := K)) (pe_lst (pa_cons pe_int (pa_cons pe_int (pa_cons pe_int (pa_cons pe_int pa_nil))))) (pe_cl c__law_take hr (by omega) (by rfl) (pa_cons (pv 0) (pa_cons pe_int pa_nil))) (fun _ _ => rfl)) pa_nil)) rfl)
      (pss_cons (ps_for PassesOwn.never rfl (pi_range1 (by rfl) T.range (pa_cons (pe_ix (kx_list (K := K)) (pe_lst (pa_cons (pe_cl c__law_take hr (by omega) (by rfl) (pa_cons (pv 0) (pa_cons (pe_op op_add (pv 1) pe_int) pa_nil))) (pa_cons (pv 1) (pa_cons (pe_cl c__law_take hr (by omega) (by rfl) (pa_cons (pv 0) (pa_cons pe_int pa_nil))) pa_nil)))) (pe_cl c__law_take hr (by omega) (by rfl) (pa_cons (pv 0) (pa_cons pe_int pa_nil))) (fun _ _ => rfl)) pa_nil)) (pg_name (i := 6) nd rfl (.inl rfl))
          (pss_cons (ps_set (i := 7) nd rfl (.inl rfl) (pe_tup (pa_cons (pe_callB (call_min2 rfl) (by rfl) T.min (by decide +kernel) (pa_cons (pe_op op_pow pe_int pe_int) (pa_cons (pe_op op_add (pv 3) (pe_cl c__law_take hr (by omega) (by rfl) (pa_cons (pv 0) (pa_cons (pv 4) pa_nil)))) pa_nil))) (pa_cons (pe_op op_add pe_int (pe_cl c__law_take hr (by omega) (by rfl) (pa_cons (pv 0) (pa_cons (pv 5) pa_nil)))) pa_nil))))
          (pss_cons (ps_if ((pw_and (pt_cmpR (ko_ne (K := K) hu64) (pv 2) (pe_lst pa_nil) (nomark _)) (pw_and1 (pt_cmpR op_eq (pe_cl c__law_take hr (by omega) (by rfl) (pa_cons (pv 0) (pa_cons pe_int pa_nil))) pe_int (nomark _))))).pt
              (pss_one (ps_set (i := 7) nd rfl (.inl rfl) (pe_ix (kx_list (K := K)) (pv 2) (pe_cl c__law_take hr (by omega) (by rfl) (pa_cons (pv 0) (pa_cons (pe_callB (kc_len (K := K)) (by rfl) T.len PySem.boot_len (pa_cons (pv 2) pa_nil)) pa_nil))) (fun _ _ => rfl))))
              pss_nil)
          (pss_one (ps_expr (pe_bm PySem.F.plainAttrs_list PySem.F.slot_list_append PySem.F.type_list_append mt_append (pv 2) (pa_cons (pv 7) pa_nil)))))))
      (pss_one (ps_ret (pv 2)))))), ?_⟩
    have lv := Live.q B
    have sc : Sm [b] H H := Same.refl _
    obtain ⟨S, eS⟩ : ∃ S, S = [b] := ⟨_, rfl⟩
    have hb : b ∈ S := by rw [eS]; simp
    rw [← eS] at lv
    refine ⟨Nat.zero_le _, fun L nL => ?_⟩
    have Lb : L ≠ b := B.ne nL
    have fL := off_new (o := .lst []) lv nL
    have lv := lv.put (o := .lst []) nL
    have B := B.put (o := .lst []) nL
    have sc := sc.trans (sm_put (S := [b]) (o := .lst []) nL)
    generalize upd H L (.lst []) = H1 at fL lv B sc  ⊢
    refine ⟨_, rfl, b, 30, _, rfl, (by decide), (by decide), B, by omega, fun H2 r1 r10 r11 B2 s2 => ?_⟩
    have lv := lv.box B2.bx s2
    have sc := sc.trans s2
    have B := B2
    have fL := (sm_one hb s2) _ _ fL
    refine ⟨_, _, rfl, rfl, ⟨by decide, by decide, by decide⟩, _, rfl, b, 300, _, rfl, (by decide), (by decide), B, by omega, fun H3 r2 r20 r21 B3 s3 => ⟨_, _, rfl, rfl, (by show 3 ≤ sizeLine; decide), fun p1 np1 => ?_⟩⟩
    have lv := lv.box B3.bx s3
    have sc := sc.trans s3
    have B := B3
    have fL := (sm_one hb s3) _ _ fL
    have fp1 := off_new (o := .lst [.int 0, .int r1, .int (10 ^ Int.toNat 6 - r2)]) lv np1
    have lv := lv.put (o := .lst [.int 0, .int r1, .int (10 ^ Int.toNat 6 - r2)]) np1
    have B := B.put (o := .lst [.int 0, .int r1, .int (10 ^ Int.toNat 6 - r2)]) np1
    have sc := sc.trans (sm_put (S := [b]) (o := .lst [.int 0, .int r1, .int (10 ^ Int.toNat 6 - r2)]) np1)
    have fL := (sm_put (S := S) (o := .lst [.int 0, .int r1, .int (10 ^ Int.toNat 6 - r2)]) np1) _ _ fL
    generalize upd H3 p1 (.lst [.int 0, .int r1, .int (10 ^ Int.toNat 6 - r2)]) = H4 at fp1 lv B sc fL ⊢
    refine ⟨_, rfl, b, 3, _, rfl, (by decide), (by decide), B, by omega, fun H5 r3 r30 r31 B5 s5 => ?_⟩
    have lv := lv.box B5.bx s5
    have sc := sc.trans s5
    have B := B5
    have fL := (sm_one hb s5) _ _ fL
    have fp1 := (sm_one hb s5) _ _ fp1
    obtain ⟨near, en, n0, n1⟩ : ∃ near : Int, atI [V.int 0, .int r1, .int (10 ^ Int.toNat 6 - r2)] r3 = some (.int near) ∧ 0 ≤ near ∧ near ≤ 1000000 := by
      have e6 : (10 : Int) ^ Int.toNat 6 = 1000000 := by decide
      have h : r3 = 0 ∨ r3 = 1 ∨ r3 = 2 := by omega
      rcases h with rfl | rfl | rfl
      · exact ⟨0, rfl, by decide, by decide⟩
      · exact ⟨r1, rfl, by omega, by omega⟩
      · exact ⟨_, rfl, by rw [e6]; omega, by rw [e6]; omega⟩
    refine ⟨p1, _, r3, _, rfl, rfl, SqL.of (at_off fp1), en, _, _, rfl, ?_⟩
    refine ⟨(by show 4 ≤ sizeLine; decide), fun p2 np2 => ?_⟩
    have fp2 := off_new (o := .lst [.int 1, .int 6, .int 40, .int 300]) lv np2
    have lv := lv.put (o := .lst [.int 1, .int 6, .int 40, .int 300]) np2
    have B := B.put (o := .lst [.int 1, .int 6, .int 40, .int 300]) np2
    have sc := sc.trans (sm_put (S := [b]) (o := .lst [.int 1, .int 6, .int 40, .int 300]) np2)
    have fL := (sm_put (S := S) (o := .lst [.int 1, .int 6, .int 40, .int 300]) np2) _ _ fL
    generalize upd H5 p2 (.lst [.int 1, .int 6, .int 40, .int 300]) = H6 at fp2 lv B sc fL ⊢
    refine ⟨_, rfl, b, 4, _, rfl, (by decide), (by decide), B, by omega, fun H7 r4 r40 r41 B7 s7 => ?_⟩
    have lv := lv.box B7.bx s7
    have sc := sc.trans s7
    have B := B7
    have fL := (sm_one hb s7) _ _ fL
    have fp2 := (sm_one hb s7) _ _ fp2
    obtain ⟨wide, ew, w0, w1⟩ : ∃ wide : Int, atI [V.int 1, .int 6, .int 40, .int 300] r4 = some (.int wide) ∧ 0 < wide ∧ wide ≤ 300 := by
      have h : r4 = 0 ∨ r4 = 1 ∨ r4 = 2 ∨ r4 = 3 := by omega
      rcases h with rfl | rfl | rfl | rfl
      · exact ⟨1, rfl, by decide, by decide⟩
      · exact ⟨6, rfl, by decide, by decide⟩
      · exact ⟨40, rfl, by decide, by decide⟩
      · exact ⟨300, rfl, by decide, by decide⟩
    refine ⟨p2, _, r4, _, rfl, rfl, SqL.of (at_off fp2), ew, ?_⟩
    refine ⟨(by show 4 ≤ sizeLine; decide), fun p3 np3 => ?_⟩
    have fp3 := off_new (o := .lst [.int 1, .int 4, .int 30, .int 99]) lv np3
    have lv := lv.put (o := .lst [.int 1, .int 4, .int 30, .int 99]) np3
    have B := B.put (o := .lst [.int 1, .int 4, .int 30, .int 99]) np3
    have sc := sc.trans (sm_put (S := [b]) (o := .lst [.int 1, .int 4, .int 30, .int 99]) np3)
    have fL := (sm_put (S := S) (o := .lst [.int 1, .int 4, .int 30, .int 99]) np3) _ _ fL
    generalize upd H7 p3 (.lst [.int 1, .int 4, .int 30, .int 99]) = H8 at fp3 lv B sc fL ⊢
    refine ⟨_, rfl, b, 4, _, rfl, (by decide), (by decide), B, by omega, fun H9 r5 r50 r51 B9 s9 => ?_⟩
    have lv := lv.box B9.bx s9
    have sc := sc.trans s9
    have B := B9
    have fL := (sm_one hb s9) _ _ fL
    have fp3 := (sm_one hb s9) _ _ fp3
    obtain ⟨long, el, l0, l1⟩ : ∃ long : Int, atI [V.int 1, .int 4, .int 30, .int 99] r5 = some (.int long) ∧ 0 < long ∧ long ≤ 99 := by
      have h : r5 = 0 ∨ r5 = 1 ∨ r5 = 2 ∨ r5 = 3 := by omega
      rcases h with rfl | rfl | rfl | rfl
      · exact ⟨1, rfl, by decide, by decide⟩
      · exact ⟨4, rfl, by decide, by decide⟩
      · exact ⟨30, rfl, by decide, by decide⟩
      · exact ⟨99, rfl, by decide, by decide⟩
    refine ⟨p3, _, r5, _, rfl, rfl, SqL.of (at_off fp3), el, _, _, rfl, ?_⟩
    refine ⟨_, rfl, _, rfl, _, _, rfl, rfl, b, 40 + 1, _, rfl, (by decide), (by decide), B, by omega, fun H10 r6 r60 r61 B10 s10 => ?_⟩
    have lv := lv.box B10.bx s10
    have sc := sc.trans s10
    have B := B10
    have fL := (sm_one hb s10) _ _ fL
    refine ⟨_, rfl, _, rfl, b, 6, _, rfl, (by decide), (by decide), B, by omega, fun H11 r7 r70 r71 B11 s11 => ⟨(by show 3 ≤ sizeLine; decide), fun p4 np4 => ?_⟩⟩
    have lv := lv.box B11.bx s11
    have sc := sc.trans s11
    have B := B11
    have fL := (sm_one hb s11) _ _ fL
    have fp4 := off_new (o := .lst [.int r6, .int 40, .int r7]) lv np4
    have lv := lv.put (o := .lst [.int r6, .int 40, .int r7]) np4
    have B := B.put (o := .lst [.int r6, .int 40, .int r7]) np4
    have sc := sc.trans (sm_put (S := [b]) (o := .lst [.int r6, .int 40, .int r7]) np4)
    have fL := (sm_put (S := S) (o := .lst [.int r6, .int 40, .int r7]) np4) _ _ fL
    generalize upd H11 p4 (.lst [.int r6, .int 40, .int r7]) = H12 at fp4 lv B sc fL ⊢
    refine ⟨_, rfl, b, 3, _, rfl, (by decide), (by decide), B, by omega, fun H13 r8 r80 r81 B13 s13 => ?_⟩
    have lv := lv.box B13.bx s13
    have sc := sc.trans s13
    have B := B13
    have fL := (sm_one hb s13) _ _ fL
    have fp4 := (sm_one hb s13) _ _ fp4
    obtain ⟨many, em, m0, m1⟩ : ∃ many : Int, atI [V.int r6, .int 40, .int r7] r8 = some (.int many) ∧ 0 ≤ many ∧ many ≤ 40 := by
      have h : r8 = 0 ∨ r8 = 1 ∨ r8 = 2 := by omega
      rcases h with rfl | rfl | rfl
      · exact ⟨r6, rfl, by omega, by omega⟩
      · exact ⟨40, rfl, by decide, by decide⟩
      · exact ⟨r7, rfl, by omega, by omega⟩
    refine ⟨p4, _, r8, _, rfl, rfl, SqL.of (at_off fp4), em, ?_⟩
    have nL0 : H L = none := nL
    have fL := at_off fL
    have B := B.mono (show _ ≤ n + 20 by omega)
    clear lv hb
    refine ⟨_, rfl, (by omega), (by omega), ?_⟩
    refine for_it walk_range (fun i σ H2 => ∃ v6 v7 xs ps, σ = [some (.ref b), some (.int 40), some (.ref L), some (.int near), some (.int wide), some (.int long), v6, v7] ∧ Bq H2 b (n + 20 + 5 * i) ∧ Sm [b] H H2 ∧ H2 L = some (.lst xs) ∧ DpAll K (off H2 [L, b]) xs (ps.map pcD) ∧ ps.length = i ∧ ∀ p ∈ ps, 0 ≤ p.1 ∧ p.1 ≤ 1000000 ∧ 1 ≤ p.2 ∧ p.2 ≤ 99)
      ⟨_, _, [], [], rfl, B, sc, fL, .nil, rfl, fun _ h => (List.not_mem_nil h).elim⟩ (fun _ _ _ _ _ => trivial) ?_ ?_
    · rintro i x σ H2 H3 hi ⟨v6, v7, xs, ps, rfl, B, sc, hL, da, lp, bp⟩ ⟨rfl, rfl⟩
      have hi40 : i < 40 := by omega
      generalize hm : n + 20 + 5 * i = m at B
      have hmm : m < 2 ^ 40 - 10 := by omega
      have lx : xs.length = ps.length := dpAll_map_len da
      obtain ⟨S, eS⟩ : ∃ S, S = [L, b] := ⟨_, rfl⟩
      have hb : b ∈ S := by rw [eS]; simp
      have hLS : L ∈ S := by rw [eS]; simp
      have lv : Live S H3 := by rw [eS]; exact (Live.q B).cons hL
      rw [← eS] at da
      refine ⟨_, _, rfl, rfl, ⟨by decide, by decide, by decide⟩, _, rfl, _, rfl, _, rfl, b, wide, _, rfl, w0, by omega, B, by omega, fun H4 r1 r10 r11 B4 s4 => ⟨_, _, rfl, rfl, _, _, rfl, ?_⟩⟩
      have hL := sm_at s4 (by simp [Lb]) hL
      have lv := lv.box B4.bx s4
      have sc := sc.trans s4
      have B := B4
      have da := dpAll_same ((sm_one hb s4)) da
      refine ⟨_, rfl, _, rfl, b, long, _, rfl, l0, by omega, B, by omega, fun H5 r2 r20 r21 B5 s5 => ⟨_, _, rfl, rfl, (by show 2 ≤ sizeLine; decide), fun t nt => ?_⟩⟩
      have hL := sm_at s5 (by simp [Lb]) hL
      have lv := lv.box B5.bx s5
      have sc := sc.trans s5
      have B := B5
      have da := dpAll_same ((sm_one hb s5)) da
      have tL : L ≠ t := ne_of_none hL nt
      have hL := same_upd (o := .tup [.int (if near + r1 < 10 ^ Int.toNat 6 then near + r1 else 10 ^ Int.toNat 6), .int (1 + r2)]) nt _ _ hL
      have ft := off_new (o := .tup [.int (if near + r1 < 10 ^ Int.toNat 6 then near + r1 else 10 ^ Int.toNat 6), .int (1 + r2)]) lv nt
      have lv := lv.put (o := .tup [.int (if near + r1 < 10 ^ Int.toNat 6 then near + r1 else 10 ^ Int.toNat 6), .int (1 + r2)]) nt
      have B := B.put (o := .tup [.int (if near + r1 < 10 ^ Int.toNat 6 then near + r1 else 10 ^ Int.toNat 6), .int (1 + r2)]) nt
      have sc := sc.trans (sm_put (S := [b]) (o := .tup [.int (if near + r1 < 10 ^ Int.toNat 6 then near + r1 else 10 ^ Int.toNat 6), .int (1 + r2)]) nt)
      have da := dpAll_same ((sm_put (S := S) (o := .tup [.int (if near + r1 < 10 ^ Int.toNat 6 then near + r1 else 10 ^ Int.toNat 6), .int (1 + r2)]) nt)) da
      generalize upd H5 t (.tup [.int (if near + r1 < 10 ^ Int.toNat 6 then near + r1 else 10 ^ Int.toNat 6), .int (1 + r2)]) = H6 at ft lv B sc hL da ⊢
      obtain ⟨pc, ec, pok⟩ : ∃ pc : Pc, Dp K (off H6 S) (.ref t) (pcD pc) ∧ (0 ≤ pc.1 ∧ pc.1 ≤ 1000000 ∧ 1 ≤ pc.2 ∧ pc.2 ≤ 99) := by
        have e6 : (10 : Int) ^ Int.toNat 6 = 1000000 := by decide
        rw [e6] at ft
        refine ⟨(if near + r1 < 1000000 then near + r1 else 1000000, 1 + r2), .tup (.inl (.inl ft)) (.cons (.int _) (.cons (.int _) .nil)), ?_, ?_, ?_, ?_⟩
        · show 0 ≤ (if near + r1 < 1000000 then near + r1 else 1000000); split <;> omega
        · show (if near + r1 < 1000000 then near + r1 else 1000000) ≤ 1000000; split <;> omega
        · show 1 ≤ 1 + r2; omega
        · show 1 + r2 ≤ 99; omega
      refine ⟨_, rfl, Nat.zero_le _, fun e ne => ?_⟩
      have hL := same_upd (o := .lst []) ne _ _ hL
      have fe := off_new (o := .lst []) lv ne
      have lv := lv.put (o := .lst []) ne
      have B := B.put (o := .lst []) ne
      have sc := sc.trans (sm_put (S := [b]) (o := .lst []) ne)
      have da := dpAll_same ((sm_put (S := S) (o := .lst []) ne)) da
      have ec := dp_same ((sm_put (S := S) (o := .lst []) ne)) ec
      generalize upd H6 e (.lst []) = H7 at fe lv B sc hL da ec ⊢
      have dL : Dp K H7 (.ref L) (.list (ps.map pcD)) := .lst (SqL.of hL) (dpAll_same off_sub da)
      refine ⟨_, _, dL, .lst (SqL.of (at_off fe)) .nil, pcs_shaped bp, PySem.W.ke_shaped_ints [], _, rfl, ?_⟩
      by_cases hps : ps = []
      · have e2 : PyData.eqv (.list (ps.map pcD)) (.list []) = true := by rw [hps]; rfl
        rw [e2]
        refine iteF ?_
        refine ⟨_, rfl, .inl ⟨rfl, _, SqL.of hL⟩, _, rfl, L, _, _, rfl, rfl, hL, (by rw [lx, lp, sizeLine_eq]; omega), ?_⟩
        refine ⟨_, _, _, ps ++ [pc], rfl, (B.wr Lb).mono (by omega), sm_wr0 sc nL0, upd_same, ?_, (by rw [List.length_append, lp]; rfl), fun p hp => ?_⟩
        · rw [← eS, List.map_append]
          exact dpAll_same (sm_wr hLS) (dpAll_app da (.cons ec .nil))
        · rcases List.mem_append.mp hp with h | h
          · exact bp p h
          · rw [List.mem_singleton.mp h]; exact pok
      · have e2 : PyData.eqv (.list (ps.map pcD)) (.list []) = false := by
          cases ps with
          | nil => exact absurd rfl hps
          | cons _ _ => rfl
        rw [e2]
        refine iteT ⟨_, rfl, b, 6, _, rfl, (by decide), (by decide), B, by omega, fun H8 r3 r30 r31 B8 s8 => ⟨rfl, _, rfl, ?_⟩⟩
        have hL := sm_at s8 (by simp [Lb]) hL
        have lv := lv.box B8.bx s8
        have sc := sc.trans s8
        have B := B8
        have da := dpAll_same ((sm_one hb s8)) da
        have ec := dp_same ((sm_one hb s8)) ec
        refine ite2 (fun c1 => ?_) (fun c1 => ?_)
        · have lp0 : 0 < ps.length := List.length_pos_iff.mpr hps
          refine ⟨_, rfl, _, rfl, _, rfl, _, _, rfl, .inl ⟨_, SqL.of hL, rfl⟩, b, _, _, rfl, (by omega), (by omega), B, by omega, fun H9 r4 r40 r41 B9 s9 => ?_⟩
          have hL := sm_at s9 (by simp [Lb]) hL
          have lv := lv.box B9.bx s9
          have sc := sc.trans s9
          have B := B9
          have da := dpAll_same ((sm_one hb s9)) da
          have ec := dp_same ((sm_one hb s9)) ec
          obtain ⟨ri, rfl⟩ : ∃ ri : Nat, r4 = (ri : Int) := ⟨r4.toNat, by omega⟩
          have hri : ri < xs.length := by omega
          obtain ⟨a2, ea2, _, hri2, ec⟩ := pcs_at da (List.getElem?_eq_getElem hri)
          refine ⟨L, _, _, _, rfl, rfl, SqL.of hL, atI_nat (List.getElem?_eq_getElem hri), ?_⟩
          have pok := bp (ps.getD ri pc0) (by rw [List.getD_eq_getElem?_getD, List.getElem?_eq_getElem hri2]; exact List.getElem_mem hri2)
          generalize ps.getD ri pc0 = pc at ec pok
          refine ⟨_, rfl, .inl ⟨rfl, _, SqL.of hL⟩, _, rfl, L, _, _, rfl, rfl, hL, (by rw [lx, lp, sizeLine_eq]; omega), ?_⟩
          refine ⟨_, _, _, ps ++ [pc], rfl, (B.wr Lb).mono (by omega), sm_wr0 sc nL0, upd_same, ?_, (by rw [List.length_append, lp]; rfl), fun p hp => ?_⟩
          · rw [← eS, List.map_append]
            exact dpAll_same (sm_wr hLS) (dpAll_app da (.cons ec .nil))
          · rcases List.mem_append.mp hp with h | h
            · exact bp p h
            · rw [List.mem_singleton.mp h]; exact pok
        · skip
          refine ⟨_, rfl, .inl ⟨rfl, _, SqL.of hL⟩, _, rfl, L, _, _, rfl, rfl, hL, (by rw [lx, lp, sizeLine_eq]; omega), ?_⟩
          refine ⟨_, _, _, ps ++ [pc], rfl, (B.wr Lb).mono (by omega), sm_wr0 sc nL0, upd_same, ?_, (by rw [List.length_append, lp]; rfl), fun p hp => ?_⟩
          · rw [← eS, List.map_append]
            exact dpAll_same (sm_wr hLS) (dpAll_app da (.cons ec .nil))
          · rcases List.mem_append.mp hp with h | h
            · exact bp p h
            · rw [List.mem_singleton.mp h]; exact pok
    · rintro σ H2 ⟨v6, v7, xs, ps, rfl, B, sc, hL, da, lp, bp⟩
      exact ⟨_, rfl, q _ L xs ps (B.mono (by omega)) sc nL0 hL da ⟨by omega, bp⟩⟩

end
end Pot

namespace Pot
open PySem PySem.Spec PyProof.Rows L2
section
variable {P : Program} {w : World} {K : PySem.W.Frag} {mg : Str → Option Value} {base : Heap}
theorem sm_fresh {H H' : Hp} {b : Addr} (s : Sm [b] H H') {H0 : Hp} (s0 : Same H0 H) (n : H0 b = none) : Same H0 H' := fun x o e => by
  have ne : x ≠ b := fun z => by rw [z, n] at e; cases e
  exact sm_at s (by simp [ne]) (s0 x o e)
theorem ints_gd (ns : List Int) : ∃ m, gd m (.list (ns.map PyData.int)) := by
  induction ns with
  | nil => exact ⟨0, trivial⟩
  | cons x ns ih =>
    obtain ⟨m, h⟩ := ih
    exact ⟨x.natAbs + m, by show x.natAbs ≤ _; omega, gdAll_mono (by omega) _ h⟩
theorem best_gd (b : Int × Option Int) : ∃ m, gd m (bestD b) := by
  obtain ⟨x, o⟩ := b
  cases o with
  | none => exact ⟨x.natAbs, Nat.le_refl _, trivial, trivial⟩
  | some h => exact ⟨x.natAbs + h.natAbs, by show x.natAbs ≤ _; omega, by show h.natAbs ≤ _; omega, trivial⟩
theorem best_two (b c : Int × Option Int) : ∃ m, gd m (.list [bestD b, bestD c]) := by
  obtain ⟨m, h⟩ := best_gd b
  obtain ⟨k, g⟩ := best_gd c
  exact ⟨m + k, gd_mono (by omega) _ h, gd_mono (by omega) _ g, trivial⟩
theorem ints_depth (ns : List Int) : PyData.depth (.list (ns.map PyData.int)) < 4 := by
  show PyData.depthAll _ + 1 < 4
  have : PyData.depthAll (ns.map PyData.int) ≤ 1 := depthAll_iff.mpr fun d hd => by
    obtain ⟨p, hp, rfl⟩ := List.mem_map.mp hd
    simp [PyData.depth]
  omega
theorem ints_wid {ns : List Int} (h : ns.length ≤ 1000) : widAll.wid (.list (ns.map PyData.int)) ≤ 1000 := by
  show max (ns.map PyData.int).length (widAll (ns.map PyData.int)) ≤ 1000
  refine Nat.max_le.mpr ⟨by rw [List.length_map]; exact h, widAll_iff.mpr fun e he => ?_⟩
  obtain ⟨g, _, rfl⟩ := List.mem_map.mp he
  exact Nat.zero_le _
abbrev s_law : Stmt := topS 13
def n_law : List Str := ["_law_script", "_law_k", "_law_state", "_law_pieces_here", "_law_hours", "_law_handed", "_law_come", "_law_cool", "_law_hour", "_law_due", "_law_found", "_law_one"]
theorem sc_law : FnScope n_law ["_law_script"] (defScope s_law) := ⟨rfl, rfl, rfl, by decide +kernel, rfl, by decide +kernel, by decide +kernel⟩
def spLaw (K : PySem.W.Frag) : Sp := fun vs H Q _ => ∃ (a : Addr) (ns : List Int), vs = [.ref a] ∧ SqL K H a (ns.map V.int) ∧ ns.length ≤ 63 ∧ ∀ H', Q (.bl true) H'
theorem ok_law {f : Addr} {fd : FuncData} {k : Nat} (F : Fun K "law" "law" s_law f fd) (T : Txt mg) (c__law_begin : Cl P w K mg base (k + 1) "_law_begin" (spBegin K)) (c__law_take : Cl P w K mg base (k + 1) "_law_take" spTake) (c__law_pieces : Cl P w K mg base (k + 2) "_law_pieces" (spPieces K)) (c__law_here : Cl P w K mg base (k + 1) "_law_here" (spAt K)) (c_in_at : Cl P w K mg base (k + 3) "in_at" (spAt K)) (c__law_same : Cl P w K mg base (k + 5) "_law_same" (spSame K 4)) (c_most_in : Cl P w K mg base (k + 4) "most_in" (spMost K)) (c__law_most : Cl P w K mg base (k + 2) "_law_most" (spMost K)) : FnOk P w K mg base CX0 (k + 6) f fd ["_law_script"] (spLaw K) := by
  refine F.ok sc_law (fun vs H Q E h => ?_) (fun cdv A outer s H vs Q E hr h => ?_)
  · obtain ⟨a, ns, rfl, _⟩ := h
    rfl
  · obtain ⟨a, ns, rfl, hS, h63, q⟩ := h
    have nd := sc_law.nd
    have hu64 := hr.units
    refine ⟨_, (pss_cons (ps_for PassesOwn.never rfl (pi_range1 (by rfl) T.range (pa_cons (pe_op op_add pe_int (pe_callB (call_min2 rfl) (by rfl) T.min (by decide +kernel) (pa_cons pe_int (pa_cons (pe_callB (kc_len (K := K)) (by rfl) T.len PySem.boot_len (pa_cons (pv 0) pa_nil)) pa_nil)))) pa_nil)) (pg_name (i := 1) nd rfl (.inl rfl))
          (pss_cons (ps_set (i := 2) nd rfl (.inl rfl) (pe_cl c__law_begin hr (by omega) (by rfl) (pa_cons (pv 0) (pa_cons (pv 1) pa_nil))))
          (pss_cons (ps_set (i := 3) nd rfl (.inl rfl) (pe_cl c__law_pieces hr (by omega) (by rfl) (pa_cons (pv 2) (pa_cons pe_int pa_nil))))
          (pss_cons (ps_par (i := 4) (j := 5) rfl nd rfl rfl (by decide) rfl rfl (pa_cons (pe_lst (pa_cons pe_int (pa_cons (pe_op op_pow pe_int pe_int) (pa_cons (pe_cl c__law_take hr (by omega) (by rfl) (pa_cons (pv 2) (pa_cons (pe_op op_add (pe_op op_pow pe_int pe_int) pe_int) pa_nil))) pa_nil)))) (pa_cons (pe_callTy (kc_list (K := K)) (by rfl) T.list (by decide +kernel) (pa_cons (pv 3) pa_nil)) pa_nil)) rfl)
          (pss_cons (ps_for PassesOwn.never rfl (ki_list (K := K) (pv 3)) (kg_tup (K := K) (n := 2) (pgs_cons (pg_name (i := 6) nd rfl (.inl rfl)) (pgs_cons (pg_name (i := 7) nd rfl (.inl rfl)) pgs_nil)))
              (pss_one (ps_expr (pe_bm PySem.F.plainAttrs_list PySem.F.slot_list_extend PySem.F.type_list_extend mt_extend (pv 4) (pa_cons (pe_lst (pa_cons (pe_callB (call_max2 rfl) (by rfl) T.max (by decide +kernel) (pa_cons pe_int (pa_cons (pe_op op_sub (pv 6) pe_int) pa_nil))) (pa_cons (pv 6) (pa_cons (pe_op op_sub (pe_op op_add (pv 6) (pv 7)) pe_int) (pa_cons (pe_op op_add (pv 6) (pv 7)) pa_nil))))) pa_nil)))))
          (pss_cons (ps_for PassesOwn.never rfl (ki_list (K := K) (pe_lc (own := [("_law_one", 11)]) rfl nd (ki_list (K := K) (pv 4)) (blkOk_by (N := n_law) (sc := defScope s_law) (by decide +kernel)) (fun _ _ _ _ _ => (pg_name (i := 11) nd rfl (.inl rfl))) (fun _ _ _ _ _ => (pts_one (pt_cmpR op_le (pv 11) (pe_op op_pow pe_int pe_int) (nomark _)))) (fun _ _ _ _ _ => (pv 11)))) (pg_name (i := 8) nd rfl (.inl rfl))
              (pss_cons (ps_par (i := 9) (j := 10) rfl nd rfl rfl (by decide) rfl rfl (pa_cons (pe_cl c__law_here hr (by omega) (by rfl) (pa_cons (pv 3) (pa_cons (pv 8) pa_nil))) (pa_cons (pe_cl c_in_at hr (by omega) (by rfl) (pa_cons (pv 5) (pa_cons (pv 8) pa_nil))) pa_nil)) rfl)
              (pss_cons (ps_if (pt_not (pt_val (pe_cl c__law_same hr (by omega) (by rfl) (pa_cons (pv 10) (pa_cons (pv 9) pa_nil)))))
                  pss_never
                  pss_nil)
              (pss_cons (ps_expr (pe_bm PySem.F.plainAttrs_list PySem.F.slot_list_append PySem.F.type_list_append mt_append (pv 10) (pa_cons pe_str pa_nil)))
              (pss_one (ps_if (pt_not (pt_val (pe_cl c__law_same hr (by omega) (by rfl) (pa_cons (pe_cl c_in_at hr (by omega) (by rfl) (pa_cons (pv 5) (pa_cons (pv 8) pa_nil))) (pa_cons (pv 9) pa_nil)))))
                  pss_never
                  pss_nil))))))
          (pss_cons (ps_if (pt_not (pt_val (pe_cl c__law_same hr (by omega) (by rfl) (pa_cons (pe_lst (pa_cons (pe_cl c_most_in hr (by omega) (by rfl) (pa_cons (pv 5) pa_nil)) (pa_cons (pe_cl c_most_in hr (by omega) (by rfl) (pa_cons (pv 5) pa_nil)) pa_nil))) (pa_cons (pe_lst (pa_cons (pe_cl c__law_most hr (by omega) (by rfl) (pa_cons (pv 3) pa_nil)) (pa_cons (pe_cl c__law_most hr (by omega) (by rfl) (pa_cons (pv 3) pa_nil)) pa_nil))) pa_nil)))))
              pss_never
              pss_nil)
          (pss_one (ps_if ((pw_or (pt_cmpR (ko_ne (K := K) hu64) (pv 5) (pv 3) (nomark _)) (pw_or1 (pt_not (pt_val (pe_cl c__law_same hr (by omega) (by rfl) (pa_cons (pe_lst (pa_cons (pe_cl c_in_at hr (by omega) (by rfl) (pa_cons (pe_lst pa_nil) (pa_cons pe_int pa_nil))) (pa_cons (pe_cl c_most_in hr (by omega) (by rfl) (pa_cons (pe_lst pa_nil) pa_nil)) pa_nil))) (pa_cons (pe_lst (pa_cons (pe_lst pa_nil) (pa_cons (pe_tup (pa_cons pe_int (pa_cons pe_non pa_nil))) pa_nil))) pa_nil)))))))).pt
              pss_never
              pss_nil)))))))))
      (pss_one (ps_ret pe_bl))), ?_⟩
    refine ⟨_, rfl, _, _, rfl, .inl ⟨_, hS, rfl⟩, _, _, rfl, _, _, rfl, rfl, _, rfl, (by split <;> rw [List.length_map] at * <;> omega), (by split <;> rw [List.length_map] at * <;> omega), ?_⟩
    refine for_it walk_range (fun i σ H2 => ∃ v1 v2 v3 v4 v5 v6 v7 v8 v9 v10, σ = [some (.ref a), v1, v2, v3, v4, v5, v6, v7, v8, v9, v10, none] ∧ Same H H2) ⟨_, _, _, _, _, _, _, _, _, _, rfl, Same.refl _⟩ (fun _ _ _ _ _ => trivial) ?_ ?_
    · rintro i x σ H2 H3 hi ⟨v1, v2, v3, v4, v5, v6, v7, v8, v9, v10, rfl, s3⟩ ⟨rfl, rfl⟩
      have hi7 : i ≤ 63 := by
        have h2 : (1 + if ((List.map V.int ns).length : Int) < 6 then ((List.map V.int ns).length : Int) else 6) ≤ 7 := by split <;> omega
        omega
      refine ⟨_, rfl, _, rfl, a, ns, i, (by show [_, V.int (0 + (i : Int))] = _; rw [Int.zero_add]), s3.seq hS, hi7, fun H4 b s4 B4 nb => ?_⟩
      refine ⟨_, rfl, b, 0, rfl, B4, by decide, fun H5 L xs ps B5 s5 nL hL da ok => ?_⟩
      have lx : xs.length = ps.length := dpAll_map_len da
      have l40 := ok.len
      have Lb : L ≠ b := B4.ne nL
      have s35 : Same H3 H5 := sm_fresh s5 s4 nb
      obtain ⟨S, eS⟩ : ∃ S, S = [b] := ⟨_, rfl⟩
      have hb : b ∈ S := by rw [eS]; simp
      have lv : Live S H5 := by rw [eS]; exact Live.q B5
      have B := B5
      have sc : Sm [b] H5 H5 := Same.refl _
      have fL : off H5 S L = some (.lst xs) := by rw [eS, off_out (by simp [Lb])]; exact hL
      have da : DpAll K (off H5 S) xs (ps.map pcD) := by rw [eS]; exact dpAll_same (off_mono (by simp)) da
      refine ⟨_, _, rfl, rfl, ⟨by decide, by decide, by decide⟩, _, rfl, _, _, rfl, rfl, ⟨by decide, by decide, by decide⟩, _, _, rfl, rfl, b, 10 ^ Int.toNat 6 + 1, _, rfl, (by decide), (by decide), B, by omega, fun H6 tk t0 t1 B6 s6 => ⟨(by show 3 ≤ sizeLine; decide), fun Hh nHh => ?_⟩⟩
      have lv := lv.box B6.bx s6
      have sc := sc.trans s6
      have B := B6
      have fL := (sm_one hb s6) _ _ fL
      have da := dpAll_same ((sm_one hb s6)) da
      have s36 : Same H3 H6 := sm_fresh sc s35 nb
      have nHh3 : H3 Hh = none := s36.free nHh
      obtain ⟨S2, eS2⟩ : ∃ S2, S2 = [Hh, b] := ⟨_, rfl⟩
      have eoff : ∀ o, off (upd H6 Hh o) S2 = off H6 S := fun o => by rw [eS2, eS]; exact off_fresh nHh
      have fL : off (upd H6 Hh (.lst [.int 0, .int (10 ^ Int.toNat 6), .int tk])) S2 L = some (.lst xs) := by rw [eoff]; exact fL
      have da : DpAll K (off (upd H6 Hh (.lst [.int 0, .int (10 ^ Int.toNat 6), .int tk])) S2) xs (ps.map pcD) := by rw [eoff]; exact da
      have hHh : upd H6 Hh (.lst [.int 0, .int (10 ^ Int.toNat 6), .int tk]) Hh = some (.lst (([0, 10 ^ Int.toNat 6, tk] : List Int).map V.int)) := upd_same
      have s37 := s36.trans (same_upd (o := .lst [.int 0, .int (10 ^ Int.toNat 6), .int tk]) nHh)
      have B7 := B.put (o := .lst [.int 0, .int (10 ^ Int.toNat 6), .int tk]) nHh
      generalize upd H6 Hh (.lst [.int 0, .int (10 ^ Int.toNat 6), .int tk]) = H7 at fL da hHh s37 B7 ⊢
      have L2 : ∀ x ∈ S2, H7 x = none → False := fun x hx e => by
        rw [eS2] at hx
        rcases List.mem_cons.mp hx with z | z
        · rw [z, hHh] at e; cases e
        · rw [List.mem_singleton.mp z] at e
          obtain ⟨_, _, _, z2⟩ := B7.bx
          rw [z2] at e; cases e
      refine ⟨_, rfl, L, _, rfl, .inl (SqL.of (at_off fL)), fun Pp nP => ⟨_, _, rfl, ?_⟩⟩
      have PS : Pp ∉ S2 := fun z => L2 Pp z nP
      have so := sm_put (S := S2) (o := .lst xs) nP
      have fL := so _ _ fL
      have da := dpAll_same so da
      have hHh := same_upd (o := .lst xs) nP _ _ hHh
      have s38 := s37.trans (same_upd (o := .lst xs) nP)
      have fP : off (upd H7 Pp (.lst xs)) S2 Pp = some (.lst xs) := off_upd PS
      generalize upd H7 Pp (.lst xs) = H8 at fL da hHh s38 fP ⊢
      have hhS : Hh ∈ S2 := by rw [eS2]; simp
      refine ⟨_, rfl, L, rfl, ⟨_, SqL.of (at_off fL)⟩, ?_⟩
      refine for_it (walk_list (xs := xs)) (fun j σ H9 => ∃ v6 v7, ∃ hs : List Int, σ = [some (.ref a), some (.int (0 + (i : Nat))), some (.ref b), some (.ref L), some (.ref Hh), some (.ref Pp), v6, v7, v8, v9, v10, none] ∧ Same H3 H9 ∧ H9 Hh = some (.lst (hs.map V.int)) ∧ hs.length = 3 + 4 * j ∧ off H9 S2 L = some (.lst xs) ∧ DpAll K (off H9 S2) xs (ps.map pcD) ∧ off H9 S2 Pp = some (.lst xs))
        ⟨_, _, _, rfl, s38, hHh, rfl, fL, da, fP⟩ (fun j σ H9 _ h => by obtain ⟨_, _, _, _, _, _, _, h, _⟩ := h; exact SqL.of (at_off h)) ?_ ?_
      · rintro j x σ H9 H10 hj ⟨v6, v7, hs, rfl, s39, hHh, lhs, fL, da, fP⟩ ⟨rfl, gx⟩
        obtain ⟨pa, rfl, hpa, hj2, _⟩ := pcs_at (dpAll_same off_sub da) gx
        refine ⟨pa, _, rfl, hpa, rfl, _, _, rfl, _, _, rfl, rfl, ?_⟩
        refine ⟨_, rfl, .inl ⟨rfl, _, SqL.of hHh⟩, _, rfl, _, _, rfl, rfl, _, _, rfl, _, rfl, _, rfl, _, rfl, _, _, rfl, rfl, _, _, rfl, rfl, _, rfl, _, rfl, _, _, rfl, rfl, (by show 4 ≤ sizeLine; decide), fun e ne => ?_⟩
        refine ⟨Hh, e, _, _, rfl, rfl, same_upd ne _ _ hHh, upd_same, (by rw [List.length_map, lhs, sizeLine_eq]; show _ + 4 ≤ _; omega), ?_⟩
        refine ⟨_, _, hs ++ [_, _, _, _], rfl, same_put (s39.trans (same_upd ne)) nHh3, (by rw [upd_same, List.map_append]; rfl), (by rw [List.length_append, lhs]; show _ + 4 = _; omega), ?_, ?_, ?_⟩
        · exact ((sm_put ne).trans (sm_wr hhS)) _ _ fL
        · exact dpAll_same ((sm_put ne).trans (sm_wr hhS)) da
        · exact ((sm_put ne).trans (sm_wr hhS)) _ _ fP
      · rintro σ H9 ⟨v6, v7, hs, rfl, s39, hHh, lhs, fL, da, fP⟩
        have lhs : hs.length ≤ 200 := by omega
        have fL := at_off fL
        have fP := at_off fP
        have da := dpAll_same off_sub da
        refine ⟨_, rfl, Hh, rfl, ⟨_, SqL.of hHh⟩, fun D nD => ?_⟩
        refine lc_it (walk_list (xs := hs.map V.int)) (PvL H9 D fun i => ((hs.take i).filter fun h => decide (h ≤ 10 ^ Int.toNat 6)).map V.int) (pv_start nD rfl) (fun i H2 _ h => h.1.seq (SqL.of hHh)) ?_ ?_
        · rintro i2 y H10 H11 hi2 p ⟨rfl, gx⟩
          rw [List.getElem?_map] at gx
          obtain ⟨g, gg, rfl⟩ := Option.map_eq_some_iff.mp gx
          have lf : (((hs.take i2).filter fun h => decide (h ≤ 10 ^ Int.toNat 6)).map V.int).length < sizeLine := by
            rw [List.length_map, sizeLine_eq]
            have := List.length_filter_le (fun h => decide (h ≤ 10 ^ Int.toNat 6)) (hs.take i2)
            rw [List.length_take] at this
            omega
          refine ⟨rfl, _, rfl, _, _, rfl, rfl, ⟨by decide, by decide, by decide⟩, _, _, rfl, rfl, _, rfl, ite2 (fun h1 => ?_) (fun h1 => ?_)⟩
          · refine ⟨_, rfl, ?_⟩
            exact pv_put nD p (Same.refl _) (by rw [List.take_add_one, gg, List.filter_append, Option.toList_some, List.filter_cons_of_pos (p := fun h => decide (h ≤ 10 ^ Int.toNat 6)) h1, List.map_append]; rfl) lf
          · exact pv_skip p (Same.refl _) (by rw [List.take_add_one, gg, List.filter_append, Option.toList_some, List.filter_cons_of_neg (p := fun h => decide (h ≤ 10 ^ Int.toNat 6)) h1, List.filter_nil, List.append_nil])
        intro H10 p
        obtain ⟨gs, egs⟩ : ∃ gs : List Int, ((hs.take (hs.map V.int).length).filter fun h => decide (h ≤ 10 ^ Int.toNat 6)) = gs := ⟨_, rfl⟩
        obtain ⟨s10, hD⟩ := pv_end p (show _ = gs.map V.int by rw [← egs])
        have s310 := s39.trans s10
        have fL := s10 _ _ fL
        have fP := s10 _ _ fP
        have da := dpAll_same s10 da
        have l60 : ps.length ≤ 60 := by omega
        refine ⟨D, rfl, ⟨_, SqL.of hD⟩, ?_⟩
        refine for_it (walk_list (xs := gs.map V.int)) (fun j σ H11 => ∃ v8 v9 v10, σ = [some (.ref a), some (.int (0 + (i : Nat))), some (.ref b), some (.ref L), some (.ref Hh), some (.ref Pp), v6, v7, v8, v9, v10, none] ∧ Same H10 H11)
          ⟨_, _, _, rfl, Same.refl _⟩ (fun j σ H11 _ h => by obtain ⟨_, _, _, _, h⟩ := h; exact SqL.of (h _ _ hD)) ?_ ?_
        · rintro j x σ H11 H12 hj ⟨v8, v9, v10, rfl, s12⟩ ⟨rfl, gx⟩
          rw [List.getElem?_map] at gx
          obtain ⟨h, gh, rfl⟩ := Option.map_eq_some_iff.mp gx
          refine ⟨_, rfl, _, rfl, L, xs, ps, h, rfl, SqL.of (s12 _ _ fL), dpAll_same s12 da, l60, fun H13 Du s13 nDu hDu => ?_⟩
          have sa := s12.trans s13
          refine ⟨_, rfl, _, rfl, Pp, xs, ps, h, rfl, SqL.of (sa _ _ fP), dpAll_same sa da, l60, fun H14 Fo s14 nFo hFo => ⟨_, _, rfl, ?_⟩⟩
          obtain ⟨m, hm⟩ := ints_gd (hereF ps h)
          have wd := ints_wid (ns := hereF ps h) (by have := hereF_len ps h; omega)
          have dDu : Dp K H14 (.ref Du) (.list ((hereF ps h).map PyData.int)) := .lst (SqL.of (s14 _ _ hDu)) (dp_ints _)
          have dFo : Dp K H14 (.ref Fo) (.list ((hereF ps h).map PyData.int)) := .lst (SqL.of hFo) (dp_ints _)
          refine ⟨_, rfl, _, rfl, .ref Fo, .ref Du, _, m, rfl, dFo, dDu, ints_depth _, wd, hm, fun H15 s15 => ?_⟩
          refine ⟨_, rfl, iteF ?_⟩
          have hFo := s15 _ _ hFo
          have FD : Du ≠ Fo := fun z => by rw [z] at hDu; rw [hDu] at nFo; cases nFo
          refine ⟨_, rfl, .inl ⟨rfl, _, SqL.of hFo⟩, Fo, _, _, rfl, rfl, hFo, (by rw [List.length_map, sizeLine_eq]; have := hereF_len ps h; omega), ?_⟩
          have sb : Same H10 (upd H15 Fo (.lst ((hereF ps h).map V.int ++ [.str "more"]))) := same_put ((sa.trans s14).trans s15) (sa.free nFo)
          have hDu : upd H15 Fo (.lst ((hereF ps h).map V.int ++ [.str "more"])) Du = some (.lst ((hereF ps h).map V.int)) := by rw [upd_ne FD]; exact s15 _ _ (s14 _ _ hDu)
          generalize upd H15 Fo (.lst ((hereF ps h).map V.int ++ [.str "more"])) = H16 at sb hDu ⊢
          refine ⟨_, rfl, _, rfl, Pp, xs, ps, h, rfl, SqL.of (sb _ _ fP), dpAll_same sb da, l60, fun H17 Fo2 s17 nFo2 hFo2 => ?_⟩
          refine ⟨_, rfl, .ref Fo2, .ref Du, _, m, rfl, .lst (SqL.of hFo2) (dp_ints _), .lst (SqL.of (s17 _ _ hDu)) (dp_ints _), ints_depth _, wd, hm, fun H18 s18 => ?_⟩
          exact ⟨_, rfl, iteF ⟨_, _, _, rfl, (sb.trans s17).trans s18⟩⟩
        · rintro σ H11 ⟨v8, v9, v10, rfl, s11⟩
          have fL := s11 _ _ fL
          have fP := s11 _ _ fP
          have da := dpAll_same s11 da
          have s311 := s310.trans s11
          refine ⟨_, rfl, Pp, xs, ps, rfl, SqL.of fP, da, l60, fun H12 t1 z1 s12 o1 h1 => ?_⟩
          refine ⟨_, rfl, Pp, xs, ps, rfl, SqL.of (s12 _ _ fP), dpAll_same s12 da, l60, fun H13 t2 z2 s13 o2 h2 => ⟨(by show 2 ≤ sizeLine; decide), fun A1 nA1 => ?_⟩⟩
          have hA1 : upd H13 A1 (.lst [.ref t1, .ref t2]) A1 = _ := upd_same
          have s14 := (s12.trans s13).trans (same_upd (o := .lst [.ref t1, .ref t2]) nA1)
          have h1 := same_tup (s13.trans (same_upd (o := .lst [.ref t1, .ref t2]) nA1)) h1
          have h2 := same_tup (same_upd (o := .lst [.ref t1, .ref t2]) nA1) h2
          generalize upd H13 A1 (.lst [.ref t1, .ref t2]) = H14 at hA1 s14 h1 h2 ⊢
          refine ⟨_, rfl, L, xs, ps, rfl, SqL.of (s14 _ _ fL), dpAll_same s14 da, l60, fun H15 t3 z3 s15 o3 h3 => ?_⟩
          have sa := s14.trans s15
          refine ⟨_, rfl, L, xs, ps, rfl, SqL.of (sa _ _ fL), dpAll_same sa da, l60, fun H16 t4 z4 s16 o4 h4 => ⟨(by show 2 ≤ sizeLine; decide), fun A2 nA2 => ?_⟩⟩
          have e2 := hours_uniq o2 o1
          have e3 := hours_uniq o3 o1
          have e4 := hours_uniq o4 o1
          subst e2 e3 e4
          have su := same_upd (o := .lst [.ref t3, .ref t4]) nA2
          have hA2 : upd H16 A2 (.lst [.ref t3, .ref t4]) A2 = _ := upd_same
          generalize upd H16 A2 (.lst [.ref t3, .ref t4]) = H17 at hA2 su ⊢
          have sb := (s15.trans s16).trans su
          obtain ⟨m, hm⟩ := best_two (bestF ps z4) (bestF ps z4)
          have d1 : Dp K H17 (.ref A1) (.list [bestD (bestF ps z4), bestD (bestF ps z4)]) := .lst (SqL.of (sb _ _ hA1)) (.cons (best_dp (same_tup sb h1)) (.cons (best_dp (same_tup sb h2)) .nil))
          have d2 : Dp K H17 (.ref A2) (.list [bestD (bestF ps z4), bestD (bestF ps z4)]) := .lst (SqL.of hA2) (.cons (best_dp (same_tup (s16.trans su) h3)) (.cons (best_dp (same_tup su h4)) .nil))
          refine ⟨.ref A1, .ref A2, _, m, rfl, d1, d2, ?_, ?_, hm, fun H18 s18 => ?_⟩
          · generalize bestF ps z4 = bb
            obtain ⟨b1, o⟩ := bb
            cases o <;> simp [bestD, opD, PyData.depth, PyData.depthAll]
          · generalize bestF ps z4 = bb
            obtain ⟨b1, o⟩ := bb
            cases o <;> (show max _ (widAll _) ≤ _; simp [bestD, opD, widAll, widAll.wid])
          refine ⟨_, rfl, iteF ?_⟩
          have sc := (s14.trans sb).trans s18
          have fL := sc _ _ fL
          have fP := sc _ _ fP
          have da := dpAll_same sc da
          have s318 := s311.trans sc
          have dP : Dp K H18 (.ref Pp) (.list (ps.map pcD)) := .lst (SqL.of fP) da
          have dL : Dp K H18 (.ref L) (.list (ps.map pcD)) := .lst (SqL.of fL) da
          refine ⟨_, rfl, _, rfl, _, _, dP, dL, pcs_shaped ok.each, pcs_shaped ok.each, _, rfl, ?_⟩
          rw [SeqAt.eqv_refl _ (gd_lay _ (pcs_gd ok.each))]
          refine iteF ?_
          refine ⟨Nat.zero_le _, fun e1 ne1 => ?_⟩
          have s19 := same_upd (o := .lst []) ne1
          refine ⟨e1, [], [], 3, rfl, SqL.of upd_same, .nil, by decide, fun H20 F1 s20 nF1 hF1 => ⟨Nat.zero_le _, fun e2 ne2 => ?_⟩⟩
          have s21 := same_upd (o := .lst []) ne2
          refine ⟨e2, [], [], rfl, SqL.of upd_same, .nil, by decide, fun H22 t5 z5 s22 o5 h5 => ⟨(by show 2 ≤ sizeLine; decide), fun A3 nA3 => ⟨Nat.zero_le _, fun e3 ne3 => ⟨(by show 2 ≤ sizeLine; decide), fun t6 nt6 => ⟨(by show 2 ≤ sizeLine; decide), fun A4 nA4 => ?_⟩⟩⟩⟩⟩
          have ez : z5 = [] := by
            cases z5 with
            | nil => rfl
            | cons y ys => exact absurd ((o5.2 y).mp List.mem_cons_self) (List.not_mem_nil)
          subst ez
          have sA := same_upd (o := .lst [.ref F1, .ref t5]) nA3
          have sB := same_upd (o := .lst []) ne3
          have sC := same_upd (o := .tup [.int 0, .non]) nt6
          have sD := same_upd (o := .lst [.ref e3, .ref t6]) nA4
          refine ⟨.ref A3, .ref A4, .list [.list [], bestD (0, none)], 0, rfl, .lst (SqL.of ((sB.trans (sC.trans sD)) _ _ upd_same)) (.cons (.lst (SqL.of (((s21.trans s22).trans (sA.trans (sB.trans (sC.trans sD)))) _ _ hF1)) .nil) (.cons (best_dp (same_tup (sA.trans (sB.trans (sC.trans sD))) h5)) .nil)), .lst (SqL.of upd_same) (.cons (.lst (SqL.of ((sC.trans sD) _ _ upd_same)) .nil) (.cons (best_dp (b := (0, none)) (.inl (.inl (sD _ _ upd_same)))) .nil)), ?_, ?_, ⟨trivial, ⟨Nat.le_refl _, trivial, trivial⟩, trivial⟩, fun H23 s23 => ?_⟩
          · simp [bestD, opD, PyData.depth, PyData.depthAll]
          · show max _ (widAll _) ≤ _; simp [bestD, opD, widAll, widAll.wid]
          refine ⟨_, rfl, iteF ⟨_, _, _, _, _, _, _, _, _, _, rfl, ?_⟩⟩
          exact (s3.trans (s318.trans (s19.trans (s20.trans (s21.trans (s22.trans (sA.trans (sB.trans (sC.trans sD)))))))))  |>.trans s23
    · rintro σ H2 ⟨v1, v2, v3, v4, v5, v6, v7, v8, v9, v10, rfl, s3⟩
      exact q _

end
end Pot

namespace Pot
open PySem PySem.Spec PyProof.Rows L2
theorem all_mk {l : PySem.W.OpenLaw} {w : World} {K : PySem.W.Frag} {h : Heap} {mg : Str → Option Value} {fa : Addr} (X : K.In h) (G : h.Ns mainGlobals mg) (hfa : mg "law" = some (.ref fa))
    {f1 : Addr} {od1 an1 : Option Addr} {sl1 : Array (Option Value)} {oc1 kV1 dc1 pm1 cd1 ct1 : Value}
    {f2 : Addr} {od2 an2 : Option Addr} {sl2 : Array (Option Value)} {oc2 kV2 dc2 pm2 cd2 ct2 : Value}
    {f3 : Addr} {od3 an3 : Option Addr} {sl3 : Array (Option Value)} {oc3 kV3 dc3 pm3 cd3 ct3 : Value}
    {f4 : Addr} {od4 an4 : Option Addr} {sl4 : Array (Option Value)} {oc4 kV4 dc4 pm4 cd4 ct4 : Value}
    {f5 : Addr} {od5 an5 : Option Addr} {sl5 : Array (Option Value)} {oc5 kV5 dc5 pm5 cd5 ct5 : Value}
    {f6 : Addr} {od6 an6 : Option Addr} {sl6 : Array (Option Value)} {oc6 kV6 dc6 pm6 cd6 ct6 : Value}
    {f7 : Addr} {od7 an7 : Option Addr} {sl7 : Array (Option Value)} {oc7 kV7 dc7 pm7 cd7 ct7 : Value}
    {f8 : Addr} {od8 an8 : Option Addr} {sl8 : Array (Option Value)} {oc8 kV8 dc8 pm8 cd8 ct8 : Value}
    {f9 : Addr} {od9 an9 : Option Addr} {sl9 : Array (Option Value)} {oc9 kV9 dc9 pm9 cd9 ct9 : Value}
    {f10 : Addr} {od10 an10 : Option Addr} {sl10 : Array (Option Value)} {oc10 kV10 dc10 pm10 cd10 ct10 : Value}
    {f11 : Addr} {od11 an11 : Option Addr} {sl11 : Array (Option Value)} {oc11 kV11 dc11 pm11 cd11 ct11 : Value}
    {f12 : Addr} {od12 an12 : Option Addr} {sl12 : Array (Option Value)} {oc12 kV12 dc12 pm12 cd12 ct12 : Value}
    (a1 : PySem.W.nsIn K mainGlobals "in_at" = some (some (.ref f1))) (l1 : K.lookup f1 = some ⟨oc1, od1, .func (PySem.W.fnOf "in_at" "in_at" (defArgs s_in_at) (defBody s_in_at) (defScope s_in_at) .none kV1 dc1 pm1 an1 cd1 ct1), sl1⟩) (c1 : PySem.W.codeIn K cd1 "in_at" = true) (k1 : PySem.W.keepIn K (.ref f1) = true)
    (a2 : PySem.W.nsIn K mainGlobals "is_in" = some (some (.ref f2))) (l2 : K.lookup f2 = some ⟨oc2, od2, .func (PySem.W.fnOf "is_in" "is_in" (defArgs s_is_in) (defBody s_is_in) (defScope s_is_in) .none kV2 dc2 pm2 an2 cd2 ct2), sl2⟩) (c2 : PySem.W.codeIn K cd2 "is_in" = true) (k2 : PySem.W.keepIn K (.ref f2) = true)
    (a3 : PySem.W.nsIn K mainGlobals "out_at" = some (some (.ref f3))) (l3 : K.lookup f3 = some ⟨oc3, od3, .func (PySem.W.fnOf "out_at" "out_at" (defArgs s_out_at) (defBody s_out_at) (defScope s_out_at) .none kV3 dc3 pm3 an3 cd3 ct3), sl3⟩) (c3 : PySem.W.codeIn K cd3 "out_at" = true) (k3 : PySem.W.keepIn K (.ref f3) = true)
    (a4 : PySem.W.nsIn K mainGlobals "most_in" = some (some (.ref f4))) (l4 : K.lookup f4 = some ⟨oc4, od4, .func (PySem.W.fnOf "most_in" "most_in" (defArgs s_most_in) (defBody s_most_in) (defScope s_most_in) .none kV4 dc4 pm4 an4 cd4 ct4), sl4⟩) (c4 : PySem.W.codeIn K cd4 "most_in" = true) (k4 : PySem.W.keepIn K (.ref f4) = true)
    (a5 : PySem.W.nsIn K mainGlobals "hours_of_coming" = some (some (.ref f5))) (l5 : K.lookup f5 = some ⟨oc5, od5, .func (PySem.W.fnOf "hours_of_coming" "hours_of_coming" (defArgs s_hours_of_coming) (defBody s_hours_of_coming) (defScope s_hours_of_coming) .none kV5 dc5 pm5 an5 cd5 ct5), sl5⟩) (c5 : PySem.W.codeIn K cd5 "hours_of_coming" = true) (k5 : PySem.W.keepIn K (.ref f5) = true)
    (a6 : PySem.W.nsIn K mainGlobals "_law_begin" = some (some (.ref f6))) (l6 : K.lookup f6 = some ⟨oc6, od6, .func (PySem.W.fnOf "_law_begin" "_law_begin" (defArgs s__law_begin) (defBody s__law_begin) (defScope s__law_begin) .none kV6 dc6 pm6 an6 cd6 ct6), sl6⟩) (c6 : PySem.W.codeIn K cd6 "_law_begin" = true) (k6 : PySem.W.keepIn K (.ref f6) = true)
    (a7 : PySem.W.nsIn K mainGlobals "_law_take" = some (some (.ref f7))) (l7 : K.lookup f7 = some ⟨oc7, od7, .func (PySem.W.fnOf "_law_take" "_law_take" (defArgs s__law_take) (defBody s__law_take) (defScope s__law_take) .none kV7 dc7 pm7 an7 cd7 ct7), sl7⟩) (c7 : PySem.W.codeIn K cd7 "_law_take" = true) (k7 : PySem.W.keepIn K (.ref f7) = true)
    (a8 : PySem.W.nsIn K mainGlobals "_law_same" = some (some (.ref f8))) (l8 : K.lookup f8 = some ⟨oc8, od8, .func (PySem.W.fnOf "_law_same" "_law_same" (defArgs s__law_same) (defBody s__law_same) (defScope s__law_same) .none kV8 dc8 pm8 an8 cd8 ct8), sl8⟩) (c8 : PySem.W.codeIn K cd8 "_law_same" = true) (k8 : PySem.W.keepIn K (.ref f8) = true)
    (a9 : PySem.W.nsIn K mainGlobals "_law_pieces" = some (some (.ref f9))) (l9 : K.lookup f9 = some ⟨oc9, od9, .func (PySem.W.fnOf "_law_pieces" "_law_pieces" (defArgs s__law_pieces) (defBody s__law_pieces) (defScope s__law_pieces) .none kV9 dc9 pm9 an9 cd9 ct9), sl9⟩) (c9 : PySem.W.codeIn K cd9 "_law_pieces" = true) (k9 : PySem.W.keepIn K (.ref f9) = true)
    (a10 : PySem.W.nsIn K mainGlobals "_law_here" = some (some (.ref f10))) (l10 : K.lookup f10 = some ⟨oc10, od10, .func (PySem.W.fnOf "_law_here" "_law_here" (defArgs s__law_here) (defBody s__law_here) (defScope s__law_here) .none kV10 dc10 pm10 an10 cd10 ct10), sl10⟩) (c10 : PySem.W.codeIn K cd10 "_law_here" = true) (k10 : PySem.W.keepIn K (.ref f10) = true)
    (a11 : PySem.W.nsIn K mainGlobals "_law_most" = some (some (.ref f11))) (l11 : K.lookup f11 = some ⟨oc11, od11, .func (PySem.W.fnOf "_law_most" "_law_most" (defArgs s__law_most) (defBody s__law_most) (defScope s__law_most) .none kV11 dc11 pm11 an11 cd11 ct11), sl11⟩) (c11 : PySem.W.codeIn K cd11 "_law_most" = true) (k11 : PySem.W.keepIn K (.ref f11) = true)
    (a12 : PySem.W.nsIn K mainGlobals "law" = some (some (.ref f12))) (l12 : K.lookup f12 = some ⟨oc12, od12, .func (PySem.W.fnOf "law" "law" (defArgs s_law) (defBody s_law) (defScope s_law) .none kV12 dc12 pm12 an12 cd12 ct12), sl12⟩) (c12 : PySem.W.codeIn K cd12 "law" = true) (k12 : PySem.W.keepIn K (.ref f12) = true)
    (z1 : PySem.W.nsIn K mainGlobals "len" = some none)
    (z2 : PySem.W.nsIn K mainGlobals "divmod" = some none)
    (z3 : PySem.W.nsIn K mainGlobals "range" = some none)
    (z4 : PySem.W.nsIn K mainGlobals "sum" = some none)
    (z5 : PySem.W.nsIn K mainGlobals "all" = some none)
    (z6 : PySem.W.nsIn K mainGlobals "any" = some none)
    (z7 : PySem.W.nsIn K mainGlobals "isinstance" = some none)
    (z8 : PySem.W.nsIn K mainGlobals "str" = some none)
    (z9 : PySem.W.nsIn K mainGlobals "int" = some none)
    (z10 : PySem.W.nsIn K mainGlobals "list" = some none)
    (z11 : PySem.W.nsIn K mainGlobals "tuple" = some none)
    (z12 : PySem.W.nsIn K mainGlobals "bool" = some none)
    (z13 : PySem.W.nsIn K mainGlobals "zip" = some none)
    (z14 : PySem.W.nsIn K mainGlobals "set" = some none)
    (z15 : PySem.W.nsIn K mainGlobals "sorted" = some none)
    (z16 : PySem.W.nsIn K mainGlobals "enumerate" = some none)
    (z17 : PySem.W.nsIn K mainGlobals "repr" = some none)
    (z18 : PySem.W.nsIn K mainGlobals "min" = some none)
    (z19 : PySem.W.nsIn K mainGlobals "max" = some none)
    (z20 : PySem.W.nsIn K mainGlobals "abs" = some none)
    : ∃ fd : FuncData, (∀ (s : Shared) (v : Value), BindsTo s fd ⟨[v], []⟩ [("_law_script", v)]) ∧ ∀ base : Heap, K.In base → base.Ns mainGlobals mg → FnOk l.prog w K mg base CX0 6 fa fd ["_law_script"] (spLaw K) := by
  have e := hfa.symm.trans (PySem.W.mg_of X G a12)
  cases e
  have T : Txt mg := ⟨PySem.W.mg_none_of X G z1, PySem.W.mg_none_of X G z2, PySem.W.mg_none_of X G z3, PySem.W.mg_none_of X G z4, PySem.W.mg_none_of X G z5, PySem.W.mg_none_of X G z6, PySem.W.mg_none_of X G z7, PySem.W.mg_none_of X G z8, PySem.W.mg_none_of X G z9, PySem.W.mg_none_of X G z10, PySem.W.mg_none_of X G z11, PySem.W.mg_none_of X G z12, PySem.W.mg_none_of X G z13, PySem.W.mg_none_of X G z14, PySem.W.mg_none_of X G z15, PySem.W.mg_none_of X G z16, PySem.W.mg_none_of X G z17, PySem.W.mg_none_of X G z18, PySem.W.mg_none_of X G z19, PySem.W.mg_none_of X G z20⟩
  have F1 := fun_mk (st := s_in_at) l1 c1 k1
  have b1 := F1.binds (ps := ["pieces", "hour"]) fun _ _ _ _ _ _ us hl => match us, hl with | [_, _], _ => rfl
  have g1 := PySem.W.mg_of X G a1
  have F2 := fun_mk (st := s_is_in) l2 c2 k2
  have b2 := F2.binds (ps := ["piece", "hour"]) fun _ _ _ _ _ _ us hl => match us, hl with | [_, _], _ => rfl
  have g2 := PySem.W.mg_of X G a2
  have F3 := fun_mk (st := s_out_at) l3 c3 k3
  have b3 := F3.binds (ps := ["piece"]) fun _ _ _ _ _ _ us hl => match us, hl with | [_], _ => rfl
  have g3 := PySem.W.mg_of X G a3
  have F4 := fun_mk (st := s_most_in) l4 c4 k4
  have b4 := F4.binds (ps := ["pieces"]) fun _ _ _ _ _ _ us hl => match us, hl with | [_], _ => rfl
  have g4 := PySem.W.mg_of X G a4
  have F5 := fun_mk (st := s_hours_of_coming) l5 c5 k5
  have b5 := F5.binds (ps := ["pieces"]) fun _ _ _ _ _ _ us hl => match us, hl with | [_], _ => rfl
  have g5 := PySem.W.mg_of X G a5
  have F6 := fun_mk (st := s__law_begin) l6 c6 k6
  have b6 := F6.binds (ps := ["_law_script", "_law_k"]) fun _ _ _ _ _ _ us hl => match us, hl with | [_, _], _ => rfl
  have g6 := PySem.W.mg_of X G a6
  have F7 := fun_mk (st := s__law_take) l7 c7 k7
  have b7 := F7.binds (ps := ["_law_state", "_law_many"]) fun _ _ _ _ _ _ us hl => match us, hl with | [_, _], _ => rfl
  have g7 := PySem.W.mg_of X G a7
  have F8 := fun_mk (st := s__law_same) l8 c8 k8
  have b8 := F8.binds (ps := ["_law_found", "_law_due"]) fun _ _ _ _ _ _ us hl => match us, hl with | [_, _], _ => rfl
  have g8 := PySem.W.mg_of X G a8
  have F9 := fun_mk (st := s__law_pieces) l9 c9 k9
  have b9 := F9.binds (ps := ["_law_state", "_law_most_here"]) fun _ _ _ _ _ _ us hl => match us, hl with | [_, _], _ => rfl
  have g9 := PySem.W.mg_of X G a9
  have F10 := fun_mk (st := s__law_here) l10 c10 k10
  have b10 := F10.binds (ps := ["_law_pieces_here", "_law_hour"]) fun _ _ _ _ _ _ us hl => match us, hl with | [_, _], _ => rfl
  have g10 := PySem.W.mg_of X G a10
  have F11 := fun_mk (st := s__law_most) l11 c11 k11
  have b11 := F11.binds (ps := ["_law_pieces_here"]) fun _ _ _ _ _ _ us hl => match us, hl with | [_], _ => rfl
  have g11 := PySem.W.mg_of X G a11
  have F12 := fun_mk (st := s_law) l12 c12 k12
  refine ⟨PySem.W.fnOf "law" "law" (defArgs s_law) (defBody s_law) (defScope s_law) .none kV12 dc12 pm12 an12 cd12 ct12, fun s v => .of_eq rfl, fun base _ _ => ?_⟩
  have c__law_begin : Cl l.prog w K mg base 1 "_law_begin" ((spBegin K)) := ⟨_, _, _, ok_begin F6 T, g6, F6.kp, b6⟩
  have c__law_take : Cl l.prog w K mg base 1 "_law_take" (spTake) := ⟨_, _, _, ok_take F7 T, g7, F7.kp, b7⟩
  have c__law_pieces : Cl l.prog w K mg base 2 "_law_pieces" ((spPieces K)) := ⟨_, _, _, ok_pieces F9 T c__law_take, g9, F9.kp, b9⟩
  have c__law_here : Cl l.prog w K mg base 1 "_law_here" ((spAt K)) := ⟨_, _, _, ok_here F10 T, g10, F10.kp, b10⟩
  have c_out_at : Cl l.prog w K mg base 1 "out_at" ((spOut K)) := ⟨_, _, _, ok_out F3, g3, F3.kp, b3⟩
  have c_is_in : Cl l.prog w K mg base 2 "is_in" ((spIn K)) := ⟨_, _, _, ok_in F2 c_out_at, g2, F2.kp, b2⟩
  have c_in_at : Cl l.prog w K mg base 3 "in_at" ((spAt K)) := ⟨_, _, _, ok_at F1 T c_is_in, g1, F1.kp, b1⟩
  have c__law_same : Cl l.prog w K mg base 5 "_law_same" (spSame K 4) := ⟨_, _, _, ok_same F8 T b8 g8 4, g8, F8.kp, b8⟩
  have c_hours_of_coming : Cl l.prog w K mg base 1 "hours_of_coming" ((spHrs K)) := ⟨_, _, _, ok_hrs F5 T, g5, F5.kp, b5⟩
  have c_most_in : Cl l.prog w K mg base 4 "most_in" ((spMost K)) := ⟨_, _, _, ok_most F4 T c_in_at c_hours_of_coming, g4, F4.kp, b4⟩
  have c__law_most : Cl l.prog w K mg base 2 "_law_most" ((spMost K)) := ⟨_, _, _, ok_lmost F11 T c__law_here, g11, F11.kp, b11⟩
  exact ok_law F12 T c__law_begin c__law_take c__law_pieces c__law_here c_in_at c__law_same c_most_in c__law_most
end Pot
open PySem PySem.W PyProof.Rows
set_option maxRecDepth 100000 in
set_option maxHeartbeats 0 in
theorem PySem.Challenge.cw_potround_k47_who_is_in_holds : PySem.Challenge.rw_potround_k47_who_is_in.Holds := by
  w_on; o_law; k_head; (case hw => w_witness2)
  k_fill
  refine L2.walk_of (l := PySem.Challenge.rw_potround_k47_who_is_in) (n := 63) (k := 6) (x := "_law_script") (CX := fun _ => L2.CX0) (sp := fun w => Pot.spLaw _) rfl (by decide) rfl ⟨rfl, by decide, by decide⟩ (fun w h Y => PySem.W.kIn_of Y) ?F (fun _ _ a ns hl _ hS => ⟨a, ns, rfl, hS, hl, fun _ => rfl⟩) (fun _ _ _ _ _ h => h)
  case F =>
    intro w mg fa h KX G hmg
    refine' Pot.all_mk KX G hmg ?a1 ?l1 ?c1 ?k1 ?a2 ?l2 ?c2 ?k2 ?a3 ?l3 ?c3 ?k3 ?a4 ?l4 ?c4 ?k4 ?a5 ?l5 ?c5 ?k5 ?a6 ?l6 ?c6 ?k6 ?a7 ?l7 ?c7 ?k7 ?a8 ?l8 ?c8 ?k8 ?a9 ?l9 ?c9 ?k9 ?a10 ?l10 ?c10 ?k10 ?a11 ?l11 ?c11 ?k11 ?a12 ?l12 ?c12 ?k12 ?z1 ?z2 ?z3 ?z4 ?z5 ?z6 ?z7 ?z8 ?z9 ?z10 ?z11 ?z12 ?z13 ?z14 ?z15 ?z16 ?z17 ?z18 ?z19 ?z20
    (case a1 => k_is)
    (case l1 => k_is)
    (case c1 => k_is)
    (case k1 => k_is)
    (case a2 => k_is)
    (case l2 => k_is)
    (case c2 => k_is)
    (case k2 => k_is)
    (case a3 => k_is)
    (case l3 => k_is)
    (case c3 => k_is)
    (case k3 => k_is)
    (case a4 => k_is)
    (case l4 => k_is)
    (case c4 => k_is)
    (case k4 => k_is)
    (case a5 => k_is)
    (case l5 => k_is)
    (case c5 => k_is)
    (case k5 => k_is)
    (case a6 => k_is)
    (case l6 => k_is)
    (case c6 => k_is)
    (case k6 => k_is)
    (case a7 => k_is)
    (case l7 => k_is)
    (case c7 => k_is)
    (case k7 => k_is)
    (case a8 => k_is)
    (case l8 => k_is)
    (case c8 => k_is)
    (case k8 => k_is)
    (case a9 => k_is)
    (case l9 => k_is)
    (case c9 => k_is)
    (case k9 => k_is)
    (case a10 => k_is)
    (case l10 => k_is)
    (case c10 => k_is)
    (case k10 => k_is)
    (case a11 => k_is)
    (case l11 => k_is)
    (case c11 => k_is)
    (case k11 => k_is)
    (case a12 => k_is)
    (case l12 => k_is)
    (case c12 => k_is)
    (case k12 => k_is)
    (case z1 => k_is)
    (case z2 => k_is)
    (case z3 => k_is)
    (case z4 => k_is)
    (case z5 => k_is)
    (case z6 => k_is)
    (case z7 => k_is)
    (case z8 => k_is)
    (case z9 => k_is)
    (case z10 => k_is)
    (case z11 => k_is)
    (case z12 => k_is)
    (case z13 => k_is)
    (case z14 => k_is)
    (case z15 => k_is)
    (case z16 => k_is)
    (case z17 => k_is)
    (case z18 => k_is)
    (case z19 => k_is)
    (case z20 => k_is)
