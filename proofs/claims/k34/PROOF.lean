import PyProof.Rows.All
import Wide.All
import OpenK.AllK
import Wide.FinOn
import HandS.ForMost
import HandS.Strs
import HandS.SetFor
import HandS.Zip
import PyProof.ReprRoads
import HandS.FStrTup
import HandS.ForExc
import HandS.IsInst
import HandS.Evl
import HandS.Conv
import HandS.Flow
import HandS.Style
import HandS.Sort
import HandS.Walk
import HandS.Codes
import HandS.StrMore
import HandS.TupAny
import HandS.Defaults
import KE.KEqSeq
import HandS.More
import HandS.WideBits
import PyProof.SetRoads
import HandS.Deep
import PyProof.StrBlock2
import KE.GoesNew
import KE.SortData
import PyProof.Rows.StrCase
import PyProof.Rows.ReprOcc
import PyProof.FitsInt
import PyProof.Rows.SortShellAny
import KE.KTupSum
import PySem.Challenge.RW_potround_k34_whole_pots_that_break_again
set_option Elab.async false
set_option linter.all false
set_option maxRecDepth 100000
namespace Pot
open PySem PySem.Spec PyProof.Rows L2 PySem.W PySem.Calls
/-! ### set(xs) of a list of ints -/
/-- the object that set() makes first -/
abbrev emptySet (w : World) : Obj := { cls := .type "set", dict := none, data := .set #[] 0 (.fresh 0 0 (!w.params.followText "set-order")) }
section
variable {P : Program} {w : World} {A : Around} {E : Value → Shared → Prop} {s : Shared}
/-- what is wanted behind the filling -/
def Filled (w : World) (s : Shared) (ns : List Int) (s' : Shared) : Prop := ∃ h' tk c, s' = { s with heap := h', toks := tk } ∧ SetR w h' s.heap.objs.size (fun j => decide (j ∈ ns)) c ∧ c ≤ ns.length ∧ ∀ b o, s.heap.get? b = some o → h'.get? b = some o
set_option maxHeartbeats 4000000 in
theorem call_set_li {l : Addr} {items : Array Value} (ns : List Int) {Q : Value → Shared → Prop} (hh : A.handled = none) (hl : s.heap.IsList l items) (hit : IntsAre items.toList ns) (hb : ns.length + 1 < scanBound)
    (hq : ∀ s', Filled w s ns s' → Q (.ref s.heap.objs.size) s') : wpAny (model P w) A (call (.type "set") [.ref l]) Q E s := by
  have size : items.size = ns.length := by
    rw [← Array.length_toList]; exact IntsAre.length hit
  have made := F.called_set.made
  have below := F.called_set.sub
  obtain ⟨_, _, chain⟩ := F.called_set.mro
  have nt := F.called_set.notType
  have cc := F.called_set.canCreate
  have ck := F.typeCall_set_1 (.ref l)
  refine wpAny_call (codeAny_of_tree (show wpAny _ _ (callAny (.type "set") _) _ _ _ from wpAny_pure ⟨Code.quiet_builtin _ (by decide +kernel), codeAny_builtin F.entry_type_call ?_⟩))
  rw [Around.under_plain (weight_type_call_type "set" [.ref l] []) rfl]
  repeat (any_goals (first | assumption | wp_step))
  refine codeAny_mono (code_set_led1 (.ref l) (E := E) (Q₁ := fun obj z => obj = .ref s.heap.objs.size ∧ z = { s with heap := s.heap.push (emptySet w) }) ⟨rfl, rfl⟩) fun r z hr => ?_
  rcases r with _ | fl
  case error => exact hr
  cases fl <;> first | exact hr.elim | skip
  obtain ⟨rfl, rfl⟩ := hr
  have at0 : (s.heap.push (emptySet w)).get? s.heap.objs.size = some (emptySet w) := Heap.get?_push_size _ rfl
  have ty0 : Shared.TypeIs { s with heap := s.heap.push (emptySet w) } (.ref s.heap.objs.size) "set" := ⟨_, at0, rfl⟩
  have li := F.called_set.init.lookup
  have bi := F.called_set.init.bind (.ref s.heap.objs.size)
  repeat (any_goals (first | assumption | wp_step))
  refine codeAny_mono (codeAny_call_builtin (R := wants (fun r z => r = .none ∧ Filled w s ns z) E) F.called_set.init.plain F.entry_set_init (check_set_init_1 ty0 ?_)) fun r z hz => ?_
  · obtain ⟨⟨_, od, _, os⟩, hol, hcl, nl, hdl⟩ := hl
    simp only at hcl hdl
    subst hcl
    subst hdl
    have keep : (s.heap.push (emptySet w)).get? l = some { cls := .type "list", dict := od, data := .seq items nl, slots := os } := Heap.get?_push_of_some _ hol
    have s1 := F.sub_list_set
    have s2 := F.sub_list_frozenset
    have s3 : (Value.type "list" == Value.type "dict") = false := by decide
    have isl : (s.heap.push (emptySet w)).IsList l items := ⟨_, keep, rfl, nl, rfl⟩
    unfold Builtin.«set.__init__» noKeywords Builtin.Frozenset.updateFrom
    generalize hPI : pyIter = PI
    wp_walk
    subst hPI
    refine wpAny_pyIter_list isl (wpAny_bind (wpAny_runValue ?_))
    have lt : l < s.heap.objs.size := Heap.lt_size hol
    have sz : (s.heap.push (emptySet w)).objs.size = s.heap.objs.size + 1 := Heap.size_push ..
    have ne1 : l ≠ (s.heap.push (emptySet w)).objs.size := by rw [sz]; exact Nat.ne_of_lt (Nat.lt_succ_of_lt lt)
    have ne2 : s.heap.objs.size ∉ [(s.heap.push (emptySet w)).objs.size, l] := by
      rw [sz]
      intro z
      rcases List.mem_cons.mp z with z | z
      · exact absurd z (Nat.ne_of_lt (Nat.lt_succ_self _))
      · exact absurd (List.mem_singleton.mp z) (Nat.ne_of_gt lt)
    have each : ∀ (i : Nat) (v : Value), items[i]? = some v → ∃ k t, ns[i]? = some k ∧ v = .int k t := fun i v hv => by
      have hi : i < ns.length := size ▸ (Array.getElem?_eq_some_iff.mp hv).1
      obtain ⟨t, e⟩ := IntsAre.int_at hit i v (by rw [Array.getElem?_toList]; exact hv)
      exact ⟨ns[i], t, List.getElem?_eq_getElem hi, by rw [e, List.getD_eq_getElem?_getD, List.getElem?_eq_getElem hi]; rfl⟩
    refine set_update_ints ((Walks.list (show A.in1.in1.in1.handled = none by simp [hh]) _ l ne1 items).toS) s.heap.objs.size ne2 ns size hb each (items.size - 0) 0 _ (by omega) (Nat.zero_le _) ⟨⟨_, Heap.get?_push_size _ rfl, rfl, rfl⟩, isl.push _⟩ ⟨0, Nat.le_refl 0, setR_new_at (Heap.get?_push_of_some _ at0)⟩ fun s' c hm hc hS => ?_
    obtain ⟨h', g, d, tk, o⟩ := s'
    cases (show g = s.gens from hm.gens)
    cases (show d = s.drawn from hm.drawn)
    cases (show o = s.os from hm.os)
    refine (show wpAny _ _ _ _ _ _ from wpAny_pure (show wpAny _ _ (ret Value.none) _ _ _ from wpAny_pure ⟨rfl, h', tk, c, rfl, hS, size ▸ hc, fun b o e => ?_⟩))
    have hb0 : b < s.heap.objs.size := Heap.lt_size e
    refine hm.heap b o (fun z => ?_) (Heap.get?_push_of_some _ (Heap.get?_push_of_some _ e))
    rcases List.mem_cons.mp z with z | z
    · exact absurd z (Nat.ne_of_lt hb0)
    · exact absurd ((List.mem_singleton.mp z).trans sz) (Nat.ne_of_lt (Nat.lt_succ_of_lt hb0))
  · rcases r with _ | fl
    case error => exact hz
    cases fl <;> first | exact hz.elim | skip
    obtain ⟨rfl, f⟩ := hz
    obtain ⟨h', tk, c, rfl, hS, hc, k⟩ := id f
    repeat (any_goals (first | assumption | wp_step))
    exact hq _ ⟨_, _, _, rfl, hS, hc, k⟩
end
section
variable {X : Cx}
/-- set(xs), at most 60 ints: a set of just these -/
def rSetLi (K : PySem.W.Frag) (w : World) : List V → Hp → VK → Prop := fun xs H Q => ∃ (a : Addr) (ns : List Int), xs = [V.ref a] ∧ SqL K H a (ns.map V.int) ∧ ns.length ≤ 1000 ∧
  ∀ (p : Addr) (c : Nat), H p = none → c ≤ ns.length → Q (.ref p) (upd H p (SetO w p (fun k => decide (k ∈ ns)) c))
theorem cr_setLi (hc : X.calm = true) : CallR X (.type "set") (rSetLi X.K X.w) := by
  intro pins s σ H vs us Q I r h
  obtain ⟨a, ns, rfl, hS, hl, q⟩ := h
  rw [Vals.ref1 r]
  obtain ⟨its, rv, pl, hz⟩ := I.list hS
  refine call_set_li ns (I.ok.hd hc) pl.isList (by simpa using Vals.ints rv) (by unfold scanBound; omega) fun s' f => ?_
  obtain ⟨h', tk, c, rfl, R, hcn, k⟩ := f
  have hn : H s.heap.objs.size = none := I.hok.fresh (Nat.le_refl _)
  have J : Inv X pins σ (upd H s.heap.objs.size (SetO X.w s.heap.objs.size (fun k => decide (k ∈ ns)) c)) { s with heap := h', toks := tk } := I.laid (t' := tk) k (Nat.le_refl _) (setO_new R)
  exact ⟨.ref s.heap.objs.size, _, J, rfl, q _ _ hn hcn⟩
end
end Pot

namespace Pot
open PySem PySem.Spec PyProof.Rows L2
/-! ### defs that are called where no text of a thing is under way -/
structure FnG (P : Program) (w : World) (K : PySem.W.Frag) (mg : Str → Option Value) (base : Heap) (k : Nat) (f : Addr) (fd : FuncData) (ps : List Str) (sp : Sp) : Prop where
  many : ∀ vs H Q E, sp vs H Q E → vs.length = ps.length
  does : ∀ (A : Around) (outer : List Env) (s : Shared) (H : Hp) (args : Args) (us : List Value) (vs : List V) (Q : VK), A.guards = some [] → Room k A → Env0 P w K mg base A outer s H →
    BindsTo s fd args (ps.zip us) → Vals vs us → sp vs H Q E0 → codeAny (model P w) A (.call (.ref f) args) (CR CX0 outer P w H s Q E0) s
section
variable {P : Program} {w : World} {K : PySem.W.Frag} {mg : Str → Option Value} {base : Heap}
theorem FnG.of {k : Nat} {f : Addr} {fd : FuncData} {ps : List Str} {sp : Sp} (F : FnOk P w K mg base CX0 k f fd ps sp) : FnG P w K mg base k f fd ps sp :=
  ⟨F.len, fun A outer s H args us vs Q _ hr e hb r h => F.run A outer s H args us vs Q E0 hr e hb r h⟩
theorem okG {x qual : Str} {st : Stmt} {f : Addr} {fd : FuncData} {N ps : List Str} {k : Nat} {sp : Sp} (F : Fun K x qual st f fd) (S : FnScope N ps (defScope st)) (many : ∀ vs H Q E, sp vs H Q E → vs.length = ps.length)
    (body : ∀ (cdv : Value) (A : Around) (outer : List Env) (s : Shared) (H : Hp) (vs : List V) (Q : VK), A.guards = some [] → Room k (A.deeper (envOfC qual (defScope st) s.heap.objs.size f cdv)) → sp vs H Q E0 →
      ∃ t, PSs (cxOf CX0 P w K mg base N qual (defScope st) f cdv A outer s H E0).nox (defBody st) t ∧ t { nx := fun _ H' => Q .non H', rt := Q } (start N vs) H) : FnG P w K mg base (k + 1) f fd ps sp := by
  obtain ⟨oc, od, kV, doc, pm, an, cdv, ct, osl, rfl, at_, code⟩ := F.ex
  refine ⟨many, fun A outer s H args us vs Q gd room e0 bind rel want => ?_⟩
  have kin : K.In s.heap := e0.mod.kin.keeps fun b o e => (e0.bs b o e).1
  have nolim : s.heap.NoLimit := e0.mod.nolimit.keeps fun b o e => (e0.bs b o e).1
  refine codeAny_call_function room.depth (kin _ _ at_) rfl S.co S.gen rfl (PySem.W.codeRec_of kin code) (bind _ _ _ _ (wpAny_newFunctionEnv_cells S.kind (fun y hy => ?_) fun env he s1 x => ?_))
  · obtain ⟨n, v⟩ := y
    exact (S.par n (List.of_mem_zip hy).1).imp id fun q => ⟨q, PySem.W.cellsFrom_some _ _ _ (.inl q)⟩
  · subst he
    obtain ⟨t, ht, hq⟩ := body cdv A outer s H vs Q gd (room.deeper _) want
    have I : Inv (cxOf CX0 P w K mg base N qual (defScope st) f cdv A outer s H E0) [] (start N vs) H s1 := inv_start S room.hd e0 (many _ _ _ _ want) rel x
    refine ⟨nolim.keeps x.toInCall.keep, codeAny_func (wpAny_mono (ht.nox.run [] s1 (start N vs) H _ I hq) (fun fl s' hs => ?_) fun _ _ z => z)⟩
    cases fl with
    | ret u =>
      obtain ⟨v, σ', H', J, rv, q⟩ := hs
      exact ⟨v, H', J.os, J.bare, J.base, J.hok, rv, q⟩
    | next =>
      obtain ⟨σ', H', J, q⟩ := hs
      exact ⟨V.non, H', J.os, J.bare, J.base, J.hok, rfl, q⟩
    | brk => obtain ⟨_, _, _, q⟩ := hs; exact q.elim
    | cont => obtain ⟨_, _, _, q⟩ := hs; exact q.elim
/-! calls -/
/-- a def that may be called by its name where no text is under way -/
def ClG (P : Program) (w : World) (K : PySem.W.Frag) (mg : Str → Option Value) (base : Heap) (k : Nat) (x : Str) (ds : List V) (sp : Sp) : Prop :=
  ∃ (f : Addr) (fd : FuncData) (ps : List Str) (dus : List Value), FnG P w K mg base k f fd ps sp ∧ mg x = some (.ref f) ∧ PySem.W.keepIn K (.ref f) = true ∧ Binds K fd ps dus ∧ Vals ds dus
theorem pe_clG {X : Cx} {k j : Nat} {x : Str} {ds : List V} {sp : Sp} {e : Expr} {es : List Expr} {t : TA} {p pos : Pos} (c : ClG X.prog X.w X.K X.mg X.base k x ds sp) (hr : Room j X.A) (gd : X.A.guards = some []) (hk : k ≤ j) (hg : Gl X x) (ha : PA X (e :: es) t)
    (hdb : (x == ("__debug__" : Str)) = false := by decide) (he : starEach (e :: es) X.env = (false, eval e X.env) :: starEach es X.env := by rfl) (hpl : (backTo pos (starEach es X.env)).any (·.1) = false := by rfl) :
    PE X (.Call (.Name x p) (e :: es) [] pos) (tCall sp ds E0 t) := by
  obtain ⟨f, fd, ps, dus, G, named, kept, binds, dv⟩ := c
  refine ⟨fun pins s σ H Q I h => wpAny_Call_Name_kw (ld_glob I hg named (PySem.W.callWith_K (h₀ := X.base) I.ok.mod.kin kept (thn (ha.run pos pins s σ H _ I h) fun us s1 hh => ?_) he hpl) hdb)⟩
  obtain ⟨vs, H1, I1, r, q⟩ := hh
  refine ⟨I1.kIn, ?_⟩
  have rel := r.append dv
  have n : (us ++ dus).length = ps.length := rel.length ▸ G.many _ _ _ _ q
  refine wpAny_call (codeAny_mono (G.does X.A X.stack s1 H1 ⟨us, []⟩ (us ++ dus) (vs ++ ds) Q gd (hr.mono hk) I1.env0 (binds s1 us I1.kIn n) rel q) fun res s' hq => ?_)
  rcases res with _ | fl
  case error => exact (show False from hq).elim
  cases fl <;> first | exact I1.after hq | exact (show False from hq).elim
/-! the law's own call -/
theorem law_callG {mb : Str → Option Value} {k : Nat} {fa a : Addr} {fd : FuncData} {x : Str} {sp : Sp} {s : Shared} {vs : List Value} {ns : List Int} (kin : K.In s.heap) (glob : s.heap.Ns mainGlobals mg) (blt : s.heap.Ns builtinsNs mb)
    (boot : ∀ y : Str, y ≠ "__name__" → mb y = bootBuiltins y) (lim : s.heap.NoLimit) (gens : s.gens = #[]) (obj : s.heap.get? a = some { cls := .type "list", data := .seq vs.toArray }) (whole : IntsAre vs ns) (small : ns.length ≤ sizeLine) (room : Room k callerA)
    (F : ∀ base : Heap, K.In base → base.Ns mainGlobals mg → FnG P w K mg base k fa fd [x] sp) (bind : ∀ (s : Shared) (u : Value), BindsTo s fd ⟨[u], []⟩ [(x, u)])
    (want : ∀ H : Hp, Only H → SqL K H a (ns.map V.int) → sp [.ref a] H (fun v _ => v = .bl true) E0) :
    codeAny (model P w) callerA (.call (.ref fa) ⟨[.ref a], []⟩) (fun r s' => r = .ok (.ret (.bool true)) ∧ OldK s.heap s'.heap ∧ s'.os = s.os ∧ AllBare s'.gens) s := by
  have rv := vals_ints whole
  have nv := whole.length
  -- which heap is told: the script, locked, where it isn't one of the written part
  obtain ⟨H, only, seq, fine, alone, apart⟩ : ∃ H : Hp, Only H ∧ SqL K H a (ns.map V.int) ∧ HOk P w H s.heap ∧ (∀ b u, H b = some u → b = a) ∧ (∀ u, H a = some u → K.lookup a = none) := by
    cases lk : K.lookup a with
    | some o =>
      have same := kin a o lk
      rw [obj] at same
      cases same
      exact ⟨fun _ => none, fun _ => .inl rfl, .inr ⟨_, vs.toArray, _, lk, rfl, rfl, rfl, by rw [List.size_toArray, nv]; exact small, by simpa using rv⟩, (fun b u z => nomatch (show (none : Option HO) = some u from z)), (fun b u z => nomatch (show (none : Option HO) = some u from z)), fun u z => nomatch (show (none : Option HO) = some u from z)⟩
    | none =>
      have hit : ∀ b u, (if b = a then some (HO.frz { cls := .type "list", data := .seq vs.toArray } (.lst (ns.map V.int))) else none) = some u → b = a ∧ u = .frz { cls := .type "list", data := .seq vs.toArray } (.lst (ns.map V.int)) := fun b u z => by
        split at z
        · cases z; exact ⟨‹_›, rfl⟩
        · cases z
      refine ⟨fun b => if b = a then some (.frz { cls := .type "list", data := .seq vs.toArray } (.lst (ns.map V.int))) else none, fun b => ?_, .inl (.inr ⟨_, if_pos rfl⟩), fun b u z => ?_, fun b u z => (hit b u z).1, fun _ _ => rfl⟩
      · by_cases hb : b = a
        · exact .inr ⟨_, _, if_pos hb⟩
        · exact .inl (if_neg hb)
      · obtain ⟨rfl, rfl⟩ := hit b u z
        exact ⟨obj, by rw [List.length_map]; exact small, vs, _, rv, obj⟩
  have hid : ∀ {b : Addr} {o : Obj}, s.heap.get? b = some o → (b = a → H a = none) → (hidT s.heap H).get? b = some o := fun {b o} e n => hidT_get e (by
    cases q : H b with
    | none => rfl
    | some u =>
      have e2 := alone b u q
      subst e2
      rw [n rfl] at q
      cases q)
  have kinB : K.In (hidT s.heap H) := fun b o e => hid (kin b o e) fun z => by
    subst z
    cases q : H b with
    | none => rfl
    | some u => rw [apart u q] at e; cases e
  have ns_ : ∀ {b : Addr} {m : Str → Option Value}, s.heap.Ns b m → (hidT s.heap H).Ns b m := fun {b m} h => by
    obtain ⟨o, es, ep, e, d, r⟩ := h
    refine ⟨o, es, ep, hid e fun z => ?_, d, r⟩
    subst z
    rw [obj] at e
    cases e
    exact nomatch (show Data.seq vs.toArray _ = Data.dict es ep from d)
  have md : Mod K mg (hidT s.heap H) := ⟨kinB, ns_ glob, ⟨mb, ns_ blt, boot⟩, by obtain ⟨mc, h1, h2⟩ := lim; exact ⟨mc, ns_ h1, h2⟩⟩
  have e0 : Env0 P w K mg (hidT s.heap H) callerA [] s H := ⟨rfl, md, fun b o e => of_hidT e, Nat.le_of_eq (hidT_size _ _), trivial, (fun b hb => nomatch (show b ∈ ([] : List Addr) from hb)), fine, .of_eq gens⟩
  refine codeAny_mono ((F _ kinB (ns_ glob)).does callerA [] s H ⟨[.ref a], []⟩ [.ref a] [.ref a] _ rfl room e0 (bind s (.ref a)) (.cons rfl .nil) (want H only seq)) fun res s' h => ?_
  rcases res with _ | fl
  case error => exact (show False from h).elim
  cases fl <;> first | exact (show False from h).elim | skip
  obtain ⟨v, H', os, bare, un, fine', rel, q⟩ := h
  cases (show v = .bl true from q)
  cases (show _ = Value.bool true from rel)
  refine ⟨rfl, OldK.of_keep fun b o e => ?_, os, bare⟩
  cases q : H b with
  | none => exact un.keep b o e q (fun z => nomatch (show b ∈ ([] : List Addr) from z)) (fun z => nomatch z)
  | some u =>
    rcases only b with z | ⟨ob, xs, z⟩
    · rw [q] at z; cases z
    · obtain ⟨e1, _⟩ := fine b _ z
      obtain ⟨e2, _⟩ := fine' b _ (un.frzs b ob _ z)
      rw [e] at e1; cases e1
      exact e2
end
theorem walkG {l : PySem.W.OpenLaw} {n k : Nat} {q : Program} {loose : List Str} {XP : (Str → Option Value) → Heap → Prop} {YP : World → Heap → Prop} {d : DefRec} {K : Params → PySem.W.Frag} {sp : World → Sp} {x : Str}
    (most : l.most = some n) (fits : n ≤ sizeLine) (plain : d.params.defaults = []) (room : Room k callerA) (part : ∀ (w : World) (h : Heap), YP w h → (K w.params).In h)
    (F : ∀ (w : World) (mg : Str → Option Value) (fa : Addr) (h : Heap), (K w.params).In h → h.Ns mainGlobals mg → mg d.name = some (.ref fa) →
      ∃ fd : FuncData, (∀ (s : Shared) (u : Value), BindsTo s fd ⟨[u], []⟩ [(x, u)]) ∧ ∀ base : Heap, (K w.params).In base → base.Ns mainGlobals mg → FnG l.prog w (K w.params) mg base k fa fd [x] (sp w))
    (want : ∀ (w : World) (H : Hp) (a : Addr) (ns : List Int), ns.length ≤ n → Only H → SqL (K w.params) H a (ns.map V.int) → sp w [.ref a] H (fun v _ => v = .bl true) E0) :
    PySem.W.WalkO q loose XP YP l.row.toRowW d [] (fun f vs => PySem.call f vs) := by
  refine Att.attach_call most plain fun w s₀ s₁ mg mb fa o pm cd doc a vs ns G Y _ _ _ named obj whole len gens => ?_
  obtain ⟨fd, bind, hF⟩ := F w mg fa _ (part w _ Y) G.T.g named
  exact law_callG (part w _ Y) G.T.g G.T.b G.T.builtins G.T.nolimit gens obj whole (Nat.le_trans len fits) room hF bind fun H only seq => want w H a ns len only seq
end Pot

namespace Pot
open PySem PySem.Spec PyProof.Rows L2
/-! ### repr of what is made of numbers, texts, truths, None, lists and tuples -/
section
variable {K : PySem.W.Frag}
mutual
theorem dp_noDict {H : Hp} : ∀ {v : V} {d : PyData}, Dp K H v d → d.hasDict = false
  | _, _, .non => rfl
  | _, _, .bl _ => rfl
  | _, _, .int _ => rfl
  | _, _, .str _ => rfl
  | _, _, .lst _ a => dpAll_noDict a
  | _, _, .tup _ a => dpAll_noDict a
theorem dpAll_noDict {H : Hp} : ∀ {vs : List V} {ds : List PyData}, DpAll K H vs ds → PyData.hasDictAll ds = false
  | _, _, .nil => rfl
  | _, _, .cons h t => by
    show (PyData.hasDict _ || PyData.hasDictAll _) = false
    rw [dp_noDict h, dpAll_noDict t]
    rfl
end
/-- how long its text may be, told roughly -/
def costAll : List PyData → Nat
  | [] => 0
  | x :: xs => cost x + 2 + costAll xs
where cost : PyData → Nat
  | .none => 4
  | .bool _ => 5
  | .int _ => 1921
  | .str x => 10 * x.length + 2
  | .list xs => costAll xs + 3
  | .tuple xs => costAll xs + 3
  | .dict _ => 0
/-- what repr is asked of here: its texts of plain signs -/
def fineAll : List PyData → Prop
  | [] => True
  | x :: xs => fine x ∧ fineAll xs
where fine : PyData → Prop
  | .none => True
  | .bool _ => True
  | .int i => i.natAbs.log2 < 1920
  | .str x => ∀ c ∈ x.cps.toList, c < 16 ^ 8
  | .list xs => fineAll xs
  | .tuple xs => fineAll xs
  | .dict _ => False
theorem from_len : ∀ (ts : List Str) (k : Nat) (acc : Str), (textFrom k acc ts).length ≤ acc.length + piled ts
  | [], k, acc => by rw [piled_nil]; exact Nat.le_refl _
  | t :: r, k, acc => by
    have ih := from_len r (k + 1)
    rw [piled_cons]
    unfold textFrom
    refine Nat.le_trans (ih _) ?_
    rw [strLen_append]
    split
    · rw [strLen_append]
      have e : (", " : Str).length = 2 := by decide +kernel
      omega
    · rw [strLen_append]
      have e : ("" : Str).length = 0 := by decide +kernel
      omega
theorem list_len (ts : List Str) : (listText ts).length ≤ piled ts + 2 := by
  unfold listText
  rw [strLen_append]
  have h := from_len ts 0 "["
  have e1 : ("[" : Str).length = 1 := by decide +kernel
  have e2 : ("]" : Str).length = 1 := by decide +kernel
  omega
mutual
theorem shown_len : ∀ d : PyData, fineAll.fine d → d.shown.length ≤ costAll.cost d
  | .none, _ => by decide +kernel
  | .bool b, _ => by cases b <;> decide +kernel
  | .int i, h => PyProof.Rows.int_text_len_1921 h
  | .str x, h => StrLaws.reprText_len x h
  | .list xs, h => Nat.le_trans (list_len _) (Nat.add_le_add (piled_len xs h) (by decide))
  | .tuple xs, h => Nat.le_trans (fmt_text _) (Nat.add_le_add (piled_len xs h) (by decide))
  | .dict _, h => h.elim
theorem piled_len : ∀ ds : List PyData, fineAll ds → piled (PyData.shownAll ds) ≤ costAll ds
  | [], _ => Nat.le_refl _
  | x :: xs, h => by
    have h1 := shown_len x h.1
    have h2 := piled_len xs h.2
    show piled (x.shown :: PyData.shownAll xs) ≤ costAll.cost x + 2 + costAll xs
    rw [piled_cons]
    omega
end
mutual
theorem fine_show : ∀ d : PyData, fineAll.fine d → d.showable = true
  | .none, _ => rfl
  | .bool _, _ => rfl
  | .int i, h => decide_eq_true h
  | .str _, _ => rfl
  | .list xs, h => fineAll_show xs h
  | .tuple xs, h => fineAll_show xs h
  | .dict _, h => h.elim
theorem fineAll_show : ∀ ds : List PyData, fineAll ds → PyData.showableAll ds = true
  | [], _ => rfl
  | x :: xs, h => by
    show (PyData.showable x && PyData.showableAll xs) = true
    rw [fine_show x h.1, fineAll_show xs h.2]
    rfl
end
end
section
variable {X : Cx}
def rRepr (K : PySem.W.Frag) : List V → Hp → VK → Prop := fun xs H Q => ∃ (a : Addr) (d : PyData), xs = [V.ref a] ∧ Dp K H (.ref a) d ∧ fineAll.fine d ∧ d.depth ≤ 60 ∧ costAll.cost d ≤ 16777216 ∧ Q (.str d.shown) H
theorem cr_repr (gd : X.A.guards = some []) (hu : X.A.units + 64 < cLine) : CallR X (.builtin "repr") (rRepr X.K) := by
  intro pins s σ H vs us Q I r h
  obtain ⟨a, d, rfl, dp, sh, dep, sz, q⟩ := h
  rw [Vals.ref1 r]
  obtain ⟨as, rd⟩ := Dp.reads I d (.ref a) (.ref a) dp rfl
  refine repr_of_reads' rd (fine_show d sh) (fun z => ?_) gd (by omega) (fun _ _ e => e) (fun h' u tk k => ⟨.str d.shown, H, I.kept k, ⟨u, rfl⟩, q⟩) (Nat.le_trans (shown_len d sh) (by rw [sizeLine_eq]; exact sz))
  rw [dp_noDict dp] at z
  cases z
end
end Pot

/-! The rules whose readings name the written part, with it as a letter of its own. -/
namespace Pot
open PySem PySem.Spec PyProof.Rows L2
section
variable {X : Cx} {K : PySem.W.Frag}
theorem kx_list (h : X.K = K := by rfl) : IxR X (rIxL K) := h ▸ ix_list
theorem kx_tup (h : X.K = K := by rfl) : IxR X (rIxT K) := h ▸ ix_tup
theorem kl_list (h : X.K = K := by rfl) : SlR X (rSlL K) := h ▸ sl_list
theorem kl_tup (h : X.K = K := by rfl) : SlR X (rSlA K) := h ▸ sl_tupA
theorem ko_in (h : X.K = K := by rfl) : OpR X (compareOp .In) (rIn K false) := h ▸ op_in_seq
theorem ko_eq (hu : X.A.units + 64 < cLine) (h : X.K = K := by rfl) : OpR X (compareOp .Eq) (rEqD K) := h ▸ op_eqD hu
theorem ko_ne (hu : X.A.units + 64 < cLine) (h : X.K = K := by rfl) : OpR X (compareOp .NotEq) (rNeD K) := h ▸ op_neD hu
def rLen (K : PySem.W.Frag) : List V → Hp → VK → Prop := fun xs H Q => ∃ x n, xs = [x] ∧ LenV K x H n ∧ Q (.int n) H
theorem kc_len (h : X.K = K := by rfl) : CallR X (.builtin "len") (rLen K) := by subst h; exact call_len
def rListOf (K : PySem.W.Frag) : List V → Hp → VK → Prop := fun xs H Q => ∃ p ys, xs = [.ref p] ∧ (SqL K H p ys ∨ SqT K H p ys) ∧ ∀ l, H l = none → Q (.ref l) (upd H l (.lst ys))
theorem kc_list (h : X.K = K := by rfl) : CallR X (.type "list") (rListOf K) := by subst h; exact call_list_of
def rTupleOf (K : PySem.W.Frag) : List V → Hp → VK → Prop := fun xs H Q => ∃ p ys, xs = [.ref p] ∧ ((SqL K H p ys ∧ ∀ l, H l = none → Q (.ref l) (upd H l (.tup ys))) ∨ (SqT K H p ys ∧ Q (.ref p) H))
theorem kc_tuple (h : X.K = K := by rfl) : CallR X (.type "tuple") (rTupleOf K) := by subst h; exact call_tuple_of
theorem kc_sum (hc : X.calm = true := by rfl) (h : X.K = K := by rfl) : CallR X (.builtin "sum") (rSum K) := h ▸ cr_sum hc
theorem kc_all (hc : X.calm = true := by rfl) (h : X.K = K := by rfl) : CallR X (.builtin "all") (rAll K) := h ▸ cr_all hc
theorem kc_any (hc : X.calm = true := by rfl) (h : X.K = K := by rfl) : CallR X (.builtin "any") (rAny K) := h ▸ cr_any hc
theorem kc_sorted (h : X.K = K := by rfl) : CallR X (.builtin "sorted") (rSorted K) := h ▸ cr_sorted
theorem kc_sortedS (h : X.K = K := by rfl) : CallR X (.builtin "sorted") (rSortedS K) := h ▸ cr_sortedS
theorem kc_isi (h : X.K = K := by rfl) : CallR X (.builtin "isinstance") (rIsi K) := h ▸ call_isi
theorem kc_isiT (h : X.K = K := by rfl) : CallR X (.builtin "isinstance") (rIsiT K) := h ▸ call_isiT
theorem kc_repr (gd : X.A.guards = some []) (hu : X.A.units + 64 < cLine) (h : X.K = K := by rfl) : CallR X (.builtin "repr") (rRepr K) := h ▸ cr_repr gd hu
theorem kc_setLi {w : World} (hc : X.calm = true := by rfl) (h : X.K = K := by rfl) (hw : X.w = w := by rfl) : CallR X (.type "set") (rSetLi K w) := by subst h; subst hw; exact cr_setLi hc
theorem kc_sortedSet {w : World} (hc : X.calm = true := by rfl) (hw : X.w = w := by rfl) : CallR X (.builtin "sorted") (rSortedSet w) := hw ▸ cr_sortedSet hc
theorem ki_list {tg l : Expr} {tl : TE} (hl : PE X l tl) (h : X.K = K := by rfl) : PI X tg l (iList K tl) := h ▸ pi_list hl
theorem ki_tup {tg l : Expr} {tl : TE} (hl : PE X l tl) (h : X.K = K := by rfl) : PI X tg l (iTup K tl) := h ▸ pi_tup hl
theorem ki_zip {e e2 : Expr} {ta : TA} {p pos tpos : Pos} {elts : List Expr} {kk : Nat} (hg : Gl X "zip") (hm : X.mg "zip" = none) (ha : PA X [e, e2] ta) (hs : starEach [e, e2] X.env = (false, eval e X.env) :: starEach [e2] X.env := by rfl)
    (hpl : (backTo pos (starEach [e2] X.env)).any (·.1) = false := by rfl) (h : X.K = K := by rfl) : PI X (.Tuple elts kk tpos) (.Call (.Name "zip" p) [e, e2] [] pos) (RZ.iZipA K ta) := h ▸ RZ.pi_zipA hg hm ha hs hpl
theorem ki_enum {e : Expr} {ta : TA} {p pos tpos : Pos} {elts : List Expr} {kk : Nat} (hg : Gl X "enumerate") (hm : X.mg "enumerate" = none) (ha : PA X [e] ta) (hs : starEach [e] X.env = [(false, eval e X.env)] := by rfl) (h : X.K = K := by rfl)
    : PI X (.Tuple elts kk tpos) (.Call (.Name "enumerate" p) [e] [] pos) (iEnum K ta) := h ▸ pi_enum hg hm ha hs
theorem kg_tup {pos : Pos} {es : List Expr} {k : Nat} {t : TGs} {n : Nat} (h : PGs X es t) (hc : X.calm = true := by rfl) (hn : (assignEach es X.env).length = n := by rfl) (hst : (assignEach es X.env).findIdx? (·.1) = none := by rfl) (hk : X.K = K := by rfl) : PG X (.Tuple es k pos) (gTup K n t) := hk ▸ pg_tup hc h hn hst
def tTru (K : PySem.W.Frag) (ta : TE) : TT := fun σ H Q => ta σ H fun x H' => ∃ k, TruV K x H' k ∧ Q k H'
theorem kt_truth {a : Expr} {ta : TE} (ha : PE X a ta) (he : ∀ whole, isTrue a X.env whole = (do let v ← whole; standAt a.pos; holding [v] (truthy v)) := by intro _; rfl) (h : X.K = K := by rfl) : PT X a (tTru K ta) := by subst h; exact pt_truth ha he
def rJoin (K : PySem.W.Frag) : V → List V → Hp → VK → Prop := fun x xs H Q => ∃ a p, ∃ ys : List Str, x = .str a ∧ xs = [.ref p] ∧ (SqL K H p (ys.map V.str) ∨ SqT K H p (ys.map V.str)) ∧ (ys.map (·.length)).sum + ys.length * a.length ≤ 16777216 ∧ Q (.str (Txt.join a ys)) H
theorem ke_join {o e : Expr} {to te : TE} {apos pos : Pos} (ho : PE X o to) (he : PE X e te) (hs : starEach [e] X.env = [(false, eval e X.env)] := by rfl) (hbase : attributeBase o "join" X.env (eval o X.env) = eval o X.env := by rfl) (hline : (apos.endLine == pos.line) = true := by rfl) (h : X.K = K := by rfl) :
    PE X (.Call (.Attribute o "join" apos) [e] [] pos) (tM1 (rJoin K) to te) := by subst h; exact pe_join ho he hs hbase hline
theorem pss_never {st : List Stmt} : PSs X st (fun _ _ _ => False) := ⟨fun _ _ _ _ _ _ h => h.elim⟩
theorem ps_never {st : Stmt} : PS X st (fun _ _ _ => False) := ⟨fun _ _ _ _ _ _ h => h.elim⟩
theorem pe_never {e : Expr} : PE X e (fun _ _ _ => False) := ⟨fun _ _ _ _ _ _ h => h.elim⟩
theorem tYes_at {σ : L2.St} {H : Hp} {Q : Bool → Hp → Prop} (h : Q true H) : tYes σ H Q := h
end
end Pot

namespace Pot
open PySem PySem.Spec PyProof.Rows L2
theorem nodup_le {α : Type} [BEq α] [LawfulBEq α] : ∀ {ks l : List α}, ks.Nodup → (∀ k ∈ ks, k ∈ l) → ks.length ≤ l.length
  | [], _, _, _ => Nat.zero_le _
  | k :: ks, l, h, s => by
    have hk := s k List.mem_cons_self
    have h2 := (List.nodup_cons.mp h)
    have := nodup_le (ks := ks) (l := l.erase k) h2.2 fun x hx => by
      have ne : x ≠ k := fun e => h2.1 (e ▸ hx)
      exact (List.mem_erase_of_ne ne).mpr (s x (List.mem_cons_of_mem _ hx))
    rw [List.length_erase_of_mem hk] at this
    have : 0 < l.length := List.length_pos_of_mem hk
    simp only [List.length_cons]
    omega
section
variable {X : Cx} {K : PySem.W.Frag}
theorem ko_notIn (h : X.K = K := by rfl) : OpR X (compareOp .NotIn) (rIn K true) := h ▸ op_notIn_seq
/-- set(xs) of ints: how many members it has -/
def rSetLj (K : PySem.W.Frag) (w : World) : List V → Hp → VK → Prop := fun xs H Q => ∃ (a : Addr) (ns : List Int), xs = [V.ref a] ∧ SqL K H a (ns.map V.int) ∧ ns.length ≤ 4000 ∧
  ∀ (p : Addr) (ks : List Int), H p = none → ks.Nodup → (∀ k, k ∈ ks ↔ k ∈ ns) → Q (.ref p) (upd H p (SetO w p (fun k => decide (k ∈ ns)) ks.length))
theorem cr_setLj (hc : X.calm = true) : CallR X (.type "set") (rSetLj X.K X.w) := by
  intro pins s σ H vs us Q I r h
  obtain ⟨a, ns, rfl, hS, hl, q⟩ := h
  rw [Vals.ref1 r]
  obtain ⟨its, rv, pl, hz⟩ := I.list hS
  refine call_set_li ns (I.ok.hd hc) pl.isList (by simpa using Vals.ints rv) (by unfold scanBound; omega) fun s' f => ?_
  obtain ⟨h', tk, c, rfl, R, hcn, k⟩ := f
  have hn : H s.heap.objs.size = none := I.hok.fresh (Nat.le_refl _)
  have J : Inv X pins σ (upd H s.heap.objs.size (SetO X.w s.heap.objs.size (fun k => decide (k ∈ ns)) c)) { s with heap := h', toks := tk } := I.laid (t' := tk) k (Nat.le_refl _) (setO_new R)
  obtain ⟨o, es, ep, t, _, _, _, _, nod, mem, _, _, size, _⟩ := R
  have q2 := q s.heap.objs.size (es.toList.map keyOf) hn nod fun k => by rw [← mem k, decide_eq_true_eq]
  rw [List.length_map, Array.length_toList, size] at q2
  exact ⟨.ref s.heap.objs.size, _, J, rfl, q2⟩
theorem kc_setLj {w : World} (hc : X.calm = true := by rfl) (h : X.K = K := by rfl) (hw : X.w = w := by rfl) : CallR X (.type "set") (rSetLj K w) := by subst h; subst hw; exact cr_setLj hc
end
end Pot

namespace Pot
open PySem PySem.Spec PyProof.Rows L2
section
variable {X : Cx} {K : PySem.W.Frag}
/-- len of a set of ints -/
def rLenSet (w : World) : List V → Hp → VK → Prop := fun xs H Q => ∃ (a : Addr) (S : Int → Bool) (n : Nat), xs = [V.ref a] ∧ H a = some (SetO w a S n) ∧ Q (.int n) H
theorem cr_lenSet : CallR X (.builtin "len") (rLenSet X.w) := by
  intro pins s σ H vs us Q I r h
  obtain ⟨a, S, n, rfl, ha, q⟩ := h
  rw [Vals.ref1 r]
  obtain ⟨o, es, ep, t, ho, hex, hd, _, _, _, hb, hf, rfl, _⟩ := setO_get I ha
  exact PySem.call_len_set ho hex hd hf (by unfold scanBound at hb; omega) ⟨.int _, H, I.tok _, ⟨_, rfl⟩, q⟩
theorem kc_lenSet {w : World} (hw : X.w = w := by rfl) : CallR X (.builtin "len") (rLenSet w) := by subst hw; exact cr_lenSet
/-- repr of any data -/
def rReprA (K : PySem.W.Frag) : List V → Hp → VK → Prop := fun xs H Q => ∃ (x : V) (d : PyData), xs = [x] ∧ Dp K H x d ∧ fineAll.fine d ∧ d.depth ≤ 60 ∧ costAll.cost d ≤ 16777216 ∧ Q (.str d.shown) H
theorem cr_reprA (gd : X.A.guards = some []) (hu : X.A.units + 64 < cLine) : CallR X (.builtin "repr") (rReprA X.K) := by
  intro pins s σ H vs us Q I r h
  obtain ⟨x, d, rfl, dp, sh, dep, sz, q⟩ := h
  obtain ⟨u, rfl, rx⟩ := vals1 r
  have sz2 := Nat.le_trans (shown_len d sh) (by rw [sizeLine_eq]; exact sz : costAll.cost d ≤ sizeLine)
  cases x with
  | ref a =>
    cases rx
    obtain ⟨as, rd⟩ := Dp.reads I d (.ref a) (.ref a) dp rfl
    refine repr_of_reads' rd (fine_show d sh) (fun z => ?_) gd (by omega) (fun _ _ e => e) (fun h' u tk k => ⟨.str d.shown, H, I.kept k, ⟨u, rfl⟩, q⟩) sz2
    rw [dp_noDict dp] at z
    cases z
  | int i =>
    cases dp
    obtain ⟨t, rfl⟩ := rx
    exact PySem.P.repr_of_int sh ⟨.str _, H, I.tok _, ⟨_, rfl⟩, q⟩
  | str z =>
    cases dp
    obtain ⟨t, rfl⟩ := rx
    exact PySem.P.repr_of_str ⟨.str _, H, I.tok _, ⟨_, rfl⟩, q⟩ sz2
  | bl b =>
    cases dp
    cases rx
    refine PySem.P.repr_of_bool ⟨.str _, H, I.tok _, ⟨_, rfl⟩, ?_⟩
    exact q
  | non =>
    cases dp
    cases rx
    exact PySem.P.repr_of_none ⟨.str _, H, I.tok _, ⟨_, rfl⟩, q⟩
  | _ => cases dp
theorem kc_reprA (gd : X.A.guards = some []) (hu : X.A.units + 64 < cLine) (h : X.K = K := by rfl) : CallR X (.builtin "repr") (rReprA K) := h ▸ cr_reprA gd hu
end
theorem short_of {α : Type} [DecidableEq α] : ∀ {ns : List α}, ¬ ns.Nodup → ∃ ns' : List α, ns'.length < ns.length ∧ ∀ k ∈ ns, k ∈ ns'
  | [], h => (h List.nodup_nil).elim
  | x :: ns, h => by
    by_cases hx : x ∈ ns
    · exact ⟨ns, by simp, fun k hk => by
        rcases List.mem_cons.mp hk with e | e
        · rw [e]; exact hx
        · exact e⟩
    · obtain ⟨ns', l, s⟩ := short_of (ns := ns) fun hn => h (List.nodup_cons.mpr ⟨hx, hn⟩)
      exact ⟨x :: ns', by simp only [List.length_cons]; omega, fun k hk => by
        rcases List.mem_cons.mp hk with e | e
        · rw [e]; exact List.mem_cons_self
        · exact List.mem_cons_of_mem _ (s k e)⟩
theorem set_count {ks ns : List Int} (hk : ks.Nodup) (h : ∀ k, k ∈ ks ↔ k ∈ ns) : ks.length ≤ ns.length ∧ (ks.length = ns.length ↔ ns.Nodup) := by
  have le := nodup_le hk fun k x => (h k).mp x
  refine ⟨le, fun e => ?_, fun hn => Nat.le_antisymm le (nodup_le hn fun k x => (h k).mpr x)⟩
  by_cases hn : ns.Nodup
  · exact hn
  · obtain ⟨ns', l, s⟩ := short_of hn
    have := nodup_le hk fun k x => s k ((h k).mp x)
    omega
end Pot

namespace Pot
open PySem PySem.Spec PyProof.Rows L2
section
variable {X : Cx} {K : PySem.W.Frag}
theorem ko_inD (hu : X.A.units + 65 < cLine) (h : X.K = K := by rfl) : OpR X (compareOp .In) (rInD K) := h ▸ op_inD hu
theorem ko_notInD (hu : X.A.units + 65 < cLine) (h : X.K = K := by rfl) : OpR X (compareOp .NotIn) (rNotInD K) := h ▸ op_notInD hu
/-- a text thrice -/
def rRep3 : R2 := fun x y H Q => ∃ z : Str, x = .str z ∧ y = .int 3 ∧ z.length ≤ 100000 ∧ ∀ z' : Str, z'.length ≤ 3 * z.length → (∀ c ∈ z'.cps.toList, c ∈ z.cps.toList) → Q (.str z') H
theorem mul3_len (z : Str) : (Txt.mul z 3).length ≤ 3 * z.length ∧ ∀ c ∈ (Txt.mul z 3).cps.toList, c ∈ z.cps.toList := by
  unfold Txt.mul
  rw [if_neg (show ¬ (3 : Int) < 1 by decide)]
  split
  · exact ⟨by omega, fun c h => h⟩
  · constructor
    · show Array.size _ ≤ _
      simp [List.replicate]
      show z.cps.size + (z.cps.size + z.cps.size) ≤ 3 * z.cps.size
      omega
    · intro c h
      simp [List.replicate] at h
      simpa using h
theorem op_rep3 : OpR X (binaryOp .Mult) rRep3 := by
  intro pins sh sg H xv yv v1 u1 Q I r1 r2 h
  obtain ⟨z, rfl, rfl, hz, q⟩ := h
  obtain ⟨tk1, rfl⟩ := r1
  obtain ⟨tk2, rfl⟩ := r2
  have m3 := mul3_len z
  refine SB.mul ⟨by decide, fun _ _ hh => ?_, fun _ _ => ?_⟩ (fun tt kk => ⟨.str (Txt.mul z 3), H, I.tok _, ⟨_, rfl⟩, q _ m3.1 m3.2⟩)
  · have : ((2 : Int) ^ 63 - 1) / 3 = 3074457345618258602 := by decide
    omega
  · have e : (3 : Int).toNat = 3 := rfl
    rw [e]
    show decide _ = false
    refine decide_eq_false ?_
    have := sizeLine_eq
    omega
end
end Pot

namespace Pot
open PySem PySem.Spec PyProof.Rows L2
open Sem (wp)
/-! ### enumerate of a list or a tuple -/
set_option maxHeartbeats 1000000 in
theorem en_new {v : Value} {ob : Obj} {Ok : Heap → Prop} (B : Begins v ob Ok) :
    Meets (Builtin.«enumerate.__new__» ⟨[.type "enumerate", v], []⟩) (fun _ R s => Ok s.heap ∧ R (.ok (.ret (.ref (s.heap.push ob).objs.size))) { s with heap := (s.heap.push ob).push { cls := .type "enumerate", data := .fields #[.none, .bool false, .ref s.heap.objs.size, rawInt 0, .none, .none] } }) :=
  .of_wp fun prog w A R st hst => by
    obtain ⟨hp, gl, dd, tt, oo⟩ := st; obtain ⟨ok1, fin⟩ := hst; have isub := sub_enumerate
    have go : ∀ {A1 : Around} {E1 : Value → Shared → Prop} {Q1 : Value → Shared → Prop}, Q1 (.ref hp.objs.size) ⟨hp.push ob, gl, dd, tt, oo⟩ → wpAny (model prog w) A1 (pyIter v) Q1 E1 ⟨hp, gl, dd, tt, oo⟩ := fun z => B.iter prog w _ _ ⟨hp, gl, dd, tt, oo⟩ _ ok1 z
    wp_walk using go
    refine wpAny_stack_any fun stk => wpAny_pure ?_
    split
    · rename_i cc _ _ _ _ _; cases (cc == Value.type "enumerate") <;> (wp_walk using go; exact ⟨_, rfl, fin⟩)
    · wp_walk using go; exact ⟨_, rfl, fin⟩
/-- some untracked cells written, nothing new -/
theorem inv_ch {X : Cx} {pins : List (Addr × Obj)} {σ : L2.St} {H : Hp} {s : Shared} {h2 : Heap} {tk : Nat} {ch : List Addr} (I : Inv X pins σ H s) (kp : ∀ b o, b ∉ ch → s.heap.get? b = some o → h2.get? b = some o) (fo : ∀ b ∈ ch, FpOk X pins H b) :
    Inv X pins σ H { s with heap := h2, toks := tk } := by
  have out : ∀ c u, H c = some u → c ∉ ch := fun c u e z => by have := (fo c z).1; rw [this] at e; cases e
  refine I.step (g' := s.gens) (d' := s.drawn) (ch := ch) (fun c hc => let ⟨_, a2, _, a4, a5, a6⟩ := fo c hc; ⟨a4, a2, a5, a6⟩) (fun c o _ _ n e _ => kp c o n e) (fun c o _ _ n e _ => ⟨o.slots, kp c o n e⟩) (fun _ _ _ _ z => z) (fun c o n e => ⟨o, kp c o n e⟩) (fun _ _ z => z) (fun _ _ _ z => z) (fun c ps e => ⟨#[], by rw [e]; simp⟩) (fun mm hm => ?_) (fun c u e => ?_) I.bare
  · obtain ⟨o, e1, e2, ho, rest⟩ := hm; exact ⟨o, e1, e2, kp _ o (fun z => (fo _ z).2.1 rfl) ho, rest⟩
  · refine (I.hok c u e).stay (fun c2 v hc q => kp c2 v ?_ q) (fun _ z => z) fun _ _ z => z
    rcases hc with z | z
    · rw [z]; exact out c u e
    · exact out c2 _ z
def ItT (K : PySem.W.Frag) (a : Addr) : It :=
  ⟨fun i H => ∃ (xs : List V) (x : V), SqT K H a xs ∧ xs[i]? = some x, fun i H v H' => ∃ T x, v = .ref T ∧ H T = none ∧ H' = upd H T (.tup [.int (i : Nat), x]) ∧ ∀ xs, SqT K H a xs → xs[i]? = some x, fun i H => ∃ xs : List V, SqT K H a xs ∧ xs.length ≤ i⟩
/-- an iterator of a tuple that has come to its end -/
theorem drawsEnd {prog : Program} {w : World} {A : Around} (hh : A.handled = none) (it t : Addr) (items : Array Value) (i : Nat) (hi : items[i]? = none) :
    Draws prog w A it [it, t] i (fun _ _ => False) (fun j h => j = i ∧ h.IsTupleIter it t j ∧ h.IsTuple t items) where
  live := fun _ _ st => let ⟨o, ho, _⟩ := st.2.1; ⟨o, ho⟩
  frame := fun _ _ _ st hk => ⟨st.1, st.2.1.at fun o e => hk it (by simp) o e, st.2.2.at fun o e => hk t (by simp) o e⟩
  item := fun j _ _ _ hj st _ => absurd st.1 (Nat.ne_of_lt hj)
  done := fun s Q E st hE => wpAny_nextOf_tuple_end hh st.2.1 st.2.2 hi hE
theorem turn_enT {P : Program} {w : World} {K : PySem.W.Frag} {elts : List Expr} {kk : Nat} {tpos : Pos} (a e it : Addr) (ne1 : e ≠ it) :
    Turn P w K (.Tuple elts kk tpos) (ItT K a) [e, it] e (fun i h => (∃ old, IsEnum h e it (0 + ((i : Nat) : Int)) old) ∧ h.IsTupleIter it a i) where
  mem := by simp
  obj := fun i h st b hb => by
    obtain ⟨⟨old, he⟩, ⟨o, ho, hc, hd⟩⟩ := st
    rcases List.mem_cons.mp hb with z | z
    · rw [z]; exact ⟨_, he, fun v q => nomatch q⟩
    · rw [List.mem_singleton.mp z]; exact ⟨o, ho, fun v q => by rw [hd] at q; cases q⟩
  keep := fun i h h' st k => let ⟨⟨old, he⟩, hi⟩ := st; ⟨⟨old, k e (by simp) _ he⟩, hi.at fun o q => k it (by simp) o q⟩
  item := by
    intro X q1 q2 q3 hc i pins s σ H E I hf st hg; subst q1 q2 q3
    obtain ⟨⟨old, he⟩, hit⟩ := st
    obtain ⟨xs, x, hq, hx⟩ := hg
    obtain ⟨its, vals_, p, _⟩ := I.tuple hq
    obtain ⟨u, hu, ru⟩ := vals_.get hx
    have at_ : its.toArray[i]? = some u := by simpa using hu
    have hlt : i < its.toArray.size := (Array.getElem?_eq_some_iff.mp at_).1
    have nt : ∀ b ∈ [e, it], a ≠ b := fun b hb z => by
      obtain ⟨o, ho, cl, _⟩ := p
      rcases List.mem_cons.mp hb with y | y
      · rw [z, y] at ho
        rw [show s.heap.get? e = _ from he] at ho; cases ho; injection cl with cl; exact absurd cl (by decide)
      · rw [z, List.mem_singleton.mp y] at ho
        obtain ⟨o2, ho2, cl2, _⟩ := hit
        rw [ho2] at ho; cases ho
        rw [cl2] at cl; injection cl with cl; exact absurd cl (by decide)
    have G := GoesN.enumFrom (elts := elts) (x1 := kk) (pos := tpos) 0 (Draws.tuple (prog := X.prog) (w := X.w) (A := X.A.in1) (I.ok.hd hc) it a (nt it (by simp)) its.toArray) e ne1 (by simp [ne1, (nt e (by simp)).symm]) (by simp)
    refine G.goes i s _ _ hlt ⟨⟨old, he⟩, hit, p⟩ fun v h2 tk hY st2 hk _ => ?_
    obtain ⟨T, t, u2, rfl, hn, hu2, hT⟩ := hY
    have eu : u2 = u := Option.some.inj (hu2.symm.trans at_)
    subst eu
    rw [Int.zero_add] at hT
    have new : ObjOk X.prog X.w (upd H T (.tup [.int (i : Nat), x])) h2 T (.tup [.int (i : Nat), x]) := ⟨by show 2 ≤ sizeLine; decide, [.int i t, u2], .cons ⟨_, rfl⟩ (.cons ru .nil), hT⟩
    have I1 : Inv X pins σ (upd H T (.tup [.int (i : Nat), x])) { s with heap := h2, toks := tk } := I.turnedNew (ch := [e, it]) (fun b ob hb q => hk b ob hb q) hf hn new
    refine ⟨.ref T, _, I1, rfl, ⟨T, x, rfl, I.hok.fresh hn, rfl, fun ys hy => by rw [I.tuple_inj hy hq]; exact hx⟩, ⟨st2.1, st2.2.1⟩, fun b hb => ?_⟩
    have hb0 := (hf b hb).1
    have hbT : b ≠ T := by
      rcases List.mem_cons.mp hb with y | y
      · rw [y]; exact Nat.ne_of_lt (Nat.lt_of_lt_of_le (Heap.lt_size he) hn)
      · rw [List.mem_singleton.mp y]
        obtain ⟨o2, ho2, _⟩ := hit
        exact Nat.ne_of_lt (Nat.lt_of_lt_of_le (Heap.lt_size ho2) hn)
    rw [upd_ne hbT]; exact hb0
  done := by
    intro X q1 q2 q3 hc i pins s σ H E I hf st hg; subst q1 q2 q3
    obtain ⟨⟨old, he⟩, hit⟩ := st
    obtain ⟨xs, hq, hx⟩ := hg
    obtain ⟨its, vals_, p, _⟩ := I.tuple hq
    have hl := vals_.length
    have nt : ∀ b ∈ [e, it], a ≠ b := fun b hb z => by
      obtain ⟨o, ho, cl, _⟩ := p
      rcases List.mem_cons.mp hb with y | y
      · rw [z, y] at ho
        rw [show s.heap.get? e = _ from he] at ho; cases ho; injection cl with cl; exact absurd cl (by decide)
      · rw [z, List.mem_singleton.mp y] at ho
        obtain ⟨o2, ho2, cl2, _⟩ := hit
        rw [ho2] at ho; cases ho
        rw [cl2] at cl; injection cl with cl; exact absurd cl (by decide)
    have G := GoesN.enumFrom (elts := elts) (x1 := kk) (pos := tpos) 0 (drawsEnd (prog := X.prog) (w := X.w) (A := X.A.in1) (I.ok.hd hc) it a its.toArray i (by simp; omega)) e ne1 (by simp [ne1, (nt e (by simp)).symm]) (by simp)
    exact G.stops s _ _ ⟨⟨old, he⟩, rfl, hit, p⟩ fun h2 tk hk _ => inv_ch I hk hf
  self := fun _ _ _ _ _ st fin => let ⟨⟨_, he⟩, _⟩ := st; wpAny_pyIter_enum he fin
/-- enumerate(v), v a list or a tuple -/
def iEnA (K : PySem.W.Frag) (ta : TA) : TI := fun σ H R => ta σ H fun vs H1 => ∃ a xs, vs = [.ref a] ∧ ((SqL K H1 a xs ∧ R (Ite K a) H1) ∨ (SqT K H1 a xs ∧ R (ItT K a) H1))
theorem pi_enA {X : Cx} {e : Expr} {ta : TA} {p pos tpos : Pos} {elts : List Expr} {kk : Nat} (hg : Gl X "enumerate") (hm : X.mg "enumerate" = none) (ha : PA X [e] ta) (hs : starEach [e] X.env = [(false, eval e X.env)] := by rfl) :
    PI X (.Tuple elts kk tpos) (.Call (.Name "enumerate" p) [e] [] pos) (iEnA X.K ta) := by
  refine ⟨fun pins s σ H R I hi => ?_⟩
  refine Call_ (ld_blt I hg hm boot_enumerate (PyProof.Rows.callWith_type1 (thn (ha.run pos pins s σ H _ I hi) fun us s1 ⟨vs, H1, I1, r1, q1⟩ => ?_) hs rfl))
  obtain ⟨a, xs, ex, q⟩ := q1
  subst ex
  cases r1 with
  | cons r rr =>
    cases rr; cases r
    rcases q with ⟨hq, q⟩ | ⟨hq, q⟩
    · obtain ⟨its, rv, p2, hz⟩ := I1.list hq
      refine call_enumerate_list p2.isList fun h2 he hit hsz hk => wpAny_pyIter_enum he ?_
      refine ⟨s1.heap.objs.size + 1, [s1.heap.objs.size + 1, s1.heap.objs.size], _, _, H1, rfl, I1.kept (t' := s1.toks) hk, turn_enum a (s1.heap.objs.size + 1) s1.heap.objs.size, ⟨⟨.none, he⟩, hit, Nat.succ_ne_self _⟩, fun b hb => ?_, q⟩
      have hge : s1.heap.objs.size ≤ b := by
        rcases List.mem_cons.mp hb with z | z
        · rw [z]; exact Nat.le_add_right _ _
        · rw [List.mem_singleton.mp z]; exact Nat.le_refl _
      exact I1.fpOk hge (I1.hok.fresh hge)
    · obtain ⟨its, rv, p2, hz⟩ := I1.tuple hq
      refine callType_new F.called_enumerate (by decide) (F.typeCall_enumerate_1 _) (F.newCall_enumerate_1 _) (fun obj => F.args_object_init_2 obj _) F.entry_enumerate_new (en_new (begins_tuple a its.toArray)) ⟨p2, ?_⟩
      have sz : (s1.heap.push { cls := .type "tuple_iterator", data := .fields #[.ref a, .int 0 0] }).objs.size = s1.heap.objs.size + 1 := Heap.size_push ..
      show _ ∧ _
      rw [sz]
      have he : IsEnum ((s1.heap.push { cls := .type "tuple_iterator", data := .fields #[.ref a, .int 0 0] }).push { cls := .type "enumerate", data := .fields #[.none, .bool false, .ref s1.heap.objs.size, rawInt 0, .none, .none] }) (s1.heap.objs.size + 1) s1.heap.objs.size (0 + ((0 : Nat) : Int)) .none := by
        have g := Heap.get?_push_size (s1.heap.push { cls := .type "tuple_iterator", data := .fields #[.ref a, .int 0 0] }) (o := { cls := .type "enumerate", data := .fields #[.none, .bool false, .ref s1.heap.objs.size, rawInt 0, .none, .none] }) rfl
        rw [sz] at g; exact g
      refine ⟨⟨_, he, rfl⟩, wpAny_pyIter_enum he ⟨s1.heap.objs.size + 1, [s1.heap.objs.size + 1, s1.heap.objs.size], _, _, H1, rfl, I1.kept (t' := s1.toks) (fun b o z => Heap.get?_push_of_some _ (Heap.get?_push_of_some _ z)), turn_enT a (s1.heap.objs.size + 1) s1.heap.objs.size (Nat.succ_ne_self _), ⟨⟨.none, he⟩, ⟨_, Heap.get?_push_of_some _ (Heap.get?_push_size _ rfl), rfl, rfl⟩⟩, fun b hb => ?_, q⟩⟩
      have hge : s1.heap.objs.size ≤ b := by
        rcases List.mem_cons.mp hb with z | z
        · rw [z]; exact Nat.le_add_right _ _
        · rw [List.mem_singleton.mp z]; exact Nat.le_refl _
      exact I1.fpOk hge (I1.hok.fresh hge)
theorem walk_enT {K : PySem.W.Frag} {a : Addr} {xs : List V} : Walk (ItT K a) xs.length (fun H => SqT K H a xs) (YPair (fun i => some (.int (i : Nat))) (fun i => xs[i]?)) := by
  refine ⟨fun i _ hi hs => ⟨xs, xs[i], hs, by simp [hi]⟩, fun _ hs => ⟨xs, hs, Nat.le_refl _⟩, fun i H v H2 _ hs y => ?_⟩
  obtain ⟨T, x, e1, e2, e3, e4⟩ := y
  exact ⟨T, .int (i : Nat), x, e1, e2, e3, rfl, e4 xs hs⟩
theorem ko_catA {X : Cx} {K : PySem.W.Frag} (h : X.K = K := by rfl) : OpR X (binaryOp .Add) (rCatA K) := h ▸ op_catA
theorem ki_enA {X : Cx} {K : PySem.W.Frag} {e : Expr} {ta : TA} {p pos tpos : Pos} {elts : List Expr} {kk : Nat} (hg : Gl X "enumerate") (hm : X.mg "enumerate" = none) (ha : PA X [e] ta) (hs : starEach [e] X.env = [(false, eval e X.env)] := by rfl) (h : X.K = K := by rfl)
    : PI X (.Tuple elts kk tpos) (.Call (.Name "enumerate" p) [e] [] pos) (iEnA K ta) := h ▸ pi_enA hg hm ha hs
end Pot

namespace Pot
open PySem PySem.Spec PyProof.Rows L2
open Sem (wp)
/-! ### zip of three lists of one length -/
def It3 (K : PySem.W.Frag) (a b c : Addr) : It :=
  ⟨fun i H => ∃ (xs ys zs : List V) (x y z : V), SqL K H a xs ∧ SqL K H b ys ∧ SqL K H c zs ∧ xs[i]? = some x ∧ ys[i]? = some y ∧ zs[i]? = some z,
   fun i H v H2 => ∃ T x y z, v = .ref T ∧ H T = none ∧ H2 = upd H T (.tup [x, y, z]) ∧ (∀ xs, SqL K H a xs → xs[i]? = some x) ∧ (∀ ys, SqL K H b ys → ys[i]? = some y) ∧ ∀ zs, SqL K H c zs → zs[i]? = some z,
   fun i H => ∃ xs ys zs : List V, SqL K H a xs ∧ SqL K H b ys ∧ SqL K H c zs ∧ xs.length ≤ i ∧ ys.length ≤ i ∧ zs.length ≤ i⟩
/-- an iterator of a list that has come to its end -/
theorem drawsEndL {prog : Program} {w : World} {A : Around} (hh : A.handled = none) (it t : Addr) (items : Array Value) (i : Nat) (hi : items[i]? = none) :
    Draws prog w A it [it, t] i (fun _ _ => False) (fun j h => j = i ∧ h.IsListIter it t j ∧ h.IsList t items) where
  live := fun _ _ st => let ⟨o, ho, _⟩ := st.2.1; ⟨o, ho⟩
  frame := fun _ _ _ st hk => ⟨st.1, st.2.1.at fun o e => hk it (by simp) o e, st.2.2.at fun o e => hk t (by simp) o e⟩
  item := fun j _ _ _ hj st _ => absurd st.1 (Nat.ne_of_lt hj)
  done := fun s Q E st hE => wpAny_nextOf_list_end hh st.2.1 st.2.2 hi hE
theorem turn_z3 {P : Program} {w : World} {K : PySem.W.Frag} {elts : List Expr} {kk : Nat} {tpos : Pos} {a b c z TI TO i1 i2 i3 : Addr} (D : ZipSep3 z TI TO i1 i2 i3 [i1, a] [i2, b] [i3, c]) (n1 : a ≠ i1) (n2 : b ≠ i2) (n3 : c ≠ i3) :
    Turn P w K (.Tuple elts kk tpos) (It3 K a b c) [z, TI, TO, i1, i2, i3] z (fun i h => IsZip h z TI TO .none ∧ IsTupOf3 h TI (.ref i1) (.ref i2) (.ref i3) ∧ (∃ x y u, IsTupOf3 h TO x y u) ∧ h.IsListIter i1 a i ∧ h.IsListIter i2 b i ∧ h.IsListIter i3 c i) where
  mem := by simp
  obj := fun i h st m hm => by
    obtain ⟨hz, hTI, ⟨x, y, u, hTO⟩, ⟨o1, e1, _, d1⟩, ⟨o2, e2, _, d2⟩, ⟨o3, e3, _, d3⟩⟩ := st
    simp only [List.mem_cons, List.not_mem_nil, or_false] at hm
    rcases hm with e | e | e | e | e | e
    · subst e; exact ⟨_, hz, fun v q => nomatch q⟩
    · subst e; exact ⟨_, hTI, fun v q => nomatch q⟩
    · subst e; exact ⟨_, hTO, fun v q => nomatch q⟩
    · subst e; exact ⟨o1, e1, fun v q => by rw [d1] at q; cases q⟩
    · subst e; exact ⟨o2, e2, fun v q => by rw [d2] at q; cases q⟩
    · subst e; exact ⟨o3, e3, fun v q => by rw [d3] at q; cases q⟩
  keep := fun i h h2 st k => by
    obtain ⟨hz, hTI, ⟨x, y, u, hTO⟩, g1, g2, g3⟩ := st
    exact ⟨k z (by simp) _ hz, k TI (by simp) _ hTI, ⟨x, y, u, k TO (by simp) _ hTO⟩, g1.at fun o q => k i1 (by simp) o q, g2.at fun o q => k i2 (by simp) o q, g3.at fun o q => k i3 (by simp) o q⟩
  item := by
    intro X q1 q2 q3 hc i pins s σ H E I hf st hg; subst q1 q2 q3
    obtain ⟨hz, hTI, ⟨x0, y0, u0, hTO⟩, g1, g2, g3⟩ := st
    obtain ⟨xs, ys, us, x, y, u, hqa, hqb, hqc, hx, hy, hu⟩ := hg
    obtain ⟨its1, vs1, p1, _⟩ := I.list hqa
    obtain ⟨its2, vs2, p2, _⟩ := I.list hqb
    obtain ⟨its3, vs3, p3, _⟩ := I.list hqc
    obtain ⟨w1, hw1, r1⟩ := vs1.get hx
    obtain ⟨w2, hw2, r2⟩ := vs2.get hy
    obtain ⟨w3, hw3, r3⟩ := vs3.get hu
    have at1 : its1.toArray[i]? = some w1 := by simpa using hw1
    have at2 : its2.toArray[i]? = some w2 := by simpa using hw2
    have at3 : its3.toArray[i]? = some w3 := by simpa using hw3
    have l1 : i < its1.toArray.size := (Array.getElem?_eq_some_iff.mp at1).1
    have l2 : i < its2.toArray.size := (Array.getElem?_eq_some_iff.mp at2).1
    have l3 : i < its3.toArray.size := (Array.getElem?_eq_some_iff.mp at3).1
    have hh := I.ok.hd hc
    have G := GoesN.zip3 (elts := elts) (x1 := kk) (pos := tpos) D (Draws.list (prog := X.prog) (w := X.w) (A := X.A.in1) hh i1 a n1 its1.toArray) (Draws.list (prog := X.prog) (w := X.w) (A := X.A.in1) hh i2 b n2 its2.toArray) (Draws.list (prog := X.prog) (w := X.w) (A := X.A.in1) hh i3 c n3 its3.toArray)
    refine G.goes i s _ _ (by omega) ⟨hz, hTI, ⟨x0, y0, u0, hTO⟩, ⟨g1, p1.isList⟩, ⟨g2, p2.isList⟩, ⟨g3, p3.isList⟩⟩ fun v h2 tk hY st2 hk _ => ?_
    obtain ⟨T, t1, t2, t3, rfl, hn, e1, e2, e3, hT⟩ := hY
    cases Option.some.inj (e1.symm.trans at1)
    cases Option.some.inj (e2.symm.trans at2)
    cases Option.some.inj (e3.symm.trans at3)
    have new : ObjOk X.prog X.w (upd H T (.tup [x, y, u])) h2 T (.tup [x, y, u]) := ⟨by show 3 ≤ sizeLine; decide, [w1, w2, w3], .cons r1 (.cons r2 (.cons r3 .nil)), hT⟩
    have I1 : Inv X pins σ (upd H T (.tup [x, y, u])) { s with heap := h2, toks := tk } := I.turnedNew (ch := [z, TI, TO, i1, i2, i3]) (fun m ob hm q => hk m ob (fun e => hm (by simp only [List.mem_cons, List.not_mem_nil, or_false] at e ⊢; rcases e with e | e | e | e | e <;> simp [e])) q) hf hn new
    refine ⟨.ref T, _, I1, rfl, ⟨T, x, y, u, rfl, I.hok.fresh hn, rfl, fun l hl => by rw [I.list_inj hl hqa]; exact hx, fun l hl => by rw [I.list_inj hl hqb]; exact hy, fun l hl => by rw [I.list_inj hl hqc]; exact hu⟩, ⟨st2.1, st2.2.1, st2.2.2.1, st2.2.2.2.1.1, st2.2.2.2.2.1.1, st2.2.2.2.2.2.1⟩, fun m hm => ?_⟩
    have hm0 := (hf m hm).1
    have live : ∃ o, s.heap.get? m = some o := by
      obtain ⟨o1, f1, _⟩ := g1
      obtain ⟨o2, f2, _⟩ := g2
      obtain ⟨o3, f3, _⟩ := g3
      simp only [List.mem_cons, List.not_mem_nil, or_false] at hm
      rcases hm with e | e | e | e | e | e
      · subst e; exact ⟨_, hz⟩
      · subst e; exact ⟨_, hTI⟩
      · subst e; exact ⟨_, hTO⟩
      · subst e; exact ⟨_, f1⟩
      · subst e; exact ⟨_, f2⟩
      · subst e; exact ⟨_, f3⟩
    obtain ⟨o, ho⟩ := live
    rw [upd_ne (Nat.ne_of_lt (Nat.lt_of_lt_of_le (Heap.lt_size ho) hn))]; exact hm0
  done := by
    intro X q1 q2 q3 hc i pins s σ H E I hf st hg; subst q1 q2 q3
    obtain ⟨hz, hTI, ⟨x0, y0, u0, hTO⟩, g1, g2, g3⟩ := st
    obtain ⟨xs, ys, us, hqa, hqb, hqc, hx, hy, hu⟩ := hg
    obtain ⟨its1, vs1, p1, _⟩ := I.list hqa
    obtain ⟨its2, vs2, p2, _⟩ := I.list hqb
    obtain ⟨its3, vs3, p3, _⟩ := I.list hqc
    have m1 := vs1.length
    have m2 := vs2.length
    have m3 := vs3.length
    have hh := I.ok.hd hc
    have G := GoesN.zip3 (elts := elts) (x1 := kk) (pos := tpos) D (drawsEndL (prog := X.prog) (w := X.w) (A := X.A.in1) hh i1 a its1.toArray i (by simp; omega)) (drawsEndL (prog := X.prog) (w := X.w) (A := X.A.in1) hh i2 b its2.toArray i (by simp; omega)) (drawsEndL (prog := X.prog) (w := X.w) (A := X.A.in1) hh i3 c its3.toArray i (by simp; omega))
    rw [Nat.min_self, Nat.min_self] at G
    exact G.stops s _ _ ⟨hz, hTI, ⟨x0, y0, u0, hTO⟩, ⟨rfl, g1, p1.isList⟩, ⟨rfl, g2, p2.isList⟩, ⟨rfl, g3, p3.isList⟩⟩ fun h2 tk hk _ => inv_ch (ch := [z, TI, TO, i1, i2, i3]) I (fun m o hm q => hk m o (fun e => hm (by simp only [List.mem_cons, List.not_mem_nil, or_false] at e ⊢; rcases e with e | e | e | e | e <;> simp [e])) q) hf
  self := fun _ _ _ _ _ st fin => wpAny_pyIter_zip st.1 fin
def iZip3 (K : PySem.W.Frag) (ta : TA) : TI := fun σ H R => ta σ H fun vs H1 => ∃ a b c xs ys zs, vs = [.ref a, .ref b, .ref c] ∧ SqL K H1 a xs ∧ SqL K H1 b ys ∧ SqL K H1 c zs ∧ R (It3 K a b c) H1
theorem pi_zip3 {X : Cx} {e e2 e3 : Expr} {ta : TA} {p pos tpos : Pos} {elts : List Expr} {kk : Nat} (hg : Gl X "zip") (hm : X.mg "zip" = none) (ha : PA X [e, e2, e3] ta)
    (hs : starEach [e, e2, e3] X.env = (false, eval e X.env) :: starEach [e2, e3] X.env := by rfl) (hpl : (backTo pos (starEach [e2, e3] X.env)).any (·.1) = false := by rfl) :
    PI X (.Tuple elts kk tpos) (.Call (.Name "zip" p) [e, e2, e3] [] pos) (iZip3 X.K ta) := by
  refine ⟨fun pins s σ H R I hi => ?_⟩
  refine Call_ (ld_blt I hg hm PyProof.Rows.boot_zip (PyProof.Rows.callWith_type1 (thn (ha.run pos pins s σ H _ I hi) fun us s1 ⟨vs, H1, I1, r1, q1⟩ => ?_) hs hpl))
  obtain ⟨a, b, c, xs, ys, zs, ex, qa, qb, qc, q⟩ := q1
  subst ex
  cases r1 with
  | cons ra rr =>
    cases rr with
    | cons rb rr =>
      cases rr with
      | cons rc rr =>
        cases rr; cases ra; cases rb; cases rc
        obtain ⟨its1, _, p1, _⟩ := I1.list qa
        obtain ⟨its2, _, p2, _⟩ := I1.list qb
        obtain ⟨its3, _, p3, _⟩ := I1.list qc
        refine zip_begins3 (begins_list a its1.toArray) (begins_list b its2.toArray) (begins_list c its3.toArray) p1.isList p2.isList p3.isList fun h2 hz hTI hTO f1 f2 f3 hsz hk => wpAny_pyIter_zip hz ?_
        have below : ∀ {l : Addr} {its : List Value} {n : Nat}, s1.heap.get? l = some { cls := .type "list", data := .seq its.toArray n } → ∀ m ∈ [l], m < s1.heap.objs.size := fun h m hm => by rw [List.mem_singleton.mp hm]; exact Heap.lt_size h
        refine ⟨s1.heap.objs.size + 5, [s1.heap.objs.size + 5, s1.heap.objs.size + 3, s1.heap.objs.size + 4, s1.heap.objs.size, s1.heap.objs.size + 1, s1.heap.objs.size + 2], _, _, H1, rfl, I1.kept (t' := s1.toks) hk, turn_z3 (zip_sep3 (N := s1.heap.objs.size) (fp1 := [a]) (fp2 := [b]) (fp3 := [c]) ?_ ?_ ?_) ?_ ?_ ?_, ⟨hz, hTI, ⟨_, _, _, hTO⟩, ⟨_, f1, rfl, rfl⟩, ⟨_, f2, rfl, rfl⟩, ⟨_, f3, rfl, rfl⟩⟩, fun m hm => ?_, q⟩
        · exact fun m hm => by rw [List.mem_singleton.mp hm]; exact p1.lt
        · exact fun m hm => by rw [List.mem_singleton.mp hm]; exact p2.lt
        · exact fun m hm => by rw [List.mem_singleton.mp hm]; exact p3.lt
        · exact Nat.ne_of_lt p1.lt
        · exact Nat.ne_of_lt (Nat.lt_of_lt_of_le p2.lt (Nat.le_add_right _ _))
        · exact Nat.ne_of_lt (Nat.lt_of_lt_of_le p3.lt (Nat.le_add_right _ _))
        · have hge : s1.heap.objs.size ≤ m := by
            simp only [List.mem_cons, List.not_mem_nil, or_false] at hm
            rcases hm with e | e | e | e | e | e <;> (rw [e]; first | exact Nat.le_refl _ | exact Nat.le_add_right _ _)
          exact I1.fpOk hge (I1.hok.fresh hge)
theorem ki_zip3 {X : Cx} {K : PySem.W.Frag} {e e2 e3 : Expr} {ta : TA} {p pos tpos : Pos} {elts : List Expr} {kk : Nat} (hg : Gl X "zip") (hm : X.mg "zip" = none) (ha : PA X [e, e2, e3] ta)
    (hs : starEach [e, e2, e3] X.env = (false, eval e X.env) :: starEach [e2, e3] X.env := by rfl) (hpl : (backTo pos (starEach [e2, e3] X.env)).any (·.1) = false := by rfl) (h : X.K = K := by rfl) :
    PI X (.Tuple elts kk tpos) (.Call (.Name "zip" p) [e, e2, e3] [] pos) (iZip3 K ta) := h ▸ pi_zip3 hg hm ha hs hpl
def Y3 (f g k : Nat → Option V) : Nat → Hp → V → Hp → Prop := fun i H v H2 => ∃ T x y z, v = .ref T ∧ H T = none ∧ H2 = upd H T (.tup [x, y, z]) ∧ f i = some x ∧ g i = some y ∧ k i = some z
theorem walk_z3 {K : PySem.W.Frag} {a b c : Addr} {xs ys zs : List V} (h1 : ys.length = xs.length) (h2 : zs.length = xs.length) : Walk (It3 K a b c) xs.length (fun H => SqL K H a xs ∧ SqL K H b ys ∧ SqL K H c zs) (Y3 (fun i => xs[i]?) (fun i => ys[i]?) (fun i => zs[i]?)) := by
  refine ⟨fun i _ hi hs => ⟨xs, ys, zs, xs[i], ys[i]'(by omega), zs[i]'(by omega), hs.1, hs.2.1, hs.2.2, by simp [hi], by simp [show i < ys.length by omega], by simp [show i < zs.length by omega]⟩, fun _ hs => ⟨xs, ys, zs, hs.1, hs.2.1, hs.2.2, by omega, by omega, by omega⟩, fun i H v H2 _ hs y => ?_⟩
  obtain ⟨T, x, y, z, e1, e2, e3, e4, e5, e6⟩ := y
  exact ⟨T, x, y, z, e1, e2, e3, e4 xs hs.1, e5 ys hs.2.1, e6 zs hs.2.2⟩
end Pot

namespace Pot
open PySem PySem.Spec PyProof.Rows L2
open PySem.Calls
open PySem.W (sortingHeap copyHeap sortLe alike alikeAll keyToks keyToksAll dataLt dataKind KatLex SortsAt sortVals dataType EachIs)
/-! ### sorted of rows that are told apart by parts that can be compared -/
/-- up to the first part in which they differ, that one too, two rows are alike -/
def okCmp : List PyData → List PyData → Bool
  | x :: xs, y :: ys => alike x y && (!PyData.eqv x y || okCmp xs ys)
  | [], [] => true
  | _, _ => false
section
variable {prog : Program} {w : World} {A : Around} {s : Shared}
theorem kat_ok {b fin : Bool} {Q : Bool → Shared → Prop} : ∀ (xs ys : List PyData) (i : Nat) (vs ws : List Value) (as bs : List Addr), ReadsAll s.heap vs xs as → ReadsAll s.heap ws ys bs → okCmp xs ys = true → A.units + min (PyData.depthAll xs) (PyData.depthAll ys) < cLine → (b = true → i = 0 → ∀ x r t, xs = x :: r → x ≠ .tuple t) → fin = decide (xs.length < ys.length) →
    Q (PyProof.Rows.lexLt itemOrd (keyToksAll xs) (keyToksAll ys)) s → KatLex prog w A b fin Q (vs.zip ws) i s := by
  intro xs
  induction xs with
  | nil =>
    intro ys i vs ws as bs ra rb ok hu hb hf hq
    have := PySem.W.katLex_alike (prog := prog) (w := w) (A := A) (s := s) (b := b) (fin := fin) (Q := Q) [] ys i vs ws as bs ra rb
    cases ys with
    | nil => exact this rfl hu hb hf hq
    | cons y ys => cases ok
  | cons x xs ih =>
    intro ys i vs ws as bs ra rb ok hu hb hf hq
    cases ys with
    | nil => cases ok
    | cons y ys =>
      obtain ⟨al, nx⟩ := Bool.and_eq_true_iff.mp ok
      have hf2 : fin = decide (xs.length < ys.length) := by rw [hf]; simp only [List.length_cons, Nat.add_lt_add_iff_right]
      cases ra with
      | cons r rs =>
        cases rb with
        | cons r2 rs2 =>
          rw [List.zip_cons_cons]
          refine PySem.W.kat_cons (PySem.W.eqAt_alike x y A s _ _ _ _ r r2 al (SeqAt.room_head hu) prog w _ _ ?_)
          cases ex : PyData.eqv x y with
          | true =>
            rw [PySem.W.dataLt_all_yes al ex] at hq
            rw [ex] at nx
            exact PySem.W.kat_yes (ih ys (i + 1) _ _ _ _ rs rs2 nx (SeqAt.room_tail hu) (fun _ h0 => absurd h0 (Nat.succ_ne_zero i)) hf2 hq)
          | false =>
            rw [PySem.W.dataLt_all_no al ex] at hq
            refine PySem.W.kat_no (PySem.W.oneLt_alike (fun hbi t => ?_) r r2 al (PySem.W.ne_none_of al ex) (SeqAt.room_head hu) hq)
            obtain ⟨b1, b2⟩ := Bool.and_eq_true_iff.mp hbi
            exact hb b1 (by simpa using b2) x xs t rfl
theorem key_of {h : Heap} {ds : List PyData} {v : Value} {d : PyData} {as : List Addr} (hd : d ∈ ds) (r : Reads h v d as) : (dataKind h ds).keyOf v = some (keyToks d) := by
  have ex : ∃ e, e ∈ ds ∧ ∃ bs, Reads h v e bs := ⟨d, hd, as, r⟩
  have eq1 : (dataKind h ds).keyOf v = some (keyToks ex.choose) := dif_pos ex
  obtain ⟨_, bs, r2⟩ := ex.choose_spec
  rw [eq1, (Reads.unique r2 _ _ r).1]
/-- rows that can be sorted: tuples with a first part, the first parts alike, each two comparable -/
structure RowsCmp (ds : List PyData) : Prop where
  form : ∀ d ∈ ds, ∃ x r, d = .tuple (x :: r)
  first : ∀ x r x2 r2, PyData.tuple (x :: r) ∈ ds → PyData.tuple (x2 :: r2) ∈ ds → alike x x2 = true
  cmp : ∀ xs ys, PyData.tuple xs ∈ ds → PyData.tuple ys ∈ ds → okCmp xs ys = true
theorem sorts_rows {vs : List Value} {ds : List PyData} (e : EachIs (fun v d => ∃ as, Reads s.heap v d as) vs ds) (W : RowsCmp ds) (hu : ∀ d, d ∈ ds → A.units + d.depth < cLine) : SortsAt prog w A s (dataKind s.heap ds) vs := by
  refine ⟨fun v hv => ?_, ?_⟩
  · obtain ⟨d, hd, as, r⟩ := e.left v hv
    exact ⟨_, key_of hd r⟩
  · cases hds : ds with
    | nil =>
      rw [hds] at e
      cases e
      exact ⟨general', fun E x y a b Q ha _ _ => (by obtain ⟨d, _, hd, _⟩ := PySem.W.dataKind_inv ha; exact absurd hd (by simp)), fun h2 => absurd h2 (by simp)⟩
    | cons d0 ds0 =>
      rw [← hds]
      have m0 : d0 ∈ ds := by rw [hds]; exact List.mem_cons_self
      obtain ⟨x0, r0, e0⟩ := W.form d0 m0
      have m0 : PyData.tuple (x0 :: r0) ∈ ds := by rw [← e0]; exact m0
      refine ⟨tuples' (dataType x0 != Value.type "tuple"), ?_, fun h2 E Q hq => ?_⟩
      · intro E x y a b Q ha hb hq
        obtain ⟨d, as, hd, ra, rfl⟩ := PySem.W.dataKind_inv ha
        obtain ⟨d2, as2, hd2, rb, rfl⟩ := PySem.W.dataKind_inv hb
        obtain ⟨x1, r1, rfl⟩ := W.form d hd
        obtain ⟨x2, r2, rfl⟩ := W.form d2 hd2
        have room : A.units + min (PyData.tuple (x1 :: r1)).depth (PyData.tuple (x2 :: r2)).depth < cLine := Nat.lt_of_le_of_lt (Nat.add_le_add_left (Nat.min_le_left _ _) _) (hu _ hd)
        have hq2 : Q (dataLt (.tuple (x1 :: r1)) (.tuple (x2 :: r2))) s := hq
        rw [PySem.W.dataLt_tuple] at hq2
        cases ra with
        | @tuple l o us n _ _ h1 h2 h3 h4 =>
          cases rb with
          | @tuple l2 o2 us2 n2 _ _ k1 k2 k3 k4 =>
            have z1 : us.size = (x1 :: r1).length := by simpa using SeqAt.ReadsAll.length _ _ _ h4
            have z2 : us2.size = (x2 :: r2).length := by simpa using SeqAt.ReadsAll.length _ _ _ k4
            refine PySem.W.kat_lt h1 h3 k1 k3 (kat_ok (prog := prog) (w := w) (A := A) (s := s) (x1 :: r1) (x2 :: r2) 0 _ _ _ _ h4 k4 (W.cmp _ _ hd hd2) (by have := SeqAt.room_in room; omega) (fun hb1 _ xx rr t ex => ?_) (by rw [z1, z2]) hq2)
            obtain ⟨rfl, rfl⟩ := List.cons.inj ex
            rw [← PySem.W.dataType_alike (W.first _ _ _ _ hd m0)] at hb1
            exact PySem.W.dataType_tuple hb1 t
      · obtain ⟨fs, t1, t2, t3⟩ := PySem.W.each_katTups e W.form
        refine PySem.W.kat_kind (T := dataType x0) t1 (by omega) (fun f hf => ?_) (beq_self_eq_true _) hq
        obtain ⟨xx, rr, as, m1, m2⟩ := t3 f hf
        rw [← PySem.W.dataType_alike (W.first _ _ _ _ m1 m0)]
        exact PySem.W.looks_reads m2
end
theorem perm_lift {α β : Type} (f : α → β) {out l : List β} (h : out.Perm l) : ∀ L : List α, L.map f = l → ∃ L2 : List α, L2.Perm L ∧ L2.map f = out := by
  induction h with
  | nil => intro L e; exact ⟨L, .refl _, e⟩
  | cons x _ ih =>
    intro L e
    cases L with
    | nil => cases e
    | cons y L =>
      obtain ⟨e1, e2⟩ := List.cons.inj e
      obtain ⟨L2, p2, m2⟩ := ih L e2
      exact ⟨y :: L2, p2.cons y, by rw [List.map_cons, m2, e1]⟩
  | swap x y l =>
    intro L e
    match L, e with
    | a :: b :: L, e =>
      obtain ⟨e1, e2⟩ := List.cons.inj e
      obtain ⟨e2, e3⟩ := List.cons.inj e2
      exact ⟨b :: a :: L, .swap a b L, by rw [List.map_cons, List.map_cons, e1, e2, e3]⟩
  | trans _ _ ih1 ih2 =>
    intro L e
    obtain ⟨L2, p2, m2⟩ := ih2 L e
    obtain ⟨L3, p3, m3⟩ := ih1 L2 m2
    exact ⟨L3, p3.trans p2, m3⟩
section
variable {X : Cx} {K : PySem.W.Frag}
theorem each_reads {pins : List (Addr × Obj)} {σ : L2.St} {H : Hp} {s : Shared} (I : Inv X pins σ H s) : ∀ {xs : List V} {its : List Value} {ds : List PyData}, Vals xs its → DpAll X.K H xs ds → ∃ L : List (Value × V × PyData), L.map (·.1) = its ∧ L.map (·.2.1) = xs ∧ L.map (·.2.2) = ds ∧ ∀ t ∈ L, RelV t.2.1 t.1 ∧ Dp X.K H t.2.1 t.2.2
  | _, _, _, .nil, .nil => ⟨[], rfl, rfl, rfl, fun _ h => (List.not_mem_nil h).elim⟩
  | _, _, _, .cons (a := x) (b := u) r rs, .cons (d := d) p ps => by
    obtain ⟨L, h1, h2, h3, h4⟩ := each_reads I rs ps
    refine ⟨(u, x, d) :: L, by rw [List.map_cons, h1], by rw [List.map_cons, h2], by rw [List.map_cons, h3], fun t ht => ?_⟩
    rcases List.mem_cons.mp ht with e | e
    · rw [e]; exact ⟨r, p⟩
    · exact h4 t e
/-- sorted of a list of rows: a new list of the same ones -/
def rSortedR (K : PySem.W.Frag) : List V → Hp → VK → Prop := fun vs H Q => ∃ (a : Addr) (xs : List V) (ds : List PyData), vs = [V.ref a] ∧ SqL K H a xs ∧ DpAll K H xs ds ∧ RowsCmp ds ∧ (∀ d ∈ ds, d.depth ≤ 60) ∧
  ∀ (zs : List V) (es : List PyData) (p : Addr), DpAll K H zs es → es.Perm ds → H p = none → Q (.ref p) (upd H p (.lst zs))
theorem cr_sortedR (hu : X.A.units + 70 < cLine) : CallR X (.builtin "sorted") (rSortedR X.K) := by
  intro pins s σ H vs0 us0 Q I r h
  obtain ⟨a, xs, ds, rfl, hs, da, W, dep, q⟩ := h
  obtain ⟨its, rv, hl, hz⟩ := I.list hs
  rw [Vals.ref1 r]
  obtain ⟨L, e1, e2, e3, all⟩ := each_reads I rv da
  have er : EachIs (fun v d => ∃ as, Reads s.heap v d as) its ds := by
    rw [← e1, ← e3]
    clear e1 e2 e3
    induction L with
    | nil => exact .nil
    | cons t L ih =>
      have ht := all t List.mem_cons_self
      exact .cons (Dp.reads I _ _ _ ht.2 ht.1) (ih fun x hx => all x (List.mem_cons_of_mem _ hx))
  have ll : its.length = xs.length := by rw [← e1, ← e2, List.length_map, List.length_map]
  have ln : its.length ≤ sizeLine := by rw [ll]; exact hz
  have er' : EachIs (fun v d => ∃ as, Reads (sortingHeap (copyHeap s.heap its) (s.heap.objs.size + 1) its) v d as) its ds := er.mono fun _ _ ⟨as, r⟩ => ⟨as, PyProof.Rows.Reads.keeps (fun _ _ => PySem.W.sorting_copy_old) r⟩
  have S := sorts_rows (prog := X.prog) (w := X.w) (A := X.A.in1.in1) (s := { s with heap := sortingHeap (copyHeap s.heap its) (s.heap.objs.size + 1) its }) er' W (fun d hd => by have := dep d hd; simp only [Around.in1]; omega)
  refine PySem.W.sorted_vals hl.isList S ln ?_
  generalize eo : sortVals _ false its its = out
  have po : out.Perm its := by
    rw [← eo]
    unfold sortVals
    have := (List.mergeSort_perm (its.zip its) (sortLe (dataKind (sortingHeap (copyHeap s.heap its) (s.heap.objs.size + 1) its) ds).toKeyOrd false fun p : Keyed => PySem.W.keyD (dataKind (sortingHeap (copyHeap s.heap its) (s.heap.objs.size + 1) its) ds) p.1)).map Prod.snd
    rw [List.map_snd_zip (Nat.le_refl _)] at this
    exact this
  obtain ⟨L2, p2, m2⟩ := perm_lift (·.1) po L e1
  have rv2 : Vals (L2.map (·.2.1)) out := by
    rw [← m2]
    clear m2
    have hh : ∀ t ∈ L2, RelV t.2.1 t.1 := fun t ht => (all t (p2.mem_iff.mp ht)).1
    clear p2
    induction L2 with
    | nil => exact .nil
    | cons t L2 ih => exact .cons (hh t List.mem_cons_self) (ih fun x hx => hh x (List.mem_cons_of_mem _ hx))
  have dp2 : DpAll X.K H (L2.map (·.2.1)) (L2.map (·.2.2)) := by
    have hh : ∀ t ∈ L2, Dp X.K H t.2.1 t.2.2 := fun t ht => (all t (p2.mem_iff.mp ht)).2
    clear p2 m2 rv2
    induction L2 with
    | nil => exact .nil
    | cons t L2 ih => exact .cons (hh t List.mem_cons_self) (ih fun x hx => hh x (List.mem_cons_of_mem _ hx))
  have pd : (L2.map (·.2.2)).Perm ds := by rw [← e3]; exact p2.map _
  obtain ⟨ep, hat⟩ := PyProof.Rows.sortedAll_at s.heap its out.toArray
  have fr : H (s.heap.objs.size + 1) = none := I.hok.fresh (Nat.le_succ _)
  exact ⟨.ref _, upd H (s.heap.objs.size + 1) (.lst (L2.map (·.2.1))), I.laid (t' := s.toks) (fun _ _ => PyProof.Rows.sortedAll_old) (Nat.le_succ _) ⟨by rw [List.length_map, p2.length_eq, ← List.length_map (f := fun x : Value × V × PyData => x.1), e1]; exact ln, out, ep, rv2, hat⟩, rfl, q _ _ _ dp2 pd fr⟩
theorem kc_sortedR (hu : X.A.units + 70 < cLine) (h : X.K = K := by rfl) : CallR X (.builtin "sorted") (rSortedR K) := h ▸ cr_sortedR hu
end
end Pot

namespace Pot
open PySem PySem.Spec PyProof.Rows L2
/-! ### a op1 b op2 c op3 d op4 e as a test -/
def tChain4 (r1 r2 r3 r4 : R2) (ta tb tc td te : TE) : TT := fun σ H Q => ta σ H fun x H1 => tb σ H1 fun y H2 => r1 x y H2 fun z H3 => ∃ k, z = .bl k ∧
  (if k = true then tc σ H3 fun y2 H4 => r2 y y2 H4 fun z H5 => ∃ k, z = .bl k ∧
    (if k = true then td σ H5 fun y3 H6 => r3 y2 y3 H6 fun z H7 => ∃ k, z = .bl k ∧
      (if k = true then te σ H7 fun y4 H8 => r4 y3 y4 H8 fun z H9 => ∃ k, z = .bl k ∧ Q k H9 else Q false H7) else Q false H5) else Q false H3)
theorem pt_chain4 {X : Cx} {a b c d e : Expr} {ta tb tc td te : TE} {pos : Pos} {o1 o2 o3 o4 : CmpOp} {r1 r2 r3 r4 : R2} (h1 : OpR X (compareOp o1) r1) (h2 : OpR X (compareOp o2) r2) (h3 : OpR X (compareOp o3) r3) (h4 : OpR X (compareOp o4) r4)
    (ha : PE X a ta) (hb : PE X b tb) (hc : PE X c tc) (hd : PE X d td) (he : PE X e te)
    (hm : lastMarks [o1, o2, o3, o4] [b, c, d, e] = false := by with_unfolding_all rfl) : PT X (.Compare a [o1, o2, o3, o4] [b, c, d, e] pos) (tChain4 r1 r2 r3 r4 ta tb tc td te) := by
  refine ⟨fun pins s σ H Q I h => ?_⟩
  refine isTrue_chain (thn (ha.run pins s σ H _ I h) fun v s1 ⟨x, H1, I1, x1, q1⟩ => test_link (thn (hb.run pins s1 σ H1 _ I1 q1) fun u s2 ⟨y, H2, I2, x2, q2⟩ =>
    thn (h1 pins s2 σ H2 x y v u _ I2 x1 x2 q2) fun d s3 ⟨z, H3, I3, x3, k, e, q3⟩ => ?_)) hm
  subst e
  cases x3
  refine wpAny_truthy_bool ?_
  cases k with
  | false => exact ite_ff ⟨H3, I3, q3⟩
  | true =>
    refine ite_tt (test_link (thn (hc.run pins s3 σ H3 _ I3 q3) fun u2 s4 ⟨y2, H4, I4, x4, q4⟩ =>
      thn (h2 pins s4 σ H4 y y2 u u2 _ I4 x2 x4 q4) fun d s5 ⟨z, H5, I5, x5, k, e, q5⟩ => ?_))
    subst e
    cases x5
    refine wpAny_truthy_bool ?_
    cases k with
    | false => exact ite_ff ⟨H5, I5, q5⟩
    | true =>
      refine ite_tt (test_link (thn (hd.run pins s5 σ H5 _ I5 q5) fun u3 s6 ⟨y3, H6, I6, x6, q6⟩ =>
        thn (h3 pins s6 σ H6 y2 y3 u2 u3 _ I6 x4 x6 q6) fun d s7 ⟨z, H7, I7, x7, k, e, q7⟩ => ?_))
      subst e
      cases x7
      refine wpAny_truthy_bool ?_
      cases k with
      | false => exact ite_ff ⟨H7, I7, q7⟩
      | true =>
        refine ite_tt (test_last (thn (he.run pins s7 σ H7 _ I7 q7) fun u4 s8 ⟨y4, H8, I8, x8, q8⟩ =>
          thn (h4 pins s8 σ H8 y3 y4 u3 u4 _ I8 x6 x8 q8) fun d s9 ⟨z, H9, I9, x9, k, e, q9⟩ => ?_))
        subst e
        cases x9
        exact wpAny_truthy_bool ⟨H9, I9, q9⟩
end Pot

namespace Pot
open PySem PySem.Spec PyProof.Rows L2
/-- built-in names that the module gives no other meaning -/
structure Txt (mg : Str → Option Value) : Prop where
  len : mg "len" = none
  divmod : mg "divmod" = none
  range : mg "range" = none
  sum : mg "sum" = none
  all : mg "all" = none
  any : mg "any" = none
  isinstance : mg "isinstance" = none
  str : mg "str" = none
  int : mg "int" = none
  list : mg "list" = none
  tuple : mg "tuple" = none
  bool : mg "bool" = none
  zip : mg "zip" = none
  set : mg "set" = none
  sorted : mg "sorted" = none
  enumerate : mg "enumerate" = none
  repr : mg "repr" = none
  min : mg "min" = none
  max : mg "max" = none
  abs : mg "abs" = none
/-- a def that may be called by its name: what it keeps, at which level -/
def Cl (P : Program) (w : World) (K : PySem.W.Frag) (mg : Str → Option Value) (base : Heap) (k : Nat) (x : Str) (sp : Sp) : Prop :=
  ∃ (f : Addr) (fd : FuncData) (ps : List Str), FnOk P w K mg base CX0 k f fd ps sp ∧ mg x = some (.ref f) ∧ PySem.W.keepIn K (.ref f) = true ∧ Binds K fd ps []
theorem pe_cl {X : Cx} {k j : Nat} {x : Str} {sp : Sp} {e : Expr} {es : List Expr} {t : TA} {p pos : Pos} (c : Cl X.prog X.w X.K X.mg X.base k x sp) (hr : Room j X.A) (hk : k ≤ j) (hg : Gl X x) (ha : PA X (e :: es) t) (hdb : (x == ("__debug__" : Str)) = false := by decide)
    (he : starEach (e :: es) X.env = (false, eval e X.env) :: starEach es X.env := by rfl) (hpl : (backTo pos (starEach es X.env)).any (·.1) = false := by rfl) : PE X (.Call (.Name x p) (e :: es) [] pos) (tCall sp [] E0 t) := by
  obtain ⟨f, fd, ps, G, hm, kp, b⟩ := c
  exact pe_call G (hr.mono hk) hg hm kp b .nil pass0 ha hdb he hpl
/-! ### the drawing state -/
def dS (c : Addr) (t : Int) : List (Key × V) := [(Sum.inr "cells", .ref c), (Sum.inr "turn", .int t)]
/-- at d stands a state of the law: its cells at c, its turn at most n -/
def StAt (H : Hp) (d c : Addr) (n : Nat) : Prop := d ≠ c ∧ ∃ (xs : List Int) (t : Int),
  H d = some (.dK (dS c t)) ∧ H c = some (.lst (xs.map V.int)) ∧ xs ≠ [] ∧ xs.length ≤ 63 ∧ 0 ≤ t ∧ t ≤ n
/-- all that was tracked stands, but d and c -/
def Kp (d c : Addr) (H H' : Hp) : Prop := ∀ b o, b ≠ d → b ≠ c → H b = some o → H' b = some o
theorem Kp.refl (d c : Addr) (H : Hp) : Kp d c H H := fun _ _ _ _ e => e
theorem Kp.trans {d c : Addr} {H H1 H2 : Hp} (a : Kp d c H H1) (b : Kp d c H1 H2) : Kp d c H H2 := fun x o h1 h2 e => b x o h1 h2 (a x o h1 h2 e)
theorem Kp.of {d c : Addr} {H H' : Hp} (s : Same H H') : Kp d c H H' := fun x o _ _ e => s x o e
theorem same_upd {H : Hp} {p : Addr} {o : HO} (h : H p = none) : Same H (upd H p o) := fun b x e => by
  rw [upd_ne (ne_of_none e h)]
  exact e
theorem same_put {H H' : Hp} {p : Addr} {o : HO} (s : Same H H') (h : H p = none) : Same H (upd H' p o) := fun b x e => by
  rw [upd_ne (ne_of_none e h)]
  exact s b x e
theorem kp_put {d c : Addr} {H H' : Hp} {p : Addr} {o : HO} (s : Kp d c H H') (h : H p = none) : Kp d c H (upd H' p o) := fun b x h1 h2 e => by
  rw [upd_ne (ne_of_none e h)]
  exact s b x h1 h2 e
theorem StAt.mono {H : Hp} {d c : Addr} {n m : Nat} (h : StAt H d c n) (k : n ≤ m) : StAt H d c m := by
  obtain ⟨h0, xs, t, h1, h2, h3, h4, h5, h6⟩ := h
  exact ⟨h0, xs, t, h1, h2, h3, h4, h5, by omega⟩
theorem StAt.same {H H' : Hp} {d c : Addr} {n : Nat} (h : StAt H d c n) (s : Same H H') : StAt H' d c n := by
  obtain ⟨h0, xs, t, h1, h2, h3, h4, h5, h6⟩ := h
  exact ⟨h0, xs, t, s _ _ h1, s _ _ h2, h3, h4, h5, h6⟩
theorem Kp.free {d c : Addr} {H H' : Hp} {n : Nat} {l : Addr} (k : Kp d c H H') (s : StAt H' d c n) (h : H' l = none) : H l = none := by
  obtain ⟨_, xs, t, h1, h2, _⟩ := s
  have n1 : l ≠ d := (ne_of_none h1 h).symm
  have n2 : l ≠ c := (ne_of_none h2 h).symm
  cases e : H l with
  | none => rfl
  | some o =>
    rw [k l o n1 n2 e] at h
    cases h
theorem StAt.ne1 {H : Hp} {d c : Addr} {n : Nat} {l : Addr} (s : StAt H d c n) (h : H l = none) : d ≠ l := by
  obtain ⟨_, xs, t, h1, h2, _⟩ := s
  exact ne_of_none h1 h
theorem StAt.ne2 {H : Hp} {d c : Addr} {n : Nat} {l : Addr} (s : StAt H d c n) (h : H l = none) : c ≠ l := by
  obtain ⟨_, xs, t, h1, h2, _⟩ := s
  exact ne_of_none h2 h
theorem StAt.put {H : Hp} {d c : Addr} {n : Nat} {l : Addr} {o : HO} (s : StAt H d c n) (n1 : d ≠ l) (n2 : c ≠ l) : StAt (upd H l o) d c n := by
  obtain ⟨h0, xs, t, h1, h2, h3, h4, h5, h6⟩ := s
  exact ⟨h0, xs, t, by rw [upd_ne n1]; exact h1, by rw [upd_ne n2]; exact h2, h3, h4, h5, h6⟩
theorem val_turn (c : Addr) (t : Int) : valV (dS c t) (Sum.inr "turn") = some (.int t) := by
  have e : ¬ ((Sum.inr (Str.ofString "cells") : Key) = Sum.inr (Str.ofString "turn")) := by decide +kernel
  unfold dS; rw [valV_neg e, valV_pos rfl]
theorem val_cells (c : Addr) (t : Int) : valV (dS c t) (Sum.inr "cells") = some (.ref c) := by
  unfold dS; rw [valV_pos rfl]
theorem put_turn (c : Addr) (t u : Int) : putK (dS c t) (Sum.inr "turn") (.int u) = dS c u := by
  have e : ¬ ((Sum.inr (Str.ofString "cells") : Key) = Sum.inr (Str.ofString "turn")) := by decide +kernel
  unfold putK dS
  simp [e]

theorem dget_turn {H : Hp} {d c : Addr} {t : Int} (h : H d = some (.dK (dS c t))) : DGet H d (.str "turn") (some (.int t)) := by
  rw [← val_turn c t]; exact DGet.k (k := Sum.inr "turn") h
theorem dget_cells {H : Hp} {d c : Addr} {t : Int} (h : H d = some (.dK (dS c t))) : DGet H d (.str "cells") (some (.ref c)) := by
  rw [← val_cells c t]; exact DGet.k (k := Sum.inr "cells") h
theorem dput_turn {H : Hp} {d c : Addr} {t : Int} (u : Int) (h : H d = some (.dK (dS c t))) : DPut H d (.str "turn") (.int u) (upd H d (.dK (dS c u))) := by
  rw [← put_turn c t u]; exact DPut.k (k := Sum.inr "turn") h (by show 2 < sizeLine; decide)
theorem ge18 (x : Int) : (decide ((10 : Int) ^ (18 : Int).toNat ≤ x) = true) ↔ 1000000000000000000 ≤ x := by
  have e : (10 : Int) ^ (18 : Int).toNat = 1000000000000000000 := by decide
  rw [e, decide_eq_true_eq]
theorem cmul_mod (a b : Int) {m : Int} (h0 : 0 < m) (h1 : m < 2 ^ 64) : CMul (a % m) b := by
  have p := Int.emod_nonneg a (show m ≠ 0 by omega)
  have q := Int.emod_lt_of_pos a h0
  exact .inl ⟨by omega, by omega⟩
theorem mod_at {xs : List Int} {u : Int} (hx : xs ≠ []) : ∃ (j : Nat) (y : Int), u % ((xs.map V.int).length : Int) = (j : Int) ∧ j < xs.length ∧ xs[j]? = some y := by
  have h0 : 0 < xs.length := List.length_pos_iff.mpr hx
  rw [List.length_map]
  have a := Int.emod_nonneg u (show (xs.length : Int) ≠ 0 by omega)
  have b := Int.emod_lt_of_pos u (show (0 : Int) < (xs.length : Int) by omega)
  refine ⟨(u % (xs.length : Int)).toNat, xs[(u % (xs.length : Int)).toNat]'(by omega), by omega, by omega, ?_⟩
  exact List.getElem?_eq_getElem _

section
variable {K : PySem.W.Frag}
theorem cut63 {xs : List V} (h : xs.length ≤ 63) : cutV xs none (some 63) = xs := by
  unfold cutV
  rw [HT.sIx_none, show HT.sIx xs.length xs.length (some 63) = min 63 xs.length from HT.sIx_nat xs.length xs.length 63, Nat.min_eq_right h]
  simp
theorem dp_ints {H : Hp} (ns : List Int) : DpAll K H (ns.map V.int) (ns.map PyData.int) := by
  induction ns with
  | nil => exact .nil
  | cons n r ih => exact .cons (.int n) ih
theorem same_tup {H H' : Hp} {a : Addr} {xs : List V} (e : Same H H') (h : SqT K H a xs) : SqT K H' a xs := by
  rcases h with (h | ⟨o, h⟩) | h
  · exact .inl (.inl (e _ _ h))
  · exact .inl (.inr ⟨o, e _ _ h⟩)
  · exact .inr h
mutual
theorem dp_same {H H' : Hp} (s : Same H H') : ∀ {v : V} {d : PyData}, Dp K H v d → Dp K H' v d
  | _, _, .non => .non
  | _, _, .bl b => .bl b
  | _, _, .int i => .int i
  | _, _, .str x => .str x
  | _, _, .lst h a => .lst (s.seq h) (dpAll_same s a)
  | _, _, .tup h a => .tup (same_tup s h) (dpAll_same s a)
theorem dpAll_same {H H' : Hp} (s : Same H H') : ∀ {vs : List V} {ds : List PyData}, DpAll K H vs ds → DpAll K H' vs ds
  | _, _, .nil => .nil
  | _, _, .cons h t => .cons (dp_same s h) (dpAll_same s t)
end
theorem dpAll_len {H : Hp} : ∀ {vs : List V} {ds : List PyData}, DpAll K H vs ds → vs.length = ds.length
  | _, _, .nil => rfl
  | _, _, .cons _ t => by rw [List.length_cons, List.length_cons, dpAll_len t]
theorem dpAll_at {H : Hp} : ∀ {vs : List V} {ds : List PyData} {i : Nat} {v : V}, DpAll K H vs ds → vs[i]? = some v → ∃ d, ds[i]? = some d ∧ Dp K H v d
  | _, _, _, _, .nil, h => by simp at h
  | _, _, 0, _, .cons h _, e => ⟨_, rfl, by cases e; exact h⟩
  | _, _, i + 1, _, .cons _ t, e => dpAll_at (i := i) t e
theorem depth_at : ∀ {ds : List PyData} {i : Nat} {d : PyData}, ds[i]? = some d → d.depth ≤ PyData.depthAll ds
  | [], _, _, h => by simp at h
  | x :: r, 0, d, h => by cases h; unfold PyData.depthAll; exact Nat.le_max_left ..
  | x :: r, i + 1, d, h => by
    have := depth_at (ds := r) (i := i) (d := d) h
    unfold PyData.depthAll
    exact Nat.le_trans this (Nat.le_max_right ..)
theorem tyx_list {H : Hp} {a : Addr} {xs : List V} (h : SqL K H a xs) : TyX K H (.ref a) (.type "list") := by
  rcases h with (h | ⟨o, h⟩) | ⟨o, its, n, h1, h2, _⟩
  · exact .base (.lst h)
  · exact .base (.frz h)
  · exact .kList h1 h2
theorem tyx_tup {H : Hp} {a : Addr} {xs : List V} (h : SqT K H a xs) : TyX K H (.ref a) (.type "tuple") := by
  rcases h with (h | ⟨o, h⟩) | ⟨o, its, n, h1, h2, _⟩
  · exact .base (.tup h)
  · exact .fTuple h
  · exact .kTuple h1 h2
theorem walk_zipT {a b : Addr} {xs ys : List V} {n : Nat} (hn : n = min xs.length ys.length) : Walk (RZ.ItzT K a b) n (fun H => SqT K H a xs ∧ SqT K H b ys) (YPair (fun i => xs[i]?) (fun i => ys[i]?)) := by
  subst hn
  refine ⟨fun i _ hi q => ?_, fun _ q => ⟨xs, ys, q.1, q.2, by omega⟩, fun i H v H' _ q y => ?_⟩
  · exact ⟨xs, ys, xs[i]'(by omega), ys[i]'(by omega), q.1, q.2, List.getElem?_eq_getElem _, List.getElem?_eq_getElem _⟩
  · obtain ⟨T, x, z, e1, e2, e3, e4, e5⟩ := y
    exact ⟨T, x, z, e1, e2, e3, e4 xs q.1, e5 ys q.2⟩
/-- the longest list within -/
def widAll : List PyData → Nat
  | [] => 0
  | x :: xs => max (wid x) (widAll xs)
where wid : PyData → Nat
  | .list xs => max xs.length (widAll xs)
  | .tuple xs => max xs.length (widAll xs)
  | _ => 0
theorem wid_at : ∀ {ds : List PyData} {i : Nat} {d : PyData}, ds[i]? = some d → widAll.wid d ≤ widAll ds
  | [], _, _, h => by simp at h
  | x :: r, 0, d, h => by cases h; unfold widAll; exact Nat.le_max_left ..
  | x :: r, i + 1, d, h => by
    have := wid_at (ds := r) (i := i) (d := d) h
    unfold widAll
    exact Nat.le_trans this (Nat.le_max_right ..)
theorem depth_ints (ns : List Int) : (PyData.list (ns.map PyData.int)).depth = 1 := by
  have h : ∀ l : List Int, PyData.depthAll (l.map PyData.int) = 0 := by
    intro l
    induction l with
    | nil => rfl
    | cons x r ih =>
      show max 0 (PyData.depthAll (r.map PyData.int)) = 0
      rw [ih]
      rfl
  show PyData.depthAll (ns.map PyData.int) + 1 = 1
  rw [h]
theorem wid_ints (ns : List Int) : widAll.wid (PyData.list (ns.map PyData.int)) = ns.length := by
  have h : ∀ l : List Int, widAll (l.map PyData.int) = 0 := by
    intro l
    induction l with
    | nil => rfl
    | cons x r ih =>
      show max 0 (widAll (r.map PyData.int)) = 0
      rw [ih]
      rfl
  show max (ns.map PyData.int).length (widAll (ns.map PyData.int)) = ns.length
  rw [h, List.length_map, Nat.max_zero]
theorem flat_ints (ns : List Int) : (ns.map V.int).all flatV = true := by
  rw [List.all_eq_true]
  intro x hx
  obtain ⟨k, _, rfl⟩ := List.mem_map.mp hx
  rfl
end
section
variable {P : Program} {w : World} {K : PySem.W.Frag} {mg : Str → Option Value} {base : Heap}
/-- a def with values that may be left out -/
abbrev FunV (K : PySem.W.Frag) (x : Str) (st : Stmt) (dvs : List V) (f : Addr) (fd : FuncData) : Prop := FunD K x x (defArgs st) (defBody st) (defScope st) dvs [] f fd
theorem okD {x : Str} {st : Stmt} {dvs : List V} {f : Addr} {fd : FuncData} {N ps : List Str} {k : Nat} {sp : Sp} (F : FunV K x st dvs f fd) (S : FnScope N ps (defScope st)) (len : ∀ vs H Q E, sp vs H Q E → vs.length = ps.length)
    (body : ∀ (cdv : Value) (A : Around) (outer : List Env) (s : Shared) (H : Hp) (vs : List V) (Q : VK) (E : XK), Room k (A.deeper (envOfC x (defScope st) s.heap.objs.size f cdv)) → sp vs H Q E →
      ∃ t, PSs (cxOf CX0 P w K mg base N x (defScope st) f cdv A outer s H E).nox (defBody st) t ∧ t { nx := fun _ H' => Q .non H', rt := Q } (start N vs) H) : FnOk P w K mg base CX0 (k + 1) f fd ps sp :=
  FunD.ok F S len fun cdv A outer s H vs Q E hr h => by
    obtain ⟨t, ht, hq⟩ := body cdv A outer s H vs Q E hr h
    exact ⟨t, ht.nox, hq⟩
/-- a def that may be called by its name, the values ds being left out -/
def ClD (P : Program) (w : World) (K : PySem.W.Frag) (mg : Str → Option Value) (base : Heap) (k : Nat) (x : Str) (ds : List V) (sp : Sp) : Prop :=
  ∃ (f : Addr) (fd : FuncData) (ps : List Str) (dus : List Value), FnOk P w K mg base CX0 k f fd ps sp ∧ mg x = some (.ref f) ∧ PySem.W.keepIn K (.ref f) = true ∧ Binds K fd ps dus ∧ Vals ds dus
theorem pe_cd {X : Cx} {k j : Nat} {x : Str} {ds : List V} {sp : Sp} {e : Expr} {es : List Expr} {t : TA} {p pos : Pos} (c : ClD X.prog X.w X.K X.mg X.base k x ds sp) (hr : Room j X.A) (hk : k ≤ j) (hg : Gl X x) (ha : PA X (e :: es) t) (hdb : (x == ("__debug__" : Str)) = false := by decide)
    (he : starEach (e :: es) X.env = (false, eval e X.env) :: starEach es X.env := by rfl) (hpl : (backTo pos (starEach es X.env)).any (·.1) = false := by rfl) : PE X (.Call (.Name x p) (e :: es) [] pos) (tCall sp ds E0 t) := by
  obtain ⟨f, fd, ps, dus, G, hm, kp, b, dv⟩ := c
  exact pe_call G (hr.mono hk) hg hm kp b dv pass0 ha hdb he hpl
theorem Cl.mono {k j : Nat} {x : Str} {sp : Sp} (c : Cl P w K mg base k x sp) (h : k ≤ j) : Cl P w K mg base j x sp := by
  obtain ⟨f, fd, ps, G, r⟩ := c
  exact ⟨f, fd, ps, G.mono h, r⟩
end
end Pot

namespace Pot
open PySem PySem.Spec PyProof.Rows L2
/-! ### a box of three numbers from which is drawn, and all that stands beside it -/
def Bx (H : Hp) (b : Addr) : Prop := ∃ x y z : Int, H b = some (.lst [.int x, .int y, .int z])
/-- the heap without some -/
def off (H : Hp) (S : List Addr) : Hp := fun x => if x ∈ S then none else H x
theorem off_in {H : Hp} {S : List Addr} {x : Addr} (h : x ∈ S) : off H S x = none := if_pos h
theorem off_out {H : Hp} {S : List Addr} {x : Addr} (h : x ∉ S) : off H S x = H x := if_neg h
theorem off_mem {H : Hp} {S : List Addr} {x : Addr} {o : HO} (h : off H S x = some o) : x ∉ S := fun e => by rw [off_in e] at h; cases h
theorem off_sub {H : Hp} {S : List Addr} : Same (off H S) H := fun x o h => by
  have n := off_mem h
  rw [off_out n] at h; exact h
theorem off_mono {H : Hp} {S T : List Addr} (h : ∀ x ∈ T, x ∈ S) : Same (off H S) (off H T) := fun x o e => by
  have n := off_mem e
  rw [off_out n] at e
  rw [off_out fun z => n (h x z)]; exact e
/-- what stands beside S stands -/
abbrev Sm (S : List Addr) (H H' : Hp) : Prop := Same (off H S) (off H' S)
theorem sm_mono {H H' : Hp} {S T : List Addr} (h : ∀ x ∈ T, x ∈ S) (s : Sm T H H') : Sm S H H' := fun x o e => by
  have n := off_mem e
  rw [off_out n] at e ⊢
  have n2 : x ∉ T := fun z => n (h x z)
  have := s x o (by rw [off_out n2]; exact e)
  rw [off_out n2] at this; exact this
theorem sm_one {H H' : Hp} {S : List Addr} {b : Addr} (h : b ∈ S) (s : Sm [b] H H') : Sm S H H' := sm_mono (fun x hx => by rw [List.mem_singleton.mp hx]; exact h) s
theorem sm_of {H H' : Hp} {S : List Addr} (s : Same H H') : Sm S H H' := fun x o h => by
  have n := off_mem h
  rw [off_out n] at h ⊢; exact s x o h
theorem sm_put {H : Hp} {S : List Addr} {p : Addr} {o : HO} (h : H p = none) : Sm S H (upd H p o) := sm_of (same_upd h)
theorem sm_wr {H : Hp} {S : List Addr} {p : Addr} {o : HO} (h : p ∈ S) : Sm S H (upd H p o) := fun x u e => by
  have n := off_mem e
  rw [off_out n] at e ⊢
  have ne : x ≠ p := fun z => n (by rw [z]; exact h)
  rw [upd_ne ne]; exact e
theorem at_off {H : Hp} {S : List Addr} {x : Addr} {o : HO} (h : off H S x = some o) : H x = some o := off_sub x o h
theorem Bx.bx {H : Hp} {b : Addr} (B : Bx H b) : Bx H b := B
theorem Bx.ne {H : Hp} {b p : Addr} (B : Bx H b) (h : H p = none) : p ≠ b := fun e => by
  obtain ⟨x, y, z, B⟩ := B
  rw [e, B] at h; cases h
theorem Bx.same {H H' : Hp} {b : Addr} (B : Bx H b) (s : Same H H') : Bx H' b := by
  obtain ⟨x, y, z, B⟩ := B
  exact ⟨x, y, z, s _ _ B⟩
theorem Bx.put {H : Hp} {b p : Addr} {o : HO} (B : Bx H b) (h : H p = none) : Bx (upd H p o) b := B.same (same_upd h)
theorem Bx.wr {H : Hp} {b p : Addr} {o : HO} (B : Bx H b) (h : p ≠ b) : Bx (upd H p o) b := by
  obtain ⟨x, y, z, B⟩ := B
  exact ⟨x, y, z, by rw [upd_ne h.symm]; exact B⟩
/-- all of S are there -/
def Live (S : List Addr) (H : Hp) : Prop := ∀ s ∈ S, H s ≠ none
theorem Live.same {S : List Addr} {H H' : Hp} (L : Live S H) (s : Same H H') : Live S H' := fun x hx e => by
  cases h : H x with
  | none => exact L x hx h
  | some o => rw [s x o h] at e; cases e
theorem Live.box {S : List Addr} {H H' : Hp} {b : Addr} (L : Live S H) (B : Bx H' b) (s : Sm [b] H H') : Live S H' := fun x hx e => by
  by_cases hb : x = b
  · obtain ⟨_, _, _, B⟩ := B
    rw [hb, B] at e; cases e
  · have n : x ∉ [b] := fun z => hb (List.mem_singleton.mp z)
    cases h : H x with
    | none => exact L x hx h
    | some o =>
      have := s x o (by rw [off_out n]; exact h)
      rw [off_out n, e] at this; cases this
theorem Live.put {S : List Addr} {H : Hp} {p : Addr} {o : HO} (L : Live S H) (h : H p = none) : Live S (upd H p o) := L.same (same_upd h)
theorem Live.wr {S : List Addr} {H : Hp} {p : Addr} {o : HO} (L : Live S H) : Live S (upd H p o) := fun x hx e => by
  by_cases hp : x = p
  · rw [hp, upd_same] at e; cases e
  · rw [upd_ne hp] at e; exact L x hx e
theorem Live.one {H : Hp} {b : Addr} (B : Bx H b) : Live [b] H := fun x hx e => by
  obtain ⟨_, _, _, B⟩ := B
  rw [List.mem_singleton.mp hx, B] at e; cases e
theorem Live.out {S : List Addr} {H : Hp} {p : Addr} (L : Live S H) (h : H p = none) : p ∉ S := fun z => L p z h
theorem Live.cons {S : List Addr} {H : Hp} {p : Addr} {o : HO} (L : Live S H) (h : H p = some o) : Live (p :: S) H := fun x hx e => by
  rcases List.mem_cons.mp hx with z | z
  · rw [z, h] at e; cases e
  · exact L x z e
theorem off_new {H : Hp} {S : List Addr} {p : Addr} {o : HO} (L : Live S H) (h : H p = none) : off (upd H p o) S p = some o := by
  rw [off_out (L.out h)]; exact upd_same
theorem off_upd {H : Hp} {S : List Addr} {p : Addr} {o : HO} (h : p ∉ S) : off (upd H p o) S p = some o := by
  rw [off_out h]; exact upd_same
section
variable {K : PySem.W.Frag}
theorem sq_off {H : Hp} {S : List Addr} {a : Addr} {xs : List V} (h : SqL K (off H S) a xs) : SqL K H a xs := off_sub.seq h
theorem sqt_off {H : Hp} {S : List Addr} {a : Addr} {xs : List V} (h : SqT K (off H S) a xs) : SqT K H a xs := same_tup off_sub h
theorem dp_off {H : Hp} {S : List Addr} {v : V} {d : PyData} (h : Dp K (off H S) v d) : Dp K H v d := dp_same off_sub h
/-- a new list is none of S, beside which the rest stands as it was -/
theorem off_fresh {H : Hp} {S : List Addr} {p : Addr} {o : HO} (h : H p = none) : off (upd H p o) (p :: S) = off H S := by
  funext x; unfold off
  by_cases e : x = p
  · subst e
    rw [if_pos List.mem_cons_self, h]
    split <;> rfl
  · have : (x ∈ p :: S) ↔ x ∈ S := by rw [List.mem_cons]; exact ⟨fun z => z.resolve_left e, .inr⟩
    by_cases m : x ∈ S
    · rw [if_pos m, if_pos (this.mpr m)]
    · rw [if_neg m, if_neg fun z => m (this.mp z), upd_ne e]
end
/-! ### what is made of numbers, texts, truths, None, lists and tuples -/
/-- numbers within m, texts of at most 2000 signs -/
def gdAll (m : Nat) : List PyData → Prop
  | [] => True
  | x :: xs => gd m x ∧ gdAll m xs
where gd (m : Nat) : PyData → Prop
  | .none => True
  | .bool _ => True
  | .int i => i.natAbs ≤ m
  | .str x => x.length ≤ 2000 ∧ ∀ c ∈ x.cps.toList, c < 1114112
  | .list xs => gdAll m xs
  | .tuple xs => gdAll m xs
  | .dict _ => False
abbrev gd (m : Nat) (d : PyData) : Prop := gdAll.gd m d
theorem gdAll_iff {m : Nat} : ∀ {ds : List PyData}, gdAll m ds ↔ ∀ d ∈ ds, gd m d
  | [] => ⟨fun _ _ h => (List.not_mem_nil h).elim, fun _ => trivial⟩
  | x :: xs => by
    constructor
    · intro h d hd
      rcases List.mem_cons.mp hd with e | e
      · rw [e]; exact h.1
      · exact gdAll_iff.mp h.2 d e
    · intro h
      exact ⟨h x List.mem_cons_self, gdAll_iff.mpr fun d hd => h d (List.mem_cons_of_mem _ hd)⟩
mutual
theorem gd_mono {m n : Nat} (h : m ≤ n) : ∀ d : PyData, gd m d → gd n d
  | .none, _ => trivial
  | .bool _, _ => trivial
  | .int i, g => Nat.le_trans g h
  | .str _, g => g
  | .list xs, g => gdAll_mono h xs g
  | .tuple xs, g => gdAll_mono h xs g
  | .dict _, g => g.elim
theorem gdAll_mono {m n : Nat} (h : m ≤ n) : ∀ ds : List PyData, gdAll m ds → gdAll n ds
  | [], _ => trivial
  | x :: xs, g => ⟨gd_mono h x g.1, gdAll_mono h xs g.2⟩
end
theorem log_small' {i : Int} (h : i.natAbs ≤ 2000000) : i.natAbs.log2 < 1920 := by
  by_cases z : i.natAbs = 0
  · rw [z]; decide
  · have := (Nat.log2_lt z).mpr (show i.natAbs < 2 ^ 21 from Nat.lt_of_le_of_lt h (by decide))
    omega
mutual
theorem gd_fine {m : Nat} (h : m ≤ 2000000) : ∀ d : PyData, gd m d → fineAll.fine d
  | .none, _ => trivial
  | .bool _, _ => trivial
  | .int i, g => log_small' (Nat.le_trans g h)
  | .str _, g => fun c hc => Nat.lt_trans (g.2 c hc) (by decide)
  | .list xs, g => gdAll_fine h xs g
  | .tuple xs, g => gdAll_fine h xs g
  | .dict _, g => g.elim
theorem gdAll_fine {m : Nat} (h : m ≤ 2000000) : ∀ ds : List PyData, gdAll m ds → fineAll ds
  | [], _ => trivial
  | x :: xs, g => ⟨gd_fine h x g.1, gdAll_fine h xs g.2⟩
end
theorem costAll_app (xs ys : List PyData) : costAll (xs ++ ys) = costAll xs + costAll ys := by
  induction xs with
  | nil => simp [costAll]
  | cons x xs ih => simp only [List.cons_append, costAll, ih]; omega
theorem cost_mem {ds : List PyData} {d : PyData} (h : d ∈ ds) : costAll.cost d + 2 ≤ costAll ds := by
  induction ds with
  | nil => exact (List.not_mem_nil h).elim
  | cons x xs ih =>
    show _ ≤ costAll.cost x + 2 + costAll xs
    rcases List.mem_cons.mp h with e | e
    · rw [e]; omega
    · have := ih e; omega
theorem len_cost : ∀ ds : List PyData, 2 * ds.length ≤ costAll ds
  | [] => Nat.le_refl _
  | x :: xs => by
    have := len_cost xs
    show 2 * (xs.length + 1) ≤ costAll.cost x + 2 + costAll xs
    omega
theorem depthAll_iff {D : Nat} : ∀ {ds : List PyData}, PyData.depthAll ds ≤ D ↔ ∀ d ∈ ds, d.depth ≤ D
  | [] => ⟨fun _ _ h => (List.not_mem_nil h).elim, fun _ => Nat.zero_le _⟩
  | x :: xs => by
    show max x.depth (PyData.depthAll xs) ≤ D ↔ _
    rw [Nat.max_le, depthAll_iff (ds := xs)]
    constructor
    · rintro ⟨h1, h2⟩ d hd
      rcases List.mem_cons.mp hd with e | e
      · rw [e]; exact h1
      · exact h2 d e
    · intro h
      exact ⟨h x List.mem_cons_self, fun d hd => h d (List.mem_cons_of_mem _ hd)⟩
/-- rows of parts: of numbers within m, their cost, how deep and how wide each -/
structure Ths (m C D W : Nat) (ds : List PyData) : Prop where
  g : ∀ d ∈ ds, gd m d
  c : costAll ds ≤ C
  d : ∀ d ∈ ds, d.depth ≤ D
  w : ∀ d ∈ ds, widAll.wid d ≤ W
/-- a thing: of numbers within m, its cost, how deep, how wide -/
structure Th (m C D W : Nat) (dd : PyData) : Prop where
  g : gd m dd
  c : costAll.cost dd ≤ C
  d : dd.depth ≤ D
  w : widAll.wid dd ≤ W
theorem widAll_iff {D : Nat} : ∀ {ds : List PyData}, widAll ds ≤ D ↔ ∀ d ∈ ds, widAll.wid d ≤ D
  | [] => ⟨fun _ _ h => (List.not_mem_nil h).elim, fun _ => Nat.zero_le _⟩
  | x :: xs => by
    show max (widAll.wid x) (widAll xs) ≤ D ↔ _
    rw [Nat.max_le, widAll_iff (ds := xs)]
    constructor
    · rintro ⟨h1, h2⟩ d hd
      rcases List.mem_cons.mp hd with e | e
      · rw [e]; exact h1
      · exact h2 d e
    · intro h
      exact ⟨h x List.mem_cons_self, fun d hd => h d (List.mem_cons_of_mem _ hd)⟩
section
variable {m n C E D F W U : Nat} {d x : PyData} {ds xs ys : List PyData}
theorem Th.mono (h : Th m C D W d) (a : m ≤ n) (b : C ≤ E) (c : D ≤ F) (e : W ≤ U) : Th n E F U d := ⟨gd_mono a d h.g, Nat.le_trans h.c b, Nat.le_trans h.d c, Nat.le_trans h.w e⟩
theorem Ths.mono (h : Ths m C D W ds) (a : m ≤ n) (b : C ≤ E) (c : D ≤ F) (e : W ≤ U) : Ths n E F U ds := ⟨fun x hx => gd_mono a x (h.g x hx), Nat.le_trans h.c b, fun x hx => Nat.le_trans (h.d x hx) c, fun x hx => Nat.le_trans (h.w x hx) e⟩
theorem Ths.app (h : Ths m C D W xs) (k : Ths m E D W ys) : Ths m (C + E) D W (xs ++ ys) :=
  ⟨fun d hd => (List.mem_append.mp hd).elim (h.g d) (k.g d), by rw [costAll_app]; exact Nat.add_le_add h.c k.c, fun d hd => (List.mem_append.mp hd).elim (h.d d) (k.d d), fun d hd => (List.mem_append.mp hd).elim (h.w d) (k.w d)⟩
theorem Ths.nil : Ths m 0 D W [] := ⟨fun _ h => (List.not_mem_nil h).elim, Nat.le_refl _, fun _ h => (List.not_mem_nil h).elim, fun _ h => (List.not_mem_nil h).elim⟩
theorem Ths.one (h : Th m C D W x) : Ths m (C + 2) D W [x] :=
  ⟨fun d hd => by rw [List.mem_singleton.mp hd]; exact h.g, by show costAll.cost x + 2 + 0 ≤ _; have := h.c; omega, fun d hd => by rw [List.mem_singleton.mp hd]; exact h.d, fun d hd => by rw [List.mem_singleton.mp hd]; exact h.w⟩
theorem Ths.mem (h : Ths m C D W ds) (e : d ∈ ds) : Th m C D W d := ⟨h.g d e, by have := cost_mem e; have := h.c; omega, h.d d e, h.w d e⟩
theorem Ths.len (h : Ths m C D W ds) : 2 * ds.length ≤ C := Nat.le_trans (len_cost ds) h.c
theorem Ths.list (h : Ths m C D W ds) (l : ds.length ≤ W) : Th m (C + 3) (D + 1) W (.list ds) :=
  ⟨gdAll_iff.mpr h.g, by show costAll ds + 3 ≤ _; have := h.c; omega, by show PyData.depthAll ds + 1 ≤ _; have := depthAll_iff.mpr h.d; omega, by show max ds.length (widAll ds) ≤ W; exact Nat.max_le.mpr ⟨l, widAll_iff.mpr h.w⟩⟩
theorem Ths.tuple (h : Ths m C D W ds) (l : ds.length ≤ W) : Th m (C + 3) (D + 1) W (.tuple ds) :=
  ⟨gdAll_iff.mpr h.g, by show costAll ds + 3 ≤ _; have := h.c; omega, by show PyData.depthAll ds + 1 ≤ _; have := depthAll_iff.mpr h.d; omega, by show max ds.length (widAll ds) ≤ W; exact Nat.max_le.mpr ⟨l, widAll_iff.mpr h.w⟩⟩
theorem Th.ofList (h : Th m C D W (.list ds)) : Ths m (C - 3) (D - 1) W ds ∧ ds.length ≤ W ∧ 3 ≤ C ∧ 1 ≤ D := by
  have h1 : costAll ds + 3 ≤ C := h.c
  have h2 : PyData.depthAll ds + 1 ≤ D := h.d
  have h3 : max ds.length (widAll ds) ≤ W := h.w
  exact ⟨⟨gdAll_iff.mp h.g, by omega, depthAll_iff.mp (by omega), widAll_iff.mp (Nat.le_trans (Nat.le_max_right ..) h3)⟩, Nat.le_trans (Nat.le_max_left ..) h3, by omega, by omega⟩
theorem Th.ofTuple (h : Th m C D W (.tuple ds)) : Ths m (C - 3) (D - 1) W ds ∧ ds.length ≤ W ∧ 3 ≤ C ∧ 1 ≤ D := by
  have h1 : costAll ds + 3 ≤ C := h.c
  have h2 : PyData.depthAll ds + 1 ≤ D := h.d
  have h3 : max ds.length (widAll ds) ≤ W := h.w
  exact ⟨⟨gdAll_iff.mp h.g, by omega, depthAll_iff.mp (by omega), widAll_iff.mp (Nat.le_trans (Nat.le_max_right ..) h3)⟩, Nat.le_trans (Nat.le_max_left ..) h3, by omega, by omega⟩
theorem costAll_take (n : Nat) (ds : List PyData) : costAll (ds.take n) ≤ costAll ds := by
  have := costAll_app (ds.take n) (ds.drop n)
  rw [List.take_append_drop] at this; omega
theorem costAll_drop (n : Nat) (ds : List PyData) : costAll (ds.drop n) ≤ costAll ds := by
  have := costAll_app (ds.take n) (ds.drop n)
  rw [List.take_append_drop] at this; omega
theorem costAll_rev : ∀ ds : List PyData, costAll ds.reverse = costAll ds
  | [] => rfl
  | x :: xs => by rw [List.reverse_cons, costAll_app, costAll_rev xs]; show _ + (costAll.cost x + 2 + 0) = costAll.cost x + 2 + costAll xs; omega
theorem Ths.sub (h : Ths m C D W ds) (s : ∀ x ∈ xs, x ∈ ds) (c : costAll xs ≤ C) : Ths m C D W xs := ⟨fun d hd => h.g d (s d hd), c, fun d hd => h.d d (s d hd), fun d hd => h.w d (s d hd)⟩
theorem Ths.take (h : Ths m C D W ds) (n : Nat) : Ths m C D W (ds.take n) := h.sub (fun d hd => List.mem_of_mem_take hd) (Nat.le_trans (costAll_take n ds) h.c)
theorem Ths.drop (h : Ths m C D W ds) (n : Nat) : Ths m C D W (ds.drop n) := h.sub (fun d hd => List.mem_of_mem_drop hd) (Nat.le_trans (costAll_drop n ds) h.c)
theorem Ths.rev (h : Ths m C D W ds) : Ths m C D W ds.reverse := h.sub (fun d hd => List.mem_reverse.mp hd) (by rw [costAll_rev]; exact h.c)
theorem costAll_set : ∀ (ds : List PyData) (i : Nat) (x : PyData), costAll (ds.set i x) ≤ costAll ds + (costAll.cost x + 2)
  | [], _, _ => Nat.zero_le _
  | y :: ys, 0, x => by show costAll.cost x + 2 + costAll ys ≤ costAll.cost y + 2 + costAll ys + _; omega
  | y :: ys, i + 1, x => by
    have := costAll_set ys i x
    show costAll.cost y + 2 + costAll (ys.set i x) ≤ costAll.cost y + 2 + costAll ys + _
    omega
theorem Ths.set {i : Nat} (h : Ths m C D W ds) (k : Th m E D W x) : Ths m (C + E + 2) D W (ds.set i x) :=
  ⟨fun d hd => (List.mem_or_eq_of_mem_set hd).elim (h.g d) fun e => by rw [e]; exact k.g, Nat.le_trans (costAll_set ds i x) (by have := h.c; have := k.c; omega), fun d hd => (List.mem_or_eq_of_mem_set hd).elim (h.d d) fun e => by rw [e]; exact k.d, fun d hd => (List.mem_or_eq_of_mem_set hd).elim (h.w d) fun e => by rw [e]; exact k.w⟩
end
section
variable {K : PySem.W.Frag} {H : Hp}
theorem dpAll_app' : ∀ {xs ys : List V} {ds es : List PyData}, DpAll K H xs ds → DpAll K H ys es → DpAll K H (xs ++ ys) (ds ++ es)
  | _, _, _, _, .nil, h => h
  | _, _, _, _, .cons h t, h2 => .cons h (dpAll_app' t h2)
theorem dpAll_take : ∀ {xs : List V} {ds : List PyData} (n : Nat), DpAll K H xs ds → DpAll K H (xs.take n) (ds.take n)
  | _, _, 0, _ => .nil
  | _, _, _ + 1, .nil => .nil
  | _, _, n + 1, .cons h t => .cons h (dpAll_take n t)
theorem dpAll_drop : ∀ {xs : List V} {ds : List PyData} (n : Nat), DpAll K H xs ds → DpAll K H (xs.drop n) (ds.drop n)
  | _, _, 0, h => h
  | _, _, _ + 1, .nil => .nil
  | _, _, n + 1, .cons _ t => dpAll_drop n t
theorem dpAll_rev : ∀ {xs : List V} {ds : List PyData}, DpAll K H xs ds → DpAll K H xs.reverse ds.reverse
  | _, _, .nil => .nil
  | _, _, .cons h t => by rw [List.reverse_cons, List.reverse_cons]; exact dpAll_app' (dpAll_rev t) (.cons h .nil)
theorem dpAll_set : ∀ {xs : List V} {ds : List PyData} {i : Nat} {v : V} {d : PyData}, DpAll K H xs ds → Dp K H v d → DpAll K H (xs.set i v) (ds.set i d)
  | _, _, _, _, _, .nil, _ => .nil
  | _, _, 0, _, _, .cons _ t, k => .cons k t
  | _, _, _ + 1, _, _, .cons h t, k => .cons h (dpAll_set t k)
/-- a slice of a row of parts -/
theorem dp_cut {xs : List V} {ds : List PyData} {lo hi : Option Int} {m C D W : Nat} (h : DpAll K H xs ds) (t : Ths m C D W ds) : ∃ es, DpAll K H (cutV xs lo hi) es ∧ Ths m C D W es ∧ es.length ≤ ds.length := by
  unfold cutV
  exact ⟨_, dpAll_take _ (dpAll_drop _ h), (t.drop _).take _, by rw [List.length_take, List.length_drop]; omega⟩
theorem dp_lst' {v : V} {ds : List PyData} (h : Dp K H v (.list ds)) : ∃ a xs, v = .ref a ∧ SqL K H a xs ∧ DpAll K H xs ds := by
  cases h with
  | lst h a => exact ⟨_, _, rfl, h, a⟩
end
end Pot
namespace Pot
open PySem PySem.Spec PyProof.Rows L2
theorem sm_at {H H' : Hp} {S : List Addr} {x : Addr} {o : HO} (s : Sm S H H') (n : x ∉ S) (h : H x = some o) : H' x = some o := by
  have := s x o (by rw [off_out n]; exact h)
  rw [off_out n] at this; exact this
theorem sm1_at {H H' : Hp} {b x : Addr} {o : HO} (s : Sm [b] H H') (n : x ≠ b) (h : H x = some o) : H' x = some o := sm_at s (fun z => n (List.mem_singleton.mp z)) h
theorem smp {H H' : Hp} {S : List Addr} {p : Addr} {o : HO} (s : Sm S H H') (h : H p = none) : Sm S H (upd H' p o) := fun x u e => by
  have n := off_mem e
  have ne : x ≠ p := fun z => by
    rw [off_out n, z, h] at e; cases e
  have := s x u e
  rw [off_out n] at this ⊢
  rw [upd_ne ne]; exact this
theorem sm_free {H H' : Hp} {b l : Addr} (s : Sm [b] H H') (B : Bx H' b) (h : H' l = none) : H l = none := by
  have nb := B.ne h
  have n : l ∉ [b] := fun z => nb (List.mem_singleton.mp z)
  cases e : H l with
  | none => rfl
  | some o => rw [sm_at s n e] at h; cases h
theorem cut_map {α : Type} (f : α → V) (ns : List α) (lo hi : Option Int) : cutV (ns.map f) lo hi = ((ns.drop (HT.sIx ns.length 0 lo)).take (HT.sIx ns.length ns.length hi - HT.sIx ns.length 0 lo)).map f := by
  unfold cutV
  rw [List.length_map, List.map_take, List.map_drop]
theorem cut_head {xs : List V} {k : Nat} : cutV xs none (some (k : Int)) = xs.take k := by
  unfold cutV
  rw [HT.sIx_none, HT.sIx_nat, List.drop_zero, Nat.sub_zero]
  by_cases h : k ≤ xs.length
  · rw [Nat.min_eq_left h]
  · rw [Nat.min_eq_right (by omega), List.take_length, List.take_of_length_le (by omega)]
theorem cut_tail {xs : List V} {k : Nat} : cutV xs (some (k : Int)) none = xs.drop k := by
  unfold cutV
  rw [HT.sIx_none, HT.sIx_nat]
  by_cases h : k ≤ xs.length
  · rw [Nat.min_eq_left h, List.take_of_length_le (by rw [List.length_drop]; exact Nat.le_refl _)]
  · rw [Nat.min_eq_right (by omega), Nat.sub_self, List.take_zero, List.drop_of_length_le (by omega)]
end Pot
namespace Pot
open PySem PySem.Spec PyProof.Rows L2
section
variable {K : PySem.W.Frag} {H : Hp} {t : Addr} {d : PyData} {ds : List PyData}
theorem seq_dp {x : V} (h : Dp K H x d) (e : d = .list ds ∨ d = .tuple ds) : ∃ t zs, x = .ref t ∧ (SqL K H t zs ∨ SqT K H t zs) ∧ DpAll K H zs ds := by
  rcases e with rfl | rfl
  · cases h with
    | lst h a => exact ⟨_, _, rfl, .inl h, a⟩
  · cases h with
    | tup h a => exact ⟨_, _, rfl, .inr h, a⟩
theorem len_dp (h : Dp K H (.ref t) d) (e : d = .list ds ∨ d = .tuple ds) : LenV K (.ref t) H ds.length := by
  rcases e with rfl | rfl
  · cases h with
    | lst h a => exact .inl ⟨_, h, (dpAll_len a).symm⟩
  · cases h with
    | tup h a => exact .inr ⟨_, h, (dpAll_len a).symm⟩
theorem Th.parts {m C D W : Nat} (h : Th m C D W d) (e : d = .list ds ∨ d = .tuple ds) : Ths m (C - 3) (D - 1) W ds ∧ ds.length ≤ W ∧ 3 ≤ C ∧ 1 ≤ D := by
  rcases e with rfl | rfl
  · exact h.ofList
  · exact h.ofTuple
end
theorem sm_in {H H' : Hp} {S : List Addr} {x : Addr} {o : HO} (s : Sm S H H') (h : off H S x = some o) : off H' S x = some o := s x o h
end Pot
namespace Pot
open PySem PySem.Spec PyProof.Rows L2
theorem costAll_set_eq : ∀ {ds : List PyData} {i : Nat} {x y : PyData}, ds[i]? = some y → costAll (ds.set i x) + costAll.cost y = costAll ds + costAll.cost x
  | [], _, _, _, h => by simp at h
  | z :: zs, 0, x, y, h => by
    have e : z = y := by simpa using h
    subst e
    show costAll.cost x + 2 + costAll zs + costAll.cost z = costAll.cost z + 2 + costAll zs + costAll.cost x
    omega
  | z :: zs, i + 1, x, y, h => by
    have := costAll_set_eq (ds := zs) (i := i) (x := x) (y := y) (by simpa using h)
    show costAll.cost z + 2 + costAll (zs.set i x) + costAll.cost y = costAll.cost z + 2 + costAll zs + costAll.cost x
    omega
theorem codes_ofString (s : String) : ∀ c ∈ (Str.ofString s).cps.toList, c < 1114112 := by
  intro c hc
  rw [Str.ofString_eq_toList] at hc
  have : c ∈ s.toList.map Char.toNat := by simpa using hc
  obtain ⟨ch, _, rfl⟩ := List.mem_map.mp this
  have v := ch.valid
  have e : ch.toNat = ch.val.toNat := rfl
  rcases v with v | ⟨_, v⟩
  · have : ch.val.toNat < 0xD800 := v
    omega
  · have : ch.val.toNat < 0x110000 := v
    omega
theorem th_text {i : Int} (h : i.natAbs ≤ 2000000) {m : Nat} : Th m 19212 0 0 (.str (toString i)) := by
  have l : (Str.ofString (toString i)).length ≤ 1921 := PyProof.Rows.int_text_len_1921 (log_small' h)
  exact ⟨⟨by omega, codes_ofString _⟩, by show 10 * (Str.ofString (toString i)).length + 2 ≤ 19212; omega, Nat.le_refl _, Nat.le_refl _⟩
end Pot

namespace Pot
open PySem PySem.Spec PyProof.Rows L2
/-! ### kinds of data -/
def tyD : PyData → String
  | .none => "NoneType"
  | .bool _ => "bool"
  | .int _ => "int"
  | .str _ => "str"
  | .list _ => "list"
  | .tuple _ => "tuple"
  | .dict _ => "dict"
def isIntD : PyData → Bool
  | .int _ => true
  | .bool _ => true
  | _ => false
def isBoolD : PyData → Bool
  | .bool _ => true
  | _ => false
def isStrD : PyData → Bool
  | .str _ => true
  | _ => false
def isListD : PyData → Bool
  | .list _ => true
  | _ => false
def isTupD : PyData → Bool
  | .tuple _ => true
  | _ => false
section
variable {K : PySem.W.Frag} {H : Hp} {x : V} {d : PyData} {Q : VK}
theorem tyx_dp (h : Dp K H x d) : TyX K H x (.type (tyD d)) := by
  cases h with
  | non => exact .base .non
  | bl b => exact .base (.bl b)
  | int i => exact .base (.int i)
  | str z => exact .base (.str z)
  | lst h _ => exact tyx_list h
  | tup h _ => exact tyx_tup h
theorem kit_int (h : Dp K H x d) : PySem.W.kitOne K (.type (tyD d)) (.type "int") = some (isIntD d) := by
  cases h with
  | non => exact kit_ty (show kitB "NoneType" "int" = some false by decide +kernel)
  | bl _ => exact kit_ty (show kitB "bool" "int" = some true by decide +kernel)
  | int _ => exact kit_ty (show kitB "int" "int" = some true by decide +kernel)
  | str _ => exact kit_ty (show kitB "str" "int" = some false by decide +kernel)
  | lst _ _ => exact kit_ty (show kitB "list" "int" = some false by decide +kernel)
  | tup _ _ => exact kit_ty (show kitB "tuple" "int" = some false by decide +kernel)
theorem kit_bool (h : Dp K H x d) : PySem.W.kitOne K (.type (tyD d)) (.type "bool") = some (isBoolD d) := by
  cases h with
  | non => exact kit_ty (show kitB "NoneType" "bool" = some false by decide +kernel)
  | bl _ => exact kit_ty (show kitB "bool" "bool" = some true by decide +kernel)
  | int _ => exact kit_ty (show kitB "int" "bool" = some false by decide +kernel)
  | str _ => exact kit_ty (show kitB "str" "bool" = some false by decide +kernel)
  | lst _ _ => exact kit_ty (show kitB "list" "bool" = some false by decide +kernel)
  | tup _ _ => exact kit_ty (show kitB "tuple" "bool" = some false by decide +kernel)
theorem kit_str (h : Dp K H x d) : PySem.W.kitOne K (.type (tyD d)) (.type "str") = some (isStrD d) := by
  cases h with
  | non => exact kit_ty (show kitB "NoneType" "str" = some false by decide +kernel)
  | bl _ => exact kit_ty (show kitB "bool" "str" = some false by decide +kernel)
  | int _ => exact kit_ty (show kitB "int" "str" = some false by decide +kernel)
  | str _ => exact kit_ty (show kitB "str" "str" = some true by decide +kernel)
  | lst _ _ => exact kit_ty (show kitB "list" "str" = some false by decide +kernel)
  | tup _ _ => exact kit_ty (show kitB "tuple" "str" = some false by decide +kernel)
theorem kit_list (h : Dp K H x d) : PySem.W.kitOne K (.type (tyD d)) (.type "list") = some (isListD d) := by
  cases h with
  | non => exact kit_ty (show kitB "NoneType" "list" = some false by decide +kernel)
  | bl _ => exact kit_ty (show kitB "bool" "list" = some false by decide +kernel)
  | int _ => exact kit_ty (show kitB "int" "list" = some false by decide +kernel)
  | str _ => exact kit_ty (show kitB "str" "list" = some false by decide +kernel)
  | lst _ _ => exact kit_ty (show kitB "list" "list" = some true by decide +kernel)
  | tup _ _ => exact kit_ty (show kitB "tuple" "list" = some false by decide +kernel)
theorem kit_tup (h : Dp K H x d) : PySem.W.kitOne K (.type (tyD d)) (.type "tuple") = some (isTupD d) := by
  cases h with
  | non => exact kit_ty (show kitB "NoneType" "tuple" = some false by decide +kernel)
  | bl _ => exact kit_ty (show kitB "bool" "tuple" = some false by decide +kernel)
  | int _ => exact kit_ty (show kitB "int" "tuple" = some false by decide +kernel)
  | str _ => exact kit_ty (show kitB "str" "tuple" = some false by decide +kernel)
  | lst _ _ => exact kit_ty (show kitB "list" "tuple" = some false by decide +kernel)
  | tup _ _ => exact kit_ty (show kitB "tuple" "tuple" = some true by decide +kernel)
theorem kit_lt (h : Dp K H x d) : PySem.W.kitAny K (.type (tyD d)) [.type "list", .type "tuple"] = some (isListD d || isTupD d) := by
  cases h <;> rfl
end
/-! ### numbers within bounds -/
def numD (lo hi : Int) : PyData → Bool
  | .int i => decide (lo ≤ i) && decide (i ≤ hi)
  | _ => false
def toI : PyData → Int
  | .int i => i
  | _ => 0
theorem numD_int {lo hi : Int} : ∀ {d : PyData}, numD lo hi d = true → d = .int (toI d) ∧ lo ≤ toI d ∧ toI d ≤ hi
  | .int i, h => by
    obtain ⟨h1, h2⟩ := Bool.and_eq_true_iff.mp (show (decide (lo ≤ i) && decide (i ≤ hi)) = true from h)
    exact ⟨rfl, of_decide_eq_true h1, of_decide_eq_true h2⟩
/-- rising -/
def risI : List Int → Bool
  | a :: b :: r => decide (a < b) && risI (b :: r)
  | _ => true
def risD (lo hi : Int) : PyData → Bool
  | .list ds => ds.all (numD lo hi) && risI (ds.map toI)
  | _ => false
theorem risI_pair : ∀ {ns : List Int}, risI ns = true ↔ ns.Pairwise (· < ·)
  | [] => by simp [risI]
  | [a] => by simp [risI]
  | a :: b :: r => by
    have ih := risI_pair (ns := b :: r)
    show (decide (a < b) && risI (b :: r)) = true ↔ _
    rw [Bool.and_eq_true_iff, decide_eq_true_eq, ih]
    constructor
    · rintro ⟨h1, h2⟩
      refine List.pairwise_cons.mpr ⟨fun x hx => ?_, h2⟩
      rcases List.mem_cons.mp hx with e | e
      · rw [e]; exact h1
      · exact Int.lt_trans h1 ((List.pairwise_cons.mp h2).1 x e)
    · intro h
      obtain ⟨h1, h2⟩ := List.pairwise_cons.mp h
      exact ⟨h1 b List.mem_cons_self, h2⟩
theorem nums_of {lo hi : Int} {ds : List PyData} (h : ds.all (numD lo hi) = true) : ds = (ds.map toI).map PyData.int ∧ ∀ k ∈ ds.map toI, lo ≤ k ∧ k ≤ hi := by
  rw [List.all_eq_true] at h
  constructor
  · rw [List.map_map]
    conv => lhs; rw [← List.map_id ds]
    exact List.map_congr_left fun d hd => (numD_int (h d hd)).1
  · intro k hk
    obtain ⟨d, hd, rfl⟩ := List.mem_map.mp hk
    exact (numD_int (h d hd)).2
section
variable {K : PySem.W.Frag} {H : Hp}
theorem dp_intsV : ∀ {xs : List V} {ns : List Int}, DpAll K H xs (ns.map PyData.int) → xs = ns.map V.int
  | [], [], _ => rfl
  | [], _ :: _, h => by cases h
  | _ :: _, [], h => by cases h
  | x :: xs, n :: ns, h => by
    cases h with
    | cons h t => cases h; rw [dp_intsV t]; rfl
end
/-- of a row that rises just the same: a row in which all stand in order, none twice -/
theorem sorted_uniq : ∀ {xs ys : List Int}, xs.Pairwise (· < ·) → ys.Pairwise (· < ·) → (∀ k, k ∈ xs ↔ k ∈ ys) → xs = ys
  | [], [], _, _, _ => rfl
  | [], y :: ys, _, _, h => by have := (h y).mpr List.mem_cons_self; simp at this
  | x :: xs, [], _, _, h => by have := (h x).mp List.mem_cons_self; simp at this
  | x :: xs, y :: ys, h1, h2, h => by
    rw [List.pairwise_cons] at h1 h2
    have e : x = y := by
      rcases List.mem_cons.mp ((h x).mp List.mem_cons_self) with e | e
      · exact e
      · rcases List.mem_cons.mp ((h y).mpr List.mem_cons_self) with e2 | e2
        · exact e2.symm
        · have := h2.1 x e; have := h1.1 y e2; omega
    subst e
    have : xs = ys := sorted_uniq h1.2 h2.2 fun k => by
      constructor
      · intro hk
        rcases List.mem_cons.mp ((h k).mp (List.mem_cons_of_mem _ hk)) with e | e
        · have := h1.1 k hk; omega
        · exact e
      · intro hk
        rcases List.mem_cons.mp ((h k).mpr (List.mem_cons_of_mem _ hk)) with e | e
        · have := h2.1 k hk; omega
        · exact e
    rw [this]
theorem eqv_ints : ∀ xs ys : List Int, PyData.eqv (.list (xs.map PyData.int)) (.list (ys.map PyData.int)) = decide (xs = ys)
  | [], [] => rfl
  | [], _ :: _ => rfl
  | _ :: _, [] => rfl
  | x :: xs, y :: ys => by
    have ih := eqv_ints xs ys
    show (PyData.eqv (.int x) (.int y) && PyData.eqvAll (xs.map PyData.int) (ys.map PyData.int)) = _
    rw [show PyData.eqvAll (xs.map PyData.int) (ys.map PyData.int) = decide (xs = ys) from ih]
    show ((x == y) && _) = _
    by_cases h : x = y
    · subst h; simp
    · simp [h]
/-- thing == sorted(set(thing)): just where it rises -/
theorem eq_sorted {ns zs : List Int} (h : zs.Pairwise (· < ·)) (m : ∀ k, k ∈ zs ↔ k ∈ ns) : decide (ns = zs) = risI ns := by
  by_cases e : ns = zs
  · rw [decide_eq_true e, e]; exact (risI_pair.mpr h).symm
  · rw [decide_eq_false e]
    cases hr : risI ns with
    | false => rfl
    | true => exact absurd (sorted_uniq (risI_pair.mp hr) h fun k => (m k).symm) e
theorem nodup_60 {ks : List Int} (h : ks.Nodup) (b : ∀ k ∈ ks, 0 ≤ k ∧ k ≤ 60) : ks.length < 64 := by
  have := nodup_le (l := (List.range 61).map fun (i : Nat) => (i : Int)) h fun k hk => by
    obtain ⟨h0, h1⟩ := b k hk
    exact List.mem_map.mpr ⟨k.toNat, List.mem_range.mpr (by omega), by omega⟩
  rw [List.length_map, List.length_range] at this
  omega
end Pot
namespace Pot
open PySem PySem.Spec PyProof.Rows L2
/-! ### a comprehension that changes nothing that stood: out i is what is told up to turn i -/
def PvL (H1 : Hp) (D : Addr) (out : Nat → List V) (i : Nat) (H2 : Hp) : Prop := Same H1 H2 ∧ H2 D = some (.lst (out i))
section
variable {H1 H2 H3 : Hp} {D : Addr} {out : Nat → List V} {i : Nat} {y : V}
theorem pv_start (nD : H1 D = none) (e : out 0 = []) : PvL H1 D out 0 (upd H1 D (.lst [])) := ⟨same_upd nD, by rw [e]; exact upd_same⟩
theorem pv_put (nD : H1 D = none) (p : PvL H1 D out i H2) (s : Same H2 H3) (e : out (i + 1) = out i ++ [y]) (l : (out i).length < sizeLine) : ∃ acc, H3 D = some (.lst acc) ∧ acc.length < sizeLine ∧ PvL H1 D out (i + 1) (upd H3 D (.lst (acc ++ [y]))) :=
  ⟨out i, s _ _ p.2, l, same_put (p.1.trans s) nD, by rw [e]; exact upd_same⟩
theorem pv_skip (p : PvL H1 D out i H2) (s : Same H2 H3) (e : out (i + 1) = out i) : PvL H1 D out (i + 1) H3 := ⟨p.1.trans s, by rw [e]; exact s _ _ p.2⟩
end
theorem take_map {α : Type} (f : α → V) {l : List α} {i : Nat} {x : α} (h : l[i]? = some x) : (l.take (i + 1)).map f = (l.take i).map f ++ [f x] := by
  rw [List.take_add_one, h, List.map_append]; rfl
theorem take_len_lt {α : Type} {f : α → V} {l : List α} {i : Nat} (h : i < 100000) : ((l.take i).map f).length < sizeLine := by
  rw [List.length_map, List.length_take, sizeLine_eq]; omega
theorem take_len_le {α : Type} {f : α → V} {l : List α} {i : Nat} (h : l.length < 100000) : ((l.take i).map f).length < sizeLine := by
  rw [List.length_map, List.length_take, sizeLine_eq]; omega
/-- each below the next -/
def rb : List Int → List Bool
  | a :: b :: r => decide (a < b) :: rb (b :: r)
  | _ => []
theorem rb_all : ∀ ns : List Int, (rb ns).all id = risI ns
  | [] => rfl
  | [_] => rfl
  | a :: b :: r => by show (decide (a < b) && (rb (b :: r)).all id) = _; rw [rb_all (b :: r)]; rfl
theorem rb_len : ∀ ns : List Int, (rb ns).length = ns.length - 1
  | [] => rfl
  | [_] => rfl
  | a :: b :: r => by show (rb (b :: r)).length + 1 = _; rw [rb_len (b :: r)]; simp
theorem rb_at : ∀ {ns : List Int} {i : Nat} {x y : Int}, ns[i]? = some x → ns[i + 1]? = some y → (rb ns)[i]? = some (decide (x < y))
  | [], _, _, _, h, _ => by simp at h
  | [_], i, _, _, _, h => by simp at h
  | a :: b :: r, 0, x, y, h, k => by
    have e1 : a = x := by simpa using h
    have e2 : b = y := by simpa using k
    subst e1 e2; rfl
  | a :: b :: r, i + 1, x, y, h, k => rb_at (ns := b :: r) (i := i) (by simpa using h) (by simpa using k)
/-- what is told of each of some data -/
theorem all_map {ds : List PyData} {f : PyData → Bool} : (ds.map f).all id = ds.all f := by
  rw [List.all_map]; rfl
end Pot
namespace Pot
open PySem PySem.Spec PyProof.Rows L2
theorem pv_end {H1 H2 : Hp} {D : Addr} {out : Nat → List V} {n : Nat} {zs : List V} (p : PvL H1 D out n H2) (e : out n = zs) : Same H1 H2 ∧ H2 D = some (.lst zs) := ⟨p.1, by rw [← e]; exact p.2⟩
theorem take_all {α : Type} {f : α → V} {l : List α} {n : Nat} (h : l.length ≤ n) : (l.take n).map f = l.map f := by rw [List.take_of_length_le h]
end Pot

namespace Pot
open PySem PySem.Spec PyProof.Rows L2
/-! ### palettes as data -/
abbrev Col := Str × Int × Int × Int
abbrev Wsh := Str × Str × Option Int
def colD (c : Col) : PyData := .tuple [.str c.1, .int c.2.1, .int c.2.2.1, .int c.2.2.2]
def optD : Option Int → PyData
  | none => .none
  | some i => .int i
def washD (r : Wsh) : PyData := .tuple [.str r.1, .str r.2.1, optD r.2.2]
def palD (cs : List Col) (ws : List Wsh) : PyData := .tuple [.tuple (cs.map colD), .tuple (ws.map washD)]
def optV : Option Int → V
  | none => .non
  | some i => .int i
def namV : Option Str → V
  | none => .non
  | some z => .str z
/-- the washing between two: the first row that tells -/
def washF (ws : List Wsh) (a : Option Str) (b : Str) : Option Int := match ws with
  | [] => some 0
  | r :: ws => if some r.1 = a ∧ r.2.1 = b then r.2.2 else washF ws a b
/-- the washing of a row -/
def sumF (ws : List Wsh) : Option Str → List Str → Int → Option Int
  | _, [], h => some h
  | a, b :: r, h => match washF ws a b with
    | none => none
    | some k => sumF ws (some b) r (h + k)
section
variable {K : PySem.W.Frag} {H : Hp}
theorem dp_tup {v : V} {ds : List PyData} (h : Dp K H v (.tuple ds)) : ∃ a xs, v = .ref a ∧ SqT K H a xs ∧ DpAll K H xs ds := by
  cases h with
  | tup h a => exact ⟨_, _, rfl, h, a⟩
theorem dp_lst {v : V} {ds : List PyData} (h : Dp K H v (.list ds)) : ∃ a xs, v = .ref a ∧ SqL K H a xs ∧ DpAll K H xs ds := by
  cases h with
  | lst h a => exact ⟨_, _, rfl, h, a⟩
theorem dp_str {v : V} {z : Str} (h : Dp K H v (.str z)) : v = .str z := by cases h; rfl
theorem dp_int {v : V} {z : Int} (h : Dp K H v (.int z)) : v = .int z := by cases h; rfl
theorem dp_opt {v : V} : ∀ {z : Option Int}, Dp K H v (optD z) → v = optV z
  | none, h => by cases h; rfl
  | some i, h => by cases h; rfl
theorem opt_dp : ∀ (z : Option Int), Dp K H (optV z) (optD z)
  | none => .non
  | some i => .int i
theorem dp_two {xs : List V} {d e : PyData} (h : DpAll K H xs [d, e]) : ∃ x y, xs = [x, y] ∧ Dp K H x d ∧ Dp K H y e := by
  cases h with
  | cons h1 t => cases t with
    | cons h2 t => cases t; exact ⟨_, _, rfl, h1, h2⟩
theorem dp_three {xs : List V} {d e f : PyData} (h : DpAll K H xs [d, e, f]) : ∃ x y z, xs = [x, y, z] ∧ Dp K H x d ∧ Dp K H y e ∧ Dp K H z f := by
  cases h with
  | cons h1 t => obtain ⟨y, z, rfl, h2, h3⟩ := dp_two t; exact ⟨_, _, _, rfl, h1, h2, h3⟩
theorem dp_four {xs : List V} {d e f g : PyData} (h : DpAll K H xs [d, e, f, g]) : ∃ x y z u, xs = [x, y, z, u] ∧ Dp K H x d ∧ Dp K H y e ∧ Dp K H z f ∧ Dp K H u g := by
  cases h with
  | cons h1 t => obtain ⟨y, z, u, rfl, h2, h3, h4⟩ := dp_three t; exact ⟨_, _, _, _, rfl, h1, h2, h3, h4⟩
/-- a colour's tuple -/
theorem col_dp {v : V} {c : Col} (h : Dp K H v (colD c)) : ∃ a, v = .ref a ∧ SqT K H a [.str c.1, .int c.2.1, .int c.2.2.1, .int c.2.2.2] := by
  obtain ⟨a, xs, rfl, hs, ha⟩ := dp_tup h
  obtain ⟨x, y, z, u, rfl, h1, h2, h3, h4⟩ := dp_four ha
  rw [dp_str h1, dp_int h2, dp_int h3, dp_int h4] at hs
  exact ⟨a, rfl, hs⟩
theorem wash_dp {v : V} {r : Wsh} (h : Dp K H v (washD r)) : ∃ a, v = .ref a ∧ SqT K H a [.str r.1, .str r.2.1, optV r.2.2] := by
  obtain ⟨a, xs, rfl, hs, ha⟩ := dp_tup h
  obtain ⟨x, y, z, rfl, h1, h2, h3⟩ := dp_three ha
  rw [dp_str h1, dp_str h2, dp_opt h3] at hs
  exact ⟨a, rfl, hs⟩
/-- a palette in the heap -/
theorem pal_dp {v : V} {cs : List Col} {ws : List Wsh} (h : Dp K H v (palD cs ws)) :
    ∃ p c w xs ys, v = .ref p ∧ SqT K H p [.ref c, .ref w] ∧ SqT K H c xs ∧ DpAll K H xs (cs.map colD) ∧ SqT K H w ys ∧ DpAll K H ys (ws.map washD) := by
  obtain ⟨p, zs, rfl, hp, hz⟩ := dp_tup h
  obtain ⟨x, y, rfl, h1, h2⟩ := dp_two hz
  obtain ⟨c, xs, rfl, hc, hx⟩ := dp_tup h1
  obtain ⟨w, ys, rfl, hw, hy⟩ := dp_tup h2
  exact ⟨p, c, w, xs, ys, rfl, hp, hc, hx, hw, hy⟩
theorem dpAll_map_at {α : Type} {f : α → PyData} {xs : List V} {l : List α} {i : Nat} {x : V} (h : DpAll K H xs (l.map f)) (e : xs[i]? = some x) : ∃ y, l[i]? = some y ∧ Dp K H x (f y) := by
  obtain ⟨d, g, p⟩ := dpAll_at h e
  rw [List.getElem?_map] at g
  obtain ⟨y, hy, rfl⟩ := Option.map_eq_some_iff.mp g
  exact ⟨y, hy, p⟩
theorem dpAll_map_len {α : Type} {f : α → PyData} {xs : List V} {l : List α} (h : DpAll K H xs (l.map f)) : xs.length = l.length := by
  rw [dpAll_len h, List.length_map]
end
theorem decS {a b : Str} : decide (V.str a = V.str b) = decide (a = b) := by
  by_cases h : a = b
  · subst h; rw [decide_eq_true rfl, decide_eq_true rfl]
  · rw [decide_eq_false h, decide_eq_false fun z => h (V.str.inj z)]
/-- behind rows that don't tell -/
theorem washF_skip {a : Option Str} {b : Str} : ∀ {ws : List Wsh} {i : Nat}, (∀ j r, j < i → ws[j]? = some r → ¬ (some r.1 = a ∧ r.2.1 = b)) → washF ws a b = washF (ws.drop i) a b
  | ws, 0, _ => rfl
  | [], i + 1, _ => rfl
  | r :: ws, i + 1, h => by
    show (if some r.1 = a ∧ r.2.1 = b then r.2.2 else washF ws a b) = washF (ws.drop i) a b
    rw [if_neg (h 0 r (Nat.succ_pos _) rfl)]
    exact washF_skip (a := a) (b := b) (ws := ws) (i := i) fun j q hj e => h (j + 1) q (Nat.succ_lt_succ hj) e
theorem washF_at {a : Option Str} {b : Str} {ws : List Wsh} {i : Nat} {r : Wsh} (h : ∀ j r, j < i → ws[j]? = some r → ¬ (some r.1 = a ∧ r.2.1 = b)) (e : ws[i]? = some r) (hr : some r.1 = a ∧ r.2.1 = b) : washF ws a b = r.2.2 := by
  rw [washF_skip h, List.drop_eq_getElem_cons (List.getElem?_eq_some_iff.mp e).1, (List.getElem?_eq_some_iff.mp e).2]
  unfold washF
  rw [if_pos hr]
theorem washF_none {a : Option Str} {b : Str} {ws : List Wsh} (h : ∀ j r, j < ws.length → ws[j]? = some r → ¬ (some r.1 = a ∧ r.2.1 = b)) : washF ws a b = some 0 := by
  rw [washF_skip h, List.drop_length]
  rfl
/-! ### data without lists stays while the law draws -/
def noLAll : List PyData → Prop
  | [] => True
  | x :: xs => noL x ∧ noLAll xs
where noL : PyData → Prop
  | .list _ => False
  | .dict _ => False
  | .tuple xs => noLAll xs
  | _ => True
section
variable {K : PySem.W.Frag}
theorem kp_tup {d c : Addr} {H H' : Hp} {n : Nat} {a : Addr} {xs : List V} (st : StAt H d c n) (k : Kp d c H H') (h : SqT K H a xs) : SqT K H' a xs := by
  obtain ⟨_, ys, t, h1, h2, _⟩ := st
  have go : ∀ o, (H a = some (.tup xs) ∨ H a = some (.frz o (.tup xs))) → a ≠ d ∧ a ≠ c := fun o e => by
    constructor
    · intro z; subst z; rw [h1] at e; rcases e with e | e <;> cases e
    · intro z; subst z; rw [h2] at e; rcases e with e | e <;> cases e
  rcases h with (h | ⟨o, h⟩) | h
  · have g := go ⟨.none, none, .fields #[], #[]⟩ (.inl h); exact .inl (.inl (k _ _ g.1 g.2 h))
  · have g := go o (.inr h); exact .inl (.inr ⟨o, k _ _ g.1 g.2 h⟩)
  · exact .inr h
mutual
theorem dp_kp {d c : Addr} {H H' : Hp} {n : Nat} (st : StAt H d c n) (k : Kp d c H H') : ∀ {v : V} {e : PyData}, noLAll.noL e → Dp K H v e → Dp K H' v e
  | _, _, _, .non => .non
  | _, _, _, .bl b => .bl b
  | _, _, _, .int i => .int i
  | _, _, _, .str x => .str x
  | _, _, h, .lst _ _ => h.elim
  | _, _, h, .tup s a => .tup (kp_tup st k s) (dpAll_kp st k h a)
theorem dpAll_kp {d c : Addr} {H H' : Hp} {n : Nat} (st : StAt H d c n) (k : Kp d c H H') : ∀ {vs : List V} {es : List PyData}, noLAll es → DpAll K H vs es → DpAll K H' vs es
  | _, _, _, .nil => .nil
  | _, _, h, .cons x t => .cons (dp_kp st k h.1 x) (dpAll_kp st k h.2 t)
end
mutual
theorem dp_go {H H' : Hp} (go : ∀ a us, SqT K H a us → SqT K H' a us) : ∀ {v : V} {e : PyData}, noLAll.noL e → Dp K H v e → Dp K H' v e
  | _, _, _, .non => .non
  | _, _, _, .bl b => .bl b
  | _, _, _, .int i => .int i
  | _, _, _, .str x => .str x
  | _, _, h, .lst _ _ => h.elim
  | _, _, h, .tup s a => .tup (go _ _ s) (dpAll_go go h a)
theorem dpAll_go {H H' : Hp} (go : ∀ a us, SqT K H a us → SqT K H' a us) : ∀ {vs : List V} {es : List PyData}, noLAll es → DpAll K H vs es → DpAll K H' vs es
  | _, _, _, .nil => .nil
  | _, _, h, .cons x t => .cons (dp_go go h.1 x) (dpAll_go go h.2 t)
end
theorem noL_map {α : Type} {f : α → PyData} (h : ∀ x, noLAll.noL (f x)) : ∀ l : List α, noLAll (l.map f)
  | [] => trivial
  | x :: r => ⟨h x, noL_map h r⟩
theorem noL_col (c : Col) : noLAll.noL (colD c) := ⟨trivial, trivial, trivial, trivial, trivial⟩
theorem noL_wash (r : Wsh) : noLAll.noL (washD r) := ⟨trivial, trivial, by cases r.2.2 <;> trivial, trivial⟩
theorem noL_pal (cs : List Col) (ws : List Wsh) : noLAll.noL (palD cs ws) := ⟨noL_map noL_col cs, noL_map noL_wash ws, trivial⟩
theorem dpAll_app {H : Hp} : ∀ {xs ys : List V} {ds es : List PyData}, DpAll K H xs ds → DpAll K H ys es → DpAll K H (xs ++ ys) (ds ++ es)
  | _, _, _, _, .nil, h => h
  | _, _, _, _, .cons h t, h2 => .cons h (dpAll_app t h2)
end
/-! ### how long a palette's text may be -/
structure PalOk (cs : List Col) (ws : List Wsh) : Prop where
  nc : cs.length ≤ 20
  nw : ws.length ≤ 60
  cn : ∀ c ∈ cs, c.1.length ≤ 9 ∧ (∀ x ∈ c.1.cps.toList, x < 1114112) ∧ c.2.1.natAbs < 10000 ∧ c.2.2.1.natAbs < 10000 ∧ c.2.2.2.natAbs < 10000
  wn : ∀ r ∈ ws, (r.1.length ≤ 9 ∧ ∀ x ∈ r.1.cps.toList, x < 1114112) ∧ (r.2.1.length ≤ 9 ∧ ∀ x ∈ r.2.1.cps.toList, x < 1114112) ∧ ∀ i, r.2.2 = some i → i.natAbs < 10000
theorem PalOk.addC {cs : List Col} {ws : List Wsh} {c : Col} (h : PalOk cs ws) (n : cs.length < 20) (ok : c.1.length ≤ 9 ∧ (∀ x ∈ c.1.cps.toList, x < 1114112) ∧ c.2.1.natAbs < 10000 ∧ c.2.2.1.natAbs < 10000 ∧ c.2.2.2.natAbs < 10000) : PalOk (cs ++ [c]) ws :=
  ⟨by rw [List.length_append]; exact n, h.nw, fun x hx => (List.mem_append.mp hx).elim (h.cn x) fun z => by rw [List.mem_singleton.mp z]; exact ok, h.wn⟩
theorem PalOk.addW {cs : List Col} {ws : List Wsh} {r : Wsh} (h : PalOk cs ws) (n : ws.length < 60) (ok : (r.1.length ≤ 9 ∧ ∀ x ∈ r.1.cps.toList, x < 1114112) ∧ (r.2.1.length ≤ 9 ∧ ∀ x ∈ r.2.1.cps.toList, x < 1114112) ∧ ∀ i, r.2.2 = some i → i.natAbs < 10000) : PalOk cs (ws ++ [r]) :=
  ⟨h.nc, by rw [List.length_append]; exact n, h.cn, fun x hx => (List.mem_append.mp hx).elim (h.wn x) fun z => by rw [List.mem_singleton.mp z]; exact ok⟩
theorem log_small {i : Int} (h : i.natAbs < 10000) : i.natAbs.log2 < 1920 := by
  by_cases z : i.natAbs = 0
  · rw [z]; decide
  · have := (Nat.log2_lt z).mpr (show i.natAbs < 2 ^ 14 from Nat.lt_of_lt_of_le h (by decide))
    omega
theorem fineAll_map {α : Type} {f : α → PyData} : ∀ {l : List α}, (∀ x ∈ l, fineAll.fine (f x)) → fineAll (l.map f)
  | [], _ => trivial
  | x :: r, h => ⟨h x List.mem_cons_self, fineAll_map fun y hy => h y (List.mem_cons_of_mem _ hy)⟩
theorem costAll_map {α : Type} {f : α → PyData} {b : Nat} : ∀ {l : List α}, (∀ x ∈ l, costAll.cost (f x) ≤ b) → costAll (l.map f) ≤ l.length * (b + 2)
  | [], _ => Nat.zero_le _
  | x :: r, h => by
    have h1 := h x List.mem_cons_self
    have h2 := costAll_map (l := r) fun y hy => h y (List.mem_cons_of_mem _ hy)
    show costAll.cost (f x) + 2 + costAll (r.map f) ≤ (r.length + 1) * (b + 2)
    rw [Nat.succ_mul]
    omega
theorem depthAll_map {α : Type} {f : α → PyData} {b : Nat} : ∀ {l : List α}, (∀ x ∈ l, (f x).depth ≤ b) → PyData.depthAll (l.map f) ≤ b
  | [], _ => Nat.zero_le _
  | x :: r, h => by
    show max (f x).depth (PyData.depthAll (r.map f)) ≤ b
    exact Nat.max_le.mpr ⟨h x List.mem_cons_self, depthAll_map fun y hy => h y (List.mem_cons_of_mem _ hy)⟩
theorem fine_col {c : Col} (h : c.1.length ≤ 9 ∧ (∀ x ∈ c.1.cps.toList, x < 1114112) ∧ c.2.1.natAbs < 10000 ∧ c.2.2.1.natAbs < 10000 ∧ c.2.2.2.natAbs < 10000) : fineAll.fine (colD c) :=
  ⟨fun x hx => Nat.lt_trans (h.2.1 x hx) (by decide), log_small h.2.2.1, log_small h.2.2.2.1, log_small h.2.2.2.2, trivial⟩
theorem fine_opt {o : Option Int} (h : ∀ i, o = some i → i.natAbs < 10000) : fineAll.fine (optD o) := by
  cases o with
  | none => trivial
  | some i => exact log_small (h i rfl)
theorem pal_fine {cs : List Col} {ws : List Wsh} (h : PalOk cs ws) : fineAll.fine (palD cs ws) :=
  ⟨fineAll_map fun c hc => fine_col (h.cn c hc), fineAll_map fun r hr => ⟨fun x hx => Nat.lt_trans ((h.wn r hr).1.2 x hx) (by decide), fun x hx => Nat.lt_trans ((h.wn r hr).2.1.2 x hx) (by decide), fine_opt (h.wn r hr).2.2, trivial⟩, trivial⟩
theorem cost_opt (o : Option Int) : costAll.cost (optD o) ≤ 1921 := by
  cases o with
  | none => decide
  | some i => exact Nat.le_refl _
theorem pal_cost {cs : List Col} {ws : List Wsh} (h : PalOk cs ws) : costAll.cost (palD cs ws) ≤ 1000000 := by
  have h1 : costAll (cs.map colD) ≤ cs.length * (10000 + 2) := costAll_map fun c hc => by
    have := (h.cn c hc).1
    show (10 * c.1.length + 2) + 2 + (1921 + 2 + (1921 + 2 + (1921 + 2 + 0))) + 3 ≤ 10000
    omega
  have h2 : costAll (ws.map washD) ≤ ws.length * (10000 + 2) := costAll_map fun r hr => by
    have a := (h.wn r hr).1.1
    have b := (h.wn r hr).2.1.1
    have c := cost_opt r.2.2
    show (10 * r.1.length + 2) + 2 + ((10 * r.2.1.length + 2) + 2 + (costAll.cost (optD r.2.2) + 2 + 0)) + 3 ≤ 10000
    omega
  have h3 := Nat.mul_le_mul_right 10002 h.nc
  have h4 := Nat.mul_le_mul_right 10002 h.nw
  show (costAll (cs.map colD) + 3) + 2 + ((costAll (ws.map washD) + 3) + 2 + 0) + 3 ≤ 1000000
  omega
theorem depth_opt (o : Option Int) : (optD o).depth = 0 := by cases o <;> rfl
theorem pal_depth (cs : List Col) (ws : List Wsh) : (palD cs ws).depth ≤ 3 := by
  have h1 : PyData.depthAll (cs.map colD) ≤ 1 := depthAll_map fun c _ => by show 1 ≤ 1; decide
  have h2 : PyData.depthAll (ws.map washD) ≤ 1 := depthAll_map fun r _ => by
    show max 0 (max 0 (max (optD r.2.2).depth 0)) + 1 ≤ 1
    rw [depth_opt]
    decide
  show max (PyData.depthAll (cs.map colD) + 1) (max (PyData.depthAll (ws.map washD) + 1) 0) + 1 ≤ 3
  omega
end Pot

namespace Pot
open PySem PySem.Spec PyProof.Rows L2
theorem Ths.parts2 {m C E D W a b : Nat} {ds es : List PyData} (h : Ths m C D W ds) (hab : a ≤ b) (k : Ths m E D W es) : Ths m (C + E) D W (ds.take a ++ es ++ ds.drop b) := by
  have mem : ∀ d, d ∈ ds.take a ++ es ++ ds.drop b → d ∈ ds ∨ d ∈ es := fun d hd => by
    rcases List.mem_append.mp hd with z | z
    · rcases List.mem_append.mp z with y | y
      · exact .inl (List.mem_of_mem_take y)
      · exact .inr y
    · exact .inl (List.mem_of_mem_drop z)
  refine ⟨fun d hd => (mem d hd).elim (h.g d) (k.g d), ?_, fun d hd => (mem d hd).elim (h.d d) (k.d d), fun d hd => (mem d hd).elim (h.w d) (k.w d)⟩
  rw [costAll_app, costAll_app]
  have e := costAll_app (ds.take a) (ds.drop a)
  rw [List.take_append_drop] at e
  have e2 : ds.drop b = (ds.drop a).drop (b - a) := by rw [List.drop_drop]; congr 1; omega
  have e3 := costAll_drop (b - a) (ds.drop a)
  rw [← e2] at e3
  have := h.c
  have := k.c
  omega
end Pot

namespace Pot
open PySem PySem.Spec PyProof.Rows L2
/-! ### words of letters -/
/-- at most n letters a to z -/
def Wd (n : Nat) (z : Str) : Prop := z.length ≤ n ∧ ∀ c ∈ z.cps.toList, 97 ≤ c ∧ c ≤ 122
theorem Wd.mono {n m : Nat} {z : Str} (h : Wd n z) (k : n ≤ m) : Wd m z := ⟨Nat.le_trans h.1 k, h.2⟩
theorem wd_add {n m : Nat} {a b : Str} (h : Wd n a) (k : Wd m b) : Wd (n + m) (a ++ b) := by
  refine ⟨by rw [strLen_append]; exact Nat.add_le_add h.1 k.1, fun c hc => ?_⟩
  have e : (a ++ b).cps.toList = a.cps.toList ++ b.cps.toList := by
    show (a.cps ++ b.cps).toList = _
    simp
  rw [e] at hc
  exact (List.mem_append.mp hc).elim (h.2 c) (k.2 c)
def az : List Nat := [97, 98, 99, 100, 101, 102, 103, 104, 105, 106, 107, 108, 109, 110, 111, 112, 113, 114, 115, 116, 117, 118, 119, 120, 121, 122]
theorem az_cps : (Str.ofString "abcdefghijklmnopqrstuvwxyz").cps.toList = az := by decide +kernel
theorem az_at : ∀ k : Nat, k < 26 → atI az ((k : Nat) : Int) = some (97 + k) := by unfold az; decide
theorem az_ix {i : Int} (h0 : 0 ≤ i) (h1 : i < 26) : atI (Str.ofString "abcdefghijklmnopqrstuvwxyz").cps.toList i = some (97 + i.toNat) := by
  rw [az_cps]
  have h := az_at i.toNat (by omega)
  rw [show ((i.toNat : Nat) : Int) = i by omega] at h
  exact h
theorem wd_sign {c : Nat} (h0 : 97 ≤ c) (h1 : c ≤ 122) : Wd 1 ⟨#[c]⟩ := ⟨Nat.le_refl _, fun d hd => by
  have e : d = c := by simpa using hd
  subst e; exact ⟨h0, h1⟩⟩
theorem wd_letter {i : Int} (h0 : 0 ≤ i) (h1 : i < 26) : Wd 1 ⟨#[97 + i.toNat]⟩ := wd_sign (by omega) (by omega)
theorem wd_nil : Wd 0 Str.empty := ⟨Nat.le_refl _, fun c hc => by have : c ∈ ([] : List Nat) := hc; simp at this⟩
theorem wd_join : ∀ {ys : List Str}, (∀ y ∈ ys, Wd 1 y) → Wd ys.length (Str.join Str.empty ys)
  | [], _ => wd_nil
  | [x], h => h x List.mem_cons_self
  | x :: y :: r, h => by
    have ih := wd_join (ys := y :: r) fun z hz => h z (List.mem_cons_of_mem _ hz)
    show Wd _ (x ++ Str.empty ++ Str.join Str.empty (y :: r))
    have h1 := wd_add (wd_add (h x List.mem_cons_self) wd_nil) ih
    exact h1.mono (by simp only [List.length_cons]; omega)
theorem cut_mem {z : Str} {lo hi : Option Int} {c : Nat} (h : c ∈ (cutS z lo hi).cps.toList) : c ∈ z.cps.toList := by
  unfold cutS at h
  have h2 : c ∈ (z.cps.toList.drop (HT.sIx z.length 0 lo)).take (HT.sIx z.length z.length hi - HT.sIx z.length 0 lo) := by simpa using h
  exact List.mem_of_mem_drop (List.mem_of_mem_take h2)
theorem cut_len (z : Str) (lo hi : Option Int) : (cutS z lo hi).length ≤ HT.sIx z.length z.length hi - HT.sIx z.length 0 lo := by
  unfold cutS
  show (List.toArray _).size ≤ _
  rw [List.size_toArray]
  exact List.length_take_le ..
theorem wd_head {n k : Nat} {z : Str} (h : Wd n z) : Wd k (cutS z none (some (k : Int))) := by
  refine ⟨Nat.le_trans (cut_len z none (some (k : Int))) ?_, fun c hc => h.2 c (cut_mem hc)⟩
  rw [HT.sIx_nat]
  omega
theorem wd_tail {n k : Nat} {z : Str} (h : Wd n z) : Wd (z.length - k) (cutS z (some (k : Int)) none) := by
  refine ⟨Nat.le_trans (cut_len z (some (k : Int)) none) ?_, fun c hc => h.2 c (cut_mem hc)⟩
  rw [HT.sIx_nat, HT.sIx_none]
  omega
theorem wd_cut {n : Nat} {z : Str} {lo hi : Option Int} (h : Wd n z) : Wd n (cutS z lo hi) := by
  refine ⟨Nat.le_trans (cut_len z lo hi) ?_, fun c hc => h.2 c (cut_mem hc)⟩
  have := HT.sIx_le z.length z.length (Nat.le_refl _) hi
  have := h.1
  omega
theorem wd_small {n : Nat} {z : Str} (h : Wd n z) (k : n ≤ 1000) : z.length ≤ sizeLine := Nat.le_trans h.1 (Nat.le_trans k (by decide))
theorem wd_codes {n : Nat} {z : Str} (h : Wd n z) : ∀ x ∈ z.cps.toList, x < 1114112 := fun x hx => by have := (h.2 x hx).2; omega
section
variable {K : PySem.W.Frag}
theorem kp_seq {d c l : Addr} {H H' : Hp} {xs : List V} (k : Kp d c H H') (n1 : l ≠ d) (n2 : l ≠ c) (h : SqL K H l xs) : SqL K H' l xs := by
  rcases h with (h | ⟨o, h⟩) | h
  · exact .inl (.inl (k _ _ n1 n2 h))
  · exact .inl (.inr ⟨o, k _ _ n1 n2 h⟩)
  · exact .inr h
end
end Pot

namespace Pot
open PySem PySem.Spec PyProof.Rows L2
/-- a row that tells of these two -/
def mat (a : Option Str) (b : Str) (r : Wsh) : Bool := decide (some r.1 = a) && decide (r.2.1 = b)
def namD : Option Str → PyData
  | none => .none
  | some z => .str z
theorem washF_filter (a : Option Str) (b : Str) : ∀ ws : List Wsh, washF ws a b = match ws.filter (mat a b) with
    | [] => some 0
    | r :: _ => r.2.2
  | [] => rfl
  | r :: ws => by
    show (if some r.1 = a ∧ r.2.1 = b then r.2.2 else washF ws a b) = _
    rw [List.filter_cons]
    by_cases h : some r.1 = a ∧ r.2.1 = b
    · have e : mat a b r = true := by unfold mat; rw [decide_eq_true h.1, decide_eq_true h.2]; rfl
      rw [if_pos h, if_pos e]
    · have e : ¬ mat a b r = true := by
        unfold mat
        rw [Bool.and_eq_true, decide_eq_true_eq, decide_eq_true_eq]
        exact h
      rw [if_neg h, if_neg e]
      exact washF_filter a b ws
theorem str_beq (x y : Str) : (x == y) = decide (x = y) := by
  by_cases h : x = y
  · subst h; rw [decide_eq_true rfl]; exact beq_self_eq_true x
  · rw [decide_eq_false h]; exact beq_false_of_ne h
theorem eqv_mat (a : Option Str) (b : Str) (r : Wsh) : PyData.eqv (.tuple [.str r.1, .str r.2.1]) (.tuple [namD a, .str b]) = mat a b r := by
  unfold mat
  cases a with
  | none =>
    rw [decide_eq_false (by intro z; cases z)]
    rfl
  | some z =>
    show ((r.1 == z) && ((r.2.1 == b) && true)) = _
    rw [str_beq, str_beq, Bool.and_true]
    congr 1
    by_cases h : r.1 = z
    · rw [decide_eq_true h, decide_eq_true (by rw [h])]
    · rw [decide_eq_false h, decide_eq_false fun q => h (Option.some.inj q)]
section
variable {K : PySem.W.Frag} {H : Hp}
theorem nam_dp : ∀ a : Option Str, Dp K H (namV a) (namD a)
  | none => .non
  | some z => .str z
theorem dpAll_opts : ∀ l : List Wsh, DpAll K H (l.map fun r => optV r.2.2) (l.map fun r => optD r.2.2)
  | [] => .nil
  | r :: l => .cons (opt_dp r.2.2) (dpAll_opts l)
end
/-- signs that there are -/
def Sg (z : Str) : Prop := ∀ x ∈ z.cps.toList, x < 1114112
theorem strOk_len {z : Str} (h : Sg z) : PyData.strOk z = true := by
  unfold PyData.strOk
  rw [Array.all_eq_true_iff_forall_mem]
  intro x hx
  exact decide_eq_true (h x (Array.mem_toList_iff.mpr hx))
theorem shaped_two {x y : Str} (h : Sg x) (k : Sg y) : SeqAt.shaped (.tuple [.str x, .str y]) = true := by
  show (PyData.strOk x && (PyData.strOk y && true)) && decide (max 0 (max 0 0) + 1 ≤ 64) = true
  rw [strOk_len h, strOk_len k]
  rfl
theorem shaped_nam {a : Option Str} {y : Str} (h : ∀ z, a = some z → Sg z) (k : Sg y) : SeqAt.shaped (.tuple [namD a, .str y]) = true := by
  cases a with
  | none =>
    show (true && (PyData.strOk y && true)) && decide (max 0 (max 0 0) + 1 ≤ 64) = true
    rw [strOk_len k]
    rfl
  | some z => exact shaped_two (h z rfl) k
theorem shaped_opts (l : List Wsh) : SeqAt.shaped (.list (l.map fun r => optD r.2.2)) = true := by
  have h1 : ∀ l : List Wsh, PyData.canLayAll0 (l.map fun r => optD r.2.2) = true := by
    intro l
    induction l with
    | nil => rfl
    | cons r l ih =>
      show (PyData.canLay0 (optD r.2.2) && PyData.canLayAll0 (l.map fun r => optD r.2.2)) = true
      rw [ih]
      cases r.2.2 <;> rfl
  have h2 : PyData.depthAll (l.map fun r => optD r.2.2) ≤ 0 := depthAll_map fun r _ => by rw [depth_opt]; exact Nat.le_refl _
  show (PyData.canLayAll0 (l.map fun r => optD r.2.2) && decide (PyData.depthAll (l.map fun r => optD r.2.2) + 1 ≤ 64)) = true
  rw [h1, decide_eq_true (by omega)]
  rfl
end Pot

namespace Pot
open PySem PySem.Spec PyProof.Rows L2
/-! ### a box of three numbers whose last is at most n -/
def Bq (H : Hp) (b : Addr) (n : Nat) : Prop := ∃ x y z : Int, H b = some (.lst [.int x, .int y, .int z]) ∧ 0 ≤ z ∧ z ≤ n
section
variable {H H' : Hp} {b p : Addr} {n m : Nat} {o : HO}
theorem Bq.bx (B : Bq H b n) : Bx H b := by
  obtain ⟨x, y, z, h, _⟩ := B
  exact ⟨x, y, z, h⟩
theorem Bq.same (B : Bq H b n) (s : Same H H') : Bq H' b n := by
  obtain ⟨x, y, z, h, h2⟩ := B
  exact ⟨x, y, z, s _ _ h, h2⟩
theorem Bq.put (B : Bq H b n) (h : H p = none) : Bq (upd H p o) b n := B.same (same_upd h)
theorem Bq.wr (B : Bq H b n) (h : p ≠ b) : Bq (upd H p o) b n := by
  obtain ⟨x, y, z, e, h2⟩ := B
  exact ⟨x, y, z, by rw [upd_ne h.symm]; exact e, h2⟩
theorem Bq.mono (B : Bq H b n) (h : n ≤ m) : Bq H b m := by
  obtain ⟨x, y, z, e, h1, h2⟩ := B
  exact ⟨x, y, z, e, h1, by omega⟩
theorem Bq.ne (B : Bq H b n) (h : H p = none) : p ≠ b := B.bx.ne h
theorem Live.q (B : Bq H b n) : Live [b] H := Live.one B.bx
end
theorem b01 (k : Bool) : -(2 ^ 64 : Int) < (if k = true then 1 else 0) ∧ (if k = true then 1 else 0) < (2 ^ 64 : Int) := by cases k <;> decide
theorem CDivW.of {i j : Int} (h0 : 0 < j) (h1 : j < 2 ^ 64) : CDivW i j := by
  refine ⟨h0, ?_⟩
  have z : j.natAbs ≠ 0 := by omega
  have := (Nat.log2_lt z).mpr (show j.natAbs < 2 ^ 64 by omega)
  omega
mutual
theorem gd_lay {m : Nat} : ∀ d : PyData, gd m d → d.canLay0 = true
  | .none, _ => rfl
  | .bool _, _ => rfl
  | .int _, _ => rfl
  | .str x, g => by
    show x.cps.all (fun c => decide (c < 0x110000)) = true
    rw [← Array.all_toList, List.all_eq_true]
    exact fun c hc => decide_eq_true (g.2 c hc)
  | .list xs, g => gdAll_lay xs g
  | .tuple xs, g => gdAll_lay xs g
  | .dict _, g => g.elim
theorem gdAll_lay {m : Nat} : ∀ ds : List PyData, gdAll m ds → PyData.canLayAll0 ds = true
  | [], _ => rfl
  | x :: xs, g => by
    show (x.canLay0 && PyData.canLayAll0 xs) = true
    rw [gd_lay x g.1, gdAll_lay xs g.2]; rfl
end
theorem Th.shaped {m C D W : Nat} {d : PyData} (h : Th m C D W d) (hD : D ≤ 64) : SeqAt.shaped d = true := by
  unfold SeqAt.shaped
  rw [gd_lay d h.g, decide_eq_true (Nat.le_trans h.d hD)]; rfl
theorem gd_shaped {m : Nat} {d : PyData} (h : gd m d) (hD : d.depth ≤ 64) : SeqAt.shaped d = true := by
  unfold SeqAt.shaped
  rw [gd_lay d h, decide_eq_true hD]; rfl
end Pot

namespace Pot
open PySem PySem.Spec PyProof.Rows L2
/-! ### a box of three numbers: the second below 2 ^ 62, the last at most n -/
def Bp (H : Hp) (b : Addr) (n : Nat) : Prop := ∃ x y z : Int, H b = some (.lst [.int x, .int y, .int z]) ∧ 0 ≤ z ∧ z ≤ n ∧ 0 ≤ y ∧ y < 2 ^ 62
section
variable {H H' : Hp} {b p : Addr} {n m : Nat} {o : HO}
theorem Bp.bx (B : Bp H b n) : Bx H b := by
  obtain ⟨x, y, z, h, _⟩ := B
  exact ⟨x, y, z, h⟩
theorem Bp.same (B : Bp H b n) (s : Same H H') : Bp H' b n := by
  obtain ⟨x, y, z, h, h2⟩ := B
  exact ⟨x, y, z, s _ _ h, h2⟩
theorem Bp.put (B : Bp H b n) (h : H p = none) : Bp (upd H p o) b n := B.same (same_upd h)
theorem Bp.wr (B : Bp H b n) (h : p ≠ b) : Bp (upd H p o) b n := by
  obtain ⟨x, y, z, e, h2⟩ := B
  exact ⟨x, y, z, by rw [upd_ne h.symm]; exact e, h2⟩
theorem Bp.mono (B : Bp H b n) (h : n ≤ m) : Bp H b m := by
  obtain ⟨x, y, z, e, h1, h2, h3⟩ := B
  exact ⟨x, y, z, e, h1, by omega, h3⟩
theorem Bp.ne (B : Bp H b n) (h : H p = none) : p ≠ b := B.bx.ne h
theorem Live.pw (B : Bp H b n) : Live [b] H := Live.one B.bx
end
end Pot

namespace Pot
open PySem PySem.Spec PyProof.Rows L2
/-! ### the names of cluster C: unlike each other -/
def Nm (z : Str) : Prop := Wd 8 z ∧ 0 < z.length
def ltN (x : Int) : Str := ⟨#[97 + x.toNat]⟩
theorem str_app (a b : Str) : (a ++ b).cps.toList = a.cps.toList ++ b.cps.toList := by
  show (a.cps ++ b.cps).toList = _
  simp
theorem str_eq {a b : Str} (h : a = b) : a.cps.toList = b.cps.toList := by rw [h]
theorem ltN_list (x : Int) : (ltN x).cps.toList = [97 + x.toNat] := rfl
theorem ltN_len (x : Int) : (ltN x).length = 1 := rfl
def vlN (fi stp : Int) (i : Nat) : Int := (fi + stp * (0 + (i : Int))) % 676
def bsN (hd tl : Str) (fi stp : Int) (i : Nat) : Str := hd ++ ltN (vlN fi stp i / 26) ++ ltN (vlN fi stp i % 26) ++ tl
def nmN (hd tl : Str) (fi stp lo : Int) (i : Nat) : Str := if lo = 1 ∧ i % 2 = 1 then bsN hd tl fi stp (i - 1) ++ ltN ((fi + (0 + (i : Int))) % 26) else bsN hd tl fi stp i
def StpN (s : Int) : Prop := s = 1 ∨ s = 3 ∨ s = 5 ∨ s = 7 ∨ s = 25 ∨ s = 675
theorem vlN_pos (fi stp : Int) (i : Nat) : 0 ≤ vlN fi stp i ∧ vlN fi stp i < 676 := ⟨Int.emod_nonneg _ (by decide), Int.emod_lt_of_pos _ (by decide)⟩
theorem bsN_len (hd tl : Str) (fi stp : Int) (i : Nat) : (bsN hd tl fi stp i).length = hd.length + 2 + tl.length := by
  unfold bsN
  rw [strLen_append, strLen_append, strLen_append, ltN_len, ltN_len]
theorem bsN_wd {hd tl : Str} (h1 : Wd 3 hd) (h2 : Wd 2 tl) (fi stp : Int) (i : Nat) : Wd 7 (bsN hd tl fi stp i) ∧ 0 < (bsN hd tl fi stp i).length := by
  have := vlN_pos fi stp i
  refine ⟨wd_add (wd_add (wd_add h1 (wd_letter (by omega) (by omega))) (wd_letter (by omega) (by omega))) h2, ?_⟩
  rw [bsN_len]; omega
theorem nmN_nm {hd tl : Str} (h1 : Wd 3 hd) (h2 : Wd 2 tl) (fi stp lo : Int) (i : Nat) : Nm (nmN hd tl fi stp lo i) := by
  unfold nmN
  have l0 : 0 ≤ (fi + (0 + (i : Int))) % 26 := Int.emod_nonneg _ (by decide)
  have l1 : (fi + (0 + (i : Int))) % 26 < 26 := Int.emod_lt_of_pos _ (by decide)
  by_cases h : lo = 1 ∧ i % 2 = 1
  · rw [if_pos h]
    have b := bsN_wd h1 h2 fi stp (i - 1)
    exact ⟨wd_add b.1 (wd_letter l0 l1), by rw [strLen_append]; have := b.2; omega⟩
  · rw [if_neg h]
    have b := bsN_wd h1 h2 fi stp i
    exact ⟨b.1.mono (by decide), b.2⟩
theorem stp_inj {fi stp : Int} (s : StpN stp) {i j : Nat} (hi : i < 12) (hj : j < 12) (h : vlN fi stp i = vlN fi stp j) : i = j := by
  unfold vlN at h
  rcases s with rfl | rfl | rfl | rfl | rfl | rfl <;> omega
theorem stp_inj26 {fi stp : Int} (s : StpN stp) {i j : Nat} (hi : i < 12) (hj : j < 12) (h : (fi + stp * (0 + (i : Int))) % 26 = (fi + stp * (0 + (j : Int))) % 26) : i = j := by
  rcases s with rfl | rfl | rfl | rfl | rfl | rfl <;> omega
theorem bsN_inj {hd tl : Str} {fi stp : Int} (s : StpN stp) {i j : Nat} (hi : i < 12) (hj : j < 12) (h : bsN hd tl fi stp i = bsN hd tl fi stp j) : i = j := by
  have h2 := str_eq h
  unfold bsN at h2
  simp only [str_app, ltN_list, List.append_assoc, List.append_cancel_left_eq, List.cons_append, List.nil_append, List.cons.injEq] at h2
  have a := vlN_pos fi stp i
  have b := vlN_pos fi stp j
  exact stp_inj (fi := fi) s hi hj (by omega)
theorem nmN_inj {hd tl : Str} {fi stp lo : Int} (s : StpN stp) {i j : Nat} (hi : i < 12) (hj : j < 12) (h : nmN hd tl fi stp lo i = nmN hd tl fi stp lo j) : i = j := by
  unfold nmN at h
  by_cases c1 : lo = 1 ∧ i % 2 = 1 <;> by_cases c2 : lo = 1 ∧ j % 2 = 1
  · rw [if_pos c1, if_pos c2] at h
    have h2 := str_eq h
    rw [str_app, str_app] at h2
    have l : (bsN hd tl fi stp (i - 1)).cps.toList.length = (bsN hd tl fi stp (j - 1)).cps.toList.length := by
      have e1 := bsN_len hd tl fi stp (i - 1)
      have e2 := bsN_len hd tl fi stp (j - 1)
      rw [Array.length_toList, Array.length_toList]
      exact e1.trans e2.symm
    have h3 := (List.append_inj h2 l).1
    have h4 : bsN hd tl fi stp (i - 1) = bsN hd tl fi stp (j - 1) := by
      cases e1 : bsN hd tl fi stp (i - 1) with
      | mk x => cases e2 : bsN hd tl fi stp (j - 1) with
        | mk y =>
          rw [e1, e2] at h3
          exact congrArg Str.mk (Array.toList_inj.mp h3)
    have := bsN_inj s (i := i - 1) (j := j - 1) (by omega) (by omega) h4
    omega
  · rw [if_pos c1, if_neg c2] at h
    have := congrArg Str.length h
    rw [strLen_append, bsN_len, bsN_len, ltN_len] at this
    omega
  · rw [if_neg c1, if_pos c2] at h
    have := congrArg Str.length h
    rw [strLen_append, bsN_len, bsN_len, ltN_len] at this
    omega
  · rw [if_neg c1, if_neg c2] at h
    exact bsN_inj s hi hj h
theorem nodup_map_range {f : Nat → Str} {m : Nat} (h : ∀ i j, i < m → j < m → f i = f j → i = j) : ((List.range m).map f).Nodup := by
  rw [List.Nodup, List.pairwise_map]
  refine List.Pairwise.imp_of_mem (fun {a b} ha hb hab e => ?_) (List.nodup_range (n := m))
  exact hab (h a b (List.mem_range.mp ha) (List.mem_range.mp hb) e)
theorem nmN_nodup {hd tl : Str} {fi stp lo : Int} (s : StpN stp) {m : Nat} (hm : m ≤ 12) : ((List.range m).map (nmN hd tl fi stp lo)).Nodup :=
  nodup_map_range fun i j hi hj h => nmN_inj s (by omega) (by omega) h
theorem letN_nodup {fi stp : Int} (s : StpN stp) {m : Nat} (hm : m ≤ 12) : ((List.range m).map fun i : Nat => ltN ((fi + stp * (0 + (i : Int))) % 26)).Nodup :=
  nodup_map_range fun i j hi hj h => by
    have h2 := str_eq h
    rw [ltN_list, ltN_list] at h2
    have h3 := (List.cons.inj h2).1
    have a0 : 0 ≤ (fi + stp * (0 + (i : Int))) % 26 := Int.emod_nonneg _ (by decide)
    have b0 : 0 ≤ (fi + stp * (0 + (j : Int))) % 26 := Int.emod_nonneg _ (by decide)
    exact stp_inj26 (fi := fi) s (by omega) (by omega) (by omega)
def wordsN : List Str := ["never", "at", "undo", "slots", "done", "wash", "pot", "kind", "fill", "gather", "team", "colour"]
theorem words_eq : Txt.split (Str.ofString "never at undo slots done wash pot kind fill gather team colour") (Str.ofString " ") = wordsN := by decide +kernel
theorem words_nm : ∀ z ∈ wordsN, Nm z := by
  unfold Nm Wd wordsN
  decide +kernel
theorem words_nodup : ∀ j : Nat, j < 12 → ((wordsN ++ wordsN).drop j |>.take 12).Nodup := by
  unfold wordsN
  decide +kernel
theorem words_cut {j m : Nat} (hj : j < 12) (hm : m ≤ 12) : ((wordsN ++ wordsN).drop j |>.take m).Nodup ∧ ((wordsN ++ wordsN).drop j |>.take m).length = m ∧ ∀ z ∈ ((wordsN ++ wordsN).drop j |>.take m), Nm z := by
  refine ⟨?_, ?_, fun z hz => ?_⟩
  · have := words_nodup j hj
    have e : ((wordsN ++ wordsN).drop j |>.take m) = (((wordsN ++ wordsN).drop j |>.take 12).take m) := by rw [List.take_take, Nat.min_eq_left hm]
    rw [e]
    exact this.sublist (List.take_sublist _ _)
  · rw [List.length_take, List.length_drop, List.length_append]
    show min m (12 + 12 - j) = m
    omega
  · have := List.mem_of_mem_drop (List.mem_of_mem_take hz)
    exact (List.mem_append.mp this).elim (words_nm z) (words_nm z)
theorem wd1_sum : ∀ {l : List Str}, (∀ y ∈ l, Wd 1 y) → (l.map (·.length)).sum ≤ l.length
  | [], _ => Nat.le_refl _
  | a :: r, h => by
    have h1 := (h a List.mem_cons_self).1
    have h2 := wd1_sum (l := r) fun y hy => h y (List.mem_cons_of_mem _ hy)
    simp only [List.map_cons, List.sum_cons, List.length_cons]
    omega
end Pot

namespace Pot
open PySem PySem.Spec PyProof.Rows L2
/-! ### the palettes of cluster C -/
structure PalC (cs : List Col) (ws : List Wsh) : Prop where
  ok : PalOk cs ws
  ne : 0 < cs.length
  le : cs.length ≤ 12
  ch : ∀ c ∈ cs, 1 ≤ c.2.1 ∧ c.2.1 ≤ 20 ∧ 0 ≤ c.2.2.1 ∧ c.2.2.1 ≤ 99
  wa : ∀ r ∈ ws, ∀ i, r.2.2 = some i → 0 ≤ i ∧ i ≤ 99
  wd : ∀ c ∈ cs, Nm c.1
  nd : (cs.map (·.1)).Nodup
  wp : (ws.map fun r => (r.1, r.2.1)).Nodup
  wn : ∀ r ∈ ws, r.1 ≠ r.2.1
/-- what stands while a palette is made: the names at N, colours at C, washes at W -/
structure PMc (K : PySem.W.Frag) (H0 : Hp) (b C W N : Addr) (ns : List Str) (n : Nat) (xs us : List V) (cs : List Col) (ws : List Wsh) (H : Hp) : Prop where
  st : Bp H b n
  sm : Sm [b] H0 H
  hN : off H [C, W, b] N = some (.lst (ns.map V.str))
  hC : H C = some (.lst xs)
  dC : DpAll K (off H [C, W, b]) xs (cs.map colD)
  hW : H W = some (.lst us)
  dW : DpAll K (off H [C, W, b]) us (ws.map washD)
structure PAc (H0 : Hp) (b C W : Addr) : Prop where
  Cb : C ≠ b
  Wb : W ≠ b
  CW : C ≠ W
  nC : H0 C = none
  nW : H0 W = none
section
variable {K : PySem.W.Frag} {H0 H H' : Hp} {b C W N p : Addr} {ns : List Str} {n m : Nat} {xs us : List V} {cs : List Col} {ws : List Wsh} {o : HO}
theorem PMc.live (P : PMc K H0 b C W N ns n xs us cs ws H) : Live [C, W, b] H := ((Live.pw P.st).cons P.hW).cons P.hC
theorem PMc.drawn (P : PMc K H0 b C W N ns n xs us cs ws H) (a : PAc H0 b C W) (st : Bp H' b m) (s : Sm [b] H H') : PMc K H0 b C W N ns m xs us cs ws H' :=
  have s2 : Sm [C, W, b] H H' := sm_one (by simp) s
  ⟨st, P.sm.trans s, s2 _ _ P.hN, sm1_at s a.Cb P.hC, dpAll_same s2 P.dC, sm1_at s a.Wb P.hW, dpAll_same s2 P.dW⟩
theorem PMc.same (P : PMc K H0 b C W N ns n xs us cs ws H) (s : Same H H') : PMc K H0 b C W N ns n xs us cs ws H' :=
  have s2 : Sm [C, W, b] H H' := sm_of s
  ⟨P.st.same s, P.sm.trans (sm_of s), s2 _ _ P.hN, s _ _ P.hC, dpAll_same s2 P.dC, s _ _ P.hW, dpAll_same s2 P.dW⟩
theorem PMc.put (P : PMc K H0 b C W N ns n xs us cs ws H) (h : H p = none) : PMc K H0 b C W N ns n xs us cs ws (upd H p o) := P.same (same_upd h)
theorem PMc.mono (P : PMc K H0 b C W N ns n xs us cs ws H) (h : n ≤ m) : PMc K H0 b C W N ns m xs us cs ws H := ⟨P.st.mono h, P.sm, P.hN, P.hC, P.dC, P.hW, P.dW⟩
theorem PMc.colour (P : PMc K H0 b C W N ns n xs us cs ws H) (a : PAc H0 b C W) {v : V} {r : Col} (hv : Dp K (off H [C, W, b]) v (colD r)) : PMc K H0 b C W N ns n (xs ++ [v]) us (cs ++ [r]) ws (upd H C (.lst (xs ++ [v]))) :=
  have s2 : Sm [C, W, b] H (upd H C (.lst (xs ++ [v]))) := sm_wr (by simp)
  ⟨P.st.wr a.Cb, smp P.sm a.nC, s2 _ _ P.hN, upd_same, by rw [List.map_append]; exact dpAll_same s2 (dpAll_app P.dC (.cons hv .nil)), by rw [upd_ne a.CW.symm]; exact P.hW, dpAll_same s2 P.dW⟩
theorem PMc.wash (P : PMc K H0 b C W N ns n xs us cs ws H) (a : PAc H0 b C W) {v : V} {r : Wsh} (hv : Dp K (off H [C, W, b]) v (washD r)) : PMc K H0 b C W N ns n xs (us ++ [v]) cs (ws ++ [r]) (upd H W (.lst (us ++ [v]))) :=
  have s2 : Sm [C, W, b] H (upd H W (.lst (us ++ [v]))) := sm_wr (by simp)
  ⟨P.st.wr a.Wb, smp P.sm a.nW, s2 _ _ P.hN, by rw [upd_ne a.CW]; exact P.hC, dpAll_same s2 P.dC, upd_same, by rw [List.map_append]; exact dpAll_same s2 (dpAll_app P.dW (.cons hv .nil))⟩
end
theorem rows_cols (cs : List Col) : RowsCmp (cs.map colD) := by
  refine ⟨fun d hd => ?_, fun x r x2 r2 h1 h2 => ?_, fun xs ys h1 h2 => ?_⟩
  · obtain ⟨c, _, rfl⟩ := List.mem_map.mp hd
    exact ⟨_, _, rfl⟩
  · obtain ⟨c, _, e⟩ := List.mem_map.mp h1
    obtain ⟨c2, _, e2⟩ := List.mem_map.mp h2
    obtain ⟨rfl, _⟩ := List.cons.inj (PyData.tuple.inj e)
    obtain ⟨rfl, _⟩ := List.cons.inj (PyData.tuple.inj e2)
    rfl
  · obtain ⟨c, _, e⟩ := List.mem_map.mp h1
    obtain ⟨c2, _, e2⟩ := List.mem_map.mp h2
    rw [← PyData.tuple.inj e, ← PyData.tuple.inj e2]
    have a1 : ∀ x y : Str, PySem.W.alike (.str x) (.str y) = true := fun _ _ => rfl
    have a2 : ∀ x y : Int, PySem.W.alike (.int x) (.int y) = true := fun _ _ => rfl
    simp only [okCmp, a1, a2, Bool.true_and, Bool.or_true, Bool.and_true]
theorem depth_col (c : Col) : (colD c).depth ≤ 60 := by
  show PyData.depthAll _ + 1 ≤ 60
  simp only [PyData.depthAll, PyData.depth]
  omega
theorem depth_wash (r : Wsh) : (washD r).depth ≤ 60 := by
  show PyData.depthAll _ + 1 ≤ 60
  cases h : r.2.2 <;> (simp only [PyData.depthAll, PyData.depth, optD]; omega)
theorem alike_opt (o : Option Int) : PySem.W.alike (optD o) (optD o) = true := by cases o <;> rfl
theorem pair_eq {ws : List Wsh} (h : (ws.map fun r => (r.1, r.2.1)).Nodup) {r r2 : Wsh} (h1 : r ∈ ws) (h2 : r2 ∈ ws) (e1 : r.1 = r2.1) (e2 : r.2.1 = r2.2.1) : r = r2 := by
  obtain ⟨i, hi, rfl⟩ := List.getElem_of_mem h1
  obtain ⟨j, hj, rfl⟩ := List.getElem_of_mem h2
  have := (List.getElem_inj (i := i) (j := j) (h₀ := by rw [List.length_map]; exact hi) (h₁ := by rw [List.length_map]; exact hj) h).mp (by rw [List.getElem_map, List.getElem_map]; exact Prod.ext e1 e2)
  subst this; rfl
theorem rows_wash {ws : List Wsh} (h : (ws.map fun r => (r.1, r.2.1)).Nodup) : RowsCmp (ws.map washD) := by
  refine ⟨fun d hd => ?_, fun x r x2 r2 h1 h2 => ?_, fun xs ys h1 h2 => ?_⟩
  · obtain ⟨c, _, rfl⟩ := List.mem_map.mp hd
    exact ⟨_, _, rfl⟩
  · obtain ⟨c, _, e⟩ := List.mem_map.mp h1
    obtain ⟨c2, _, e2⟩ := List.mem_map.mp h2
    obtain ⟨rfl, _⟩ := List.cons.inj (PyData.tuple.inj e)
    obtain ⟨rfl, _⟩ := List.cons.inj (PyData.tuple.inj e2)
    rfl
  · obtain ⟨c, m1, e⟩ := List.mem_map.mp h1
    obtain ⟨c2, m2, e2⟩ := List.mem_map.mp h2
    rw [← PyData.tuple.inj e, ← PyData.tuple.inj e2]
    have a1 : ∀ x y : Str, PySem.W.alike (.str x) (.str y) = true := fun _ _ => rfl
    simp only [okCmp, a1, Bool.true_and, Bool.or_true, Bool.and_true]
    cases e1 : PyData.eqv (.str c.1) (.str c2.1) with
    | false => rfl
    | true =>
      cases e3 : PyData.eqv (.str c.2.1) (.str c2.2.1) with
      | false => rfl
      | true =>
        have x1 : c.1 = c2.1 := by simpa [PyData.eqv] using e1
        have x2 : c.2.1 = c2.2.1 := by simpa [PyData.eqv] using e3
        rw [pair_eq h m1 m2 x1 x2, alike_opt]; rfl
section
variable {K : PySem.W.Frag}
theorem go_offB {H : Hp} {b : Addr} {n : Nat} (B : Bp H b n) (a : Addr) (us : List V) (h : SqT K H a us) : SqT K (off H [b]) a us := by
  obtain ⟨x, y, z, h1, _⟩ := B
  have go : ∀ o, (H a = some (.tup us) ∨ H a = some (.frz o (.tup us))) → a ∉ [b] := fun o e z => by
    rw [List.mem_singleton] at z; subst z; rw [h1] at e; rcases e with e | e <;> cases e
  rcases h with (h | ⟨o, h⟩) | h
  · exact .inl (.inl (by rw [off_out (go ⟨.none, none, .fields #[], #[]⟩ (.inl h))]; exact h))
  · exact .inl (.inr ⟨o, by rw [off_out (go o (.inr h))]; exact h⟩)
  · exact .inr h
theorem dp_offB {H : Hp} {b : Addr} {n : Nat} {v : V} {e : PyData} (B : Bp H b n) (h : noLAll.noL e) (p : Dp K H v e) : Dp K (off H [b]) v e := dp_go (go_offB B) h p
theorem dpAll_offB {H : Hp} {b : Addr} {n : Nat} {vs : List V} {es : List PyData} (B : Bp H b n) (h : noLAll es) (p : DpAll K H vs es) : DpAll K (off H [b]) vs es := dpAll_go (go_offB B) h p
end
theorem div_mod_inj {m i j : Nat} (h1 : i / m = j / m) (h2 : i % m = j % m) : i = j := by
  have a := Nat.div_add_mod i m
  have b := Nat.div_add_mod j m
  rw [h1, h2] at a
  omega
end Pot

namespace Pot
open PySem PySem.Spec PyProof.Rows L2
/-! ### a list that is filled while there is drawn, things beside it that stay -/
structure Acc (K : PySem.W.Frag) (H0 : Hp) (b R : Addr) (fs : List (V × PyData)) (n : Nat) (us : List V) (ds : List PyData) (H : Hp) : Prop where
  st : Bp H b n
  sm : Sm [b] H0 H
  Rb : R ≠ b
  nR : H0 R = none
  fr : ∀ p ∈ fs, Dp K (off H [R, b]) p.1 p.2
  hR : H R = some (.lst us)
  dR : DpAll K (off H [R, b]) us ds
section
variable {K : PySem.W.Frag} {H0 H H' : Hp} {b R p : Addr} {fs : List (V × PyData)} {n m : Nat} {us : List V} {ds : List PyData} {o : HO}
theorem Acc.live (M : Acc K H0 b R fs n us ds H) : Live [R, b] H := (Live.pw M.st).cons M.hR
theorem Acc.drawn (M : Acc K H0 b R fs n us ds H) (st : Bp H' b m) (s : Sm [b] H H') : Acc K H0 b R fs m us ds H' :=
  have s2 : Sm [R, b] H H' := sm_one (by simp) s
  ⟨st, M.sm.trans s, M.Rb, M.nR, fun q hq => dp_same s2 (M.fr q hq), sm1_at s M.Rb M.hR, dpAll_same s2 M.dR⟩
theorem Acc.same (M : Acc K H0 b R fs n us ds H) (s : Same H H') : Acc K H0 b R fs n us ds H' :=
  have s2 : Sm [R, b] H H' := sm_of s
  ⟨M.st.same s, M.sm.trans (sm_of s), M.Rb, M.nR, fun q hq => dp_same s2 (M.fr q hq), s _ _ M.hR, dpAll_same s2 M.dR⟩
theorem Acc.put (M : Acc K H0 b R fs n us ds H) (h : H p = none) : Acc K H0 b R fs n us ds (upd H p o) := M.same (same_upd h)
theorem Acc.mono (M : Acc K H0 b R fs n us ds H) (h : n ≤ m) : Acc K H0 b R fs m us ds H := ⟨M.st.mono h, M.sm, M.Rb, M.nR, M.fr, M.hR, M.dR⟩
theorem Acc.app (M : Acc K H0 b R fs n us ds H) {v : V} {d : PyData} (hv : Dp K (off H [R, b]) v d) : Acc K H0 b R fs n (us ++ [v]) (ds ++ [d]) (upd H R (.lst (us ++ [v]))) :=
  have s2 : Sm [R, b] H (upd H R (.lst (us ++ [v]))) := sm_wr (by simp)
  ⟨M.st.wr M.Rb, smp M.sm M.nR, M.Rb, M.nR, fun q hq => dp_same s2 (M.fr q hq), upd_same, dpAll_same s2 (dpAll_app M.dR (.cons hv .nil))⟩
/-- the list is new -/
theorem Acc.start (B : Bp H b n) (s : Sm [b] H0 H) (h : H R = none) (fr : ∀ p ∈ fs, Dp K (off H [b]) p.1 p.2) : Acc K H0 b R fs n [] [] (upd H R (.lst [])) :=
  ⟨B.put h, s.trans (sm_put h), B.ne h, sm_free s B.bx h, fun q hq => by
    have e : off (upd H R (.lst [])) [R, b] = off H [b] := off_fresh h
    rw [e]; exact fr q hq, upd_same, .nil⟩
theorem Acc.new (M : Acc K H0 b R fs n us ds H) (h : H p = none) : off (upd H p o) [R, b] p = some o := off_new M.live h
/-- the list done: a thing among the others -/
theorem Acc.done (M : Acc K H0 b R fs n us ds H) : Dp K (off H [b]) (.ref R) (.list ds) :=
  .lst (SqL.of (by rw [off_out (by simpa using M.Rb)]; exact M.hR)) (dpAll_same (off_mono (by simp)) M.dR)
theorem Acc.kept (M : Acc K H0 b R fs n us ds H) {q : V × PyData} (h : q ∈ fs) : Dp K (off H [b]) q.1 q.2 := dp_same (off_mono (by simp)) (M.fr q h)
end
theorem e106 : (10 : Int) ^ (6 : Int).toNat = 1000000 := by decide
end Pot

namespace Pot
open PySem PySem.Spec PyProof.Rows L2
section
variable {K : PySem.W.Frag}
/-! ### bounds of drawn data, its texts too -/
def txAll (n : Nat) : List PyData → Prop
  | [] => True
  | x :: xs => tx n x ∧ txAll n xs
where tx (n : Nat) : PyData → Prop
  | .str x => x.length ≤ n ∧ ∀ c ∈ x.cps.toList, c < 128
  | .list xs => txAll n xs
  | .tuple xs => txAll n xs
  | _ => True
abbrev tx (n : Nat) (d : PyData) : Prop := txAll.tx n d
theorem txAll_iff {n : Nat} : ∀ {ds : List PyData}, txAll n ds ↔ ∀ d ∈ ds, tx n d
  | [] => ⟨fun _ _ h => (List.not_mem_nil h).elim, fun _ => trivial⟩
  | x :: xs => ⟨fun h d hd => (List.mem_cons.mp hd).elim (fun e => by rw [e]; exact h.1) fun e => txAll_iff.mp h.2 d e, fun h => ⟨h x List.mem_cons_self, txAll_iff.mpr fun d hd => h d (List.mem_cons_of_mem _ hd)⟩⟩
mutual
theorem tx_mono {n k : Nat} (h : n ≤ k) : ∀ d : PyData, tx n d → tx k d
  | .none, _ => trivial
  | .bool _, _ => trivial
  | .int _, _ => trivial
  | .str x, g => ⟨Nat.le_trans g.1 h, g.2⟩
  | .list xs, g => txAll_mono h xs g
  | .tuple xs, g => txAll_mono h xs g
  | .dict _, _ => trivial
theorem txAll_mono {n k : Nat} (h : n ≤ k) : ∀ ds : List PyData, txAll n ds → txAll k ds
  | [], _ => trivial
  | x :: xs, g => ⟨tx_mono h x g.1, txAll_mono h xs g.2⟩
end
structure Bd (n m C D W : Nat) (d : PyData) : Prop where
  t : Th m C D W d
  x : tx n d
structure Bds (n m C D W : Nat) (ds : List PyData) : Prop where
  t : Ths m C D W ds
  x : ∀ d ∈ ds, tx n d
section
variable {n m C D W n' m' C' D' W' : Nat} {d x : PyData} {ds es xs ys : List PyData}
theorem Bd.mono (h : Bd n m C D W d) (a : n ≤ n') (b : m ≤ m') (c : C ≤ C') (e : D ≤ D') (f : W ≤ W') : Bd n' m' C' D' W' d := ⟨h.t.mono b c e f, tx_mono a d h.x⟩
theorem Bds.mono (h : Bds n m C D W ds) (a : n ≤ n') (b : m ≤ m') (c : C ≤ C') (e : D ≤ D') (f : W ≤ W') : Bds n' m' C' D' W' ds := ⟨h.t.mono b c e f, fun d hd => tx_mono a d (h.x d hd)⟩
theorem Bds.nil : Bds n m 0 D W [] := ⟨Ths.nil, fun _ h => (List.not_mem_nil h).elim⟩
theorem Bds.app (h : Bds n m C D W xs) (k : Bds n m C' D W ys) : Bds n m (C + C') D W (xs ++ ys) := ⟨h.t.app k.t, fun d hd => (List.mem_append.mp hd).elim (h.x d) (k.x d)⟩
theorem Bds.one (h : Bd n m C D W x) : Bds n m (C + 2) D W [x] := ⟨Ths.one h.t, fun d hd => by rw [List.mem_singleton.mp hd]; exact h.x⟩
theorem Bds.list (h : Bds n m C D W ds) (l : ds.length ≤ W) : Bd n m (C + 3) (D + 1) W (.list ds) := ⟨h.t.list l, txAll_iff.mpr h.x⟩
theorem Bds.tuple (h : Bds n m C D W ds) (l : ds.length ≤ W) : Bd n m (C + 3) (D + 1) W (.tuple ds) := ⟨h.t.tuple l, txAll_iff.mpr h.x⟩
theorem Bd.parts (h : Bd n m C D W d) (e : d = .list ds ∨ d = .tuple ds) : Bds n m (C - 3) (D - 1) W ds ∧ ds.length ≤ W ∧ 3 ≤ C ∧ 1 ≤ D := by
  obtain ⟨a, b⟩ := h.t.parts e
  refine ⟨⟨a, ?_⟩, b⟩
  rcases e with rfl | rfl
  · exact txAll_iff.mp h.x
  · exact txAll_iff.mp h.x
theorem Bds.take (h : Bds n m C D W ds) (k : Nat) : Bds n m C D W (ds.take k) := ⟨h.t.take k, fun d hd => h.x d (List.mem_of_mem_take hd)⟩
theorem Bds.drop (h : Bds n m C D W ds) (k : Nat) : Bds n m C D W (ds.drop k) := ⟨h.t.drop k, fun d hd => h.x d (List.mem_of_mem_drop hd)⟩
theorem Bds.rev (h : Bds n m C D W ds) : Bds n m C D W ds.reverse := ⟨h.t.rev, fun d hd => h.x d (List.mem_reverse.mp hd)⟩
theorem Bds.set {i : Nat} (h : Bds n m C D W ds) (k : Bd n m C' D W x) : Bds n m (C + C' + 2) D W (ds.set i x) := ⟨h.t.set k.t, fun d hd => (List.mem_or_eq_of_mem_set hd).elim (h.x d) fun e => by rw [e]; exact k.x⟩
theorem Bds.mem (h : Bds n m C D W ds) (e : d ∈ ds) : Bd n m C D W d := ⟨h.t.mem e, h.x d e⟩
theorem bd_int {i : Int} (h : i.natAbs ≤ m) : Bd n m 1921 0 0 (.int i) := ⟨⟨h, Nat.le_refl _, Nat.le_refl _, Nat.le_refl _⟩, trivial⟩
theorem bd_bool (b : Bool) : Bd n m 5 0 0 (.bool b) := ⟨⟨trivial, Nat.le_refl _, Nat.le_refl _, Nat.le_refl _⟩, trivial⟩
theorem bd_none : Bd n m 4 0 0 .none := ⟨⟨trivial, Nat.le_refl _, Nat.le_refl _, Nat.le_refl _⟩, trivial⟩
theorem bd_str {z : Str} (h : z.length ≤ n) (h2 : n ≤ 2000) (c : ∀ x ∈ z.cps.toList, x < 128) : Bd n m (10 * n + 2) 0 0 (.str z) := ⟨⟨⟨Nat.le_trans h h2, fun x hx => Nat.lt_trans (c x hx) (by decide)⟩, by show 10 * z.length + 2 ≤ _; omega, Nat.le_refl _, Nat.le_refl _⟩, h, c⟩
end
theorem text_small {i : Int} (h : i.natAbs < 10 ^ 11) : (Str.ofString (toString i)).length ≤ 12 := by
  rw [PySem.ofString_length]
  exact int_text_length_le10 (k := 11) (by decide) h
theorem text_ascii (i : Int) : ∀ c ∈ (Str.ofString (toString i)).cps.toList, c < 128 := by
  intro c hc
  refine Decidable.byContradiction fun h => ?_
  exact PyProof.Rows.int_text_free' c ⟨by omega, by omega⟩ i hc
theorem cut_small (z : Str) (lo hi : Option Int) : (cutS z lo hi).length ≤ z.length := by
  have := cut_len z lo hi
  have h1 : HT.sIx z.length z.length hi ≤ z.length := HT.sIx_le _ _ (Nat.le_refl _) _
  omega
theorem cut_dp {H : Hp} {xs : List V} {ds : List PyData} {n m C D W : Nat} (da : DpAll K H xs ds) (b : Bds n m C D W ds) (lo hi : Option Int) : ∃ ys es, cutV xs lo hi = ys ∧ DpAll K H ys es ∧ Bds n m C D W es ∧ es.length ≤ ds.length ∧ ys.length = es.length := by
  refine ⟨_, (ds.drop (HT.sIx xs.length 0 lo)).take (HT.sIx xs.length xs.length hi - HT.sIx xs.length 0 lo), rfl, ?_, (b.drop _).take _, ?_, ?_⟩
  · exact dpAll_take _ (dpAll_drop _ da)
  · rw [List.length_take, List.length_drop]; omega
  · exact dpAll_len (dpAll_take _ (dpAll_drop _ da))
theorem cut_one (xs : List V) (a : Nat) : (cutV xs (some (a : Int)) (some ((a : Int) + 1))).length ≤ 1 := by
  unfold cutV
  rw [List.length_take, List.length_drop]
  rw [show ((a : Int) + 1) = ((a + 1 : Nat) : Int) by omega, HT.sIx_nat, HT.sIx_nat]
  omega
theorem str_mem_app {a b : Str} {x : Nat} (h : x ∈ (a ++ b).cps.toList) : x ∈ a.cps.toList ∨ x ∈ b.cps.toList := by
  have e : (a ++ b).cps.toList = a.cps.toList ++ b.cps.toList := Array.toList_append
  rw [e] at h
  exact List.mem_append.mp h
abbrev SqA (K : PySem.W.Frag) (H : Hp) (a : Addr) (xs : List V) : Prop := SqL K H a xs ∨ SqT K H a xs
theorem sq_same {H H' : Hp} {a : Addr} {xs : List V} (s : Same H H') (h : SqA K H a xs) : SqA K H' a xs := h.imp s.seq (same_tup s)
theorem sqa_off {H : Hp} {S : List Addr} {a : Addr} {xs : List V} (h : SqA K (off H S) a xs) : SqA K H a xs := sq_same off_sub h
theorem sqa_len {H : Hp} {a : Addr} {xs : List V} (h : SqA K H a xs) : LenV K (.ref a) H xs.length := h.elim (fun h => .inl ⟨_, h, rfl⟩) (fun h => .inr ⟨_, h, rfl⟩)
end
theorem upper_len {z : Str} (h : ∀ c ∈ z.cps.toList, c < 128) : (Txt.upper z).length = z.length := by
  rw [PyProof.Rows.upper_ascii h]
  show (z.cps.map _).size = z.cps.size
  rw [Array.size_map]
theorem upper_small {z : Str} (h : ∀ c ∈ z.cps.toList, c < 128) : ∀ c ∈ (Txt.upper z).cps.toList, c < 128 := by
  rw [PyProof.Rows.upper_ascii h]
  intro c hc
  have hc : c ∈ z.cps.toList.map PyProof.Rows.up1 := by simpa using hc
  obtain ⟨d, hd, rfl⟩ := List.mem_map.mp hc
  have := h d hd
  unfold PyProof.Rows.up1
  split <;> omega
theorem log_smallW {i : Int} (h : i.natAbs ≤ 10 ^ 12) : i.natAbs.log2 < 1920 := by
  by_cases z : i.natAbs = 0
  · rw [z]; decide
  · have := (Nat.log2_lt z).mpr (show i.natAbs < 2 ^ 40 from Nat.lt_of_le_of_lt h (by decide))
    omega
mutual
theorem gd_fineW {m : Nat} (h : m ≤ 10 ^ 12) : ∀ d : PyData, gd m d → fineAll.fine d
  | .none, _ => trivial
  | .bool _, _ => trivial
  | .int i, g => log_smallW (Nat.le_trans g h)
  | .str _, g => fun c hc => Nat.lt_trans (g.2 c hc) (by decide)
  | .list xs, g => gdAll_fineW h xs g
  | .tuple xs, g => gdAll_fineW h xs g
  | .dict _, g => g.elim
theorem gdAll_fineW {m : Nat} (h : m ≤ 10 ^ 12) : ∀ ds : List PyData, gdAll m ds → fineAll ds
  | [], _ => trivial
  | x :: xs, g => ⟨gd_fineW h x g.1, gdAll_fineW h xs g.2⟩
end
theorem Nm.ascii {z : Str} (h : Nm z) : ∀ c ∈ z.cps.toList, c < 128 := fun c hc => by have := (h.1.2 c hc).2; omega
theorem ascii_of {s : String} (h : (Str.ofString s).cps.toList.all (fun c => decide (c < 128)) = true) : ∀ c ∈ (Str.ofString s).cps.toList, c < 128 := fun c hc => of_decide_eq_true (List.all_eq_true.mp h c hc)
theorem ascii_app {a b : Str} (h1 : ∀ x ∈ a.cps.toList, x < 128) (h2 : ∀ x ∈ b.cps.toList, x < 128) : ∀ x ∈ (a ++ b).cps.toList, x < 128 := fun x hx => (str_mem_app hx).elim (h1 x) (h2 x)
theorem ascii_cut {z : Str} (h : ∀ x ∈ z.cps.toList, x < 128) (lo hi : Option Int) : ∀ x ∈ (cutS z lo hi).cps.toList, x < 128 := fun x hx => h x (cut_mem hx)
end Pot

namespace Pot
open PySem PySem.Spec PyProof.Rows L2
/-! ### lists and tuples alike: slices, sums, places -/
section
variable {X : Cx} {K : PySem.W.Frag}
def rSlS' (K : PySem.W.Frag) : V → Option Int → Option Int → Hp → VK → Prop := fun x lo hi H Q => rSlL K x lo hi H Q ∨ rSlA K x lo hi H Q
theorem kl_any (h : X.K = K := by rfl) : SlR X (rSlS' K) := h ▸ SlR.or sl_list sl_tupA
def rCatS' (K : PySem.W.Frag) : R2 := fun x y H Q => rCat x y H Q ∨ rCatA K x y H Q
theorem ko_catS (h : X.K = K := by rfl) : OpR X (binaryOp .Add) (rCatS' K) := h ▸ OpR.or op_cat op_catA
def rIxS' (K : PySem.W.Frag) : R2 := fun x y H Q => rIxL K x y H Q ∨ rIxT K x y H Q
theorem kx_any (h : X.K = K := by rfl) : IxR X (rIxS' K) := h ▸ IxR.or ix_list ix_tup
end
/-- a list's or a tuple's data -/
def seqD (t : Bool) (ds : List PyData) : PyData := if t = true then .tuple ds else .list ds
theorem seqD_t (ds : List PyData) : seqD true ds = .tuple ds := rfl
theorem seqD_l (ds : List PyData) : seqD false ds = .list ds := rfl
theorem seqD_or (t : Bool) (ds : List PyData) : seqD t ds = .list ds ∨ seqD t ds = .tuple ds := by cases t; exact .inl rfl; exact .inr rfl
theorem seqD_tup (t : Bool) (ds : List PyData) : isTupD (seqD t ds) = t := by cases t <;> rfl
theorem seqD_seq (t : Bool) (ds : List PyData) : (isListD (seqD t ds) || isTupD (seqD t ds)) = true := by cases t <;> rfl
def cutL (ds : List PyData) (lo hi : Option Int) : List PyData := (ds.drop (HT.sIx ds.length 0 lo)).take (HT.sIx ds.length ds.length hi - HT.sIx ds.length 0 lo)
theorem cutL_le (ds : List PyData) (lo hi : Option Int) : (cutL ds lo hi).length ≤ ds.length := by
  unfold cutL
  rw [List.length_take, List.length_drop]; omega
theorem cutL_head (ds : List PyData) (a : Nat) : cutL ds none (some (a : Int)) = ds.take a := by
  unfold cutL
  rw [HT.sIx_nat]
  show (ds.drop 0).take (min a ds.length - 0) = _
  rw [List.drop_zero, Nat.sub_zero]
  rcases Nat.le_total a ds.length with h | h
  · rw [Nat.min_eq_left h]
  · rw [Nat.min_eq_right h, List.take_length, List.take_of_length_le h]
theorem cutL_tail (ds : List PyData) (a : Nat) : cutL ds (some (a : Int)) none = ds.drop a := by
  unfold cutL
  rw [HT.sIx_nat]
  show (ds.drop (min a ds.length)).take (ds.length - min a ds.length) = _
  rcases Nat.le_total a ds.length with h | h
  · rw [Nat.min_eq_left h, List.take_of_length_le (by rw [List.length_drop]; exact Nat.le_refl _)]
  · rw [Nat.min_eq_right h, List.drop_length, List.drop_of_length_le h, List.take_nil]
/-- a value that is a list of its own or a tuple -/
def SeqV (K : PySem.W.Frag) (H : Hp) (t : Bool) (y : V) (ds : List PyData) : Prop := ∃ a xs, y = .ref a ∧ DpAll K H xs ds ∧ (if t = true then SqT K H a xs else H a = some (.lst xs))
section
variable {K : PySem.W.Frag} {H H' : Hp} {S : List Addr} {t : Bool} {x y : V} {ds es : List PyData} {lo hi : Option Int} {Q : VK}
theorem SeqV.dp (h : SeqV K H t y ds) : Dp K H y (seqD t ds) := by
  obtain ⟨a, xs, rfl, da, hs⟩ := h
  cases t with
  | true => exact .tup hs da
  | false => exact .lst (SqL.of hs) da
theorem SeqV.same (s : Same H H') (h : SeqV K H t y ds) : SeqV K H' t y ds := by
  obtain ⟨a, xs, rfl, da, hs⟩ := h
  refine ⟨a, xs, rfl, dpAll_same s da, ?_⟩
  cases t with
  | true => exact same_tup s hs
  | false => exact s _ _ hs
theorem sl_seq (lv : Live S H) (d : Dp K (off H S) x (seqD t ds)) (q : ∀ H' y, Same H H' → SeqV K (off H' S) t y (cutL ds lo hi) → Q y H') : rSlS' K x lo hi H Q := by
  cases t with
  | true =>
    obtain ⟨a, xs, rfl, hs, da⟩ := dp_tup d
    have lx := dpAll_len da
    refine .inr ⟨a, xs, rfl, sqt_off hs, fun h => ?_, fun h p np => ?_⟩
    · refine q _ _ (Same.refl _) ⟨a, xs, rfl, ?_, hs⟩
      have e : cutL ds lo hi = ds := by
        unfold cutL
        rw [lx] at h
        rw [h.1, h.2, List.drop_zero, Nat.sub_zero, List.take_length]
      rw [e]; exact da
    · refine q _ _ (same_upd np) ⟨p, _, rfl, ?_, .inl (.inl (off_new lv np))⟩
      unfold cutL
      rw [← lx]
      exact dpAll_same (sm_put np) (dpAll_take _ (dpAll_drop _ da))
  | false =>
    obtain ⟨a, xs, rfl, hs, da⟩ := dp_lst d
    have lx := dpAll_len da
    refine .inl ⟨a, xs, rfl, sq_off hs, fun p np => ?_⟩
    refine q _ _ (same_upd np) ⟨p, _, rfl, ?_, off_new lv np⟩
    unfold cutL
    rw [← lx]
    exact dpAll_same (sm_put np) (dpAll_take _ (dpAll_drop _ da))
theorem cat_seq (lv : Live S H) (d : SeqV K (off H S) t x ds) (e : SeqV K (off H S) t y es) (l : ds.length + es.length ≤ sizeLine) (q : ∀ H' z, Same H H' → SeqV K (off H' S) t z (ds ++ es) → Q z H') : rCatS' K x y H Q := by
  obtain ⟨a, xs, rfl, da, hs⟩ := d
  obtain ⟨b, ys, rfl, db, ht⟩ := e
  have lx := dpAll_len da
  have ly := dpAll_len db
  cases t with
  | true =>
    have hs : SqT K (off H S) a xs := hs
    have ht : SqT K (off H S) b ys := ht
    refine .inr ⟨a, b, xs, ys, rfl, rfl, sqt_off hs, sqt_off ht, by rw [lx, ly]; exact l, fun z => ?_, fun z z2 => ?_, fun z z2 p np => ?_⟩
    · refine q _ _ (Same.refl _) ⟨b, ys, rfl, ?_, ht⟩
      have : ds = [] := List.length_eq_zero_iff.mp (by rw [← lx, z]; rfl)
      rw [this]; exact db
    · refine q _ _ (Same.refl _) ⟨a, xs, rfl, ?_, hs⟩
      have : es = [] := List.length_eq_zero_iff.mp (by rw [← ly, z2]; rfl)
      rw [this, List.append_nil]; exact da
    · exact q _ _ (same_upd np) ⟨p, _, rfl, dpAll_same (sm_put np) (dpAll_app' da db), .inl (.inl (off_new lv np))⟩
  | false =>
    have hs : off H S a = some (.lst xs) := hs
    have ht : off H S b = some (.lst ys) := ht
    exact .inl ⟨a, b, xs, ys, rfl, rfl, at_off hs, at_off ht, by rw [lx, ly]; exact l, fun p np => q _ _ (same_upd np) ⟨p, _, rfl, dpAll_same (sm_put np) (dpAll_app' da db), off_new lv np⟩⟩
theorem ix_seqV {i : Nat} {d : PyData} (h : Dp K (off H S) x (seqD t ds)) (g : ds[i]? = some d) (q : ∀ y, Dp K (off H S) y d → Q y H) : rIxS' K x (.int (i : Nat)) H Q := by
  cases t with
  | true =>
    obtain ⟨a, xs, rfl, hs, da⟩ := dp_tup h
    have lx := dpAll_len da
    have hi : i < xs.length := by rw [lx]; exact (List.getElem?_eq_some_iff.mp g).1
    obtain ⟨d2, g2, dp⟩ := dpAll_at da (List.getElem?_eq_getElem hi)
    rw [g] at g2
    cases g2
    exact .inr ⟨a, xs, _, _, rfl, rfl, sqt_off hs, atI_nat (List.getElem?_eq_getElem hi), q _ dp⟩
  | false =>
    obtain ⟨a, xs, rfl, hs, da⟩ := dp_lst h
    have lx := dpAll_len da
    have hi : i < xs.length := by rw [lx]; exact (List.getElem?_eq_some_iff.mp g).1
    obtain ⟨d2, g2, dp⟩ := dpAll_at da (List.getElem?_eq_getElem hi)
    rw [g] at g2
    cases g2
    exact .inl ⟨a, xs, _, _, rfl, rfl, sq_off hs, atI_nat (List.getElem?_eq_getElem hi), q _ dp⟩
theorem len_seq (h : Dp K (off H S) x (seqD t ds)) : LenV K x H ds.length := by
  cases t with
  | true =>
    obtain ⟨a, xs, rfl, hs, da⟩ := dp_tup h
    rw [← dpAll_len da]
    exact .inr ⟨_, sqt_off hs, rfl⟩
  | false =>
    obtain ⟨a, xs, rfl, hs, da⟩ := dp_lst h
    rw [← dpAll_len da]
    exact .inl ⟨_, sq_off hs, rfl⟩
end
section
variable {n m C D W : Nat} {ds : List PyData}
theorem Bds.cut (h : Bds n m C D W ds) (lo hi : Option Int) : Bds n m C D W (cutL ds lo hi) := (h.drop _).take _
theorem Bd.seq {t : Bool} (h : Bd n m C D W (seqD t ds)) : Bds n m C (D - 1) W ds ∧ ds.length ≤ W := by
  obtain ⟨a, b, c, d⟩ := h.parts (seqD_or t ds)
  exact ⟨a.mono (Nat.le_refl _) (Nat.le_refl _) (Nat.sub_le _ _) (Nat.le_refl _) (Nat.le_refl _), b⟩
theorem Bds.seq {t : Bool} (h : Bds n m C D W ds) (l : ds.length ≤ W) : Bd n m (C + 3) (D + 1) W (seqD t ds) := by
  cases t
  · exact h.list l
  · exact h.tuple l
end
end Pot

namespace Pot
open PySem PySem.Spec PyProof.Rows L2
/-! ### comprehensions that make new things, nothing drawn -/
structure PvD (K : PySem.W.Frag) (H1 : Hp) (S : List Addr) (D : Addr) (ds : Nat → List PyData) (i : Nat) (H2 : Hp) : Prop where
  sm : Same H1 H2
  ex : ∃ us, H2 D = some (.lst us) ∧ DpAll K (off H2 (D :: S)) us (ds i)
section
variable {K : PySem.W.Frag} {H1 H2 H3 : Hp} {S : List Addr} {D : Addr} {ds : Nat → List PyData} {i : Nat} {y x : V} {d : PyData} {xs : List V} {es : List PyData}
theorem same_offD (nD : H1 D = none) (s : Same H1 H2) : Same (off H1 S) (off H2 (D :: S)) := fun a o h => by
  have n := off_mem h
  rw [off_out n] at h
  have ne : a ≠ D := fun z => by rw [z, nD] at h; cases h
  rw [off_out (by intro z; rcases List.mem_cons.mp z with z | z; exact ne z; exact n z)]
  exact s a o h
theorem pd_start (nD : H1 D = none) (e : ds 0 = []) : PvD K H1 S D ds 0 (upd H1 D (.lst [])) := ⟨same_upd nD, [], upd_same, by rw [e]; exact .nil⟩
theorem PvD.live (lv : Live S H1) (p : PvD K H1 S D ds i H2) : Live (D :: S) H2 := by
  obtain ⟨s, us, h, _⟩ := p
  exact (lv.same s).cons h
theorem PvD.keep (nD : H1 D = none) (p : PvD K H1 S D ds i H2) : Same (off H1 S) (off H2 (D :: S)) := same_offD nD p.sm
theorem pd_put (nD : H1 D = none) (p : PvD K H1 S D ds i H2) (s : Same H2 H3) (dy : Dp K (off H3 (D :: S)) y d) (e : ds (i + 1) = ds i ++ [d]) (l : (ds i).length < sizeLine) : ∃ acc, H3 D = some (.lst acc) ∧ acc.length < sizeLine ∧ PvD K H1 S D ds (i + 1) (upd H3 D (.lst (acc ++ [y]))) := by
  obtain ⟨s1, us, h, da⟩ := p
  have sw : Sm (D :: S) H3 (upd H3 D (.lst (us ++ [y]))) := sm_wr List.mem_cons_self
  refine ⟨us, s _ _ h, by rw [dpAll_len da]; exact l, same_put (s1.trans s) nD, _, upd_same, ?_⟩
  rw [e]
  exact dpAll_app (dpAll_same sw (dpAll_same (sm_of s) da)) (.cons (dp_same sw dy) .nil)
theorem pd_skip (p : PvD K H1 S D ds i H2) (s : Same H2 H3) (e : ds (i + 1) = ds i) : PvD K H1 S D ds (i + 1) H3 := by
  obtain ⟨s1, us, h, da⟩ := p
  exact ⟨s1.trans s, us, s _ _ h, by rw [e]; exact dpAll_same (sm_of s) da⟩
theorem PvD.same (p : PvD K H1 S D ds i H2) (s : Same H2 H3) : PvD K H1 S D ds i H3 := by
  obtain ⟨s1, us, h, da⟩ := p
  exact ⟨s1.trans s, us, s _ _ h, dpAll_same (sm_of s) da⟩
/-- a list is filled with another one's things -/
theorem pd_ext {ms ns : List PyData} {us zs : List V} {j : Nat} (nD : H1 D = none) (s : Same H1 H3) (h : H3 D = some (.lst us)) (da : DpAll K (off H3 (D :: S)) us ms) (dz : DpAll K (off H3 (D :: S)) zs ns) : PvD K H1 S D (fun _ => ms ++ ns) j (upd H3 D (.lst (us ++ zs))) := by
  have sw : Sm (D :: S) H3 (upd H3 D (.lst (us ++ zs))) := sm_wr List.mem_cons_self
  exact ⟨same_put s nD, _, upd_same, dpAll_same sw (dpAll_app da dz)⟩
theorem pd_end {n : Nat} (lv : Live S H1) (nD : H1 D = none) (p : PvD K H1 S D ds n H2) (e : ds n = es) : Same H1 H2 ∧ ∃ us, off H2 S D = some (.lst us) ∧ DpAll K (off H2 S) us es := by
  obtain ⟨s, us, h, da⟩ := p
  refine ⟨s, us, by rw [off_out (lv.out nD)]; exact h, ?_⟩
  rw [← e]
  exact dpAll_same (off_mono fun x hx => List.mem_cons_of_mem _ hx) da
end
theorem take_mapD {α : Type} (f : α → PyData) {l : List α} {i : Nat} {x : α} (h : l[i]? = some x) : (l.take (i + 1)).map f = (l.take i).map f ++ [f x] := by
  rw [List.take_add_one, h, List.map_append]; rfl
theorem take_allD {α : Type} {f : α → PyData} {l : List α} {n : Nat} (h : l.length ≤ n) : (l.take n).map f = l.map f := by rw [List.take_of_length_le h]
theorem take_lenD {α : Type} {f : α → PyData} {l : List α} {i : Nat} (h : l.length < 100000) : ((l.take i).map f).length < sizeLine := by
  rw [List.length_map, List.length_take, sizeLine_eq]; omega
theorem filt_yes {α : Type} (f : α → PyData) {p : α → Bool} {l : List α} {i : Nat} {x : α} (h : l[i]? = some x) (hp : p x = true) : ((l.take (i + 1)).filter p).map f = ((l.take i).filter p).map f ++ [f x] := by
  rw [List.take_add_one, h, Option.toList_some, List.filter_append, List.map_append]; simp [hp]
theorem filt_no {α : Type} (f : α → PyData) {p : α → Bool} {l : List α} {i : Nat} {x : α} (h : l[i]? = some x) (hp : p x = false) : ((l.take (i + 1)).filter p).map f = ((l.take i).filter p).map f := by
  rw [List.take_add_one, h, Option.toList_some, List.filter_append, List.map_append]; simp [hp]
theorem filt_len {α : Type} (f : α → PyData) (p : α → Bool) {l : List α} {i : Nat} (h : l.length < 100000) : (((l.take i).filter p).map f).length < sizeLine := by
  rw [List.length_map, sizeLine_eq]
  have h1 := List.length_filter_le p (l.take i)
  have h2 : (l.take i).length ≤ l.length := List.length_take_le' ..
  omega
theorem filt_all {α : Type} (f : α → PyData) (p : α → Bool) {l : List α} {n : Nat} (h : l.length ≤ n) : ((l.take n).filter p).map f = (l.filter p).map f := by rw [List.take_of_length_le h]
theorem go_offL {K : PySem.W.Frag} {H : Hp} {S : List Addr} (hS : ∀ s ∈ S, ∃ xs, H s = some (.lst xs)) (a : Addr) (us : List V) (h : SqT K H a us) : SqT K (off H S) a us := by
  have go : ∀ o, (H a = some (.tup us) ∨ H a = some (.frz o (.tup us))) → a ∉ S := fun o e z => by
    obtain ⟨xs, h1⟩ := hS a z
    rw [h1] at e; rcases e with e | e <;> cases e
  rcases h with (h | ⟨o, h⟩) | h
  · exact .inl (.inl (by rw [off_out (go ⟨.none, none, .fields #[], #[]⟩ (.inl h))]; exact h))
  · exact .inl (.inr ⟨o, by rw [off_out (go o (.inr h))]; exact h⟩)
  · exact .inr h
/-- data without lists stands beside any lists -/
theorem dpAll_offL {K : PySem.W.Frag} {H : Hp} {S : List Addr} {vs : List V} {es : List PyData} (hS : ∀ s ∈ S, ∃ xs, H s = some (.lst xs)) (h : noLAll es) (p : DpAll K H vs es) : DpAll K (off H S) vs es := dpAll_go (go_offL hS) h p
theorem off_nil {H : Hp} : off H [] = H := by
  funext x; unfold off; rw [if_neg (List.not_mem_nil)]
theorem live_nil {H : Hp} : Live [] H := fun _ h => (List.not_mem_nil h).elim
end Pot

namespace Pot
open PySem PySem.Spec PyProof.Rows L2
/-! ### the least and the greatest of a list of numbers -/
section
variable {X : Cx} {K : PySem.W.Frag}
theorem kc_min (hc : X.calm = true := by rfl) (h : X.K = K := by rfl) : CallR X (.builtin "min") (rMin K) := h ▸ cr_min hc
theorem kc_max (hc : X.calm = true := by rfl) (h : X.K = K := by rfl) : CallR X (.builtin "max") (rMax K) := h ▸ cr_max hc
end
end Pot

namespace Pot
open PySem PySem.Spec PyProof.Rows L2
/-! ### calls by names alone -/
section
variable {X : Cx} {CX : CXT} {k : Nat} {f : Addr} {fd : FuncData} {ps ks : List Str} {sp : Sp} {E : XK} {x : Str} {p pos : Pos} {kws : List Keyword} {tk : TA} {g : List Value → List Value → List Value} {gV : List V → List V → List V}
theorem pe_callK0 (F : FnOk X.prog X.w X.K X.mg X.base CX k f fd ps sp) (hr : Room k X.A) (hg : Gl X x) (hm : X.mg x = some (.ref f)) (hk : PySem.W.keepIn X.K (.ref f) = true) (hb : KBinds X.K fd ps ks g gV) (hx : Passes CX X E)
    (hkw : PK X kws tk) (hall : (backToKw pos (keywordEach kws X.env)).all (·.1.isSome) = true := by rfl) (hks : (backToKw pos (keywordEach kws X.env)).filterMap (·.1) = ks := by rfl)
    (hdb : (x == ("__debug__" : Str)) = false := by decide)
    (hpl : ((backTo pos (starEach [] X.env)).any (·.1) || (backToKw pos (keywordEach kws X.env)).any (·.1.isNone)) = false := by rfl) :
    PE X (.Call (.Name x p) [] kws pos) (tCallK sp gV E tNil tk) := by
  refine ⟨fun pins s σ H Q I h => ?_⟩
  refine wpAny_Call_Name_kw (ld_glob I hg hm ?_ hdb)
  refine PySem.W.callWith_KW0 (h₀ := X.base) I.ok.mod.kin hk hall (thn (hkw.run pos pins s σ H _ I h) fun ws s2 ⟨zs, H2, I2, rz, q2⟩ => ⟨I2.kIn, ?_⟩) hpl
  rw [hks]
  exact run_fnk F hr hb hx I2 .nil rz q2
end
def ClK (P : Program) (w : World) (K : PySem.W.Frag) (mg : Str → Option Value) (base : Heap) (k : Nat) (x : Str) (ks : List Str) (gV : List V → List V → List V) (sp : Sp) : Prop :=
  ∃ (f : Addr) (fd : FuncData) (ps : List Str) (g : List Value → List Value → List Value), FnOk P w K mg base CX0 k f fd ps sp ∧ mg x = some (.ref f) ∧ PySem.W.keepIn K (.ref f) = true ∧ KBinds K fd ps ks g gV
theorem pe_ck {X : Cx} {k j : Nat} {x : Str} {ks : List Str} {gV : List V → List V → List V} {sp : Sp} {kws : List Keyword} {t : TA} {p pos : Pos} (c : ClK X.prog X.w X.K X.mg X.base k x ks gV sp) (hr : Room j X.A) (hk : k ≤ j) (hg : Gl X x) (ha : PK X kws t)
    (hall : (backToKw pos (keywordEach kws X.env)).all (·.1.isSome) = true := by rfl) (hks : (backToKw pos (keywordEach kws X.env)).filterMap (·.1) = ks := by rfl) (hdb : (x == ("__debug__" : Str)) = false := by decide)
    (hpl : ((backTo pos (starEach [] X.env)).any (·.1) || (backToKw pos (keywordEach kws X.env)).any (·.1.isNone)) = false := by rfl) : PE X (.Call (.Name x p) [] kws pos) (tCallK sp gV E0 tNil t) := by
  obtain ⟨f, fd, ps, g, G, hm, kp, b⟩ := c
  exact pe_callK0 G (hr.mono hk) hg hm kp b pass0 ha hall hks hdb hpl
/-- three, handed in from the last to the first -/
def rev3 {α : Type} : List α → List α → List α
  | [], [a, b, c] => [c, b, a]
  | _, _ => []
theorem kb_rev3 {K : PySem.W.Frag} {x qual : Str} {st : Stmt} {f : Addr} {fd : FuncData} {k1 k2 k3 : Str} (F : Fun K x qual st f fd)
    (h : ∀ (kV doc pm : Value) (an : Option Addr) (cdv ct a b c : Value), bindArgs (PySem.W.fnOf x qual (defArgs st) (defBody st) (defScope st) .none kV doc pm an cdv ct) ⟨[], [(k3, a), (k2, b), (k1, c)]⟩ = pure [(k1, c), (k2, b), (k3, a)]) : KBinds K fd [k1, k2, k3] [k3, k2, k1] rev3 rev3 := by
  obtain ⟨oc, od, kV, doc, pm, an, cdv, ct, osl, rfl, lk, hcd⟩ := F.ex
  refine ⟨fun s us ws _ hl => ?_, fun {vs us zs ws} r rz => ?_⟩
  · match us, ws, hl with
    | [], [a, b, c], _ => exact .of_eq (h kV doc pm an cdv ct a b c)
    | [], [], hl => cases hl
    | [], [_], hl => cases hl
    | [], [_, _], hl => cases hl
    | [], _ :: _ :: _ :: _ :: _, hl => cases hl
    | _ :: _, _, hl => cases hl
  · cases r with
    | nil =>
      cases rz with
      | nil => exact .nil
      | cons a rz =>
        cases rz with
        | nil => exact .nil
        | cons b rz =>
          cases rz with
          | nil => exact .nil
          | cons c rz =>
            cases rz with
            | nil => exact .cons c (.cons b (.cons a .nil))
            | cons _ _ => exact .nil
    | cons _ _ => exact .nil
/-- four, from the last to the first, of a def with defaults -/
def rev4 {α : Type} : List α → List α → List α
  | [], [a, b, c, d] => [d, c, b, a]
  | _, _ => []
theorem kb_rev4D {K : PySem.W.Frag} {x : Str} {st : Stmt} {dvs : List V} {f : Addr} {fd : FuncData} {k1 k2 k3 k4 : Str} (F : FunV K x st dvs f fd) (hd : dvs ≠ [])
    (h : ∀ (T : Addr) (kV doc pm : Value) (an : Option Addr) (cdv ct a b c d : Value) (its : List Value), its.length = dvs.length → ∃ k, bindArgs (PySem.W.fnOf x x (defArgs st) (defBody st) (defScope st) (.ref T) kV doc pm an cdv ct) ⟨[], [(k4, a), (k3, b), (k2, c), (k1, d)]⟩ = seqItems? (.ref T) >>= k ∧ k (some its.toArray) = pure [(k1, d), (k2, c), (k3, b), (k4, a)]) : KBinds K fd [k1, k2, k3, k4] [k4, k3, k2, k1] rev4 rev4 := by
  obtain ⟨oc, od, dV, kV, doc, pm, an, cdv, ct, osl, rfl, lk, hcd, hD, hK⟩ := F.ex
  refine ⟨fun s us ws X hl => ?_, fun {vs us zs ws} r rz => ?_⟩
  · rcases hD with ⟨e, _⟩ | ⟨_, T, o, its, m, rfl, lT, oT, rT⟩
    · exact absurd e hd
    · match us, ws, hl with
      | [], [a, b, c, d], _ =>
        obtain ⟨k, e1, e2⟩ := h T kV doc pm an cdv ct a b c d its rT.length.symm
        refine BindsTo.of_looks fun M => ?_
        show PySem.W.Looks M s.heap (bindArgs _ ⟨[], [(k4, a), (k3, b), (k2, c), (k1, d)]⟩) _
        rw [e1]
        exact looks_items X lT oT (.of_pure e2)
      | [], [], hl => cases hl
      | [], [_], hl => cases hl
      | [], [_, _], hl => cases hl
      | [], [_, _, _], hl => cases hl
      | [], _ :: _ :: _ :: _ :: _ :: _, hl => cases hl
      | _ :: _, _, hl => cases hl
  · cases r with
    | nil =>
      cases rz with
      | nil => exact .nil
      | cons a rz =>
        cases rz with
        | nil => exact .nil
        | cons b rz =>
          cases rz with
          | nil => exact .nil
          | cons c rz =>
            cases rz with
            | nil => exact .nil
            | cons d rz =>
              cases rz with
              | nil => exact .cons d (.cons c (.cons b (.cons a .nil)))
              | cons _ _ => exact .nil
    | cons _ _ => exact .nil
/-! ### a list or a tuple walked -/
def iAnyS (K : PySem.W.Frag) (tl : TE) : TI := fun σ H R => iList K tl σ H R ∨ iTup K tl σ H R
theorem ki_anyS {X : Cx} {K : PySem.W.Frag} {tg l : Expr} {tl : TE} (hl : PE X l tl) (h : X.K = K := by rfl) : PI X tg l (iAnyS K tl) :=
  ⟨fun pins s σ H R I z => z.elim (fun z => (ki_list hl h).run pins s σ H R I z) (fun z => (ki_tup hl h).run pins s σ H R I z)⟩
end Pot

namespace Pot
open PySem PySem.Spec PyProof.Rows L2
/-! ### sorted of a set of ints, however many: what the list holds -/
section
variable {P : Program} {w : World} {A : Around} {E : Value → Shared → Prop} {s : Shared} {a : Addr}
theorem sorted_setW {S : Int → Bool} {n : Nat} {Q : Value → Shared → Prop} (R : SetR w s.heap a S n) (hh : A.handled = none) (hn4 : n ≤ 4000)
    (hQ : ∀ s' p (out : Array Value) (c : Nat) (ns : List Int), (∀ b o, s.heap.get? b = some o → s'.heap.get? b = some o) → s'.gens = s.gens → s'.os = s.os → s.heap.objs.size ≤ p →
      s'.heap.get? p = some (seqObj "list" out c) → IntsAre out.toList ns → (∀ k ∈ ns, S k = true) → ns.length = n → Q (.ref p) s') :
    wpAny (model P w) A (call (.builtin "sorted") [.ref a]) Q E s := by
  obtain ⟨o, es, ep, t, ho, hex, hd, g, nd, hm, hb, hf, hn, hr, hl⟩ := R
  refine Calls.call_function_entry kind_sorted plain_sorted entry_sorted (args_sorted1 _) ?_
  unfold Builtin.«sorted»
  refine wpAny_bind (m := checkCount "sorted" 1 1 _) (wpAny_pure ?_)
  refine wpAny_bind (collect_set (A := A.in1) hh ⟨o, ho, hex.1, hd⟩ hf hb hr hl fun s1 vs k1 hz g1 o1 pm => ?_)
  have lv : vs.length = n := (pm.length_eq.trans (by rw [List.length_map, Array.length_toList])).trans hn
  have ls : vs.length ≤ sizeLine := by rw [lv, sizeLine_eq]; omega
  have iv : IntsAre vs (vs.map Builtin.Re.reRawOf) := ints_of vs fun v hv => by
    obtain ⟨e, he, rfl⟩ := List.mem_map.mp (pm.mem_iff.mp hv)
    obtain ⟨k, tk, h1, _⟩ := g e he
    exact ⟨k, tk, h1⟩
  refine wpAny_bind (wpAny_newList ?_ ls)
  have hL : (s1.heap.push (seqObj "list" vs.toArray 0)).get? s1.heap.objs.size = some (seqObj "list" vs.toArray 0) := Heap.get?_push_size _ rfl
  refine wpAny_bind (wpAny_holding (wpAny_call_entry slot_list_sort ⟨_, hL, rfl⟩ entry_list_sort (list_sort_treeAny hL iv ls fun out ns a1 a2 _ => ⟨_, rfl, ?_⟩) (args_list_sort _)))
  obtain ⟨c, hc⟩ := sortedHeap_at (vs := vs) (out := out) hL
  refine wpAny_pure ⟨_, rfl, hQ _ s1.heap.objs.size out c ns (fun b u e => ?_) g1 o1 hz hc a1 (fun k hk => ?_) ?_⟩
  · have h1 := k1 b u e
    have hlt := Heap.lt_size h1
    show (sortedHeap (s1.heap.push (seqObj "list" vs.toArray 0)) s1.heap.objs.size vs out).get? b = some u
    rw [sortedHeap_old (Nat.ne_of_lt hlt) (by rw [size_push']; exact Nat.lt_succ_of_lt hlt)]
    exact Heap.get?_push_of_some _ h1
  · have h2 := a2.mem_iff.mp hk
    obtain ⟨v, hv, rfl⟩ := List.mem_map.mp h2
    obtain ⟨e, he, rfl⟩ := List.mem_map.mp (pm.mem_iff.mp hv)
    exact (hm _).mpr (List.mem_map.mpr ⟨e, he, rfl⟩)
  · rw [a2.length_eq, List.length_map, lv]
end
section
variable {X : Cx}
def rSortedSetW (w : World) : List V → Hp → VK → Prop := fun vs H Q => ∃ (a : Addr) (S : Int → Bool) (n : Nat), vs = [V.ref a] ∧ H a = some (SetO w a S n) ∧ n ≤ 4000 ∧
  ∀ (ns : List Int) (p : Addr), (∀ k ∈ ns, S k = true) → ns.length = n → H p = none → Q (.ref p) (upd H p (.lst (ns.map V.int)))
theorem cr_sortedSetW (hc : X.calm = true) : CallR X (.builtin "sorted") (rSortedSetW X.w) := by
  intro pins s σ H vs us Q I r h
  obtain ⟨a, S, n, rfl, ha, h4, q⟩ := h
  rw [Vals.ref1 r]
  refine sorted_setW (setO_get I ha) (I.ok.hd hc) h4 fun s' p out c ns k g o hp hg hi hs hl => ?_
  have hlen : (ns.map V.int).length ≤ sizeLine := by rw [List.length_map, hl, sizeLine_eq]; omega
  have hn : H p = none := I.hok.fresh hp
  have J : Inv X pins σ (upd H p (.lst (ns.map V.int))) { s with heap := s'.heap, gens := s'.gens, drawn := s'.drawn, toks := s'.toks } :=
    I.call (ch := []) (Un.laid k hp hn) (I.hok.laid k hp ⟨hlen, out.toList, c, vals_of_ints hi, hg⟩) (by rw [g]; exact I.bare) (fun _ z => nomatch z)
  have e : s' = { s with heap := s'.heap, gens := s'.gens, drawn := s'.drawn, toks := s'.toks } := by
    cases s'; cases s; cases o; rfl
  rw [e]
  exact ⟨.ref p, _, J, rfl, q ns p hs hl hn⟩
theorem kc_sortedSetW {w : World} (hc : X.calm = true := by rfl) (hw : X.w = w := by rfl) : CallR X (.builtin "sorted") (rSortedSetW w) := hw ▸ cr_sortedSetW hc
end
end Pot

namespace Pot
open PySem PySem.Spec PyProof.Rows L2
/-- sum of a tuple of numbers -/
def rSumT (K : PySem.W.Frag) : List V → Hp → VK → Prop := fun vs H Q => ∃ (a : Addr) (ns : List Int), vs = [V.ref a] ∧ SqT K H a (ns.map V.int) ∧ Q (.int ns.sum) H
theorem kc_sumT {X : Cx} {K : PySem.W.Frag} (hc : X.calm = true := by rfl) (h : X.K = K := by rfl) : CallR X (.builtin "sum") (rSumT K) := by
  subst h
  intro pins s σ H vs us Q I r z
  obtain ⟨a, ns, rfl, hs, q⟩ := z
  obtain ⟨its, rv, hl, _⟩ := I.tuple hs
  rw [Vals.ref1 r]
  have hi := rv.ints
  obtain ⟨xs, hx⟩ := hi.allInts.items
  have hn : numsOf its.toArray.toList = ns := by rw [show its.toArray.toList = its from rfl, hi.numsOf]
  have hl : s.heap.IsTuple a its.toArray := hl
  rw [hx] at hl hn
  rw [nums_intItems] at hn
  refine PySem.W.ktm_sumG (I.ok.hd hc) hl fun h' tk t' hk => ?_
  rw [preSum_eq, List.take_of_length_le (by simp), hn]
  exact ⟨.int _, H, I.kept hk, ⟨_, rfl⟩, q⟩
/-- four by names: the last, the third, the first, the second -/
def mix4 {α : Type} : List α → List α → List α
  | [], [a, b, c, d] => [c, d, b, a]
  | _, _ => []
theorem kb_mix4 {K : PySem.W.Frag} {x qual : Str} {st : Stmt} {f : Addr} {fd : FuncData} {k1 k2 k3 k4 : Str} (F : Fun K x qual st f fd)
    (h : ∀ (kV doc pm : Value) (an : Option Addr) (cdv ct a b c d : Value), bindArgs (PySem.W.fnOf x qual (defArgs st) (defBody st) (defScope st) .none kV doc pm an cdv ct) ⟨[], [(k4, a), (k3, b), (k1, c), (k2, d)]⟩ = pure [(k1, c), (k2, d), (k3, b), (k4, a)]) : KBinds K fd [k1, k2, k3, k4] [k4, k3, k1, k2] mix4 mix4 := by
  obtain ⟨oc, od, kV, doc, pm, an, cdv, ct, osl, rfl, lk, hcd⟩ := F.ex
  refine ⟨fun s us ws _ hl => ?_, fun {vs us zs ws} r rz => ?_⟩
  · match us, ws, hl with
    | [], [a, b, c, d], _ => exact .of_eq (h kV doc pm an cdv ct a b c d)
    | [], [], hl => cases hl
    | [], [_], hl => cases hl
    | [], [_, _], hl => cases hl
    | [], [_, _, _], hl => cases hl
    | [], _ :: _ :: _ :: _ :: _ :: _, hl => cases hl
    | _ :: _, _, hl => cases hl
  · cases r with
    | nil =>
      cases rz with
      | nil => exact .nil
      | cons a rz =>
        cases rz with
        | nil => exact .nil
        | cons b rz =>
          cases rz with
          | nil => exact .nil
          | cons c rz =>
            cases rz with
            | nil => exact .nil
            | cons d rz =>
              cases rz with
              | nil => exact .cons c (.cons d (.cons b (.cons a .nil)))
              | cons _ _ => exact .nil
    | cons _ _ => exact .nil
end Pot

namespace Pot
open PySem PySem.Spec PyProof.Rows L2
def topS (i : Nat) : Stmt := PySem.Challenge.pw_potround_k34_whole_pots_that_break_again.main.body.getD i (.Pass ⟨0, 0, 0, 0⟩)
section
variable {P : Program} {w : World} {K : PySem.W.Frag} {mg : Str → Option Value} {base : Heap}
abbrev s__law_take : Stmt := topS 33
def n__law_take : List Str := ["_law_box_here", "_law_many", "_law_found", "_law_once"]
theorem sc__law_take : FnScope n__law_take ["_law_box_here", "_law_many"] (defScope s__law_take) := ⟨rfl, rfl, rfl, by decide +kernel, rfl, by decide +kernel, by decide +kernel⟩
/-! ### _law_take -/
def spTake : Sp := fun vs H Q _ => ∃ (b : Addr) (m : Int) (n : Nat), vs = [.ref b, .int m] ∧ 0 < m ∧ m < 1073741824 ∧ Bp H b n ∧ n < 2 ^ 40 ∧
  ∀ H' r, 0 ≤ r → r < m → Bp H' b (n + 1) → Sm [b] H H' → Q (.int r) H'
theorem ok_take {f : Addr} {fd : FuncData} {k : Nat} (F : Fun K "_law_take" "_law_take" s__law_take f fd) (T : Txt mg) :
    FnOk P w K mg base CX0 (k + 1) f fd ["_law_box_here", "_law_many"] spTake := by
  refine F.ok sc__law_take (fun vs H Q E h => ?_) (fun cdv A outer s H vs Q E hr h => ?_)
  · obtain ⟨b, m, n, rfl, _⟩ := h
    rfl
  · obtain ⟨b, m, n, rfl, hm0, hm1, ⟨x, y, z, B, z0, zn, y0, y1⟩, hn, q⟩ := h
    have nd := sc__law_take.nd
    refine ⟨_, (pss_cons (ps_if (pt_cmpR op_gt (pe_ix (kx_list (K := K)) (pv 0) pe_int (fun _ _ => rfl)) pe_int (nomark _))
          (pss_cons (ps_set (i := 2) nd rfl (.inl rfl) (pe_op op_mod (pe_ix (kx_list (K := K)) (pv 0) pe_int (fun _ _ => rfl)) (pv 1)))
          (pss_cons (ps_asg (pe_op op_fdiv (pe_ix (kx_list (K := K)) (pv 0) pe_int (fun _ _ => rfl)) (pv 1)) (pg_sub (pv 0) pe_int set_list))
          (pss_one (ps_ret (pv 2)))))
          pss_nil)
      (pss_cons (ps_asg (pe_op op_add (pe_ix (kx_list (K := K)) (pv 0) pe_int (fun _ _ => rfl)) pe_int) (pg_sub (pv 0) pe_int set_list))
      (pss_cons (ps_set (i := 3) nd rfl (.inl rfl) (pe_op op_mod (pe_op op_pow (pe_op op_add (pe_ix (kx_list (K := K)) (pv 0) pe_int (fun _ _ => rfl)) (pe_op op_mul pe_int (pe_ix (kx_list (K := K)) (pv 0) pe_int (fun _ _ => rfl)))) pe_int) pe_int))
      (pss_one (ps_ret (pe_op op_mod (pe_op op_fdiv (pe_op op_mod (pe_op op_add (pe_op op_mul (pv 3) (pe_op op_add (pe_op op_mod (pv 3) pe_int) pe_int)) (pe_op op_mul (pe_ix (kx_list (K := K)) (pv 0) pe_int (fun _ _ => rfl)) pe_int)) pe_int) pe_int) (pv 1))))))), ?_⟩
    refine ⟨_, rfl, b, _, 0, .int x, rfl, rfl, SqL.of B, rfl, _, _, rfl, rfl, _, rfl, ite2 (fun hb => ?_) (fun hb => ?_)⟩
    · refine ⟨_, rfl, b, _, 0, .int x, rfl, rfl, SqL.of B, rfl, _, rfl, _, _, rfl, rfl, hm0, ?_⟩
      refine ⟨_, rfl, b, _, 0, .int x, rfl, rfl, SqL.of B, rfl, _, rfl, _, _, rfl, rfl, ⟨hm0, hm1⟩, _, rfl, b, _, 0, 0, rfl, rfl, B, rfl, ?_⟩
      refine ⟨_, rfl, ?_⟩
      exact q _ _ (Int.emod_nonneg _ (by omega)) (Int.emod_lt_of_pos _ hm0) ⟨_, _, _, upd_same, z0, by omega, y0, y1⟩ (sm_wr List.mem_cons_self)
    · refine ⟨_, rfl, b, _, 2, .int z, rfl, rfl, SqL.of B, rfl, _, _, rfl, rfl, _, rfl, b, _, 2, 2, rfl, rfl, B, rfl, ?_⟩
      have B2 : upd H b (.lst [.int x, .int y, .int (z + 1)]) b = some (.lst [.int x, .int y, .int (z + 1)]) := upd_same
      have s2 : Sm [b] H (upd H b (.lst [.int x, .int y, .int (z + 1)])) := sm_wr List.mem_cons_self
      show tSeq _ _ _ _ (upd H b (.lst [.int x, .int y, .int (z + 1)]))
      generalize upd H b (.lst [.int x, .int y, .int (z + 1)]) = H2 at B2 s2 ⊢
      have t2 : z + 1 < 2 ^ 41 := by omega
      refine ⟨_, rfl, b, _, 1, .int y, rfl, rfl, SqL.of B2, rfl, _, rfl, b, _, 2, .int (z + 1), rfl, rfl, SqL.of B2, rfl, _, _, rfl, rfl, .inr ⟨by omega, by omega⟩, _, _, rfl, rfl, _, _, rfl, rfl, ⟨by decide, by decide, by omega⟩, _, _, rfl, rfl, (by show (0 : Int) < 2147483647; decide), ?_⟩
      refine ⟨_, rfl, _, rfl, _, _, rfl, rfl, (by show (0 : Int) < 40009; decide), _, _, rfl, rfl, _, _, rfl, rfl, cmul_mod _ _ (by decide) (by decide), _, rfl, b, _, 2, .int (z + 1), rfl, rfl, SqL.of B2, rfl, _, _, rfl, rfl, .inr ⟨by decide, by decide⟩, _, _, rfl, rfl, _, _, rfl, rfl, (by show (0 : Int) < 2147483629; decide), _, _, rfl, rfl, ⟨by decide, by decide⟩, _, rfl, _, _, rfl, rfl, hm0, ?_⟩
      exact q _ _ (Int.emod_nonneg _ (by omega)) (Int.emod_lt_of_pos _ hm0) ⟨_, _, _, B2, by omega, by omega, y0, y1⟩ s2
abbrev s__law_box : Stmt := topS 32
def n__law_box : List Str := ["_law_script", "_law_k", "_law_cell"]
theorem sc__law_box : FnScope n__law_box ["_law_script", "_law_k"] (defScope s__law_box) := ⟨rfl, rfl, rfl, by decide +kernel, rfl, by decide +kernel, by decide +kernel⟩
def spBox (K : PySem.W.Frag) : Sp := fun vs H Q _ => ∃ (a : Addr) (ns : List Int) (k : Nat), vs = [.ref a, .int (k : Nat)] ∧ SqL K H a (ns.map V.int) ∧ k ≤ 63 ∧ ∀ H' b, Same H H' → Bp H' b 0 → H b = none → Q (.ref b) H'
theorem ok_box {f : Addr} {fd : FuncData} {k : Nat} (F : Fun K "_law_box" "_law_box" s__law_box f fd) (T : Txt mg) : FnOk P w K mg base CX0 (k + 1) f fd ["_law_script", "_law_k"] (spBox K) := by
  refine F.ok sc__law_box (fun vs H Q E h => ?_) (fun cdv A outer s H vs Q E hr h => ?_)
  · obtain ⟨a, ns, k, rfl, _⟩ := h
    rfl
  · obtain ⟨a, ns, k, rfl, hS, h63, q⟩ := h
    have nd := sc__law_box.nd
    refine ⟨_, (pss_cons (ps_set (i := 2) nd rfl (.inl rfl) (pe_ifExp (pt_cmpR op_lt (pv 1) (pe_callB (kc_len (K := K)) (by rfl) T.len PySem.boot_len (pa_cons (pv 0) pa_nil)) (nomark _)) (pe_ix (kx_list (K := K)) (pv 0) (pv 1) (fun _ _ => rfl)) pe_int))
      (pss_one (ps_ret (pe_lst (pa_cons (pe_op op_mul (pe_callB call_abs (by rfl) T.abs (by decide +kernel) (pa_cons (pv 2) pa_nil)) (pe_callTy call_int1 (by rfl) T.int (by decide +kernel) (pa_cons (pe_cmpR op_ge (pe_callB call_abs (by rfl) T.abs (by decide +kernel) (pa_cons (pv 2) pa_nil)) (pe_op op_pow pe_int pe_int) (nomark _)) pa_nil))) (pa_cons (pe_op op_add (pe_op op_add (pe_op op_mod (pv 2) pe_int) (pe_op op_mul pe_int (pv 1))) pe_int) (pa_cons pe_int pa_nil))))))), ?_⟩
    refine ⟨_, rfl, _, rfl, _, _, rfl, .inl ⟨_, hS, rfl⟩, _, _, rfl, rfl, _, rfl, ite2 (fun hb => ?_) (fun hb => ?_)⟩
    · have hk : k < ns.length := by have := of_decide_eq_true hb; rw [List.length_map] at this; omega
      refine ⟨_, rfl, _, rfl, a, _, _, _, rfl, rfl, hS, atI_nat (by rw [List.getElem?_map, List.getElem?_eq_getElem hk]; rfl), ?_⟩
      generalize ns[k] = cl
      refine ⟨_, rfl, _, rfl, _, rfl, _, rfl, _, _, rfl, rfl, ⟨by decide, by decide, by decide⟩, _, _, rfl, rfl, .inr ⟨_, rfl, _, _, rfl, rfl, .inr (b01 _), ?_⟩⟩
      refine ⟨_, rfl, _, _, rfl, rfl, (by show (0 : Int) < 2305843009213693951; decide), _, rfl, _, _, rfl, rfl, .inl ⟨by decide, by decide⟩, _, _, rfl, rfl, _, _, rfl, rfl, (by show 3 ≤ sizeLine; decide), fun p np => ?_⟩
      have m0 : 0 ≤ cl % 2305843009213693951 := Int.emod_nonneg _ (by decide)
      have m1 : cl % 2305843009213693951 < 2305843009213693951 := Int.emod_lt_of_pos _ (by decide)
      exact q _ _ (same_upd np) ⟨_, _, _, upd_same, Int.le_refl _, Int.le_refl _, by omega, by omega⟩ np
    · obtain ⟨cl, ec⟩ : ∃ cl : Int, cl = 0 := ⟨_, rfl⟩
      refine ⟨_, rfl, _, rfl, _, rfl, _, rfl, _, _, rfl, rfl, ⟨by decide, by decide, by decide⟩, _, _, rfl, rfl, .inr ⟨_, rfl, _, _, rfl, rfl, .inr (b01 _), ?_⟩⟩
      refine ⟨_, rfl, _, _, rfl, rfl, (by show (0 : Int) < 2305843009213693951; decide), _, rfl, _, _, rfl, rfl, .inl ⟨by decide, by decide⟩, _, _, rfl, rfl, _, _, rfl, rfl, (by show 3 ≤ sizeLine; decide), fun p np => ?_⟩
      have m0 : 0 ≤ cl % 2305843009213693951 := Int.emod_nonneg _ (by decide)
      have m1 : cl % 2305843009213693951 < 2305843009213693951 := Int.emod_lt_of_pos _ (by decide)
      exact q _ _ (same_upd np) ⟨_, _, _, upd_same, Int.le_refl _, Int.le_refl _, by omega, by omega⟩ np

end
end Pot

namespace Pot
open PySem PySem.Spec PyProof.Rows L2
section
variable {P : Program} {w : World} {K : PySem.W.Frag} {mg : Str → Option Value} {base : Heap}
/-! ### _law_names -/
abbrev s__law_names : Stmt := topS 34
def n__law_names : List Str := ["_law_box_here", "_law_many", "_law_letters", "_law_first", "_law_way", "_law_step", "_law_words", "_law_k", "_law_head", "_law_tail", "_law_longer", "_law_found", "_law_value", "_law_name", "_law_turn"]
theorem sc__law_names : FnScope n__law_names ["_law_box_here", "_law_many"] (defScope s__law_names) := ⟨rfl, rfl, rfl, by decide +kernel, rfl, by decide +kernel, by decide +kernel⟩
def spNames : Sp := fun vs H Q _ => ∃ (b : Addr) (n m : Nat), vs = [.ref b, .int (m : Nat)] ∧ Bp H b n ∧ n + 2000 < 2 ^ 40 ∧ m ≤ 12 ∧
  ∀ (H' : Hp) (L : Addr) (ys : List Str), Bp H' b (n + 20) → Sm [b] H H' → H L = none → H' L = some (.lst (ys.map V.str)) → ys.length = m → (∀ y ∈ ys, Nm y) → ys.Nodup → Q (.ref L) H'
theorem ok_names {f : Addr} {fd : FuncData} {k : Nat} (F : Fun K "_law_names" "_law_names" s__law_names f fd) (T : Txt mg) (c__law_take : Cl P w K mg base (k + 1) "_law_take" spTake) : FnOk P w K mg base CX0 (k + 2) f fd ["_law_box_here", "_law_many"] spNames := by
  refine F.ok sc__law_names (fun vs H Q E h => ?_) (fun cdv A outer s H vs Q E hr h => ?_)
  · obtain ⟨b, n, m, rfl, _⟩ := h
    rfl
  · obtain ⟨b, n, m, rfl, B, hn, hm, q⟩ := h
    have nd := sc__law_names.nd
    /- 0 _law_box_here, 1 _law_many, 2 _law_letters, 3 _law_first, 4 _law_way, 5 _law_step, 6 _law_words, 7 _law_k, 8 _law_head, 9 _law_tail, 10 _law_longer, 11 _law_found, 12 _law_value, 13 _law_name, 14 _law_turn -/
    refine ⟨_, (pss_cons (ps_asg (pe_tup (pa_cons pe_str (pa_cons (pe_cl c__law_take hr (by omega) (by rfl) (pa_cons (pv 0) (pa_cons pe_int pa_nil))) (pa_cons (pe_cl c__law_take hr (by omega) (by rfl) (pa_cons (pv 0) (pa_cons pe_int pa_nil))) pa_nil)))) (kg_tup (K := K) (n := 3) (pgs_cons (pg_name (i := 2) nd rfl (.inr rfl)) (pgs_cons (pg_name (i := 3) nd rfl (.inr rfl)) (pgs_cons (pg_name (i := 4) nd rfl (.inl rfl)) pgs_nil)))))
      (pss_cons (ps_set (i := 5) nd rfl (.inr rfl) (pe_ix (kx_list (K := K)) (pe_lst (pa_cons pe_int (pa_cons pe_int (pa_cons pe_int (pa_cons pe_int (pa_cons pe_int (pa_cons pe_int pa_nil))))))) (pe_cl c__law_take hr (by omega) (by rfl) (pa_cons (pv 0) (pa_cons pe_int pa_nil))) (fun _ _ => rfl)))
      (pss_cons (ps_if (pt_cmpR op_eq (pv 4) pe_int (nomark _))
          (pss_cons (ps_set (i := 6) nd rfl (.inl rfl) (pe_split pe_str pe_str))
          (pss_one (ps_ret (pe_slice (kl_list (K := K)) (pe_slice (kl_list (K := K)) (pe_op op_cat (pv 6) (pv 6)) (po_some (pe_op op_mod (pv 3) pe_int)) po_none) po_none (po_some (pv 1))))))
          pss_nil)
      (pss_cons (ps_if (pt_cmpR op_eq (pv 4) pe_int (nomark _))
          (pss_one (ps_ret (pe_lc (own := [("_law_k", 7)]) rfl nd (pi_range1 (by rfl) T.range (pa_cons (pv 1) pa_nil)) (blkOk_by (N := n__law_names) (sc := defScope s__law_names) (by decide +kernel)) (fun _ _ _ _ _ => (pg_name (i := 7) nd rfl (.inl rfl))) (fun _ _ _ _ _ => pts_nil) (fun _ _ _ _ _ => (pe_ix ix_str (pv 2) (pe_op op_mod (pe_op op_add (pv 3) (pe_op op_mul (pv 5) (pv 7))) pe_int) (fun _ _ => rfl))))))
          pss_nil)
      (pss_cons (ps_set (i := 8) nd rfl (.inl rfl) (ke_join (K := K) pe_str (pe_lc (own := [("_law_turn", 14)]) rfl nd (pi_range1 (by rfl) T.range (pa_cons (pe_cl c__law_take hr (by omega) (by rfl) (pa_cons (pv 0) (pa_cons pe_int pa_nil))) pa_nil)) (blkOk_by (N := n__law_names) (sc := defScope s__law_names) (by decide +kernel)) (fun _ _ _ _ _ => (pg_name (i := 14) nd rfl (.inl rfl))) (fun _ _ _ _ _ => pts_nil) (fun _ _ _ _ _ => (pe_ix ix_str (pv 2) (pe_cl c__law_take hr (by omega) (by rfl) (pa_cons (pv 0) (pa_cons pe_int pa_nil))) (fun _ _ => rfl))))))
      (pss_cons (ps_set (i := 9) nd rfl (.inl rfl) (ke_join (K := K) pe_str (pe_lc (own := [("_law_turn", 14)]) rfl nd (pi_range1 (by rfl) T.range (pa_cons (pe_cl c__law_take hr (by omega) (by rfl) (pa_cons (pv 0) (pa_cons pe_int pa_nil))) pa_nil)) (blkOk_by (N := n__law_names) (sc := defScope s__law_names) (by decide +kernel)) (fun _ _ _ _ _ => (pg_name (i := 14) nd rfl (.inl rfl))) (fun _ _ _ _ _ => pts_nil) (fun _ _ _ _ _ => (pe_ix ix_str (pv 2) (pe_cl c__law_take hr (by omega) (by rfl) (pa_cons (pv 0) (pa_cons pe_int pa_nil))) (fun _ _ => rfl))))))
      (pss_cons (ps_par (i := 10) (j := 11) rfl nd rfl rfl (by decide) rfl rfl (pa_cons (pe_cl c__law_take hr (by omega) (by rfl) (pa_cons (pv 0) (pa_cons pe_int pa_nil))) (pa_cons (pe_lst pa_nil) pa_nil)) rfl)
      (pss_cons (ps_for PassesOwn.never rfl (pi_range1 (by rfl) T.range (pa_cons (pv 1) pa_nil)) (pg_name (i := 7) nd rfl (.inl rfl))
          (pss_cons (ps_set (i := 12) nd rfl (.inl rfl) (pe_op op_mod (pe_op op_add (pv 3) (pe_op op_mul (pv 5) (pv 7))) pe_int))
          (pss_cons (ps_set (i := 13) nd rfl (.inl rfl) (pe_op op_add_str (pe_op op_add_str (pe_op op_add_str (pv 8) (pe_ix ix_str (pv 2) (pe_op op_fdiv (pv 12) pe_int) (fun _ _ => rfl))) (pe_ix ix_str (pv 2) (pe_op op_mod (pv 12) pe_int) (fun _ _ => rfl))) (pv 9)))
          (pss_cons (ps_if ((pw_and (pt_cmpR op_eq (pv 10) pe_int (nomark _)) (pw_and1 (pt_cmpR op_eq (pe_op op_mod (pv 7) pe_int) pe_int (nomark _))))).pt
              (pss_one (ps_set (i := 13) nd rfl (.inl rfl) (pe_op op_add_str (pe_ix (kx_list (K := K)) (pv 11) (pe_un un_neg pe_int) (fun _ _ => rfl)) (pe_ix ix_str (pv 2) (pe_op op_mod (pe_op op_add (pv 3) (pv 7)) pe_int) (fun _ _ => rfl)))))
              pss_nil)
          (pss_one (ps_expr (pe_bm PySem.F.plainAttrs_list PySem.F.slot_list_append PySem.F.type_list_append mt_append (pv 11) (pa_cons (pv 13) pa_nil))))))))
      (pss_one (ps_ret (pv 11))))))))))), ?_⟩
    have lv := Live.pw B
    have sc : Sm [b] H H := Same.refl _
    obtain ⟨S, eS⟩ : ∃ S, S = [b] := ⟨_, rfl⟩
    have hb : b ∈ S := by rw [eS]; simp
    rw [← eS] at lv
    refine ⟨_, rfl, b, 676, n, rfl, (by decide), (by decide), B, by omega, fun H1 fi f0 f1 B1 s1 => ?_⟩
    have lv := lv.box B1.bx s1
    have sc := sc.trans s1
    have B := B1
    refine ⟨_, rfl, b, 5, _, rfl, (by decide), (by decide), B, by omega, fun H2 wy w0 w1 B2 s2 => ?_⟩
    have lv := lv.box B2.bx s2
    have sc := sc.trans s2
    have B := B2
    refine ⟨(by show 3 ≤ sizeLine; decide), fun t nt => ?_⟩
    have ft := off_new (o := .tup [.str "abcdefghijklmnopqrstuvwxyz", .int fi, .int wy]) lv nt
    have lv := lv.put (o := .tup [.str "abcdefghijklmnopqrstuvwxyz", .int fi, .int wy]) nt
    have B := B.put (o := .tup [.str "abcdefghijklmnopqrstuvwxyz", .int fi, .int wy]) nt
    have sc := sc.trans (sm_put (S := [b]) (o := .tup [.str "abcdefghijklmnopqrstuvwxyz", .int fi, .int wy]) nt)
    generalize upd H2 t (.tup [.str "abcdefghijklmnopqrstuvwxyz", .int fi, .int wy]) = H3 at ft lv B sc  ⊢
    refine ⟨t, _, rfl, .inl (.inl (at_off ft)), rfl, _, _, rfl, _, _, rfl, _, _, rfl, rfl, ?_⟩
    -- step
    refine ⟨(by show 6 ≤ sizeLine; decide), fun z nz => ?_⟩
    have fz := off_new (o := .lst [.int 1, .int 3, .int 5, .int 7, .int 25, .int 675]) lv nz
    have lv := lv.put (o := .lst [.int 1, .int 3, .int 5, .int 7, .int 25, .int 675]) nz
    have B := B.put (o := .lst [.int 1, .int 3, .int 5, .int 7, .int 25, .int 675]) nz
    have sc := sc.trans (sm_put (S := [b]) (o := .lst [.int 1, .int 3, .int 5, .int 7, .int 25, .int 675]) nz)
    generalize upd H3 z (.lst [.int 1, .int 3, .int 5, .int 7, .int 25, .int 675]) = H4 at fz lv B sc  ⊢
    refine ⟨_, rfl, b, 6, _, rfl, (by decide), (by decide), B, by omega, fun H5 r6 b0 b1 B5 s5 => ?_⟩
    have lv := lv.box B5.bx s5
    have sc := sc.trans s5
    have B := B5
    have fz := (sm_one hb s5) _ _ fz
    obtain ⟨stp, es, hs, hs0, hs1⟩ : ∃ stp : Int, atI [V.int 1, .int 3, .int 5, .int 7, .int 25, .int 675] r6 = some (.int stp) ∧ StpN stp ∧ -1000 ≤ stp ∧ stp ≤ 1000 := by
      have h : r6 = 0 ∨ r6 = 1 ∨ r6 = 2 ∨ r6 = 3 ∨ r6 = 4 ∨ r6 = 5 := by omega
      unfold StpN
      rcases h with rfl | rfl | rfl | rfl | rfl | rfl
      · exact ⟨1, rfl, by decide, by decide, by decide⟩
      · exact ⟨3, rfl, by decide, by decide, by decide⟩
      · exact ⟨5, rfl, by decide, by decide, by decide⟩
      · exact ⟨7, rfl, by decide, by decide, by decide⟩
      · exact ⟨25, rfl, by decide, by decide, by decide⟩
      · exact ⟨675, rfl, by decide, by decide, by decide⟩
    refine ⟨z, _, r6, .int stp, rfl, rfl, SqL.of (at_off fz), es, ?_⟩
    have sc0 := sc
    refine ⟨_, rfl, rfl, _, rfl, ite2 (fun hw0 => ?_) (fun hw0 => ?_)⟩
    · -- words
      refine ⟨⟨_, rfl⟩, _, _, rfl, rfl, (by decide +kernel), (by decide +kernel), fun W nW => ?_⟩
      rw [words_eq]
      have fW := off_new (o := .lst (wordsN.map V.str)) lv nW
      have lv := lv.put (o := .lst (wordsN.map V.str)) nW
      have B := B.put (o := .lst (wordsN.map V.str)) nW
      have sc := sc.trans (sm_put (S := [b]) (o := .lst (wordsN.map V.str)) nW)
      generalize upd H5 W (.lst (wordsN.map V.str)) = H6 at fW lv B sc  ⊢
      refine ⟨_, rfl, _, rfl, W, W, _, _, rfl, rfl, at_off fW, at_off fW, (by decide +kernel), fun c1 n1 => ?_⟩
      have fc1 := off_new (o := .lst (wordsN.map V.str ++ wordsN.map V.str)) lv n1
      have lv := lv.put (o := .lst (wordsN.map V.str ++ wordsN.map V.str)) n1
      have B := B.put (o := .lst (wordsN.map V.str ++ wordsN.map V.str)) n1
      have sc := sc.trans (sm_put (S := [b]) (o := .lst (wordsN.map V.str ++ wordsN.map V.str)) n1)
      generalize upd H6 c1 (.lst (wordsN.map V.str ++ wordsN.map V.str)) = H7 at fc1 lv B sc  ⊢
      refine ⟨_, rfl, _, _, rfl, rfl, (by show (0 : Int) < 12; decide), _, rfl, c1, _, rfl, SqL.of (at_off fc1), fun c2 n2 => ?_⟩
      obtain ⟨j, ej, hj⟩ : ∃ j : Nat, fi % 12 = (j : Int) ∧ j < 12 := ⟨(fi % 12).toNat, by omega, by omega⟩
      rw [ej, cut_tail]
      have fc2 := off_new (o := .lst ((wordsN.map V.str ++ wordsN.map V.str).drop j)) lv n2
      have lv := lv.put (o := .lst ((wordsN.map V.str ++ wordsN.map V.str).drop j)) n2
      have B := B.put (o := .lst ((wordsN.map V.str ++ wordsN.map V.str).drop j)) n2
      have sc := sc.trans (sm_put (S := [b]) (o := .lst ((wordsN.map V.str ++ wordsN.map V.str).drop j)) n2)
      generalize upd H7 c2 (.lst ((wordsN.map V.str ++ wordsN.map V.str).drop j)) = H8 at fc2 lv B sc  ⊢
      refine ⟨_, rfl, _, rfl, c2, _, rfl, SqL.of (at_off fc2), fun c3 n3 => ?_⟩
      rw [cut_head]
      have e3 : ((wordsN.map V.str ++ wordsN.map V.str).drop j).take m = ((wordsN ++ wordsN).drop j |>.take m).map V.str := by rw [← List.map_append, List.map_take, List.map_drop]
      rw [e3]
      have wc := words_cut hj hm
      have n30 : H c3 = none := sm_free sc B.bx n3
      exact q _ c3 _ ((B.put n3).mono (by omega)) (sc.trans (sm_put n3)) n30 upd_same wc.2.1 wc.2.2 wc.1
    refine ⟨_, rfl, rfl, _, rfl, ite2 (fun hw1 => ?_) (fun hw1 => ?_)⟩
    · -- letters
      refine ⟨_, rfl, _, rfl, (by omega), (by omega), fun D nD => ?_⟩
      refine lc_it walk_range (PvL H5 D fun i => ((List.range i).map fun j : Nat => ltN ((fi + stp * (0 + (j : Int))) % 26)).map V.str) (pv_start nD rfl) (fun _ _ _ _ => trivial) ?_ ?_
      · rintro i x H6 H7 hi pv ⟨rfl, rfl⟩
        refine ⟨rfl, tYes_at ?_⟩
        rw [if_pos rfl]
        have x0 : 0 ≤ (fi + stp * (0 + (i : Int))) % 26 := Int.emod_nonneg _ (by decide)
        have x1 : (fi + stp * (0 + (i : Int))) % 26 < 26 := Int.emod_lt_of_pos _ (by decide)
        refine ⟨_, rfl, _, rfl, _, rfl, _, rfl, _, _, rfl, rfl, .inl ⟨by omega, by omega⟩, _, _, rfl, rfl, _, _, rfl, rfl, (by show (0 : Int) < 26; decide), ?_⟩
        refine ⟨_, _, _, rfl, rfl, (by decide +kernel), az_ix x0 x1, ?_⟩
        exact pv_put nD pv (Same.refl _) (by rw [List.range_succ, List.map_append, List.map_append]; rfl) (by rw [List.length_map, List.length_map, List.length_range, sizeLine_eq]; omega)
      intro H6 pv
      obtain ⟨s6, hD⟩ := pv_end pv (rfl)
      have e6 : (Int.toNat (m : Int)) = m := Int.toNat_natCast m
      have lv := lv.same s6
      have sc := sc.trans (sm_of (S := [b]) s6)
      have B := B.same s6
      rw [e6] at hD
      refine q _ D _ (B.mono (by omega)) sc (sm_free sc0 B5.bx nD) hD (by rw [List.length_map, List.length_range]) (fun y hy => ?_) (letN_nodup hs hm)
      obtain ⟨j, _, rfl⟩ := List.mem_map.mp hy
      exact ⟨(wd_letter (Int.emod_nonneg _ (by decide)) (Int.emod_lt_of_pos _ (by decide))).mono (by decide), by rw [ltN_len]; decide⟩
    -- head
    refine ⟨⟨_, rfl⟩, _, rfl, b, 4, _, rfl, (by decide), (by decide), B, by omega, fun H6 sn s0 s1 B4 s4 => ⟨_, rfl, (by omega), (by omega), fun D nD => ?_⟩⟩
    have lv := lv.box B4.bx s4
    have sc := sc.trans s4
    have B := B4
    have nDb := B.ne nD
    refine lc_it walk_range (fun i H5 => Bp H5 b (n + 4 + i) ∧ Sm [b] H6 H5 ∧ ∃ ys : List Str, H5 D = some (.lst (ys.map V.str)) ∧ ys.length = i ∧ ∀ y ∈ ys, Wd 1 y) ⟨(B.put nD).mono (by omega), sm_put nD, [], upd_same, rfl, fun _ h => (List.not_mem_nil h).elim⟩ (fun _ _ _ _ => trivial) ?_ ?_
    · rintro i x H5 H6 hi ⟨B5, s5, ys, hL, hy, hw⟩ ⟨rfl, rfl⟩
      refine ⟨rfl, tYes_at ?_⟩
      rw [if_pos rfl]
      refine ⟨_, rfl, _, rfl, b, 26, _, rfl, (by decide), (by decide), B5, by omega, fun H7 r r0 r1 B7 s7 => ?_⟩
      refine ⟨_, r, 97 + r.toNat, rfl, rfl, (by decide +kernel), az_ix r0 r1, _, sm1_at s7 nDb hL, ?_, (B7.wr nDb).mono (by omega), smp (s5.trans s7) nD, ys ++ [⟨#[97 + r.toNat]⟩], ?_, ?_, ?_⟩
      · rw [List.length_map, hy]; exact Nat.lt_of_lt_of_le (show i < 8 by omega) (by decide)
      · rw [upd_same, List.map_append]; rfl
      · rw [List.length_append, hy]; rfl
      · intro y h
        rcases List.mem_append.mp h with h | h
        · exact hw y h
        · rw [List.mem_singleton.mp h]; exact wd_letter r0 r1
    rintro H7 ⟨B5, s5, ys, hD, hy, hw⟩
    have lv := lv.box B5.bx s5
    have sc := sc.trans s5
    have B := B5
    have hy7 : ys.length ≤ 3 := by omega
    refine ⟨_, D, ys, rfl, rfl, .inl (SqL.of hD), ?_, ?_⟩
    · have := wd1_sum hw
      show _ + ys.length * 0 ≤ _
      omega
    have hdW : Wd 3 (Txt.join (Str.ofString "") ys) := by rw [TL.join_eq]; exact (wd_join hw).mono hy7
    have B := B.mono (show _ ≤ n + 4 + 3 by omega)
    generalize Txt.join (Str.ofString "") ys = hd at hdW ⊢
    -- tail
    refine ⟨⟨_, rfl⟩, _, rfl, b, 3, _, rfl, (by decide), (by decide), B, by omega, fun H8 sn s0 s1 B4 s4 => ⟨_, rfl, (by omega), (by omega), fun D nD => ?_⟩⟩
    have lv := lv.box B4.bx s4
    have sc := sc.trans s4
    have B := B4
    have nDb := B.ne nD
    refine lc_it walk_range (fun i H5 => Bp H5 b (n + 4 + 3 + 1 + i) ∧ Sm [b] H8 H5 ∧ ∃ ys : List Str, H5 D = some (.lst (ys.map V.str)) ∧ ys.length = i ∧ ∀ y ∈ ys, Wd 1 y) ⟨(B.put nD).mono (by omega), sm_put nD, [], upd_same, rfl, fun _ h => (List.not_mem_nil h).elim⟩ (fun _ _ _ _ => trivial) ?_ ?_
    · rintro i x H5 H6 hi ⟨B5, s5, ys, hL, hy, hw⟩ ⟨rfl, rfl⟩
      refine ⟨rfl, tYes_at ?_⟩
      rw [if_pos rfl]
      refine ⟨_, rfl, _, rfl, b, 26, _, rfl, (by decide), (by decide), B5, by omega, fun H7 r r0 r1 B7 s7 => ?_⟩
      refine ⟨_, r, 97 + r.toNat, rfl, rfl, (by decide +kernel), az_ix r0 r1, _, sm1_at s7 nDb hL, ?_, (B7.wr nDb).mono (by omega), smp (s5.trans s7) nD, ys ++ [⟨#[97 + r.toNat]⟩], ?_, ?_, ?_⟩
      · rw [List.length_map, hy]; exact Nat.lt_of_lt_of_le (show i < 8 by omega) (by decide)
      · rw [upd_same, List.map_append]; rfl
      · rw [List.length_append, hy]; rfl
      · intro y h
        rcases List.mem_append.mp h with h | h
        · exact hw y h
        · rw [List.mem_singleton.mp h]; exact wd_letter r0 r1
    rintro H9 ⟨B5, s5, ys, hD, hy, hw⟩
    have lv := lv.box B5.bx s5
    have sc := sc.trans s5
    have B := B5
    have hy7 : ys.length ≤ 2 := by omega
    refine ⟨_, D, ys, rfl, rfl, .inl (SqL.of hD), ?_, ?_⟩
    · have := wd1_sum hw
      show _ + ys.length * 0 ≤ _
      omega
    have tlW : Wd 2 (Txt.join (Str.ofString "") ys) := by rw [TL.join_eq]; exact (wd_join hw).mono hy7
    have B := B.mono (show _ ≤ n + 4 + 3 + 1 + 2 by omega)
    generalize Txt.join (Str.ofString "") ys = tl at tlW ⊢
    -- longer, found
    refine ⟨_, rfl, b, 2, _, rfl, (by decide), (by decide), B, by omega, fun H10 lo c0 c1 B10 s10 => ?_⟩
    have lv := lv.box B10.bx s10
    have sc := sc.trans s10
    have B := B10
    refine ⟨Nat.zero_le _, fun L nL => ⟨_, _, rfl, ?_⟩⟩
    have nLb := B.ne nL
    have nL0 : H L = none := sm_free sc B.bx nL
    have fL := off_new (o := .lst []) lv nL
    have lv := lv.put (o := .lst []) nL
    have B := B.put (o := .lst []) nL
    have sc := sc.trans (sm_put (S := [b]) (o := .lst []) nL)
    generalize upd H10 L (.lst []) = H11 at fL lv B sc  ⊢
    have hL := at_off fL
    refine ⟨_, rfl, _, rfl, (by omega), (by omega), ?_⟩
    refine for_it walk_range (fun i σ H12 => ∃ v7 v12 v13, σ = [some (.ref b), some (.int (m : Nat)), some (.str "abcdefghijklmnopqrstuvwxyz"), some (.int fi), some (.int wy), some (.int stp), none, v7, some (.str hd), some (.str tl), some (.int lo), some (.ref L), v12, v13, none] ∧
        Bp H12 b (n + 20) ∧ Sm [b] H H12 ∧ H12 L = some (.lst (((List.range i).map (nmN hd tl fi stp lo)).map V.str)))
      ⟨_, _, _, rfl, B.mono (by omega), sc, hL⟩ (fun _ _ _ _ _ => trivial) ?_ ?_
    · rintro i x σ H12 H13 hi ⟨v7, v12, v13, rfl, B12, s12, hL2⟩ ⟨rfl, rfl⟩
      have hi2 : i < m := by omega
      have vp := vlN_pos fi stp i
      refine ⟨_, rfl, _, rfl, _, rfl, _, _, rfl, rfl, .inl ⟨by omega, by omega⟩, _, _, rfl, rfl, _, _, rfl, rfl, (by show (0 : Int) < 676; decide), ?_⟩
      have h1 := hdW.1
      have h2 := tlW.1
      refine ⟨_, rfl, _, rfl, _, rfl, _, _, rfl, rfl, ⟨by decide, by decide⟩, _, _, _, rfl, rfl, (by decide +kernel), az_ix (show 0 ≤ vlN fi stp i / 26 by omega) (show vlN fi stp i / 26 < 26 by omega), _, _, rfl, rfl, ?_, ?_⟩
      · show _ + 1 ≤ sizeLine
        rw [sizeLine_eq]; omega
      have w2 := wd_add hdW (wd_letter (show 0 ≤ vlN fi stp i / 26 by omega) (show vlN fi stp i / 26 < 26 by omega))
      have l2 := w2.1
      refine ⟨_, rfl, _, rfl, _, _, rfl, rfl, (by show (0 : Int) < 26; decide), _, _, _, rfl, rfl, (by decide +kernel), az_ix (show 0 ≤ vlN fi stp i % 26 by omega) (show vlN fi stp i % 26 < 26 by omega), _, _, rfl, rfl, ?_, ?_⟩
      · show _ + 1 ≤ sizeLine
        rw [sizeLine_eq]
        have := l2
        show (hd ++ (⟨#[97 + (vlN fi stp i / 26).toNat]⟩ : Str)).length + 1 ≤ _
        omega
      have w3 := wd_add w2 (wd_letter (show 0 ≤ vlN fi stp i % 26 by omega) (show vlN fi stp i % 26 < 26 by omega))
      have l3 := w3.1
      refine ⟨_, rfl, _, _, rfl, rfl, ?_, ?_⟩
      · rw [sizeLine_eq]
        show (hd ++ (⟨#[97 + (vlN fi stp i / 26).toNat]⟩ : Str) ++ (⟨#[97 + (vlN fi stp i % 26).toNat]⟩ : Str)).length + tl.length ≤ _
        omega
      show gName 13 (V.str (bsN hd tl fi stp i)) _ _ _
      have small : (((List.range i).map (nmN hd tl fi stp lo)).map V.str).length < sizeLine := by rw [List.length_map, List.length_map, List.length_range, sizeLine_eq]; omega
      have fin : ∀ (nm : Str), nm = nmN hd tl fi stp lo i →
          ∃ v7 v12 v13, [some (V.ref b), some (.int (m : Nat)), some (.str "abcdefghijklmnopqrstuvwxyz"), some (.int fi), some (.int wy), some (.int stp), none, some (.int (0 + (i : Int))), some (.str hd), some (.str tl), some (.int lo), some (.ref L), some (.int (vlN fi stp i)), some (.str nm), none] = [some (V.ref b), some (.int (m : Nat)), some (.str "abcdefghijklmnopqrstuvwxyz"), some (.int fi), some (.int wy), some (.int stp), none, v7, some (.str hd), some (.str tl), some (.int lo), some (.ref L), v12, v13, none] ∧
          Bp (upd H13 L (.lst ((((List.range i).map (nmN hd tl fi stp lo)).map V.str) ++ [.str nm]))) b (n + 20) ∧ Sm [b] H (upd H13 L (.lst ((((List.range i).map (nmN hd tl fi stp lo)).map V.str) ++ [.str nm]))) ∧ upd H13 L (.lst ((((List.range i).map (nmN hd tl fi stp lo)).map V.str) ++ [.str nm])) L = some (.lst (((List.range (i + 1)).map (nmN hd tl fi stp lo)).map V.str)) := by
        intro nm e
        refine ⟨_, _, _, rfl, B12.wr nLb, smp s12 nL0, ?_⟩
        rw [upd_same, List.range_succ, List.map_append, List.map_append, e]
        rfl
      refine ⟨_, rfl, rfl, _, rfl, ite2 (fun h1 => ?_) (fun h1 => iteF ?_)⟩
      · refine ⟨_, rfl, _, _, rfl, rfl, (by show (0 : Int) < 2; decide), rfl, _, rfl, ite2 (fun h2 => ?_) (fun h2 => ?_)⟩
        · have ei : (0 + (i : Int)) % 2 = 1 := V.int.inj (of_decide_eq_true h2)
          have el1 : lo = 1 := V.int.inj (of_decide_eq_true h1)
          have i2 : i % 2 = 1 := by omega
          have el : atI (((List.range i).map (nmN hd tl fi stp lo)).map V.str) (-1) = some (.str (bsN hd tl fi stp (i - 1))) := by
            have e0 : i = (i - 1) + 1 := by omega
            rw [e0, List.range_succ, List.map_append, List.map_append, Nat.add_sub_cancel]
            have e1 : nmN hd tl fi stp lo (i - 1) = bsN hd tl fi stp (i - 1) := by
              unfold nmN
              rw [if_neg (by omega)]
            show atI (_ ++ [V.str (nmN hd tl fi stp lo (i - 1))]) (-1) = _
            rw [e1]
            exact atI_last _ _
          have z0 : 0 ≤ (fi + (0 + (i : Int))) % 26 := Int.emod_nonneg _ (by decide)
          have z1 : (fi + (0 + (i : Int))) % 26 < 26 := Int.emod_lt_of_pos _ (by decide)
          refine ⟨_, rfl, 1, rfl, L, _, -1, _, rfl, rfl, SqL.of hL2, el, _, rfl, _, rfl, _, rfl, _, _, rfl, rfl, _, _, rfl, rfl, (by show (0 : Int) < 26; decide), ?_⟩
          refine ⟨_, _, _, rfl, rfl, (by decide +kernel), az_ix z0 z1, _, _, rfl, rfl, ?_, ?_⟩
          · have := (bsN_wd hdW tlW fi stp (i - 1)).1.1
            show _ + 1 ≤ sizeLine
            rw [sizeLine_eq]
            omega
          refine ⟨_, rfl, .inl ⟨rfl, _, SqL.of hL2⟩, _, rfl, L, _, _, rfl, rfl, hL2, small, fin _ ?_⟩
          unfold nmN
          rw [if_pos ⟨el1, i2⟩]
          rfl
        · have c : ¬ (lo = 1 ∧ i % 2 = 1) := fun z => h2 (decide_eq_true (congrArg V.int (by omega)))
          refine ⟨_, rfl, .inl ⟨rfl, _, SqL.of hL2⟩, _, rfl, L, _, _, rfl, rfl, hL2, small, fin _ ?_⟩
          unfold nmN
          rw [if_neg c]
      have c : ¬ (lo = 1 ∧ i % 2 = 1) := fun z => h1 (decide_eq_true (congrArg V.int z.1))
      refine ⟨_, rfl, .inl ⟨rfl, _, SqL.of hL2⟩, _, rfl, L, _, _, rfl, rfl, hL2, small, fin _ ?_⟩
      unfold nmN
      rw [if_neg c]
    · rintro σ H12 ⟨v7, v12, v13, rfl, B12, s12, hL2⟩
      rw [Int.toNat_natCast] at hL2
      refine ⟨_, rfl, q _ L _ B12 s12 nL0 hL2 (by rw [List.length_map, List.length_range]) (fun y hy => ?_) (nmN_nodup hs hm)⟩
      obtain ⟨j, _, rfl⟩ := List.mem_map.mp hy
      exact nmN_nm hdW tlW fi stp lo j

end
end Pot

namespace Pot
open PySem PySem.Spec PyProof.Rows L2
section
variable {P : Program} {w : World} {K : PySem.W.Frag} {mg : Str → Option Value} {base : Heap}
abbrev s__law_palette : Stmt := topS 35
def n__law_palette : List Str := ["_law_box_here", "_law_most", "_law_names_here", "_law_colours", "_law_washes", "_law_name", "_law_charge", "_law_melt", "_law_k", "_law_pair", "_law_hours_here"]
theorem sc__law_palette : FnScope n__law_palette ["_law_box_here", "_law_most"] (defScope s__law_palette) := ⟨rfl, rfl, rfl, by decide +kernel, rfl, by decide +kernel, by decide +kernel⟩
def spPalette (K : PySem.W.Frag) : Sp := fun vs H Q _ => ∃ (b : Addr) (n : Nat) (most : Int), vs = [.ref b, .int most] ∧ 1 ≤ most ∧ most ≤ 12 ∧ Bp H b n ∧ n + 5000 < 2 ^ 40 ∧
  ∀ (H' : Hp) (v : V) (cs : List Col) (ws : List Wsh), Bp H' b (n + 1500) → Sm [b] H H' → Dp K (off H' [b]) v (palD cs ws) → PalC cs ws → Q v H'
theorem ok_palette {f : Addr} {fd : FuncData} {k : Nat} (F : Fun K "_law_palette" "_law_palette" s__law_palette f fd) (T : Txt mg) (c__law_take : Cl P w K mg base (k + 1) "_law_take" spTake) (c__law_names : Cl P w K mg base (k + 2) "_law_names" spNames) : FnOk P w K mg base CX0 (k + 3) f fd ["_law_box_here", "_law_most"] (spPalette K) := by
  refine F.ok sc__law_palette (fun vs H Q E h => ?_) (fun cdv A outer s H vs Q E hr h => ?_)
  · obtain ⟨b, n, most, rfl, _⟩ := h
    rfl
  · obtain ⟨b, n, most, rfl, m0, m1, hS, hn, q⟩ := h
    have nd := sc__law_palette.nd
    have hu70 : (A.deeper (envOfC (Str.ofString "_law_palette") (defScope s__law_palette) s.heap.objs.size f cdv)).units + 70 < cLine := by have := hr.un; omega
    /- 0 _law_box_here, 1 _law_most, 2 _law_names_here, 3 _law_colours, 4 _law_washes, 5 _law_name, 6 _law_charge, 7 _law_melt, 8 _law_k, 9 _law_pair, 10 _law_hours_here -/
    refine ⟨_, (pss_cons (ps_par3 (i := 2) (j := 3) (l := 4) rfl nd rfl rfl rfl (by decide) (by decide) (by decide) rfl rfl rfl (pa_cons (pe_cl c__law_names hr (by omega) (by rfl) (pa_cons (pv 0) (pa_cons (pe_op op_add pe_int (pe_cl c__law_take hr (by omega) (by rfl) (pa_cons (pv 0) (pa_cons (pv 1) pa_nil)))) pa_nil))) (pa_cons (pe_lst pa_nil) (pa_cons (pe_lst pa_nil) pa_nil))) rfl)
      (pss_cons (ps_for PassesOwn.never rfl (ki_list (K := K) (pv 2)) (pg_name (i := 5) nd rfl (.inl rfl))
          (pss_cons (ps_set (i := 6) nd rfl (.inl rfl) (pe_ix (kx_list (K := K)) (pe_lst (pa_cons pe_int (pa_cons (pe_op op_add pe_int (pe_cl c__law_take hr (by omega) (by rfl) (pa_cons (pv 0) (pa_cons pe_int pa_nil)))) (pa_cons pe_int (pa_cons (pe_op op_add pe_int (pe_cl c__law_take hr (by omega) (by rfl) (pa_cons (pv 0) (pa_cons pe_int pa_nil)))) pa_nil))))) (pe_cl c__law_take hr (by omega) (by rfl) (pa_cons (pv 0) (pa_cons pe_int pa_nil))) (fun _ _ => rfl)))
          (pss_cons (ps_set (i := 7) nd rfl (.inl rfl) (pe_ix (kx_list (K := K)) (pe_lst (pa_cons pe_int (pa_cons (pe_cl c__law_take hr (by omega) (by rfl) (pa_cons (pv 0) (pa_cons pe_int pa_nil))) (pa_cons pe_int (pa_cons (pe_cl c__law_take hr (by omega) (by rfl) (pa_cons (pv 0) (pa_cons pe_int pa_nil))) pa_nil))))) (pe_cl c__law_take hr (by omega) (by rfl) (pa_cons (pv 0) (pa_cons pe_int pa_nil))) (fun _ _ => rfl)))
          (pss_one (ps_expr (pe_bm PySem.F.plainAttrs_list PySem.F.slot_list_append PySem.F.type_list_append mt_append (pv 3) (pa_cons (pe_tup (pa_cons (pv 5) (pa_cons (pv 6) (pa_cons (pv 7) (pa_cons (pe_op op_add pe_int (pe_cl c__law_take hr (by omega) (by rfl) (pa_cons (pv 0) (pa_cons pe_int pa_nil)))) pa_nil))))) pa_nil)))))))
      (pss_cons (ps_for PassesOwn.never rfl (pi_range1 (by rfl) T.range (pa_cons (pe_op op_mul (pe_callB (kc_len (K := K)) (by rfl) T.len PySem.boot_len (pa_cons (pv 2) pa_nil)) (pe_callB (kc_len (K := K)) (by rfl) T.len PySem.boot_len (pa_cons (pv 2) pa_nil))) pa_nil)) (pg_name (i := 8) nd rfl (.inl rfl))
          (pss_cons (ps_set (i := 9) nd rfl (.inl rfl) (pe_tup (pa_cons (pe_ix (kx_list (K := K)) (pv 2) (pe_op op_fdiv (pv 8) (pe_callB (kc_len (K := K)) (by rfl) T.len PySem.boot_len (pa_cons (pv 2) pa_nil))) (fun _ _ => rfl)) (pa_cons (pe_ix (kx_list (K := K)) (pv 2) (pe_op op_mod (pv 8) (pe_callB (kc_len (K := K)) (by rfl) T.len PySem.boot_len (pa_cons (pv 2) pa_nil))) (fun _ _ => rfl)) pa_nil))))
          (pss_one (ps_if ((pw_and (pt_cmpR op_ne (pe_ix (kx_tup (K := K)) (pv 9) pe_int (fun _ _ => rfl)) (pe_ix (kx_tup (K := K)) (pv 9) pe_int (fun _ _ => rfl)) (nomark _)) (pw_and (pt_cmpR op_lt (pe_callB (kc_len (K := K)) (by rfl) T.len PySem.boot_len (pa_cons (pv 4) pa_nil)) pe_int (nomark _)) (pw_and1 (pt_cmpR op_gt (pe_cl c__law_take hr (by omega) (by rfl) (pa_cons (pv 0) (pa_cons pe_int pa_nil))) pe_int (nomark _)))))).pt
              (pss_cons (ps_set (i := 10) nd rfl (.inl rfl) (pe_ix (kx_list (K := K)) (pe_lst (pa_cons pe_int (pa_cons (pe_op op_add pe_int (pe_cl c__law_take hr (by omega) (by rfl) (pa_cons (pv 0) (pa_cons pe_int pa_nil)))) (pa_cons pe_int (pa_cons pe_non (pa_cons (pe_cl c__law_take hr (by omega) (by rfl) (pa_cons (pv 0) (pa_cons pe_int pa_nil))) pa_nil)))))) (pe_cl c__law_take hr (by omega) (by rfl) (pa_cons (pv 0) (pa_cons pe_int pa_nil))) (fun _ _ => rfl)))
              (pss_one (ps_expr (pe_bm PySem.F.plainAttrs_list PySem.F.slot_list_append PySem.F.type_list_append mt_append (pv 4) (pa_cons (pe_op (op_catA) (pv 9) (pe_tup (pa_cons (pv 10) pa_nil))) pa_nil)))))
              pss_nil))))
      (pss_one (ps_ret (pe_tup (pa_cons (pe_callTy (kc_tuple (K := K)) (by rfl) T.tuple (by decide +kernel) (pa_cons (pe_callB (kc_sortedR (K := K) hu70) (by rfl) T.sorted (by decide +kernel) (pa_cons (pv 3) pa_nil)) pa_nil)) (pa_cons (pe_callTy (kc_tuple (K := K)) (by rfl) T.tuple (by decide +kernel) (pa_cons (pe_callB (kc_sortedR (K := K) hu70) (by rfl) T.sorted (by decide +kernel) (pa_cons (pv 4) pa_nil)) pa_nil)) pa_nil)))))))), ?_⟩
    -- names
    refine ⟨_, rfl, _, rfl, _, rfl, b, most, n, rfl, (by omega), (by omega), hS, by omega, fun H1 r1 r10 r11 B1 s1 => ⟨_, _, rfl, rfl, ?_⟩⟩
    obtain ⟨m, em⟩ : ∃ m : Nat, (1 : Int) + r1 = (m : Int) := ⟨(1 + r1).toNat, by omega⟩
    refine ⟨b, n + 1, m, (by show [V.ref b, V.int (1 + r1)] = _; rw [em]), B1, by omega, by omega, fun H2 N ys B2 s2 nN hN ly wy ndy => ?_⟩
    have k2 : Sm [b] H H2 := s1.trans s2
    refine ⟨Nat.zero_le _, fun C nC => ?_⟩
    have Nb : N ≠ b := B1.ne nN
    have nC0 := sm_free k2 B2.bx nC
    have Cb := B2.ne nC
    have NC : N ≠ C := ne_of_none hN nC
    have B3 := B2.put (o := .lst []) nC
    have k3 := k2.trans (sm_put (S := [b]) (o := .lst []) nC)
    have hN := same_upd (o := .lst []) nC _ _ hN
    have hC : upd H2 C (.lst []) C = some (.lst []) := upd_same
    generalize upd H2 C (.lst []) = H3 at B3 k3 hN hC ⊢
    refine ⟨Nat.zero_le _, fun W nW => ⟨_, _, _, rfl, ?_⟩⟩
    have nW0 := sm_free k3 B3.bx nW
    have Wb := B3.ne nW
    have CW : C ≠ W := ne_of_none hC nW
    have NW : N ≠ W := ne_of_none hN nW
    have ap : PAc H b C W := ⟨Cb, Wb, CW, nC0, nW0⟩
    have hN := same_upd (o := .lst []) nW _ _ hN
    have start : PMc K H b C W N ys (n + 21) [] [] [] [] (upd H3 W (.lst [])) :=
      ⟨(B3.put nW).mono (by omega), k3.trans (sm_put nW), by rw [off_out (by simp; exact ⟨NC, NW, Nb⟩)]; exact hN, same_upd nW _ _ hC, .nil, upd_same, .nil⟩
    generalize upd H3 W (.lst []) = H5 at start ⊢
    have ly12 : ys.length ≤ 12 := by omega
    have ly1 : 1 ≤ ys.length := by omega
    -- colours
    refine ⟨_, rfl, N, rfl, ⟨_, SqL.of (at_off start.hN)⟩, ?_⟩
    refine for_it (walk_list (xs := ys.map V.str)) (fun i σ H6 => ∃ v5 v6 v7 xs cs, σ = [some (.ref b), some (.int most), some (.ref N), some (.ref C), some (.ref W), v5, v6, v7, none, none, none] ∧ PMc K H b C W N ys (n + 21 + 7 * i) xs [] cs [] H6 ∧ PalOk cs [] ∧ cs.map (·.1) = ys.take i ∧ cs.length = i ∧ ∀ x ∈ cs, (1 ≤ x.2.1 ∧ x.2.1 ≤ 20 ∧ 0 ≤ x.2.2.1 ∧ x.2.2.1 ≤ 99) ∧ Nm x.1)
      ⟨_, _, _, [], [], rfl, start, ⟨by decide, by decide, fun _ h => (List.not_mem_nil h).elim, fun _ h => (List.not_mem_nil h).elim⟩, rfl, rfl, fun _ h => (List.not_mem_nil h).elim⟩ (fun i σ H6 _ h => by obtain ⟨_, _, _, _, _, _, h, _⟩ := h; exact SqL.of (at_off h.hN)) ?_ ?_
    · rintro i x σ H6 H7 hi ⟨v5, v6, v7, xs, cs, rfl, M, ok, ecs, lcs, ch⟩ ⟨rfl, gx⟩
      rw [List.getElem?_map] at gx
      obtain ⟨z, gz, rfl⟩ := Option.map_eq_some_iff.mp gx
      have nz := wy z (List.mem_of_getElem? gz)
      rw [List.length_map] at hi
      -- charge
      refine ⟨_, rfl, b, 3, _, rfl, (by decide), (by decide), M.st, by omega, fun H8 r3 c80 c81 B8 s8 => ⟨_, _, rfl, rfl, ?_⟩⟩
      have M := M.drawn ap B8 s8
      refine ⟨_, rfl, b, 20, _, rfl, (by decide), (by decide), M.st, by omega, fun H9 r4 c90 c91 B9 s9 => ⟨_, _, rfl, rfl, (by show 4 ≤ sizeLine; decide), fun a1 na1 => ?_⟩⟩
      have M := M.drawn ap B9 s9
      have a1b := M.st.ne na1
      have M := M.put (o := .lst [.int 1, .int (1 + r3), .int 20, .int (1 + r4)]) na1
      have h1 : upd H9 a1 (.lst [.int 1, .int (1 + r3), .int 20, .int (1 + r4)]) a1 = _ := upd_same
      generalize upd H9 a1 (.lst [.int 1, .int (1 + r3), .int 20, .int (1 + r4)]) = H10 at M h1 ⊢
      refine ⟨_, rfl, b, 4, _, rfl, (by decide), (by decide), M.st, by omega, fun H11 r5 c110 c111 B11 s11 => ?_⟩
      obtain ⟨ch_, e1, b10, b11⟩ : ∃ b1 : Int, atI [V.int 1, .int (1 + r3), .int 20, .int (1 + r4)] r5 = some (.int b1) ∧ 1 ≤ b1 ∧ b1 ≤ 20 := by
        have h : r5 = 0 ∨ r5 = 1 ∨ r5 = 2 ∨ r5 = 3 := by omega
        rcases h with rfl | rfl | rfl | rfl
        · exact ⟨_, rfl, by omega, by omega⟩
        · exact ⟨_, rfl, by omega, by omega⟩
        · exact ⟨_, rfl, by omega, by omega⟩
        · exact ⟨_, rfl, by omega, by omega⟩
      refine ⟨a1, _, r5, .int ch_, rfl, rfl, SqL.of (sm1_at s11 a1b h1), e1, ?_⟩
      have M := M.drawn ap B11 s11
      -- melt
      refine ⟨_, rfl, b, 4, _, rfl, (by decide), (by decide), M.st, by omega, fun H12 r6 c120 c121 B12 s12 => ?_⟩
      have M := M.drawn ap B12 s12
      refine ⟨_, rfl, b, 100, _, rfl, (by decide), (by decide), M.st, by omega, fun H13 r7 c130 c131 B13 s13 => ⟨(by show 4 ≤ sizeLine; decide), fun a2 na2 => ?_⟩⟩
      have M := M.drawn ap B13 s13
      have a2b := M.st.ne na2
      have M := M.put (o := .lst [.int 0, .int r6, .int 99, .int r7]) na2
      have h2 : upd H13 a2 (.lst [.int 0, .int r6, .int 99, .int r7]) a2 = _ := upd_same
      generalize upd H13 a2 (.lst [.int 0, .int r6, .int 99, .int r7]) = H14 at M h2 ⊢
      refine ⟨_, rfl, b, 4, _, rfl, (by decide), (by decide), M.st, by omega, fun H15 r8 c150 c151 B15 s15 => ?_⟩
      obtain ⟨me, e2, b20, b21⟩ : ∃ b1 : Int, atI [V.int 0, .int r6, .int 99, .int r7] r8 = some (.int b1) ∧ 0 ≤ b1 ∧ b1 ≤ 99 := by
        have h : r8 = 0 ∨ r8 = 1 ∨ r8 = 2 ∨ r8 = 3 := by omega
        rcases h with rfl | rfl | rfl | rfl
        · exact ⟨_, rfl, by omega, by omega⟩
        · exact ⟨_, rfl, by omega, by omega⟩
        · exact ⟨_, rfl, by omega, by omega⟩
        · exact ⟨_, rfl, by omega, by omega⟩
      refine ⟨a2, _, r8, .int me, rfl, rfl, SqL.of (sm1_at s15 a2b h2), e2, ?_⟩
      have M := M.drawn ap B15 s15
      -- append
      refine ⟨_, rfl, .inl ⟨rfl, _, SqL.of M.hC⟩, _, rfl, _, rfl, _, rfl, _, rfl, b, 999, _, rfl, (by decide), (by decide), M.st, by omega, fun H16 ga g0 g1 B16 s16 => ⟨_, _, rfl, rfl, (by show 4 ≤ sizeLine; decide), fun t nt => ?_⟩⟩
      have M := M.drawn ap B16 s16
      have ft := off_new (o := .tup [.str z, .int ch_, .int me, .int (1 + ga)]) M.live nt
      have M := M.put (o := .tup [.str z, .int ch_, .int me, .int (1 + ga)]) nt
      generalize upd H16 t (.tup [.str z, .int ch_, .int me, .int (1 + ga)]) = H17 at M ft ⊢
      have hv : Dp K (off H17 [C, W, b]) (.ref t) (colD (z, ch_, me, 1 + ga)) := .tup (.inl (.inl ft)) (.cons (.str _) (.cons (.int _) (.cons (.int _) (.cons (.int _) .nil))))
      have lxs : xs.length = i := by rw [dpAll_map_len M.dC]; exact lcs
      refine ⟨C, _, _, rfl, rfl, M.hC, (by rw [lxs]; exact Nat.lt_of_lt_of_le (show i < 12 by omega) (by decide)), ?_⟩
      have M := M.colour ap hv
      refine ⟨_, _, _, _, cs ++ [((z, ch_, me, 1 + ga) : Col)], rfl, M.mono (by omega), ok.addC (c := (z, ch_, me, 1 + ga)) (by omega) ⟨Nat.le_trans nz.1.1 (by decide), wd_codes nz.1, by show ch_.natAbs < 10000; omega, by show me.natAbs < 10000; omega, by show (1 + ga).natAbs < 10000; omega⟩, ?_, by rw [List.length_append, lcs]; rfl, fun x hx => ?_⟩
      · rw [List.map_append, ecs, List.take_add_one, gz]; rfl
      rcases List.mem_append.mp hx with h | h
      · exact ch x h
      · rw [List.mem_singleton.mp h]; exact ⟨⟨b10, b11, b20, b21⟩, nz⟩
    · rintro σ H6 ⟨v5, v6, v7, xs, cs, rfl, M, ok, ecs, lcs, ch⟩
      rw [List.length_map] at lcs
      have M := M.mono (show _ ≤ n + 200 by rw [List.length_map]; omega)
      rw [List.length_map, List.take_length] at ecs
      -- washes
      have eN : (ys.map V.str).length = m := by rw [List.length_map, ly]
      have mm : m * m ≤ 144 := Nat.mul_le_mul (show m ≤ 12 by omega) (show m ≤ 12 by omega)
      have mz : 0 < m := by omega
      have em2 : (m : Int) * (m : Int) = ((m * m : Nat) : Int) := (Int.natCast_mul m m).symm
      refine ⟨_, rfl, _, (m : Nat), rfl, .inl ⟨_, SqL.of (at_off M.hN), eN.symm⟩, _, rfl, _, (m : Nat), rfl, .inl ⟨_, SqL.of (at_off M.hN), eN.symm⟩, _, _, rfl, rfl, .inl ⟨by omega, by omega⟩, _, rfl, ?_⟩
      refine ⟨by omega, by omega, ?_⟩
      have et : ((m : Int) * (m : Int)).toNat = m * m := by rw [em2, Int.toNat_natCast]
      rw [et]
      refine for_it walk_range (fun i σ H7 => ∃ v8 v9 v10 us ws, σ = [some (.ref b), some (.int most), some (.ref N), some (.ref C), some (.ref W), v5, v6, v7, v8, v9, v10] ∧ PMc K H b C W N ys (n + 200 + 4 * i) xs us cs ws H7 ∧ ws.length ≤ 60 ∧ (ws.map fun r => (r.1, r.2.1)).Nodup ∧ ∀ r ∈ ws, (Nm r.1 ∧ Nm r.2.1 ∧ r.1 ≠ r.2.1 ∧ ∀ h, r.2.2 = some h → 0 ≤ h ∧ h ≤ 99) ∧ ∃ j, j < i ∧ ys[j / m]? = some r.1 ∧ ys[j % m]? = some r.2.1)
        ⟨_, _, _, [], [], rfl, M, Nat.zero_le _, List.nodup_nil, fun _ h => (List.not_mem_nil h).elim⟩ (fun _ _ _ _ _ => trivial) ?_ ?_
      · rintro i x σ H7 H8 hi ⟨v8, v9, v10, us, ws, rfl, M, lws, ndw, bws⟩ ⟨rfl, rfl⟩
        have hdv : i / m < m := Nat.div_lt_of_lt_mul hi
        have hmd : i % m < m := Nat.mod_lt _ mz
        have ed : (0 + (i : Int)) / (m : Int) = ((i / m : Nat) : Int) := by rw [Int.zero_add]; rfl
        have eq_ : (0 + (i : Int)) % (m : Int) = ((i % m : Nat) : Int) := by rw [Int.zero_add]; rfl
        obtain ⟨y0, g0⟩ : ∃ y0, ys[i / m]? = some y0 := ⟨_, List.getElem?_eq_getElem (by omega)⟩
        obtain ⟨y1, g1⟩ : ∃ y1, ys[i % m]? = some y1 := ⟨_, List.getElem?_eq_getElem (by omega)⟩
        have i0 : atI (ys.map V.str) ((i / m : Nat) : Int) = some (.str y0) := atI_nat (by rw [List.getElem?_map, g0]; rfl)
        have i1 : atI (ys.map V.str) ((i % m : Nat) : Int) = some (.str y1) := atI_nat (by rw [List.getElem?_map, g1]; rfl)
        refine ⟨_, rfl, _, rfl, _, rfl, _, (m : Nat), rfl, .inl ⟨_, SqL.of (at_off M.hN), eN.symm⟩, _, _, rfl, rfl, ⟨by omega, by omega⟩, N, _, ((i / m : Nat) : Int), _, rfl, congrArg V.int ed, SqL.of (at_off M.hN), i0, ?_⟩
        refine ⟨_, rfl, _, rfl, _, rfl, _, (m : Nat), rfl, .inl ⟨_, SqL.of (at_off M.hN), eN.symm⟩, _, _, rfl, rfl, (by omega), N, _, ((i % m : Nat) : Int), _, rfl, congrArg V.int eq_, SqL.of (at_off M.hN), i1, (by show 2 ≤ sizeLine; decide), fun t nt => ?_⟩
        have ft := off_new (o := .tup [.str y0, .str y1]) M.live nt
        have M := M.put (o := .tup [.str y0, .str y1]) nt
        generalize upd H8 t (.tup [.str y0, .str y1]) = H9 at M ft ⊢
        have tt : SqT K H9 t [.str y0, .str y1] := .inl (.inl (at_off ft))
        have stay : ∀ {H10 : Hp} {v8 v9 v10 : Option V} {n2 : Nat}, PMc K H b C W N ys n2 xs us cs ws H10 → n2 ≤ n + 200 + 4 * (i + 1) → ∃ v8' v9' v10' us ws, [some (V.ref b), some (.int most), some (.ref N), some (.ref C), some (.ref W), v5, v6, v7, v8, v9, v10] = [some (V.ref b), some (.int most), some (.ref N), some (.ref C), some (.ref W), v5, v6, v7, v8', v9', v10'] ∧ PMc K H b C W N ys (n + 200 + 4 * (i + 1)) xs us cs ws H10 ∧ ws.length ≤ 60 ∧ (ws.map fun r => (r.1, r.2.1)).Nodup ∧ ∀ r ∈ ws, (Nm r.1 ∧ Nm r.2.1 ∧ r.1 ≠ r.2.1 ∧ ∀ h, r.2.2 = some h → 0 ≤ h ∧ h ≤ 99) ∧ ∃ j, j < i + 1 ∧ ys[j / m]? = some r.1 ∧ ys[j % m]? = some r.2.1 := by
          intro H10 v8 v9 v10 n2 M2 hn2
          refine ⟨_, _, _, us, ws, rfl, M2.mono hn2, lws, ndw, fun r hr => ?_⟩
          obtain ⟨h1, j, hj, h2⟩ := bws r hr
          exact ⟨h1, j, by omega, h2⟩
        refine ⟨_, rfl, t, _, 0, _, rfl, rfl, tt, rfl, _, rfl, t, _, 1, _, rfl, rfl, tt, rfl, rfl, _, rfl, ite2 (fun c1 => ?_) (fun c1 => iteF (stay M (by omega)))⟩
        have y01 : y0 ≠ y1 := fun z => by rw [z] at c1; simp at c1
        refine ⟨_, rfl, _, us.length, rfl, .inl ⟨_, SqL.of M.hW, rfl⟩, _, _, rfl, rfl, _, rfl, ite2 (fun c2 => ?_) (fun c2 => iteF (stay M (by omega)))⟩
        have lu : us.length = ws.length := dpAll_map_len M.dW
        have l60 : ws.length < 60 := by have := of_decide_eq_true c2; omega
        refine ⟨_, rfl, b, 3, _, rfl, (by decide), (by decide), M.st, by omega, fun H10 r3 _ _ B10 s10 => ⟨_, _, rfl, rfl, _, rfl, ite2 (fun c3 => ?_) (fun c3 => stay (M.drawn ap B10 s10) (by omega))⟩⟩
        have M := M.drawn ap B10 s10
        have ft := (sm_one (S := [C, W, b]) (by simp) s10) _ _ ft
        refine ⟨_, rfl, b, 4, _, rfl, (by decide), (by decide), M.st, by omega, fun H11 r4 r40 r41 B11 s11 => ⟨_, _, rfl, rfl, ?_⟩⟩
        have M := M.drawn ap B11 s11
        have ft := (sm_one (S := [C, W, b]) (by simp) s11) _ _ ft
        refine ⟨_, rfl, b, 100, _, rfl, (by decide), (by decide), M.st, by omega, fun H12 r5 r50 r51 B12 s12 => ⟨(by show 5 ≤ sizeLine; decide), fun a1 na1 => ?_⟩⟩
        have M := M.drawn ap B12 s12
        have ft := (sm_one (S := [C, W, b]) (by simp) s12) _ _ ft
        have a1b := M.st.ne na1
        have ft := (sm_put (S := [C, W, b]) (o := .lst [.int 0, .int (1 + r4), .int 99, .non, .int r5]) na1) _ _ ft
        have M := M.put (o := .lst [.int 0, .int (1 + r4), .int 99, .non, .int r5]) na1
        have h1 : upd H12 a1 (.lst [.int 0, .int (1 + r4), .int 99, .non, .int r5]) a1 = _ := upd_same
        generalize upd H12 a1 (.lst [.int 0, .int (1 + r4), .int 99, .non, .int r5]) = H13 at M h1 ft ⊢
        refine ⟨_, rfl, b, 5, _, rfl, (by decide), (by decide), M.st, by omega, fun H14 r6 r60 r61 B14 s14 => ?_⟩
        obtain ⟨ho, e1, bo⟩ : ∃ ho : Option Int, atI [V.int 0, .int (1 + r4), .int 99, .non, .int r5] r6 = some (optV ho) ∧ ∀ h, ho = some h → 0 ≤ h ∧ h ≤ 99 := by
          have h : r6 = 0 ∨ r6 = 1 ∨ r6 = 2 ∨ r6 = 3 ∨ r6 = 4 := by omega
          rcases h with rfl | rfl | rfl | rfl | rfl
          · exact ⟨some _, rfl, fun h e => by cases e; omega⟩
          · exact ⟨some _, rfl, fun h e => by cases e; omega⟩
          · exact ⟨some _, rfl, fun h e => by cases e; omega⟩
          · exact ⟨none, rfl, fun h e => by cases e⟩
          · exact ⟨some _, rfl, fun h e => by cases e; omega⟩
        refine ⟨a1, _, r6, _, rfl, rfl, SqL.of (sm1_at s14 a1b h1), e1, ?_⟩
        have M := M.drawn ap B14 s14
        have ft := (sm_one (S := [C, W, b]) (by simp) s14) _ _ ft
        refine ⟨_, rfl, .inl ⟨rfl, _, SqL.of M.hW⟩, _, rfl, _, rfl, (by show 1 ≤ sizeLine; decide), fun t2 nt2 => ?_⟩
        have ft2 := off_new (o := .tup [optV ho]) M.live nt2
        have ft := (sm_put (S := [C, W, b]) (o := .tup [optV ho]) nt2) _ _ ft
        have M := M.put (o := .tup [optV ho]) nt2
        generalize upd H14 t2 (.tup [optV ho]) = H15 at M ft ft2 ⊢
        refine ⟨t, t2, _, _, rfl, rfl, .inl (.inl (at_off ft)), .inl (.inl (at_off ft2)), (by show 2 + 1 ≤ sizeLine; decide), (fun z => by cases z), (fun _ z => by cases z), fun _ _ t3 nt3 => ?_⟩
        have ft3 := off_new (o := .tup ([.str y0, .str y1] ++ [optV ho])) M.live nt3
        have M := M.put (o := .tup ([.str y0, .str y1] ++ [optV ho])) nt3
        generalize upd H15 t3 (.tup ([.str y0, .str y1] ++ [optV ho])) = H16 at M ft3 ⊢
        have hv : Dp K (off H16 [C, W, b]) (.ref t3) (washD (y0, y1, ho)) := .tup (.inl (.inl ft3)) (.cons (.str _) (.cons (.str _) (.cons (opt_dp ho) .nil)))
        refine ⟨W, _, _, rfl, rfl, M.hW, (by rw [lu, sizeLine_eq]; omega), ?_⟩
        have M := M.wash ap hv
        refine ⟨_, _, _, _, ws ++ [((y0, y1, ho) : Wsh)], rfl, M.mono (by omega), by rw [List.length_append]; exact l60, ?_, fun r hr => ?_⟩
        · rw [List.map_append, List.nodup_append]
          refine ⟨ndw, by simp, fun p hp p2 hp2 e => ?_⟩
          obtain ⟨r, hr, rfl⟩ := List.mem_map.mp hp
          have e2 : p2 = (y0, y1) := by simpa using hp2
          obtain ⟨_, j, hj, j1, j2⟩ := bws r hr
          rw [e2] at e
          have e3 : r.1 = y0 := congrArg Prod.fst e
          have e4 : r.2.1 = y1 := congrArg Prod.snd e
          rw [e3, ← g0] at j1
          rw [e4, ← g1] at j2
          have q1 := (List.getElem?_inj (i := j / m) (j := i / m) (by rw [ly]; exact Nat.div_lt_of_lt_mul (by omega)) ndy).mp j1
          have q2 := (List.getElem?_inj (i := j % m) (j := i % m) (by rw [ly]; exact Nat.mod_lt _ mz) ndy).mp j2
          have := div_mod_inj q1 q2
          omega
        · rcases List.mem_append.mp hr with h | h
          · obtain ⟨h1, j, hj, h2⟩ := bws r h
            exact ⟨h1, j, by omega, h2⟩
          · rw [List.mem_singleton.mp h]
            exact ⟨⟨wy _ (List.mem_of_getElem? g0), wy _ (List.mem_of_getElem? g1), y01, bo⟩, i, by omega, g0, g1⟩
      · rintro σ H7 ⟨v8, v9, v10, us, ws, rfl, M, lws, ndw, bws⟩
        have M := M.mono (show _ ≤ n + 1000 by omega)
        -- sorted
        refine ⟨_, rfl, C, _, _, rfl, SqL.of M.hC, dpAll_same off_sub M.dC, rows_cols cs, (fun d hd => by obtain ⟨c, _, rfl⟩ := List.mem_map.mp hd; exact depth_col c), fun zs es p1 dz pz np1 => ?_⟩
        obtain ⟨cs2, pc, rfl⟩ := perm_lift colD pz cs rfl
        have M := M.put (o := .lst zs) np1
        have dz := dpAll_same (same_upd (o := .lst zs) np1) dz
        have h1 : upd H7 p1 (.lst zs) p1 = _ := upd_same
        generalize upd H7 p1 (.lst zs) = H8 at M dz h1 ⊢
        refine ⟨p1, _, rfl, .inl ⟨SqL.of h1, fun t1 n1 => ?_⟩⟩
        have M := M.put (o := .tup zs) n1
        have dz := dpAll_same (same_upd (o := .tup zs) n1) dz
        have h2 : upd H8 t1 (.tup zs) t1 = _ := upd_same
        generalize upd H8 t1 (.tup zs) = H9 at M dz h2 ⊢
        refine ⟨_, rfl, W, _, _, rfl, SqL.of M.hW, dpAll_same off_sub M.dW, rows_wash ndw, (fun d hd => by obtain ⟨c, _, rfl⟩ := List.mem_map.mp hd; exact depth_wash c), fun ze es p2 de pe np2 => ?_⟩
        obtain ⟨ws2, pw, rfl⟩ := perm_lift washD pe ws rfl
        have M := M.put (o := .lst ze) np2
        have dz := dpAll_same (same_upd (o := .lst ze) np2) dz
        have de := dpAll_same (same_upd (o := .lst ze) np2) de
        have h2 := same_upd (o := .lst ze) np2 _ _ h2
        have h3 : upd H9 p2 (.lst ze) p2 = _ := upd_same
        generalize upd H9 p2 (.lst ze) = H10 at M dz de h2 h3 ⊢
        refine ⟨p2, _, rfl, .inl ⟨SqL.of h3, fun t2 n2 => ?_⟩⟩
        have M := M.put (o := .tup ze) n2
        have dz := dpAll_same (same_upd (o := .tup ze) n2) dz
        have de := dpAll_same (same_upd (o := .tup ze) n2) de
        have h2 := same_upd (o := .tup ze) n2 _ _ h2
        have h4 : upd H10 t2 (.tup ze) t2 = _ := upd_same
        generalize upd H10 t2 (.tup ze) = H11 at M dz de h2 h4 ⊢
        refine ⟨(by show 2 ≤ sizeLine; decide), fun t3 n3 => ?_⟩
        have M := M.put (o := .tup [.ref t1, .ref t2]) n3
        have dz := dpAll_same (same_upd (o := .tup [.ref t1, .ref t2]) n3) dz
        have de := dpAll_same (same_upd (o := .tup [.ref t1, .ref t2]) n3) de
        have h2 := same_upd (o := .tup [.ref t1, .ref t2]) n3 _ _ h2
        have h4 := same_upd (o := .tup [.ref t1, .ref t2]) n3 _ _ h4
        have h5 : upd H11 t3 (.tup [.ref t1, .ref t2]) t3 = _ := upd_same
        generalize upd H11 t3 (.tup [.ref t1, .ref t2]) = H12 at M dz de h2 h4 h5 ⊢
        have dp : Dp K H12 (.ref t3) (palD cs2 ws2) := .tup (.inl (.inl h5)) (.cons (.tup (.inl (.inl h2)) dz) (.cons (.tup (.inl (.inl h4)) de) .nil))
        have pb : PalC cs2 ws2 := by
          have lc : cs2.length = cs.length := pc.length_eq
          have lw : ws2.length = ws.length := pw.length_eq
          refine ⟨⟨by omega, by omega, fun c hc => ok.cn c (pc.mem_iff.mp hc), fun r hr => ?_⟩, by omega, by omega, fun c hc => (ch c (pc.mem_iff.mp hc)).1, fun r hr => (bws r (pw.mem_iff.mp hr)).1.2.2.2, fun c hc => (ch c (pc.mem_iff.mp hc)).2, ?_, ?_, fun r hr => (bws r (pw.mem_iff.mp hr)).1.2.2.1⟩
          · obtain ⟨⟨n1, n2, _, b2⟩, _⟩ := bws r (pw.mem_iff.mp hr)
            exact ⟨⟨Nat.le_trans n1.1.1 (by decide), wd_codes n1.1⟩, ⟨Nat.le_trans n2.1.1 (by decide), wd_codes n2.1⟩, fun i ei => by have := b2 i ei; omega⟩
          · exact ((pc.map (·.1)).nodup_iff).mpr (by rw [ecs]; exact ndy)
          · exact ((pw.map fun r : Wsh => (r.1, r.2.1)).nodup_iff).mpr ndw
        exact q _ _ cs2 ws2 (M.st.mono (by omega)) M.sm (dp_offB M.st (noL_pal _ _) dp) pb

end
end Pot

namespace Pot
open PySem PySem.Spec PyProof.Rows L2
section
variable {P : Program} {w : World} {K : PySem.W.Frag} {mg : Str → Option Value} {base : Heap}
def spNum (K : PySem.W.Frag) : Sp := fun vs H Q _ => ∃ (x : V) (d : PyData) (lo hi : Int), vs = [x, .int lo, .int hi] ∧ Dp K H x d ∧ Q (.bl (numD lo hi d)) H
/-! ### is_number: whether it's a number within bounds -/
abbrev s_is_number : Stmt := topS 3
def n_is_number : List Str := ["thing", "low", "high"]
theorem sc_is_number : FnScope n_is_number ["thing", "low", "high"] (defScope s_is_number) := ⟨rfl, rfl, rfl, by decide +kernel, rfl, by decide +kernel, by decide +kernel⟩
theorem ok_num {f : Addr} {fd : FuncData} {k : Nat} (F : Fun K "is_number" "is_number" s_is_number f fd) (T : Txt mg) : FnOk P w K mg base CX0 (k + 1) f fd ["thing", "low", "high"] (spNum K) := by
  refine F.ok sc_is_number (fun vs H Q E h => ?_) (fun cdv A outer s H vs Q E hr h => ?_)
  · obtain ⟨x, d, lo, hi, rfl, _⟩ := h
    rfl
  · obtain ⟨x, d, lo, hi, rfl, dp, q⟩ := h
    have nd := sc_is_number.nd
    refine ⟨_, (pss_one (ps_ret (pe_and (pe_callB (kc_isi (K := K)) (by rfl) T.isinstance (by decide +kernel) (pa_cons (pv 0) (pa_cons (pe_bltn (v := .ty "int") (by rfl) T.int (by decide +kernel) rfl) pa_nil))) (pe_and (pe_not (pe_callB (kc_isi (K := K)) (by rfl) T.isinstance (by decide +kernel) (pa_cons (pv 0) (pa_cons (pe_bltn (v := .ty "bool") (by rfl) T.bool (by decide +kernel) rfl) pa_nil)))) (pe_one (pe_chain op_le op_le (pv 1) (pv 0) (pv 2))))))), ?_⟩
    refine ⟨_, rfl, _, .ty _, _, _, isIntD _, rfl, .ty _, tyx_dp dp, kit_int dp, _, rfl, ?_⟩
    have dp2 := dp
    cases dp with
    | int i =>
      refine iteT ⟨_, rfl, _, .ty _, _, _, isBoolD _, rfl, .ty _, tyx_dp dp2, kit_bool dp2, _, rfl, _, rfl, iteT ?_⟩
      refine ⟨_, rfl, _, rfl, _, _, rfl, rfl, _, rfl, ite2 (fun h1 => ⟨_, rfl, _, _, rfl, rfl, ?_⟩) (fun h1 => ?_)⟩
      · have e : numD lo hi (.int i) = decide (i ≤ hi) := by show (decide (lo ≤ i) && _) = _; rw [h1]; rfl
        rw [e] at q; exact q
      · have e : numD lo hi (.int i) = false := by show (decide (lo ≤ i) && _) = _; rw [Bool.not_eq_true _ |>.mp h1]; rfl
        rw [e] at q; exact q
    | bl b =>
      refine iteT ⟨_, rfl, _, .ty _, _, _, isBoolD _, rfl, .ty _, tyx_dp dp2, kit_bool dp2, _, rfl, _, rfl, iteF q⟩
    | non => exact iteF q
    | str _ => exact iteF q
    | lst _ _ => exact iteF q
    | tup _ _ => exact iteF q

abbrev s_is_row : Stmt := topS 4
def n_is_row : List Str := ["thing", "size"]
theorem sc_is_row : FnScope n_is_row ["thing", "size"] (defScope s_is_row) := ⟨rfl, rfl, rfl, by decide +kernel, rfl, by decide +kernel, by decide +kernel⟩
def rowB (n : Int) : PyData → Bool
  | .tuple ds => decide (((ds.length : Nat) : Int) = n)
  | _ => false
def spRow (K : PySem.W.Frag) : Sp := fun vs H Q _ => ∃ (x : V) (d : PyData) (n : Int), vs = [x, .int n] ∧ Dp K H x d ∧ Q (.bl (rowB n d)) H
theorem ok_row {f : Addr} {fd : FuncData} {k : Nat} (F : Fun K "is_row" "is_row" s_is_row f fd) (T : Txt mg) : FnOk P w K mg base CX0 (k + 1) f fd ["thing", "size"] (spRow K) := by
  refine F.ok sc_is_row (fun vs H Q E h => ?_) (fun cdv A outer s H vs Q E hr h => ?_)
  · obtain ⟨x, d, n, rfl, _⟩ := h
    rfl
  · obtain ⟨x, d, n, rfl, dp, q⟩ := h
    have nd := sc_is_row.nd
    refine ⟨_, (pss_one (ps_ret (pe_and (pe_callB (kc_isi (K := K)) (by rfl) T.isinstance (by decide +kernel) (pa_cons (pv 0) (pa_cons (pe_bltn (v := .ty "tuple") (by rfl) T.tuple (by decide +kernel) rfl) pa_nil))) (pe_one (pe_cmpR op_eq (pe_callB (kc_len (K := K)) (by rfl) T.len PySem.boot_len (pa_cons (pv 0) pa_nil)) (pv 1) (nomark _)))))), ?_⟩
    refine ⟨_, rfl, _, .ty _, _, _, isTupD _, rfl, .ty _, tyx_dp dp, kit_tup dp, _, rfl, ?_⟩
    cases dp with
    | @tup a xs ds hS hx =>
      refine iteT ⟨_, rfl, _, _, rfl, .inr ⟨_, hS, rfl⟩, _, rfl, rfl, ?_⟩
      have lx := dpAll_len hx
      have e : rowB n (.tuple ds) = decide (V.int (xs.length : Nat) = V.int n) := by
        show decide _ = _
        rw [lx]
        exact decide_eq_decide.mpr ⟨fun h => by rw [h], V.int.inj⟩
      rw [e] at q; exact q
    | str z => exact iteF q
    | int _ => exact iteF q
    | bl b => exact iteF q
    | non => exact iteF q
    | lst _ _ => exact iteF q
abbrev s_colour_names : Stmt := topS 9
def n_colour_names : List Str := ["palette", "row"]
theorem sc_colour_names : FnScope n_colour_names ["palette"] (defScope s_colour_names) := ⟨rfl, rfl, rfl, by decide +kernel, rfl, by decide +kernel, by decide +kernel⟩
def spCn (K : PySem.W.Frag) : Sp := fun vs H Q _ => ∃ (v : V) (cs : List Col) (ws : List Wsh), vs = [v] ∧ Dp K H v (palD cs ws) ∧ PalC cs ws ∧ ∀ H' L, Same H H' → H L = none → H' L = some (.lst ((cs.map (·.1)).map V.str)) → Q (.ref L) H'
theorem ok_cn {f : Addr} {fd : FuncData} {k : Nat} (F : Fun K "colour_names" "colour_names" s_colour_names f fd) (T : Txt mg) : FnOk P w K mg base CX0 (k + 1) f fd ["palette"] (spCn K) := by
  refine F.ok sc_colour_names (fun vs H Q E h => ?_) (fun cdv A outer s H vs Q E hr h => ?_)
  · obtain ⟨v, cs, ws, rfl, _⟩ := h
    rfl
  · obtain ⟨v, cs, ws, rfl, dp, pb, q⟩ := h
    have nd := sc_colour_names.nd
    obtain ⟨p, c, w2, xs, ys, rfl, hp, hc, hx, hw, hy⟩ := pal_dp dp
    have lx : xs.length = cs.length := dpAll_map_len hx
    have l20 := pb.ok.nc
    refine ⟨_, (pss_one (ps_ret (pe_lc (own := [("row", 1)]) rfl nd (ki_tup (K := K) (pe_ix (kx_tup (K := K)) (pv 0) pe_int (fun _ _ => rfl))) (blkOk_by (N := n_colour_names) (sc := defScope s_colour_names) (by decide +kernel)) (fun _ _ _ _ _ => (pg_name (i := 1) nd rfl (.inl rfl))) (fun _ _ _ _ _ => pts_nil) (fun _ _ _ _ _ => (pe_ix (kx_tup (K := K)) (pv 1) pe_int (fun _ _ => rfl)))))), ?_⟩
    refine ⟨_, rfl, p, _, 0, .ref c, rfl, rfl, hp, rfl, c, rfl, ⟨_, hc⟩, fun D nD => ?_⟩
    refine lc_it (walk_tup (xs := xs)) (PvL H D fun i => ((cs.map (·.1)).take i).map V.str) (pv_start nD rfl) (fun i H4 _ h => same_tup h.1 hc) ?_ ?_
    · rintro i y H4 H5 hi p2 ⟨rfl, gx⟩
      obtain ⟨d, gd, dp⟩ := dpAll_map_at hx gx
      obtain ⟨r, rfl, hr2⟩ := col_dp dp
      refine ⟨rfl, tYes_at ?_⟩
      rw [if_pos rfl]
      refine ⟨_, rfl, r, _, 0, _, rfl, rfl, same_tup p2.1 hr2, rfl, ?_⟩
      exact pv_put nD p2 (Same.refl _) (take_map V.str (by rw [List.getElem?_map, gd]; rfl)) (take_len_le (by rw [List.length_map]; omega))
    · intro H4 p2
      obtain ⟨s4, hD⟩ := pv_end p2 (take_all (by rw [List.length_map, lx]; exact Nat.le_refl _))
      exact q _ _ s4 nD hD
def inC (cs : List Col) (d : PyData) : Bool := (cs.map fun c => PyData.str c.1).any fun z => PyData.eqv z d
theorem row_four {d : PyData} (h : rowB 4 d = true) : ∃ a b c e, d = .tuple [a, b, c, e] := by
  cases d with
  | tuple ds =>
    have l : ds.length = 4 := by have := of_decide_eq_true h; omega
    match ds, l with
    | [a, b, c, e], _ => exact ⟨a, b, c, e, rfl⟩
  | _ => cases h
theorem strs_shaped {zs : List Str} (h : ∀ z ∈ zs, Nm z) : SeqAt.shaped (.list (zs.map PyData.str)) = true := by
  have g : gd 0 (.list (zs.map PyData.str)) := gdAll_iff.mpr fun d hd => by
    obtain ⟨z, hz, rfl⟩ := List.mem_map.mp hd
    have := (h z hz).1
    exact ⟨Nat.le_trans this.1 (by decide), wd_codes this⟩
  refine gd_shaped g ?_
  show PyData.depthAll (zs.map PyData.str) + 1 ≤ 64
  have : PyData.depthAll (zs.map PyData.str) ≤ 1 := depthAll_iff.mpr fun d hd => by
    obtain ⟨z, hz, rfl⟩ := List.mem_map.mp hd
    simp [PyData.depth]
  omega
theorem dp_strs {H : Hp} : ∀ (zs : List Str), DpAll K H (zs.map V.str) (zs.map PyData.str)
  | [] => .nil
  | z :: zs => .cons (.str z) (dp_strs zs)

/-! ### is_rising of numbers -/
abbrev s_is_rising : Stmt := topS 5
def n_is_rising : List Str := ["keys", "one", "other"]
theorem sc_is_rising : FnScope n_is_rising ["keys"] (defScope s_is_rising) := ⟨rfl, rfl, rfl, by decide +kernel, rfl, by decide +kernel, by decide +kernel⟩
def spRis (K : PySem.W.Frag) : Sp := fun vs H Q _ => ∃ (a : Addr) (ns : List Int), vs = [.ref a] ∧ SqL K H a (ns.map V.int) ∧ ns.length ≤ 4000 ∧ ∀ H', Same H H' → Q (.bl (risI ns)) H'
theorem ok_ris {f : Addr} {fd : FuncData} {k : Nat} (F : Fun K "is_rising" "is_rising" s_is_rising f fd) (T : Txt mg) : FnOk P w K mg base CX0 (k + 1) f fd ["keys"] (spRis K) := by
  refine F.ok sc_is_rising (fun vs H Q E h => ?_) (fun cdv A outer s H vs Q E hr h => ?_)
  · obtain ⟨a, ns, rfl, _⟩ := h
    rfl
  · obtain ⟨a, ns, rfl, hS, h4, q⟩ := h
    have nd := sc_is_rising.nd
    refine ⟨_, (pss_one (ps_ret (pe_callB (kc_all (K := K)) (by rfl) T.all (by decide +kernel) (pa_cons (pe_lc (own := [("one", 1), ("other", 2)]) rfl nd (ki_zip (K := K) (by rfl) T.zip (pa_cons (pv 0) (pa_cons (pe_slice (kl_list (K := K)) (pv 0) (po_some pe_int) po_none) pa_nil))) (blkOk_by (N := n_is_rising) (sc := defScope s_is_rising) (by decide +kernel)) (fun _ _ _ _ _ => (kg_tup (K := K) (n := 2) (pgs_cons (pg_name (i := 1) nd rfl (.inl rfl)) (pgs_cons (pg_name (i := 2) nd rfl (.inl rfl)) pgs_nil)))) (fun _ _ _ _ _ => pts_nil) (fun _ _ _ _ _ => (pe_cmpR op_lt (pv 1) (pv 2) (nomark _)))) pa_nil)))), ?_⟩
    refine ⟨_, rfl, _, rfl, 1, rfl, a, _, rfl, hS, fun e ne => ?_⟩
    have ce : cutV (ns.map V.int) (some 1) none = (ns.drop 1).map V.int := by rw [show (1 : Int) = ((1 : Nat) : Int) from rfl, cut_tail, List.map_drop]
    have he : upd H e (.lst (cutV (ns.map V.int) (some 1) none)) e = some (.lst ((ns.drop 1).map V.int)) := by rw [upd_same, ce]
    have s1 := same_upd (o := .lst (cutV (ns.map V.int) (some 1) none)) ne
    generalize upd H e (.lst (cutV (ns.map V.int) (some 1) none)) = H1 at he s1 ⊢
    have hS := s1.seq hS
    refine ⟨a, e, _, _, rfl, .inl ⟨hS, SqL.of he, fun D nD => ?_⟩⟩
    refine lc_it (walk_zip (xs := ns.map V.int) (ys := (ns.drop 1).map V.int) (n := (rb ns).length) (by rw [rb_len, List.length_map, List.length_map, List.length_drop]; omega)) (PvL H1 D fun i => ((rb ns).take i).map V.bl)
      (pv_start nD rfl) (fun i H2 _ h => ⟨h.1.seq hS, SqL.of (h.1 _ _ he)⟩) ?_ ?_
    · rintro i v H2 H3 hi p ⟨u, x1, y1, rfl, hu, rfl, gx, gy⟩
      replace gx : (ns.map V.int)[i]? = some x1 := gx
      replace gy : ((ns.drop 1).map V.int)[i]? = some y1 := gy
      rw [List.getElem?_map] at gx gy
      obtain ⟨x, gx1, rfl⟩ := Option.map_eq_some_iff.mp gx
      obtain ⟨y, gy1, rfl⟩ := Option.map_eq_some_iff.mp gy
      rw [List.getElem?_drop, Nat.add_comm] at gy1
      refine ⟨u, _, rfl, .inl (.inl upd_same), rfl, _, _, rfl, _, _, rfl, rfl, rfl, tYes_at ?_⟩
      rw [if_pos rfl]
      refine ⟨_, rfl, _, rfl, _, _, rfl, rfl, ?_⟩
      exact pv_put nD p (same_upd hu) (take_map V.bl (rb_at gx1 gy1)) (take_len_le (by rw [rb_len]; omega))
    · intro H2 p
      obtain ⟨sm, hD⟩ := pv_end p (take_all (Nat.le_refl _))
      refine ⟨D, _, rfl, SqL.of hD, ?_⟩
      rw [rb_all]
      exact q _ (s1.trans sm)

def Last (mg : Str → Option Value) : Prop := ∃ t, mg "LAST_HOUR" = some (.int 1000000 t)
def ltD : PyData → PyData → Bool
  | .int i, .int j => decide (i < j)
  | _, _ => false
def turnD (cs : List Col) : PyData → Bool
  | .tuple [a, c, e, g] => inC cs c && (numD 0 1000000 a && (numD 0 1000000 e && numD 0 1000000 g) && (ltD a e && ltD e g))
  | _ => false
theorem turn_not {cs : List Col} {d : PyData} (h : rowB 4 d = false) : turnD cs d = false := by
  unfold turnD
  split
  · exact absurd h (by show ¬ decide (((4 : Nat) : Int) = 4) = false; decide)
  · rfl
abbrev s_is_turn : Stmt := topS 24
def n_is_turn : List Str := ["palette", "thing", "hour"]
theorem sc_is_turn : FnScope n_is_turn ["palette", "thing"] (defScope s_is_turn) := ⟨rfl, rfl, rfl, by decide +kernel, rfl, by decide +kernel, by decide +kernel⟩
def spTurn (K : PySem.W.Frag) : Sp := fun vs H Q _ => ∃ (v : V) (cs : List Col) (ws : List Wsh) (x : V) (d : PyData) (m : Nat), vs = [v, x] ∧ Dp K H v (palD cs ws) ∧ PalC cs ws ∧ Dp K H x d ∧ gd m d ∧ d.depth ≤ 60 ∧ ∀ H', Same H H' → Q (.bl (turnD cs d)) H'
theorem ok_turn {f : Addr} {fd : FuncData} {k : Nat} (F : Fun K "is_turn" "is_turn" s_is_turn f fd) (T : Txt mg) (L : Last mg) (c_is_row : Cl P w K mg base (k + 1) "is_row" (spRow K)) (c_colour_names : Cl P w K mg base (k + 1) "colour_names" (spCn K)) (c_is_number : Cl P w K mg base (k + 1) "is_number" (spNum K)) : FnOk P w K mg base CX0 (k + 2) f fd ["palette", "thing"] (spTurn K) := by
  refine F.ok sc_is_turn (fun vs H Q E h => ?_) (fun cdv A outer s H vs Q E hr h => ?_)
  · obtain ⟨v, cs, ws, x, d, m, rfl, _⟩ := h
    rfl
  · obtain ⟨v, cs, ws, x, d, m, rfl, dpP, pb, dp, hg, hd, q⟩ := h
    obtain ⟨tL, hL⟩ := L
    have nd := sc_is_turn.nd
    have hu65 : (A.deeper (envOfC (Str.ofString "is_turn") (defScope s_is_turn) s.heap.objs.size f cdv)).units + 65 < cLine := by have := hr.un; omega
    /- 0 palette, 1 thing, 2 hour -/
    refine ⟨_, (pss_one (ps_ret (pe_and (pe_cl c_is_row hr (by omega) (by rfl) (pa_cons (pv 1) (pa_cons pe_int pa_nil))) (pe_and (pe_cmpR (ko_inD (K := K) hu65) (pe_ix (kx_tup (K := K)) (pv 1) pe_int (fun _ _ => rfl)) (pe_cl c_colour_names hr (by omega) (by rfl) (pa_cons (pv 0) pa_nil)) rfl) (pe_and (pe_callB (kc_all (K := K)) (by rfl) T.all (by decide +kernel) (pa_cons (pe_lc (own := [("hour", 2)]) rfl nd (ki_tup (K := K) (pe_tup (pa_cons (pe_ix (kx_tup (K := K)) (pv 1) pe_int (fun _ _ => rfl)) (pa_cons (pe_ix (kx_tup (K := K)) (pv 1) pe_int (fun _ _ => rfl)) (pa_cons (pe_ix (kx_tup (K := K)) (pv 1) pe_int (fun _ _ => rfl)) pa_nil))))) (blkOk_by (N := n_is_turn) (sc := defScope s_is_turn) (by decide +kernel)) (fun _ _ _ _ _ => (pg_name (i := 2) nd rfl (.inl rfl))) (fun _ _ _ _ _ => pts_nil) (fun _ _ _ _ _ => (pe_cl c_is_number hr (by omega) (by rfl) (pa_cons (pv 2) (pa_cons pe_int (pa_cons (pe_glob (v := .int 1000000) (by rfl) hL ⟨tL, rfl⟩) pa_nil)))))) pa_nil)) (pe_one (pe_chain op_lt op_lt (pe_ix (kx_tup (K := K)) (pv 1) pe_int (fun _ _ => rfl)) (pe_ix (kx_tup (K := K)) (pv 1) pe_int (fun _ _ => rfl)) (pe_ix (kx_tup (K := K)) (pv 1) pe_int (fun _ _ => rfl))))))))), ?_⟩
    refine ⟨_, rfl, x, d, 4, rfl, dp, _, rfl, ?_⟩
    cases hb : rowB 4 d with
    | false =>
      rw [turn_not hb] at q
      exact iteF (q _ (Same.refl _))
    | true =>
      obtain ⟨a, c, e, g, rfl⟩ := row_four hb
      obtain ⟨p, xs, rfl, hS, hx⟩ := dp_tup dp
      obtain ⟨xa, xc, xe, xg, rfl, pa, pc, pe, pg⟩ := dp_four hx
      obtain ⟨ga, gc, ge, gg, _⟩ := hg
      have hdc : c.depth ≤ 64 := by
        have h1 := depth_at (ds := [a, c, e, g]) (i := 1) rfl
        have h2 : PyData.depthAll [a, c, e, g] + 1 ≤ 60 := hd
        omega
      refine iteT ⟨_, rfl, p, _, 1, _, rfl, rfl, hS, rfl, _, rfl, v, cs, ws, rfl, dpP, pb, fun H3 L s3 nL hL => ?_⟩
      refine ⟨c, _, dp_same s3 pc, .lst (SqL.of hL) (dp_strs _), gd_shaped gc hdc, strs_shaped (fun z hz => ?_), _, rfl, ?_⟩
      · obtain ⟨cc, hcc, rfl⟩ := List.mem_map.mp hz
        exact pb.wd cc hcc
      have ei : ((cs.map (·.1)).map PyData.str).any (fun z => PyData.eqv z c) = inC cs c := by unfold inC; rw [List.map_map]; rfl
      rw [ei]
      have rr : turnD cs (.tuple [a, c, e, g]) = (inC cs c && (numD 0 1000000 a && (numD 0 1000000 e && numD 0 1000000 g) && (ltD a e && ltD e g))) := rfl
      rw [rr] at q
      cases hic : inC cs c with
      | false => rw [hic] at q; exact iteF (q _ s3)
      | true =>
        rw [hic, Bool.true_and] at q
        refine iteT ?_
        have hS := same_tup s3 hS
        have pa := dp_same s3 pa
        have pe := dp_same s3 pe
        have pg := dp_same s3 pg
        refine ⟨_, rfl, p, _, 0, _, rfl, rfl, hS, rfl, _, rfl, p, _, 2, _, rfl, rfl, hS, rfl, _, rfl, p, _, 3, _, rfl, rfl, hS, rfl, (by show 3 ≤ sizeLine; decide), fun t nt => ?_⟩
        have s4 := s3.trans (same_upd (o := .tup [xa, xe, xg]) nt)
        have da : DpAll K (upd H3 t (.tup [xa, xe, xg])) [xa, xe, xg] [a, e, g] := dpAll_same (same_upd nt) (.cons pa (.cons pe (.cons pg .nil)))
        have hS := same_tup (same_upd (o := .tup [xa, xe, xg]) nt) hS
        have ht : SqT K (upd H3 t (.tup [xa, xe, xg])) t [xa, xe, xg] := .inl (.inl upd_same)
        generalize upd H3 t (.tup [xa, xe, xg]) = H4 at s4 da hS ht ⊢
        refine ⟨t, rfl, ⟨_, ht⟩, fun D nD => ?_⟩
        refine lc_it (walk_tup (xs := [xa, xe, xg])) (PvL H4 D fun i => (([a, e, g].map (numD 0 1000000)).take i).map V.bl) (pv_start nD rfl) (fun i H5 _ h => same_tup h.1 ht) ?_ ?_
        · rintro i y H5 H6 hi p2 ⟨rfl, gx⟩
          obtain ⟨dd, gd2, dp2⟩ := dpAll_at da gx
          refine ⟨rfl, tYes_at ?_⟩
          rw [if_pos rfl]
          refine ⟨_, rfl, y, dd, 0, 1000000, rfl, dp_same p2.1 dp2, ?_⟩
          exact pv_put nD p2 (Same.refl _) (take_map V.bl (by rw [List.getElem?_map, gd2]; rfl)) (take_len_le (by show 3 < 100000; decide))
        intro H5 p2
        obtain ⟨s50, hD⟩ := pv_end p2 (take_all (Nat.le_refl 3))
        have s5 := s4.trans s50
        refine ⟨D, _, rfl, SqL.of hD, _, rfl, ?_⟩
        have ea : ([a, e, g].map (numD 0 1000000)).all id = (numD 0 1000000 a && (numD 0 1000000 e && numD 0 1000000 g)) := by
          show (numD 0 1000000 a && (numD 0 1000000 e && (numD 0 1000000 g && true))) = _
          rw [Bool.and_true]
        rw [ea]
        cases hn : (numD 0 1000000 a && (numD 0 1000000 e && numD 0 1000000 g)) with
        | false => rw [hn] at q; exact iteF (q _ s5)
        | true =>
          rw [hn, Bool.true_and] at q
          obtain ⟨n1, n23⟩ := Bool.and_eq_true_iff.mp hn
          obtain ⟨n2, n3⟩ := Bool.and_eq_true_iff.mp n23
          have ia := numD_int n1
          have ie := numD_int n2
          have ig := numD_int n3
          have hS := same_tup s50 hS
          rw [ia.1] at pa q
          rw [ie.1] at pe q
          rw [ig.1] at pg q
          rw [dp_int pa, dp_int pe, dp_int pg] at hS
          refine iteT ⟨_, rfl, p, _, 0, _, rfl, rfl, hS, rfl, _, rfl, p, _, 2, _, rfl, rfl, hS, rfl, _, _, rfl, rfl, _, rfl, ite2 (fun h1 => ⟨_, rfl, p, _, 3, _, rfl, rfl, hS, rfl, _, _, rfl, rfl, ?_⟩) (fun h1 => ?_)⟩
          · have e1 : ltD (.int (toI a)) (.int (toI e)) = true := h1
            rw [e1] at q
            exact q _ s5
          · have e1 : ltD (.int (toI a)) (.int (toI e)) = false := (Bool.not_eq_true _).mp h1
            rw [e1] at q
            exact q _ s5
def firI : PyData → Int
  | .tuple (x :: _) => toI x
  | _ => 0
def turnsD (cs : List Col) : PyData → Bool
  | .list ds => decide (((ds.length : Nat) : Int) ≤ 30) && (ds.all (turnD cs) && risI (ds.map firI))
  | _ => false
theorem turn_form {cs : List Col} {d : PyData} (h : turnD cs d = true) : ∃ i c j k, d = .tuple [.int i, c, .int j, .int k] ∧ inC cs c = true ∧ 0 ≤ i ∧ i < j ∧ j < k ∧ k ≤ 1000000 := by
  unfold turnD at h
  split at h
  · rename_i a c e g
    obtain ⟨h1, h2⟩ := Bool.and_eq_true_iff.mp h
    obtain ⟨h2, h3⟩ := Bool.and_eq_true_iff.mp h2
    obtain ⟨h3, h4⟩ := Bool.and_eq_true_iff.mp h3
    obtain ⟨n1, n23⟩ := Bool.and_eq_true_iff.mp h2
    obtain ⟨n2, n3⟩ := Bool.and_eq_true_iff.mp n23
    have ia := numD_int n1
    have ie := numD_int n2
    have ig := numD_int n3
    rw [ia.1, ie.1] at h3
    rw [ie.1, ig.1] at h4
    have h3 := of_decide_eq_true (show decide (toI a < toI e) = true from h3)
    have h4 := of_decide_eq_true (show decide (toI e < toI g) = true from h4)
    exact ⟨toI a, c, toI e, toI g, by rw [← ia.1, ← ie.1, ← ig.1], h1, ia.2.1, h3, h4, ig.2.2⟩
  · cases h
abbrev s_is_turns : Stmt := topS 23
def n_is_turns : List Str := ["palette", "thing", "turn"]
theorem sc_is_turns : FnScope n_is_turns ["palette", "thing"] (defScope s_is_turns) := ⟨rfl, rfl, rfl, by decide +kernel, rfl, by decide +kernel, by decide +kernel⟩
def spIsTurns (K : PySem.W.Frag) : Sp := fun vs H Q _ => ∃ (v : V) (cs : List Col) (ws : List Wsh) (x : V) (d : PyData) (m : Nat), vs = [v, x] ∧ Dp K H v (palD cs ws) ∧ PalC cs ws ∧ Dp K H x d ∧ gd m d ∧ d.depth ≤ 60 ∧ widAll.wid d ≤ 4000 ∧ ∀ H', Same H H' → Q (.bl (turnsD cs d)) H'
theorem ok_turns {f : Addr} {fd : FuncData} {k : Nat} (F : Fun K "is_turns" "is_turns" s_is_turns f fd) (T : Txt mg) (c_is_turn : Cl P w K mg base (k + 2) "is_turn" (spTurn K)) (c_is_rising : Cl P w K mg base (k + 1) "is_rising" (spRis K)) : FnOk P w K mg base CX0 (k + 3) f fd ["palette", "thing"] (spIsTurns K) := by
  refine F.ok sc_is_turns (fun vs H Q E h => ?_) (fun cdv A outer s H vs Q E hr h => ?_)
  · obtain ⟨v, cs, ws, x, d, m, rfl, _⟩ := h
    rfl
  · obtain ⟨v, cs, ws, x, d, m, rfl, dpP, pb, dp, hg, hd, hw, q⟩ := h
    have nd := sc_is_turns.nd
    refine ⟨_, (pss_one (ps_ret (pe_and (pe_callB (kc_isi (K := K)) (by rfl) T.isinstance (by decide +kernel) (pa_cons (pv 1) (pa_cons (pe_bltn (v := .ty "list") (by rfl) T.list (by decide +kernel) rfl) pa_nil))) (pe_and (pe_cmpR op_le (pe_callB (kc_len (K := K)) (by rfl) T.len PySem.boot_len (pa_cons (pv 1) pa_nil)) pe_int (nomark _)) (pe_and (pe_callB (kc_all (K := K)) (by rfl) T.all (by decide +kernel) (pa_cons (pe_lc (own := [("turn", 2)]) rfl nd (ki_list (K := K) (pv 1)) (blkOk_by (N := n_is_turns) (sc := defScope s_is_turns) (by decide +kernel)) (fun _ _ _ _ _ => (pg_name (i := 2) nd rfl (.inl rfl))) (fun _ _ _ _ _ => pts_nil) (fun _ _ _ _ _ => (pe_cl c_is_turn hr (by omega) (by rfl) (pa_cons (pv 0) (pa_cons (pv 2) pa_nil))))) pa_nil)) (pe_one (pe_cl c_is_rising hr (by omega) (by rfl) (pa_cons (pe_lc (own := [("turn", 2)]) rfl nd (ki_list (K := K) (pv 1)) (blkOk_by (N := n_is_turns) (sc := defScope s_is_turns) (by decide +kernel)) (fun _ _ _ _ _ => (pg_name (i := 2) nd rfl (.inl rfl))) (fun _ _ _ _ _ => pts_nil) (fun _ _ _ _ _ => (pe_ix (kx_tup (K := K)) (pv 2) pe_int (fun _ _ => rfl)))) pa_nil)))))))), ?_⟩
    refine ⟨_, rfl, _, .ty _, _, _, isListD _, rfl, .ty _, tyx_dp dp, kit_list dp, _, rfl, ?_⟩
    cases dp with
    | @lst a xs ds hS hx =>
      have lx := dpAll_len hx
      have l4 : ds.length ≤ 4000 := Nat.le_trans (Nat.le_max_left ..) hw
      have rr : turnsD cs (.list ds) = (decide (((ds.length : Nat) : Int) ≤ 30) && (ds.all (turnD cs) && risI (ds.map firI))) := rfl
      rw [rr, ← lx] at q
      refine iteT ⟨_, rfl, _, _, rfl, .inl ⟨_, hS, rfl⟩, _, _, rfl, rfl, _, rfl, ite2 (fun h1 => ?_) (fun h1 => ?_)⟩
      · rw [h1, Bool.true_and] at q
        refine ⟨_, rfl, a, rfl, ⟨_, hS⟩, fun D nD => ?_⟩
        refine lc_it (walk_list (xs := xs)) (PvL H D fun i => ((ds.map (turnD cs)).take i).map V.bl) (pv_start nD rfl) (fun i H2 _ h => h.1.seq hS) ?_ ?_
        · rintro i y H4 H5 hi p ⟨rfl, gx⟩
          obtain ⟨e, ge, pe⟩ := dpAll_at hx gx
          refine ⟨rfl, tYes_at ?_⟩
          rw [if_pos rfl]
          have hde : e.depth ≤ 60 := by
            have h1 := depth_at ge
            have h2 : PyData.depthAll ds + 1 ≤ 60 := hd
            omega
          refine ⟨_, rfl, _, rfl, v, cs, ws, y, e, m, rfl, dp_same p.1 dpP, pb, dp_same p.1 pe, gdAll_iff.mp hg e (List.mem_of_getElem? ge), hde, fun H6 s6 => ?_⟩
          exact pv_put nD p s6 (take_map V.bl (by rw [List.getElem?_map, ge]; rfl)) (take_len_le (by rw [List.length_map]; omega))
        · intro H4 p
          obtain ⟨s4, hD⟩ := pv_end p (take_all (by rw [List.length_map, lx]; exact Nat.le_refl _))
          refine ⟨D, _, rfl, SqL.of hD, _, rfl, ?_⟩
          rw [all_map]
          cases ha : ds.all (turnD cs) with
          | false => rw [ha] at q; exact iteF (q _ s4)
          | true =>
            rw [ha, Bool.true_and] at q
            have hS := s4.seq hS
            have hx := dpAll_same s4 hx
            refine iteT ⟨_, rfl, a, rfl, ⟨_, hS⟩, fun D2 nD2 => ?_⟩
            refine lc_it (walk_list (xs := xs)) (PvL H4 D2 fun i => ((ds.map firI).take i).map V.int) (pv_start nD2 rfl) (fun i H5 _ h => h.1.seq hS) ?_ ?_
            · rintro i y H5 H6 hi p2 ⟨rfl, gx⟩
              obtain ⟨e, ge, pe⟩ := dpAll_at hx gx
              obtain ⟨i1, c1, j1, k1, rfl, _⟩ := turn_form (List.all_eq_true.mp ha e (List.mem_of_getElem? ge))
              obtain ⟨pt, us, rfl, hT, hu⟩ := dp_tup pe
              obtain ⟨xa, xc, xe, xg, rfl, pa, _⟩ := dp_four hu
              rw [dp_int pa] at hT
              refine ⟨rfl, tYes_at ?_⟩
              rw [if_pos rfl]
              refine ⟨_, rfl, pt, _, 0, _, rfl, rfl, same_tup p2.1 hT, rfl, ?_⟩
              exact pv_put nD2 p2 (Same.refl _) (take_map V.int (by rw [List.getElem?_map, ge]; rfl)) (take_len_le (by rw [List.length_map]; omega))
            · intro H5 p2
              obtain ⟨s5, hD2⟩ := pv_end p2 (take_all (by rw [List.length_map, lx]; exact Nat.le_refl _))
              refine ⟨D2, _, rfl, SqL.of hD2, by rw [List.length_map]; exact l4, fun H6 s6 => ?_⟩
              exact q _ ((s4.trans s5).trans s6)
      · rw [Bool.not_eq_true _ |>.mp h1] at q
        exact q _ (Same.refl _)
    | str z => exact iteF (q _ (Same.refl _))
    | int _ => exact iteF (q _ (Same.refl _))
    | bl b => exact iteF (q _ (Same.refl _))
    | non => exact iteF (q _ (Same.refl _))
    | tup _ _ => exact iteF (q _ (Same.refl _))

end
end Pot

namespace Pot
open PySem PySem.Spec PyProof.Rows L2
section
variable {P : Program} {w : World} {K : PySem.W.Frag} {mg : Str → Option Value} {base : Heap}
/-! ### colour_row: the first colour so called -/
abbrev s_colour_row : Stmt := topS 10
def n_colour_row : List Str := ["palette", "colour", "row"]
theorem sc_colour_row : FnScope n_colour_row ["palette", "colour"] (defScope s_colour_row) := ⟨rfl, rfl, rfl, by decide +kernel, rfl, by decide +kernel, by decide +kernel⟩
def colF (cs : List Col) (z : Str) : Option Col := cs.find? fun c => decide (c.1 = z)
def spColour (K : PySem.W.Frag) : Sp := fun vs H Q _ => ∃ (v : V) (cs : List Col) (ws : List Wsh) (z : Str), vs = [v, .str z] ∧ Dp K H v (palD cs ws) ∧ (∃ c ∈ cs, c.1 = z) ∧
  ∀ (x : V) (c : Col), colF cs z = some c → Dp K H x (colD c) → Q x H
theorem ok_colour {f : Addr} {fd : FuncData} {k : Nat} (F : Fun K "colour_row" "colour_row" s_colour_row f fd) : FnOk P w K mg base CX0 (k + 1) f fd ["palette", "colour"] (spColour K) := by
  refine F.ok sc_colour_row (fun vs H Q E h => ?_) (fun cdv A outer s H vs Q E hr h => ?_)
  · obtain ⟨v, cs, ws, z, rfl, _⟩ := h
    rfl
  · obtain ⟨v, cs, ws, z, rfl, hp, hin, q⟩ := h
    have nd := sc_colour_row.nd
    obtain ⟨p, c, w2, xs, ys, rfl, hp, hc, hx, hw, hy⟩ := pal_dp hp
    refine ⟨_, (pss_cons (ps_for PassesOwn.never rfl (ki_tup (K := K) (pe_ix (kx_tup (K := K)) (pv 0) pe_int (fun _ _ => rfl))) (pg_name (i := 2) nd rfl (.inl rfl))
          (pss_one (ps_if (pt_cmpR op_eq (pe_ix (kx_tup (K := K)) (pv 2) pe_int (fun _ _ => rfl)) (pv 1) (nomark _))
              (pss_one (ps_ret (pv 2)))
              pss_nil)))
      (pss_one ps_never)), ?_⟩
    refine ⟨_, rfl, p, _, 0, .ref c, rfl, rfl, hp, rfl, c, rfl, ⟨_, hc⟩, ?_⟩
    refine for_it (walk_tup (xs := xs)) (fun i σ H2 => ∃ v2, σ = [some (.ref p), some (.str z), v2] ∧ H2 = H ∧ ∀ j d, j < i → cs[j]? = some d → d.1 ≠ z) ⟨none, rfl, rfl, fun j d hj => absurd hj (Nat.not_lt_zero _)⟩ (fun i σ H2 _ h => by obtain ⟨_, _, rfl, _⟩ := h; exact hc) ?_ ?_
    · rintro i x σ H2 H3 hi ⟨v2, rfl, rfl, old⟩ ⟨rfl, gx⟩
      obtain ⟨d, gd, dp⟩ := dpAll_map_at hx gx
      obtain ⟨r, rfl, hr2⟩ := col_dp dp
      refine ⟨_, rfl, r, _, 0, _, rfl, rfl, hr2, rfl, _, rfl, rfl, _, rfl, ?_⟩
      rw [decS]
      refine ite2 (fun hb => ?_) (fun hb => ?_)
      · refine ⟨_, rfl, q _ d ?_ dp⟩
        unfold colF
        obtain ⟨hl, e⟩ := List.getElem?_eq_some_iff.mp gd
        rw [List.find?_eq_some_iff_getElem]
        exact ⟨hb, i, hl, e, fun j hj => by
          have := old j _ hj (List.getElem?_eq_getElem (by omega))
          simp [this]⟩
      · refine ⟨_, rfl, rfl, fun j e hj ge => ?_⟩
        by_cases hji : j = i
        · subst hji
          rw [gd] at ge
          cases ge
          exact fun z => hb (decide_eq_true z)
        · exact old j e (by omega) ge
    · rintro σ H2 ⟨v2, rfl, rfl, old⟩
      obtain ⟨d, hd, e⟩ := hin
      obtain ⟨j, hj, rfl⟩ := List.mem_iff_getElem.mp hd
      exact old j _ (by rw [dpAll_map_len hx]; exact hj) (List.getElem?_eq_getElem hj) e
/-! ### wash_for, of colours that are there -/
abbrev s_wash_for : Stmt := topS 11
def n_wash_for : List Str := ["palette", "ahead", "behind", "row"]
theorem sc_wash_for : FnScope n_wash_for ["palette", "ahead", "behind"] (defScope s_wash_for) := ⟨rfl, rfl, rfl, by decide +kernel, rfl, by decide +kernel, by decide +kernel⟩
def spWash (K : PySem.W.Frag) : Sp := fun vs H Q _ => ∃ (v : V) (cs : List Col) (ws : List Wsh) (a : Option Str) (b : Str), vs = [v, namV a, .str b] ∧ Dp K H v (palD cs ws) ∧ (∀ z, a = some z → ∃ c ∈ cs, c.1 = z) ∧ (∃ c ∈ cs, c.1 = b) ∧ Q (optV (washF ws a b)) H
theorem ok_wash {f : Addr} {fd : FuncData} {k : Nat} (F : Fun K "wash_for" "wash_for" s_wash_for f fd) (c_colour_row : Cl P w K mg base (k + 1) "colour_row" (spColour K)) : FnOk P w K mg base CX0 (k + 2) f fd ["palette", "ahead", "behind"] (spWash K) := by
  refine F.ok sc_wash_for (fun vs H Q E h => ?_) (fun cdv A outer s H vs Q E hr h => ?_)
  · obtain ⟨v, cs, ws, a, b, rfl, _⟩ := h
    rfl
  · obtain ⟨v, cs, ws, a, b, rfl, hp0, hin, hib, q⟩ := h
    have nd := sc_wash_for.nd
    obtain ⟨p, c, w2, xs, ys, rfl, hp, hc, hx, hw, hy⟩ := pal_dp hp0
    refine ⟨_, (pss_cons (ps_if (pt_cmpR op_notN (pv 1) pe_non (nomark _))
          (pss_one (ps_expr (pe_cl c_colour_row hr (by omega) (by rfl) (pa_cons (pv 0) (pa_cons (pv 1) pa_nil)))))
          pss_nil)
      (pss_cons (ps_expr (pe_cl c_colour_row hr (by omega) (by rfl) (pa_cons (pv 0) (pa_cons (pv 2) pa_nil))))
      (pss_cons (ps_for PassesOwn.never rfl (ki_tup (K := K) (pe_ix (kx_tup (K := K)) (pv 0) pe_int (fun _ _ => rfl))) (pg_name (i := 3) nd rfl (.inl rfl))
          (pss_one (ps_if ((pw_and (pt_cmpR op_eq (pe_ix (kx_tup (K := K)) (pv 3) pe_int (fun _ _ => rfl)) (pv 1) (nomark _)) (pw_and1 (pt_cmpR op_eq (pe_ix (kx_tup (K := K)) (pv 3) pe_int (fun _ _ => rfl)) (pv 2) (nomark _))))).pt
              (pss_one (ps_ret (pe_ix (kx_tup (K := K)) (pv 3) pe_int (fun _ _ => rfl))))
              pss_nil)))
      (pss_one (ps_ret pe_int))))), ?_⟩
    have loop : ∀ v3, tSeq (tFor (iTup K (tOp (rIxT K) (tVar 0) (tC (.int 1)))) (gName 3) (tIfS (tAnd (tTest (tOp rEq (tOp (rIxT K) (tVar 3) (tC (.int 0))) (tVar 1))) (tTest (tOp rEq (tOp (rIxT K) (tVar 3) (tC (.int 1))) (tVar 2)))) (tRet (tOp (rIxT K) (tVar 3) (tC (.int 2)))) tNext)) (tRet (tC (.int 0)))
        { nx := fun x H' => Q V.non H', rt := Q } [some (.ref p), some (namV a), some (.str b), v3] H := by
      intro v3
      refine ⟨_, rfl, p, _, 1, .ref w2, rfl, rfl, hp, rfl, w2, rfl, ⟨_, hw⟩, ?_⟩
      refine for_it (walk_tup (xs := ys)) (fun i σ H2 => ∃ v3, σ = [some (.ref p), some (namV a), some (.str b), v3] ∧ H2 = H ∧ ∀ j r, j < i → ws[j]? = some r → ¬ (some r.1 = a ∧ r.2.1 = b)) ⟨_, rfl, rfl, fun j d hj => absurd hj (Nat.not_lt_zero _)⟩ (fun i σ H2 _ h => by obtain ⟨_, _, rfl, _⟩ := h; exact hw) ?_ ?_
      · rintro i x σ H2 H3 hi ⟨v4, rfl, rfl, old⟩ ⟨rfl, gx⟩
        obtain ⟨d, gd, dp⟩ := dpAll_map_at hy gx
        obtain ⟨r, rfl, hr2⟩ := wash_dp dp
        have stay : ¬ (some d.1 = a ∧ d.2.1 = b) → ∀ j e, j < i + 1 → ws[j]? = some e → ¬ (some e.1 = a ∧ e.2.1 = b) := fun hb j e hj ge => by
          by_cases hji : j = i
          · subst hji
            rw [gd] at ge
            cases ge
            exact hb
          · exact old j e (by omega) ge
        have sc : scal (.str d.1) (namV a) = true := by cases a <;> rfl
        have ed : decide (V.str d.1 = namV a) = decide (some d.1 = a) := by
          cases a with
          | none => rw [decide_eq_false (by intro z; cases z), decide_eq_false (by intro z; cases z)]
          | some z =>
            show decide (V.str d.1 = V.str z) = _
            rw [decS]
            by_cases h : d.1 = z
            · rw [decide_eq_true h, decide_eq_true (by rw [h])]
            · rw [decide_eq_false h, decide_eq_false fun q => h (Option.some.inj q)]
        refine ⟨_, rfl, r, _, 0, _, rfl, rfl, hr2, rfl, _, rfl, sc, _, rfl, ?_⟩
        rw [ed]
        refine ite2 (fun ha => ?_) (fun ha => ?_)
        · refine ⟨_, rfl, r, _, 1, _, rfl, rfl, hr2, rfl, _, rfl, rfl, _, rfl, ?_⟩
          rw [decS]
          refine ite2 (fun hb => ?_) (fun hb => ?_)
          · refine ⟨_, rfl, r, _, 2, _, rfl, rfl, hr2, rfl, ?_⟩
            rw [← washF_at old gd ⟨of_decide_eq_true ha, of_decide_eq_true hb⟩]
            exact q
          · exact ⟨_, rfl, rfl, stay fun z => hb (decide_eq_true z.2)⟩
        · refine iteF ?_
          exact ⟨_, rfl, rfl, stay fun z => ha (decide_eq_true z.1)⟩
      · rintro σ H2 ⟨v4, rfl, rfl, old⟩
        rw [washF_none (by rw [← dpAll_map_len hy]; exact old)] at q
        exact q
    have behind : tSeq (tDrop (tCall (spColour K) [] E0 (tCons (tVar 0) (tCons (tVar 2) tNil)))) (tSeq (tFor (iTup K (tOp (rIxT K) (tVar 0) (tC (.int 1)))) (gName 3) (tIfS (tAnd (tTest (tOp rEq (tOp (rIxT K) (tVar 3) (tC (.int 0))) (tVar 1))) (tTest (tOp rEq (tOp (rIxT K) (tVar 3) (tC (.int 1))) (tVar 2)))) (tRet (tOp (rIxT K) (tVar 3) (tC (.int 2)))) tNext)) (tRet (tC (.int 0)))) { nx := fun x H' => Q V.non H', rt := Q } [some (.ref p), some (namV a), some (.str b), none] H :=
      ⟨_, rfl, _, rfl, .ref p, cs, ws, b, rfl, hp0, hib, fun x d _ _ => loop none⟩
    cases a with
    | none => exact ⟨_, rfl, rfl, _, rfl, iteF behind⟩
    | some z => exact ⟨_, rfl, rfl, _, rfl, iteT ⟨_, rfl, _, rfl, .ref p, cs, ws, z, rfl, hp0, hin z rfl, fun x d _ _ => behind⟩⟩

abbrev s_ready_at : Stmt := topS 12
def n_ready_at : List Str := ["palette", "colour", "at", "row"]
theorem sc_ready_at : FnScope n_ready_at ["palette", "colour", "at"] (defScope s_ready_at) := ⟨rfl, rfl, rfl, by decide +kernel, rfl, by decide +kernel, by decide +kernel⟩
def spReady (K : PySem.W.Frag) : Sp := fun vs H Q _ => ∃ (v : V) (cs : List Col) (ws : List Wsh) (z : Str) (at_ : Int), vs = [v, .str z, .int at_] ∧ Dp K H v (palD cs ws) ∧ (∃ c ∈ cs, c.1 = z) ∧ ∀ c, colF cs z = some c → Q (.int (at_ + c.2.1 + c.2.2.1)) H
theorem ok_ready {f : Addr} {fd : FuncData} {k : Nat} (F : FunV K "ready_at" s_ready_at [.int 0] f fd) (c_colour_row : Cl P w K mg base (k + 1) "colour_row" (spColour K)) : FnOk P w K mg base CX0 (k + 2) f fd ["palette", "colour", "at"] (spReady K) := by
  refine okD F sc_ready_at (fun vs H Q E h => ?_) (fun cdv A outer s H vs Q E hr h => ?_)
  · obtain ⟨v, cs, ws, z, at_, rfl, _⟩ := h
    rfl
  · obtain ⟨v, cs, ws, z, at_, rfl, hp, hin, q⟩ := h
    have nd := sc_ready_at.nd
    refine ⟨_, (pss_cons (ps_set (i := 3) nd rfl (.inl rfl) (pe_cl c_colour_row hr (by omega) (by rfl) (pa_cons (pv 0) (pa_cons (pv 1) pa_nil))))
      (pss_one (ps_ret (pe_op op_add (pe_op op_add (pv 2) (pe_ix (kx_tup (K := K)) (pv 3) pe_int (fun _ _ => rfl))) (pe_ix (kx_tup (K := K)) (pv 3) pe_int (fun _ _ => rfl)))))), ?_⟩
    refine ⟨_, rfl, _, rfl, v, cs, ws, z, rfl, hp, hin, fun x c hc dp => ?_⟩
    obtain ⟨r, rfl, hr2⟩ := col_dp dp
    exact ⟨_, rfl, _, rfl, r, _, 1, _, rfl, rfl, hr2, rfl, _, _, rfl, rfl, _, rfl, r, _, 2, _, rfl, rfl, hr2, rfl, _, _, rfl, rfl, q c hc⟩

/-! ### faults -/
abbrev Trn := Int × Str × Int × Int
def trD (t : Trn) : PyData := .tuple [.int t.1, .str t.2.1, .int t.2.2.1, .int t.2.2.2]
abbrev Flt := Str × Option Int
def btwF (ws : List Wsh) (p t : Trn) : Option Flt :=
  if t.1 - p.2.2.2 < 0 then some ("over", some (-(t.1 - p.2.2.2))) else
    match washF ws (some p.2.1) t.2.1 with
    | none => some ("never", none)
    | some h => if t.1 - p.2.2.2 < h then some ("spoilt", some (h - (t.1 - p.2.2.2))) else none
def witF (cs : List Col) (t : Trn) : Option Flt := match colF cs t.2.1 with
  | none => none
  | some c => if 0 < t.1 + c.2.1 + c.2.2.1 - t.2.2.1 then some ("early", some (t.1 + c.2.1 + c.2.2.1 - t.2.2.1)) else none
def oneF (cs : List Col) (ws : List Wsh) (p : Option Trn) (t : Trn) : Option Flt := match p.bind fun p => btwF ws p t with
  | none => witF cs t
  | some f => some f
def fauF (cs : List Col) (ws : List Wsh) : Option Trn → Nat → List Trn → Option (Nat × Flt)
  | _, _, [] => none
  | p, i, t :: ts => match oneF cs ws p t with
    | some f => some (i, f)
    | none => fauF cs ws (some t) (i + 1) ts
def fbD : Option Flt → PyData
  | none => .none
  | some f => .tuple [.str f.1, optD f.2]
def flD : Option (Nat × Flt) → PyData
  | none => .none
  | some f => .tuple [.int (f.1 : Nat), .str f.2.1, optD f.2.2]
theorem tr_dp {H : Hp} {x : V} {t : Trn} (h : Dp K H x (trD t)) : ∃ p, x = .ref p ∧ SqT K H p [.int t.1, .str t.2.1, .int t.2.2.1, .int t.2.2.2] := by
  obtain ⟨p, xs, rfl, hp, hx⟩ := dp_tup h
  obtain ⟨xa, xc, xe, xg, rfl, qa, qc, qe, qg⟩ := dp_four hx
  rw [dp_int qa, dp_str qc, dp_int qe, dp_int qg] at hp
  exact ⟨p, rfl, hp⟩
def InC (cs : List Col) (z : Str) : Prop := ∃ c ∈ cs, c.1 = z
theorem colF_some {cs : List Col} {z : Str} (h : InC cs z) : ∃ c, colF cs z = some c := by
  unfold colF
  cases e : cs.find? fun c => decide (c.1 = z) with
  | some c => exact ⟨c, rfl⟩
  | none =>
    obtain ⟨c, hc, rfl⟩ := h
    have := List.find?_eq_none.mp e c hc
    simp at this

abbrev s_fault_within : Stmt := topS 27
def n_fault_within : List Str := ["palette", "turn", "lack"]
theorem sc_fault_within : FnScope n_fault_within ["palette", "turn"] (defScope s_fault_within) := ⟨rfl, rfl, rfl, by decide +kernel, rfl, by decide +kernel, by decide +kernel⟩
def spWit (K : PySem.W.Frag) : Sp := fun vs H Q _ => ∃ (v : V) (cs : List Col) (ws : List Wsh) (x : V) (t : Trn), vs = [v, x] ∧ Dp K H v (palD cs ws) ∧ Dp K H x (trD t) ∧ InC cs t.2.1 ∧
  ∀ H' y, Same H H' → Dp K H' y (fbD (witF cs t)) → Q y H'
theorem ok_wit {f : Addr} {fd : FuncData} {k : Nat} (F : Fun K "fault_within" "fault_within" s_fault_within f fd) (T : Txt mg) (c_ready_at : ClD P w K mg base (k + 2) "ready_at" [] (spReady K)) : FnOk P w K mg base CX0 (k + 3) f fd ["palette", "turn"] (spWit K) := by
  refine F.ok sc_fault_within (fun vs H Q E h => ?_) (fun cdv A outer s H vs Q E hr h => ?_)
  · obtain ⟨v, cs, ws, x, t, rfl, _⟩ := h
    rfl
  · obtain ⟨v, cs, ws, x, t, rfl, dpP, dp, hin, q⟩ := h
    have nd := sc_fault_within.nd
    /- 0 palette, 1 turn, 2 lack -/
    refine ⟨_, (pss_cons (ps_set (i := 2) nd rfl (.inl rfl) (pe_op op_sub (pe_cd c_ready_at hr (by omega) (by rfl) (pa_cons (pv 0) (pa_cons (pe_ix (kx_tup (K := K)) (pv 1) pe_int (fun _ _ => rfl)) (pa_cons (pe_ix (kx_tup (K := K)) (pv 1) pe_int (fun _ _ => rfl)) pa_nil)))) (pe_ix (kx_tup (K := K)) (pv 1) pe_int (fun _ _ => rfl))))
      (pss_cons (ps_if (pt_cmpR op_gt (pv 2) pe_int (nomark _))
          (pss_one (ps_ret (pe_tup (pa_cons pe_str (pa_cons (pv 2) pa_nil)))))
          pss_nil)
      (pss_one (ps_ret pe_non)))), ?_⟩
    obtain ⟨p, rfl, hp⟩ := tr_dp dp
    obtain ⟨c, ec⟩ := colF_some hin
    refine ⟨_, rfl, _, rfl, p, _, 1, _, rfl, rfl, hp, rfl, _, rfl, p, _, 0, _, rfl, rfl, hp, rfl, v, cs, ws, _, _, rfl, dpP, hin, fun c2 ec2 => ?_⟩
    rw [ec] at ec2
    cases ec2
    refine ⟨_, rfl, p, _, 2, _, rfl, rfl, hp, rfl, _, _, rfl, rfl, ?_⟩
    unfold witF at q
    rw [ec] at q
    refine ⟨_, rfl, _, _, rfl, rfl, _, rfl, ite2 (fun h => ?_) (fun h => ?_)⟩
    · refine ⟨_, rfl, (by show 2 ≤ sizeLine; decide), fun l nl => ?_⟩
      refine q _ _ (same_upd nl) ?_
      show Dp K _ _ (fbD (if 0 < t.1 + c.2.1 + c.2.2.1 - t.2.2.1 then _ else none))
      rw [if_pos (of_decide_eq_true h)]
      exact .tup (.inl (.inl upd_same)) (.cons (.str _) (.cons (.int _) .nil))
    · refine q _ _ (Same.refl _) ?_
      show Dp K _ _ (fbD (if 0 < t.1 + c.2.1 + c.2.2.1 - t.2.2.1 then _ else none))
      rw [if_neg (fun z => h (decide_eq_true z))]
      exact .non
abbrev s_fault_between : Stmt := topS 26
def n_fault_between : List Str := ["palette", "ahead", "turn", "gap", "wash"]
theorem sc_fault_between : FnScope n_fault_between ["palette", "ahead", "turn"] (defScope s_fault_between) := ⟨rfl, rfl, rfl, by decide +kernel, rfl, by decide +kernel, by decide +kernel⟩
def spBtw (K : PySem.W.Frag) : Sp := fun vs H Q _ => ∃ (v : V) (cs : List Col) (ws : List Wsh) (x x2 : V) (t t2 : Trn), vs = [v, x, x2] ∧ Dp K H v (palD cs ws) ∧ Dp K H x (trD t) ∧ Dp K H x2 (trD t2) ∧ InC cs t.2.1 ∧ InC cs t2.2.1 ∧
  ∀ H' y, Same H H' → Dp K H' y (fbD (btwF ws t t2)) → Q y H'
theorem ok_btw {f : Addr} {fd : FuncData} {k : Nat} (F : Fun K "fault_between" "fault_between" s_fault_between f fd) (T : Txt mg) (c_wash_for : Cl P w K mg base (k + 2) "wash_for" (spWash K)) : FnOk P w K mg base CX0 (k + 3) f fd ["palette", "ahead", "turn"] (spBtw K) := by
  refine F.ok sc_fault_between (fun vs H Q E h => ?_) (fun cdv A outer s H vs Q E hr h => ?_)
  · obtain ⟨v, cs, ws, x, x2, t, t2, rfl, _⟩ := h
    rfl
  · obtain ⟨v, cs, ws, x, x2, t, t2, rfl, dpP, dp, dp2, hin, hin2, q⟩ := h
    have nd := sc_fault_between.nd
    /- 0 palette, 1 ahead, 2 turn, 3 gap, 4 wash -/
    refine ⟨_, (pss_cons (ps_set (i := 3) nd rfl (.inl rfl) (pe_op op_sub (pe_ix (kx_tup (K := K)) (pv 2) pe_int (fun _ _ => rfl)) (pe_ix (kx_tup (K := K)) (pv 1) pe_int (fun _ _ => rfl))))
      (pss_cons (ps_if (pt_cmpR op_lt (pv 3) pe_int (nomark _))
          (pss_one (ps_ret (pe_tup (pa_cons pe_str (pa_cons (pe_un un_neg (pv 3)) pa_nil)))))
          pss_nil)
      (pss_cons (ps_set (i := 4) nd rfl (.inl rfl) (pe_cl c_wash_for hr (by omega) (by rfl) (pa_cons (pv 0) (pa_cons (pe_ix (kx_tup (K := K)) (pv 1) pe_int (fun _ _ => rfl)) (pa_cons (pe_ix (kx_tup (K := K)) (pv 2) pe_int (fun _ _ => rfl)) pa_nil)))))
      (pss_cons (ps_if (pt_cmpR op_isN (pv 4) pe_non (nomark _))
          (pss_one (ps_ret (pe_tup (pa_cons pe_str (pa_cons pe_non pa_nil)))))
          pss_nil)
      (pss_cons (ps_if (pt_cmpR op_lt (pv 3) (pv 4) (nomark _))
          (pss_one (ps_ret (pe_tup (pa_cons pe_str (pa_cons (pe_op op_sub (pv 4) (pv 3)) pa_nil)))))
          pss_nil)
      (pss_one (ps_ret pe_non))))))), ?_⟩
    obtain ⟨p, rfl, hp⟩ := tr_dp dp
    obtain ⟨p2, rfl, hp2⟩ := tr_dp dp2
    refine ⟨_, rfl, p2, _, 0, _, rfl, rfl, hp2, rfl, _, rfl, p, _, 3, _, rfl, rfl, hp, rfl, _, _, rfl, rfl, ?_⟩
    unfold btwF at q
    generalize hg : t2.1 - t.2.2.2 = g at q
    have hg2 : ((fun i j => V.int (i - j)) t2.1 t.2.2.2 : V) = .int g := by rw [← hg]
    rw [hg2]
    refine ⟨_, rfl, _, _, rfl, rfl, _, rfl, ite2 (fun h => ?_) (fun h => ?_)⟩
    · rw [if_pos (of_decide_eq_true h)] at q
      refine ⟨_, rfl, _, rfl, (by show 2 ≤ sizeLine; decide), fun l nl => ?_⟩
      exact q _ _ (same_upd nl) (.tup (.inl (.inl upd_same)) (.cons (.str _) (.cons (.int _) .nil)))
    rw [if_neg (fun z => h (decide_eq_true z))] at q
    refine ⟨_, rfl, _, rfl, p, _, 1, _, rfl, rfl, hp, rfl, _, rfl, p2, _, 1, _, rfl, rfl, hp2, rfl, v, cs, ws, some t.2.1, t2.2.1, rfl, dpP, (fun z e => by cases e; exact hin), hin2, ?_⟩
    cases ew : washF ws (some t.2.1) t2.2.1 with
    | none =>
      rw [ew] at q
      refine ⟨_, rfl, rfl, _, rfl, iteT ?_⟩
      refine ⟨(by show 2 ≤ sizeLine; decide), fun l nl => ?_⟩
      exact q _ _ (same_upd nl) (.tup (.inl (.inl upd_same)) (.cons (.str _) (.cons .non .nil)))
    | some h2 =>
      rw [ew] at q
      refine ⟨_, rfl, rfl, _, rfl, iteF ?_⟩
      refine ⟨_, rfl, _, rfl, _, _, rfl, rfl, _, rfl, ite2 (fun h => ?_) (fun h => ?_)⟩
      · refine ⟨_, rfl, _, rfl, _, _, rfl, rfl, (by show 2 ≤ sizeLine; decide), fun l nl => ?_⟩
        refine q _ _ (same_upd nl) ?_
        show Dp K _ _ (fbD (if g < h2 then _ else none))
        rw [if_pos (of_decide_eq_true h)]
        exact .tup (.inl (.inl upd_same)) (.cons (.str _) (.cons (.int _) .nil))
      · refine q _ _ (Same.refl _) ?_
        show Dp K _ _ (fbD (if g < h2 then _ else none))
        rw [if_neg (fun z => h (decide_eq_true z))]
        exact .non
abbrev s_fault_of : Stmt := topS 25
def n_fault_of : List Str := ["palette", "turns", "number", "turn", "fault"]
theorem sc_fault_of : FnScope n_fault_of ["palette", "turns"] (defScope s_fault_of) := ⟨rfl, rfl, rfl, by decide +kernel, rfl, by decide +kernel, by decide +kernel⟩
def spFault (K : PySem.W.Frag) : Sp := fun vs H Q _ => ∃ (v : V) (cs : List Col) (ws : List Wsh) (a : Addr) (xs : List V) (ts : List Trn), vs = [v, .ref a] ∧ Dp K H v (palD cs ws) ∧ SqL K H a xs ∧ DpAll K H xs (ts.map trD) ∧ ts.length ≤ 31 ∧ (∀ t ∈ ts, InC cs t.2.1) ∧
  ∀ H' y, Same H H' → Dp K H' y (flD (fauF cs ws none 0 ts)) → Q y H'
theorem ok_fault {f : Addr} {fd : FuncData} {k : Nat} (F : Fun K "fault_of" "fault_of" s_fault_of f fd) (T : Txt mg) (c_fault_between : Cl P w K mg base (k + 3) "fault_between" (spBtw K)) (c_fault_within : Cl P w K mg base (k + 3) "fault_within" (spWit K)) : FnOk P w K mg base CX0 (k + 4) f fd ["palette", "turns"] (spFault K) := by
  refine F.ok sc_fault_of (fun vs H Q E h => ?_) (fun cdv A outer s H vs Q E hr h => ?_)
  · obtain ⟨v, cs, ws, a, xs, ts, rfl, _⟩ := h
    rfl
  · obtain ⟨v, cs, ws, a, xs, ts, rfl, dpP, hS, hx, hl, hin, q⟩ := h
    have nd := sc_fault_of.nd
    /- 0 palette, 1 turns, 2 number, 3 turn, 4 fault -/
    refine ⟨_, (pss_cons (ps_for PassesOwn.never rfl (ki_enum (K := K) (by rfl) T.enumerate (pa_cons (pv 1) pa_nil)) (kg_tup (K := K) (n := 2) (pgs_cons (pg_name (i := 2) nd rfl (.inl rfl)) (pgs_cons (pg_name (i := 3) nd rfl (.inl rfl)) pgs_nil)))
          (pss_cons (ps_set (i := 4) nd rfl (.inl rfl) pe_non)
          (pss_cons (ps_if (pt_cmpR op_gt (pv 2) pe_int (nomark _))
              (pss_one (ps_set (i := 4) nd rfl (.inl rfl) (pe_cl c_fault_between hr (by omega) (by rfl) (pa_cons (pv 0) (pa_cons (pe_ix (kx_list (K := K)) (pv 1) (pe_op op_sub (pv 2) pe_int) (fun _ _ => rfl)) (pa_cons (pv 3) pa_nil))))))
              pss_nil)
          (pss_cons (ps_if (pt_cmpR op_isN (pv 4) pe_non (nomark _))
              (pss_one (ps_set (i := 4) nd rfl (.inl rfl) (pe_cl c_fault_within hr (by omega) (by rfl) (pa_cons (pv 0) (pa_cons (pv 3) pa_nil)))))
              pss_nil)
          (pss_one (ps_if (pt_cmpR op_notN (pv 4) pe_non (nomark _))
              (pss_one (ps_ret (pe_tup (pa_cons (pv 2) (pa_cons (pe_ix (kx_tup (K := K)) (pv 4) pe_int (fun _ _ => rfl)) (pa_cons (pe_ix (kx_tup (K := K)) (pv 4) pe_int (fun _ _ => rfl)) pa_nil))))))
              pss_nil))))))
      (pss_one (ps_ret pe_non))), ?_⟩
    have lx : xs.length = ts.length := dpAll_map_len hx
    refine ⟨_, rfl, a, _, rfl, hS, ?_⟩
    refine for_it (walk_enum (xs := xs)) (fun i σ H2 => ∃ v2 v3 v4 pt, σ = [some v, some (.ref a), v2, v3, v4] ∧ Same H H2 ∧ fauF cs ws none 0 ts = fauF cs ws pt i (ts.drop i) ∧ (if i = 0 then pt = none else ∃ t, pt = some t ∧ ts[i - 1]? = some t))
      ⟨_, _, _, none, rfl, Same.refl _, rfl, rfl⟩ (fun i σ H4 _ h => by obtain ⟨_, _, _, _, _, h, _⟩ := h; exact h.seq hS) ?_ ?_
    · rintro i x σ H4 H5 hi ⟨v2, v3, v4, pt, rfl, s4, old, hpt⟩ ⟨tt, x1, x2, rfl, nt, rfl, g1, g2⟩
      cases g1
      replace g2 : xs[i]? = some x2 := g2
      obtain ⟨t, gt, dp⟩ := dpAll_map_at hx g2
      have hit := hin t (List.mem_of_getElem? gt)
      have edrop : ts.drop i = t :: ts.drop (i + 1) := by
        rw [List.drop_eq_getElem_cons (by omega), (List.getElem?_eq_some_iff.mp gt).2]
      rw [edrop] at old
      refine ⟨tt, _, rfl, .inl (.inl upd_same), rfl, _, _, rfl, _, _, rfl, rfl, ?_⟩
      have s5 := s4.trans (same_upd (o := .tup [.int (i : Nat), x2]) nt)
      generalize upd H4 tt (.tup [.int (i : Nat), x2]) = H5 at s5 ⊢
      have hS5 := s5.seq hS
      have ecut : ∀ o, oneF cs ws pt t = o → fauF cs ws none 0 ts = match o with | some f => some (i, f) | none => fauF cs ws (some t) (i + 1) (ts.drop (i + 1)) := fun o e => by rw [old, ← e]; rfl
      refine ⟨_, rfl, _, _, rfl, rfl, _, rfl, ite2 (fun h => ?_) (fun h => ?_)⟩
      · have h1 : 0 < i := by have := of_decide_eq_true h; omega
        rw [if_neg (by omega)] at hpt
        obtain ⟨tp, rfl, gtp⟩ := hpt
        obtain ⟨j, rfl⟩ : ∃ j, i = j + 1 := ⟨i - 1, by omega⟩
        have gtp : ts[j]? = some tp := gtp
        have lj : j < xs.length := by omega
        obtain ⟨tq, gtq, dpq⟩ := dpAll_map_at hx (List.getElem?_eq_getElem lj)
        rw [gtp] at gtq
        cases gtq
        refine ⟨_, rfl, _, rfl, _, rfl, _, _, rfl, rfl, a, _, _, _, rfl, rfl, hS5, (by rw [show ((j + 1 : Nat) : Int) - 1 = (j : Nat) by omega]; exact atI_nat (List.getElem?_eq_getElem lj)), _, rfl, v, cs, ws, _, x2, tp, t, rfl, dp_same s5 dpP, dp_same s5 dpq, dp_same s5 dp, hin tp (List.mem_of_getElem? gtp), hit, fun H6 y6 s6 dy => ?_⟩
        have dy : Dp K H6 y6 (fbD ((some tp).bind fun p => btwF ws p t)) := dy
        have s6 := s5.trans s6
        generalize hpq : some tp = pt at dy ecut
        cases eb : (pt.bind fun p => btwF ws p t) with
        | none =>
          rw [eb] at dy
          cases dy
          refine ⟨_, rfl, rfl, _, rfl, iteT ?_⟩
          refine ⟨_, rfl, _, rfl, v, cs, ws, x2, t, rfl, dp_same s6 dpP, dp_same s6 dp, hit, fun H7 y7 s7 dy => ?_⟩
          have e1 : witF cs t = oneF cs ws pt t := by unfold oneF; rw [eb]
          rw [e1] at dy
          have s6 := s6.trans s7
          cases eo : oneF cs ws pt t with
          | none =>
            rw [eo] at dy
            cases dy
            refine ⟨_, rfl, rfl, _, rfl, iteF ⟨_, _, _, some t, rfl, s6, ecut _ eo, ?_⟩⟩
            rw [if_neg (by omega)]; exact ⟨t, rfl, gt⟩
          | some f =>
            rw [eo] at dy
            obtain ⟨pf, us, epf, hf, df⟩ := dp_tup dy
            cases epf
            obtain ⟨u1, u2, rfl, d1, d2⟩ := dp_two df
            refine ⟨_, rfl, rfl, _, rfl, iteT ?_⟩
            refine ⟨_, rfl, _, rfl, _, _, 0, _, rfl, rfl, hf, rfl, _, rfl, _, _, 1, _, rfl, rfl, hf, rfl, (by show 3 ≤ sizeLine; decide), fun l nl => ?_⟩
            rw [ecut _ eo] at q
            exact q _ _ (s6.trans (same_upd nl)) (.tup (.inl (.inl upd_same)) (.cons (.int _) (.cons (dp_same (same_upd nl) d1) (.cons (dp_same (same_upd nl) d2) .nil))))
        | some f0 =>
          have eo : oneF cs ws pt t = some f0 := by unfold oneF; rw [eb]
          rw [eb] at dy
          obtain ⟨pf0, rfl⟩ : ∃ pf0, y6 = .ref pf0 := by obtain ⟨pf, us, rfl, _⟩ := dp_tup dy; exact ⟨pf, rfl⟩
          refine ⟨_, rfl, rfl, _, rfl, iteF ?_⟩
          obtain ⟨pf, us, epf, hf, df⟩ := dp_tup dy
          cases epf
          obtain ⟨u1, u2, rfl, d1, d2⟩ := dp_two df
          refine ⟨_, rfl, rfl, _, rfl, iteT ?_⟩
          refine ⟨_, rfl, _, rfl, _, _, 0, _, rfl, rfl, hf, rfl, _, rfl, _, _, 1, _, rfl, rfl, hf, rfl, (by show 3 ≤ sizeLine; decide), fun l nl => ?_⟩
          rw [ecut _ eo] at q
          exact q _ _ (s6.trans (same_upd nl)) (.tup (.inl (.inl upd_same)) (.cons (.int _) (.cons (dp_same (same_upd nl) d1) (.cons (dp_same (same_upd nl) d2) .nil))))
      · have h0 : i = 0 := by
          rcases Nat.eq_zero_or_pos i with z | z
          · exact z
          · exact absurd (decide_eq_true (show (0 : Int) < (i : Nat) by omega)) h
        subst h0
        have hpt : pt = none := hpt
        have s6 := s5
        have eb : (pt.bind fun p => btwF ws p t) = none := by rw [hpt]; rfl
        refine ⟨_, rfl, rfl, _, rfl, iteT ?_⟩
        refine ⟨_, rfl, _, rfl, v, cs, ws, x2, t, rfl, dp_same s6 dpP, dp_same s6 dp, hit, fun H7 y7 s7 dy => ?_⟩
        have e1 : witF cs t = oneF cs ws pt t := by unfold oneF; rw [eb]
        rw [e1] at dy
        have s6 := s6.trans s7
        cases eo : oneF cs ws pt t with
        | none =>
          rw [eo] at dy
          cases dy
          refine ⟨_, rfl, rfl, _, rfl, iteF ⟨_, _, _, some t, rfl, s6, ecut _ eo, ?_⟩⟩
          rw [if_neg (by omega)]; exact ⟨t, rfl, gt⟩
        | some f =>
          rw [eo] at dy
          obtain ⟨pf, us, epf, hf, df⟩ := dp_tup dy
          cases epf
          obtain ⟨u1, u2, rfl, d1, d2⟩ := dp_two df
          refine ⟨_, rfl, rfl, _, rfl, iteT ?_⟩
          refine ⟨_, rfl, _, rfl, _, _, 0, _, rfl, rfl, hf, rfl, _, rfl, _, _, 1, _, rfl, rfl, hf, rfl, (by show 3 ≤ sizeLine; decide), fun l nl => ?_⟩
          rw [ecut _ eo] at q
          exact q _ _ (s6.trans (same_upd nl)) (.tup (.inl (.inl upd_same)) (.cons (.int _) (.cons (dp_same (same_upd nl) d1) (.cons (dp_same (same_upd nl) d2) .nil))))
    · rintro σ H2 ⟨v2, v3, v4, pt, rfl, s2, old, hpt⟩
      rw [lx, List.drop_length] at old
      rw [old] at q
      exact q _ _ s2 .non

end
end Pot

namespace Pot
open PySem PySem.Spec PyProof.Rows L2
section
variable {P : Program} {w : World} {K : PySem.W.Frag} {mg : Str → Option Value} {base : Heap}
/-! ### the law's own washings -/
abbrev s__law_wash : Stmt := topS 36
def n__law_wash : List Str := ["_law_palette_here", "_law_ahead", "_law_behind", "_law_found", "_law_row"]
theorem sc__law_wash : FnScope n__law_wash ["_law_palette_here", "_law_ahead", "_law_behind"] (defScope s__law_wash) := ⟨rfl, rfl, rfl, by decide +kernel, rfl, by decide +kernel, by decide +kernel⟩
def spLWash (K : PySem.W.Frag) : Sp := fun vs H Q _ => ∃ (v : V) (cs : List Col) (ws : List Wsh) (a : Option Str) (b : Str), vs = [v, namV a, .str b] ∧ Dp K H v (palD cs ws) ∧ PalOk cs ws ∧ (∀ z, a = some z → Nm z) ∧ Nm b ∧ ∀ H', Same H H' → Q (optV (washF ws a b)) H'
theorem ok_lwash {f : Addr} {fd : FuncData} {k : Nat} (F : Fun K "_law_wash" "_law_wash" s__law_wash f fd) : FnOk P w K mg base CX0 (k + 1) f fd ["_law_palette_here", "_law_ahead", "_law_behind"] (spLWash K) := by
  refine F.ok sc__law_wash (fun vs H Q E h => ?_) (fun cdv A outer s H vs Q E hr h => ?_)
  · obtain ⟨v, cs, ws, a, b, rfl, _⟩ := h
    rfl
  · obtain ⟨v, cs, ws, a, b, rfl, hp, ok, la, lb, q⟩ := h
    have nd := sc__law_wash.nd
    have hu64 := hr.units
    /- 0 _law_palette_here, 1 _law_ahead, 2 _law_behind, 3 _law_found, 4 _law_row -/
    obtain ⟨p, c, w2, xs, ys, rfl, hp, hc, hx, hw, hy⟩ := pal_dp hp
    refine ⟨_, (pss_cons (ps_setLc (i := 3) (own := [("_law_row", 4)]) rfl nd rfl rfl (sw_true rfl rfl rfl (by decide +kernel)) (ki_tup (K := K) (pe_ix (kx_tup (K := K)) (pv 0) pe_int (fun _ _ => rfl))) (blkOk_by (N := n__law_wash) (sc := defScope s__law_wash) (by decide +kernel)) (fun _ _ _ _ _ => (pg_name (i := 4) nd rfl (.inl rfl))) (fun _ _ _ _ _ => (pts_one (pt_cmpR (ko_eq (K := K) hu64) (pe_slice (kl_tup (K := K)) (pv 4) po_none (po_some pe_int)) (pe_tup (pa_cons (pv 1) (pa_cons (pv 2) pa_nil))) (nomark _)))) (fun _ _ _ _ _ => (pe_ix (kx_tup (K := K)) (pv 4) pe_int (fun _ _ => rfl))))
      (pss_one (ps_ret (pe_ifExp (pt_cmpR (ko_ne (K := K) hu64) (pv 3) (pe_lst pa_nil) (nomark _)) (pe_ix (kx_list (K := K)) (pv 3) pe_int (fun _ _ => rfl)) pe_int)))), ?_⟩
    refine ⟨_, rfl, p, _, 1, .ref w2, rfl, rfl, hp, rfl, w2, rfl, ⟨_, hw⟩, fun D nD => ?_⟩
    have lws : ys.length = ws.length := dpAll_map_len hy
    refine lc_it (walk_tup (xs := ys)) (fun i H2 => Same H H2 ∧ H2 D = some (.lst (((ws.take i).filter (mat a b)).map fun r => optV r.2.2))) ⟨same_upd nD, upd_same⟩ (fun i H2 _ h => same_tup h.1 hw) ?_ ?_
    · rintro i x H2 H3 hi ⟨sm, hD⟩ ⟨rfl, gx⟩
      obtain ⟨r, gr, dp⟩ := dpAll_map_at hy gx
      obtain ⟨t, rfl, ht⟩ := wash_dp dp
      have rok := ok.wn r (List.mem_of_getElem? gr)
      have sg : ∀ {z : Str}, Nm z → ∀ x ∈ z.cps.toList, x < 1114112 := fun h x hx => Nat.lt_trans (h.ascii x hx) (by decide)
      have ht3 := same_tup sm ht
      have ec : cutV [V.str r.1, .str r.2.1, optV r.2.2] none (some 2) = [V.str r.1, .str r.2.1] := by rw [show (2 : Int) = ((2 : Nat) : Int) from rfl, cut_head]; rfl
      refine ⟨rfl, _, rfl, 2, rfl, t, _, rfl, ht3, (fun h => absurd h.2 (by rw [show (2 : Int) = ((2 : Nat) : Int) from rfl, HT.sIx_nat]; exact (by decide : ¬ min 2 3 = 3))), fun _ t1 n1 => ?_⟩
      rw [ec]
      refine ⟨_, rfl, _, rfl, (by show 2 ≤ sizeLine; decide), fun t2 n2 => ?_⟩
      have sm2 := same_upd (o := .tup [.str r.1, .str r.2.1]) n1
      have sm3 := same_upd (o := .tup [namV a, .str b]) n2
      have h1 : upd (upd H3 t1 (.tup [.str r.1, .str r.2.1])) t2 (.tup [namV a, .str b]) t1 = some (.tup [.str r.1, .str r.2.1]) := sm3 _ _ upd_same
      have h2 : upd (upd H3 t1 (.tup [.str r.1, .str r.2.1])) t2 (.tup [namV a, .str b]) t2 = some (.tup [namV a, .str b]) := upd_same
      have sm4 := sm.trans (sm2.trans sm3)
      have hD2 := sm3 _ _ (sm2 _ _ hD)
      generalize upd (upd H3 t1 (.tup [.str r.1, .str r.2.1])) t2 (.tup [namV a, .str b]) = H4 at h1 h2 sm4 hD2 ⊢
      refine ⟨.tuple [.str r.1, .str r.2.1], .tuple [namD a, .str b], .tup (.inl (.inl h1)) (.cons (.str _) (.cons (.str _) .nil)), .tup (.inl (.inl h2)) (.cons (nam_dp a) (.cons (.str _) .nil)), shaped_two rok.1.2 rok.2.1.2, shaped_nam (fun z e => sg (la z e)) (sg lb), _, rfl, ?_⟩
      rw [eqv_mat]
      rw [List.take_add_one, gr, Option.toList_some, List.filter_append]
      cases hm : mat a b r with
      | true =>
        rw [if_pos rfl]
        refine ⟨_, rfl, t, _, 2, _, rfl, rfl, same_tup sm4 ht, rfl, _, hD2, ?_, same_put sm4 nD, ?_⟩
        · rw [List.length_map]
          refine Nat.lt_of_le_of_lt (Nat.le_trans (List.length_filter_le ..) (List.length_take_le' ..)) ?_
          exact Nat.lt_of_le_of_lt ok.nw (by decide)
        · rw [upd_same]; simp [hm]
      | false =>
        rw [if_neg Bool.false_ne_true]
        refine ⟨sm4, ?_⟩
        rw [hD2]; simp [hm]
    · rintro H2 ⟨sm, hD⟩
      rw [lws, List.take_length] at hD
      refine ⟨_, rfl, Nat.zero_le _, fun e ne => ?_⟩
      have sm2 := same_upd (o := .lst []) ne
      have hD := sm2 _ _ hD
      have he : upd H2 e (.lst []) e = _ := upd_same
      have sm := sm.trans sm2
      generalize upd H2 e (.lst []) = H3 at sm hD he ⊢
      refine ⟨.list ((ws.filter (mat a b)).map fun r => optD r.2.2), .list [], .lst (SqL.of hD) (dpAll_opts _), .lst (SqL.of he) .nil, shaped_opts _, shaped_opts ([] : List Wsh), _, rfl, ?_⟩
      rw [washF_filter] at q
      cases ef : ws.filter (mat a b) with
      | nil =>
        rw [ef] at q
        show if (!PyData.eqv (.list []) (.list [])) = true then _ else _
        rw [if_neg (by intro z; cases z)]
        exact q _ sm
      | cons r l =>
        rw [ef] at q hD
        show if (!PyData.eqv (.list (optD r.2.2 :: l.map fun r => optD r.2.2)) (.list [])) = true then _ else _
        rw [if_pos (by rfl)]
        exact ⟨_, rfl, D, _, 0, _, rfl, rfl, SqL.of hD, atI_nat (j := 0) rfl, q _ sm⟩
/-! ### the law's own hours of a colour -/
def hrD (c : Col) : PyData := .tuple [.int c.2.1, .int c.2.2.1]
theorem colF_head {cs : List Col} {b : Str} {c : Col} (h : colF cs b = some c) : ∃ l, cs.filter (fun c => decide (c.1 = b)) = c :: l := by
  unfold colF at h
  rw [← List.head?_filter] at h
  cases e : cs.filter (fun c => decide (c.1 = b)) with
  | nil => rw [e] at h; cases h
  | cons x l => rw [e] at h; cases h; exact ⟨l, rfl⟩
abbrev s__law_hours : Stmt := topS 37
def n__law_hours : List Str := ["_law_palette_here", "_law_colour", "_law_row"]
theorem sc__law_hours : FnScope n__law_hours ["_law_palette_here", "_law_colour"] (defScope s__law_hours) := ⟨rfl, rfl, rfl, by decide +kernel, rfl, by decide +kernel, by decide +kernel⟩
def spLHours (K : PySem.W.Frag) : Sp := fun vs H Q _ => ∃ (v : V) (cs : List Col) (ws : List Wsh) (b : Str), vs = [v, .str b] ∧ Dp K H v (palD cs ws) ∧ cs.length ≤ 20 ∧ InC cs b ∧ ∀ H' y c, Same H H' → colF cs b = some c → SqT K H' y [.int c.2.1, .int c.2.2.1] → Q (.ref y) H'
theorem ok_lhours {f : Addr} {fd : FuncData} {k : Nat} (F : Fun K "_law_hours" "_law_hours" s__law_hours f fd) : FnOk P w K mg base CX0 (k + 1) f fd ["_law_palette_here", "_law_colour"] (spLHours K) := by
  refine F.ok sc__law_hours (fun vs H Q E h => ?_) (fun cdv A outer s H vs Q E hr h => ?_)
  · obtain ⟨v, cs, ws, b, rfl, _⟩ := h
    rfl
  · obtain ⟨v, cs, ws, b, rfl, hp, l20, hin, q⟩ := h
    have nd := sc__law_hours.nd
    have hu64 := hr.units
    /- 0 _law_palette_here, 1 _law_colour, 2 _law_row -/
    obtain ⟨p, c, w2, xs, ys, rfl, hp, hc, hx, hw, hy⟩ := pal_dp hp
    refine ⟨_, (pss_one (ps_ret (pe_ix (kx_list (K := K)) (pe_lc (own := [("_law_row", 2)]) rfl nd (ki_tup (K := K) (pe_ix (kx_tup (K := K)) (pv 0) pe_int (fun _ _ => rfl))) (blkOk_by (N := n__law_hours) (sc := defScope s__law_hours) (by decide +kernel)) (fun _ _ _ _ _ => (pg_name (i := 2) nd rfl (.inl rfl))) (fun _ _ _ _ _ => (pts_one (pt_cmpR op_eq (pe_ix (kx_tup (K := K)) (pv 2) pe_int (fun _ _ => rfl)) (pv 1) (nomark _)))) (fun _ _ _ _ _ => (pe_slice (kl_tup (K := K)) (pv 2) (po_some pe_int) (po_some pe_int)))) pe_int (fun _ _ => rfl)))), ?_⟩
    refine ⟨_, rfl, p, _, 0, .ref c, rfl, rfl, hp, rfl, c, rfl, ⟨_, hc⟩, fun D nD => ?_⟩
    obtain ⟨c0, ec0⟩ := colF_some hin
    obtain ⟨l0, el0⟩ := colF_head ec0
    have lxs : xs.length = cs.length := dpAll_map_len hx
    refine lc_it (walk_tup (xs := xs)) (PvD K H [] D fun i => ((cs.take i).filter (fun c => decide (c.1 = b))).map hrD) (pd_start nD rfl) (fun i H2 _ h => same_tup h.sm hc) ?_ ?_
    · rintro i x H2 H3 hi pv ⟨rfl, gx⟩
      obtain ⟨r, gr, dp⟩ := dpAll_map_at hx gx
      obtain ⟨t, rfl, ht⟩ := col_dp dp
      have ht3 := same_tup pv.sm ht
      refine ⟨rfl, _, rfl, t, _, 0, _, rfl, rfl, ht3, rfl, _, rfl, rfl, _, rfl, ?_⟩
      rw [decS]
      refine ite2 (fun hb => ?_) (fun hb => ?_)
      · have ec : cutV [V.str r.1, .int r.2.1, .int r.2.2.1, .int r.2.2.2] (some 1) (some 3) = [V.int r.2.1, .int r.2.2.1] := rfl
        refine ⟨_, rfl, 1, rfl, 3, rfl, t, _, rfl, ht3, (fun h => absurd h.1 (by rw [show (1 : Int) = ((1 : Nat) : Int) from rfl, HT.sIx_nat]; exact (by decide : ¬ min 1 4 = 0))), fun _ t1 n1 => ?_⟩
        rw [ec]
        exact pd_put nD pv (same_upd n1) (.tup (.inl (.inl (off_new (pv.live live_nil) n1))) (.cons (.int _) (.cons (.int _) .nil))) (filt_yes hrD gr hb) (filt_len hrD _ (by omega))
      · exact pd_skip pv (Same.refl _) (filt_no hrD gr (Bool.not_eq_true _ |>.mp hb))
    · intro H2 pv
      obtain ⟨s2, us, fD, da⟩ := pd_end live_nil nD pv (filt_all hrD _ (by omega))
      rw [el0] at da
      cases da with
      | cons d0 da =>
        obtain ⟨y, vs, rfl, hy2, dv⟩ := dp_tup d0
        obtain ⟨u1, u2, rfl, e1, e2⟩ := dp_two dv
        rw [dp_int e1, dp_int e2] at hy2
        exact ⟨D, _, 0, _, rfl, rfl, SqL.of (at_off fD), atI_nat (j := 0) rfl, q _ _ c0 s2 ec0 (sqt_off hy2)⟩

end
end Pot

namespace Pot
open PySem PySem.Spec PyProof.Rows L2
section
variable {P : Program} {w : World} {K : PySem.W.Frag} {mg : Str → Option Value} {base : Heap}
/-! ### turns without fault -/
def St (cs : List Col) (ws : List Wsh) (f : Int) (l : Option Str) (t : Trn) : Prop := ∃ c h, colF cs t.2.1 = some c ∧ washF ws l t.2.1 = some h ∧ f + h ≤ t.1 ∧ t.1 + c.2.1 + c.2.2.1 ≤ t.2.2.1 ∧ t.2.2.1 < t.2.2.2 ∧ t.2.2.2 ≤ f + 400
def Ch (cs : List Col) (ws : List Wsh) : Int → Option Str → List Trn → Prop
  | _, _, [] => True
  | f, l, t :: ts => St cs ws f l t ∧ Ch cs ws t.2.2.2 (some t.2.1) ts
def lastE : Int → List Trn → Int
  | f, [] => f
  | _, t :: ts => lastE t.2.2.2 ts
def lastN : Option Str → List Trn → Option Str
  | l, [] => l
  | _, t :: ts => lastN (some t.2.1) ts
theorem lastE_app (t : Trn) : ∀ (ts : List Trn) (f : Int), lastE f (ts ++ [t]) = t.2.2.2
  | [], _ => rfl
  | u :: ts, _ => lastE_app t ts u.2.2.2
theorem lastN_app (t : Trn) : ∀ (ts : List Trn) (l : Option Str), lastN l (ts ++ [t]) = some t.2.1
  | [], _ => rfl
  | u :: ts, _ => lastN_app t ts (some u.2.1)
theorem ch_app {cs : List Col} {ws : List Wsh} {t : Trn} : ∀ {ts : List Trn} {f : Int} {l : Option Str}, Ch cs ws f l ts → St cs ws (lastE f ts) (lastN l ts) t → Ch cs ws f l (ts ++ [t])
  | [], _, _, _, h => ⟨h, trivial⟩
  | _ :: _, _, _, c, h => ⟨c.1, ch_app c.2 h⟩
def shf (by_ : Int) (t : Trn) : Trn := (t.1 + by_, t.2.1, t.2.2.1 + by_, t.2.2.2 + by_)
theorem ch_shf {cs : List Col} {ws : List Wsh} (b : Int) : ∀ {ts : List Trn} {f : Int} {l : Option Str}, Ch cs ws f l ts → Ch cs ws (f + b) l (ts.map (shf b))
  | [], _, _, _ => trivial
  | t :: _, _, _, ⟨⟨c, h, a1, a2, a3, a4, a5, a6⟩, r⟩ => ⟨⟨c, h, a1, a2, by show _ ≤ t.1 + b; omega, by show t.1 + b + _ + _ ≤ t.2.2.1 + b; omega, by show t.2.2.1 + b < t.2.2.2 + b; omega, by show t.2.2.2 + b ≤ _; omega⟩, ch_shf b r⟩
theorem lastE_shf (b : Int) : ∀ (ts : List Trn) (f : Int), lastE (f + b) (ts.map (shf b)) = lastE f ts + b
  | [], _ => rfl
  | t :: ts, _ => lastE_shf b ts t.2.2.2
theorem ch_none {cs : List Col} {ws : List Wsh} : ∀ {ts : List Trn} {f : Int} {l : Option Str} {p : Option Trn} {i : Nat}, Ch cs ws f l ts → (∀ q, p = some q → q.2.2.2 = f ∧ l = some q.2.1) → (∀ r ∈ ws, ∀ i, r.2.2 = some i → 0 ≤ i) → fauF cs ws p i ts = none
  | [], _, _, _, _, _, _, _ => by unfold fauF; rfl
  | t :: ts, f, l, p, i, ⟨⟨c, h, a1, a2, a3, a4, a5, a6⟩, r⟩, hp, hw => by
    have h0 : 0 ≤ h := by
      rw [washF_filter] at a2
      split at a2
      · cases a2; exact Int.le_refl _
      · rename_i r0 l0 e
        exact hw r0 (List.mem_filter.mp (show r0 ∈ _ by rw [e]; exact List.mem_cons_self)).1 h a2
    have e1 : (p.bind fun p => btwF ws p t) = none := by
      cases p with
      | none => rfl
      | some q =>
        obtain ⟨q1, q2⟩ := hp q rfl
        show btwF ws q t = none
        unfold btwF
        rw [if_neg (by omega), ← q2, a2]
        show (if t.1 - q.2.2.2 < h then _ else none) = none
        rw [if_neg (by omega)]
    have e2 : oneF cs ws p t = none := by
      unfold oneF
      rw [e1]
      show witF cs t = none
      unfold witF
      rw [a1]
      show (if 0 < t.1 + c.2.1 + c.2.2.1 - t.2.2.1 then _ else none) = none
      rw [if_neg (by omega)]
    unfold fauF
    rw [e2]
    exact ch_none r (fun q e => by cases e; exact ⟨rfl, rfl⟩) hw
theorem colF_mem {cs : List Col} {z : Str} {c : Col} (h : colF cs z = some c) : c ∈ cs ∧ c.1 = z := by
  unfold colF at h
  exact ⟨List.mem_of_find?_eq_some h, by have := List.find?_some h; simpa using this⟩
theorem colF_self {c : Col} : ∀ {cs : List Col}, (cs.map (·.1)).Nodup → c ∈ cs → colF cs c.1 = some c
  | [], _, h => (List.not_mem_nil h).elim
  | x :: cs, nd, h => by
    rw [List.map_cons, List.nodup_cons] at nd
    unfold colF
    rw [List.find?_cons]
    by_cases e : x.1 = c.1
    · rw [decide_eq_true e]
      rcases List.mem_cons.mp h with rfl | h
      · rfl
      · exact absurd (List.mem_map.mpr ⟨c, h, e.symm⟩) nd.1
    · rw [decide_eq_false e]
      rcases List.mem_cons.mp h with rfl | h
      · exact absurd rfl e
      · exact colF_self nd.2 h
theorem washF_pos {ws : List Wsh} {l : Option Str} {b : Str} {h : Int} (hw : ∀ r ∈ ws, ∀ i, r.2.2 = some i → 0 ≤ i ∧ i ≤ 99) (e : washF ws l b = some h) : 0 ≤ h ∧ h ≤ 99 := by
  rw [washF_filter] at e
  split at e
  · cases e; decide
  · rename_i r0 l0 e0
    exact hw r0 (List.mem_filter.mp (show r0 ∈ _ by rw [e0]; exact List.mem_cons_self)).1 h e
theorem ch_bounds {cs : List Col} {ws : List Wsh} (pb : PalC cs ws) : ∀ {ts : List Trn} {f : Int} {l : Option Str}, Ch cs ws f l ts → f ≤ lastE f ts ∧ ∀ t ∈ ts, f ≤ t.1 ∧ t.1 < t.2.2.1 ∧ t.2.2.1 < t.2.2.2 ∧ t.2.2.2 ≤ lastE f ts ∧ InC cs t.2.1
  | [], _, _, _ => ⟨Int.le_refl _, fun _ h => (List.not_mem_nil h).elim⟩
  | t :: ts, f, l, ⟨⟨c, h, a1, a2, a3, a4, a5, a6⟩, r⟩ => by
    obtain ⟨i1, i2⟩ := ch_bounds pb r
    have h0 := (washF_pos pb.wa a2).1
    obtain ⟨m1, m2⟩ := colF_mem a1
    obtain ⟨c1, c2, c3, c4⟩ := pb.ch c m1
    refine ⟨by show f ≤ lastE t.2.2.2 ts; omega, fun u hu => ?_⟩
    rcases List.mem_cons.mp hu with rfl | hu
    · exact ⟨by omega, by omega, by omega, i1, c, m1, m2⟩
    · obtain ⟨b1, b2, b3, b4, b5⟩ := i2 u hu
      exact ⟨by omega, b2, b3, b4, b5⟩
theorem ch_len {cs : List Col} {ws : List Wsh} : ∀ {ts : List Trn} {f : Int} {l : Option Str}, Ch cs ws f l ts → lastE f ts ≤ f + 400 * (ts.length : Int)
  | [], f, _, _ => by show f ≤ f + 400 * ((0 : Nat) : Int); omega
  | t :: ts, f, l, ⟨⟨c, h, a1, a2, a3, a4, a5, a6⟩, r⟩ => by
    have := ch_len r
    show lastE t.2.2.2 ts ≤ f + 400 * ((ts.length + 1 : Nat) : Int)
    omega
theorem some_ne {cs : List Col} {ws : List Wsh} (pb : PalC cs ws) {l : Option Str} (hl : ∀ z, l = some z → InC cs z) : ∃ c ∈ cs, (washF ws l c.1).isSome = true := by
  have none_of : ∀ {b : Str}, (∀ r ∈ ws, ¬ (some r.1 = l ∧ r.2.1 = b)) → (washF ws l b).isSome = true := fun h => by
    rw [washF_none fun j r _ g => h r (List.mem_of_getElem? g)]; rfl
  cases l with
  | none =>
    have h0 := pb.ne
    exact ⟨cs[0], List.getElem_mem h0, none_of fun r _ h => by cases h.1⟩
  | some z =>
    obtain ⟨c, hc, rfl⟩ := hl z rfl
    exact ⟨c, hc, none_of fun r hr h => pb.wn r hr (by rw [h.2]; exact Option.some.inj h.1)⟩
abbrev s__law_turns : Stmt := topS 38
def n__law_turns : List Str := ["_law_box_here", "_law_palette_here", "_law_many", "_law_found", "_law_free", "_law_last", "_law_k", "_law_some", "_law_name", "_law_charge", "_law_melt", "_law_gathers", "_law_at", "_law_begin", "_law_by", "_law_colour", "_law_end", "_law_row"]
theorem sc__law_turns : FnScope n__law_turns ["_law_box_here", "_law_palette_here", "_law_many"] (defScope s__law_turns) := ⟨rfl, rfl, rfl, by decide +kernel, rfl, by decide +kernel, by decide +kernel⟩
def spTurns (K : PySem.W.Frag) : Sp := fun vs H Q _ => ∃ (b : Addr) (n m : Nat) (v : V) (cs : List Col) (ws : List Wsh), vs = [.ref b, v, .int (m : Nat)] ∧ Bp H b n ∧ n + 5000 < 2 ^ 40 ∧ Dp K (off H [b]) v (palD cs ws) ∧ PalC cs ws ∧ m ≤ 31 ∧
  ∀ (H' : Hp) (R : Addr) (xs : List V) (ts : List Trn) (f0 : Int), Bp H' b (n + 500) → Sm [b] H H' → H R = none → H' R = some (.lst xs) → DpAll K (off H' [b]) xs (ts.map trD) → ts.length = m → 0 ≤ f0 → Ch cs ws f0 none ts → lastE f0 ts ≤ 1000000 → Q (.ref R) H'
set_option maxHeartbeats 2000000 in
theorem ok_lwturns {f : Addr} {fd : FuncData} {k : Nat} (F : Fun K "_law_turns" "_law_turns" s__law_turns f fd) (T : Txt mg) (c__law_take : Cl P w K mg base (k + 1) "_law_take" spTake) (c__law_wash : Cl P w K mg base (k + 1) "_law_wash" (spLWash K)) : FnOk P w K mg base CX0 (k + 2) f fd ["_law_box_here", "_law_palette_here", "_law_many"] (spTurns K) := by
  refine F.ok sc__law_turns (fun vs H Q E h => ?_) (fun cdv A outer s H vs Q E hr h => ?_)
  · obtain ⟨b, n, m, v, cs, ws, rfl, _⟩ := h
    rfl
  · obtain ⟨b, n, m, v, cs, ws, rfl, B, hn, dp, pb, hm, q⟩ := h
    have nd := sc__law_turns.nd
    /- 0 _law_box_here, 1 _law_palette_here, 2 _law_many, 3 _law_found, 4 _law_free, 5 _law_last, 6 _law_k, 7 _law_some, 8 _law_name, 9 _law_charge, 10 _law_melt, 11 _law_gathers, 12 _law_at, 13 _law_begin, 14 _law_by, 15 _law_colour, 16 _law_end, 17 _law_row -/
    refine ⟨_, (pss_cons (ps_asg (pe_tup (pa_cons (pe_lst pa_nil) (pa_cons (pe_ix (kx_list (K := K)) (pe_lst (pa_cons pe_int (pa_cons pe_int (pa_cons (pe_cl c__law_take hr (by omega) (by rfl) (pa_cons (pv 0) (pa_cons pe_int pa_nil))) pa_nil)))) (pe_cl c__law_take hr (by omega) (by rfl) (pa_cons (pv 0) (pa_cons pe_int pa_nil))) (fun _ _ => rfl)) (pa_cons pe_non pa_nil)))) (kg_tup (K := K) (n := 3) (pgs_cons (pg_name (i := 3) nd rfl (.inl rfl)) (pgs_cons (pg_name (i := 4) nd rfl (.inl rfl)) (pgs_cons (pg_name (i := 5) nd rfl (.inr rfl)) pgs_nil)))))
      (pss_cons (ps_for PassesOwn.never rfl (pi_range1 (by rfl) T.range (pa_cons (pv 2) pa_nil)) (pg_name (i := 6) nd rfl (.inl rfl))
          (pss_cons (ps_setLc (i := 7) (own := [("_law_row", 17)]) rfl nd rfl rfl (sw_true rfl rfl rfl (by decide +kernel)) (ki_tup (K := K) (pe_ix (kx_tup (K := K)) (pv 1) pe_int (fun _ _ => rfl))) (blkOk_by (N := n__law_turns) (sc := defScope s__law_turns) (by decide +kernel)) (fun _ _ _ _ _ => (pg_name (i := 17) nd rfl (.inl rfl))) (fun _ _ _ _ _ => (pts_one (pt_cmpR op_notN (pe_cl c__law_wash hr (by omega) (by rfl) (pa_cons (pv 1) (pa_cons (pv 5) (pa_cons (pe_ix (kx_tup (K := K)) (pv 17) pe_int (fun _ _ => rfl)) pa_nil)))) pe_non (nomark _)))) (fun _ _ _ _ _ => (pv 17)))
          (pss_cons (ps_asg (pe_ix (kx_list (K := K)) (pv 7) (pe_cl c__law_take hr (by omega) (by rfl) (pa_cons (pv 0) (pa_cons (pe_callB (kc_len (K := K)) (by rfl) T.len PySem.boot_len (pa_cons (pv 7) pa_nil)) pa_nil))) (fun _ _ => rfl)) (kg_tup (K := K) (n := 4) (pgs_cons (pg_name (i := 8) nd rfl (.inl rfl)) (pgs_cons (pg_name (i := 9) nd rfl (.inl rfl)) (pgs_cons (pg_name (i := 10) nd rfl (.inl rfl)) (pgs_cons (pg_name (i := 11) nd rfl (.inl rfl)) pgs_nil))))))
          (pss_cons (ps_set (i := 12) nd rfl (.inl rfl) (pe_op op_add (pe_op op_add (pv 4) (pe_cl c__law_wash hr (by omega) (by rfl) (pa_cons (pv 1) (pa_cons (pv 5) (pa_cons (pv 8) pa_nil))))) (pe_ix (kx_list (K := K)) (pe_lst (pa_cons pe_int (pa_cons pe_int (pa_cons (pe_cl c__law_take hr (by omega) (by rfl) (pa_cons (pv 0) (pa_cons pe_int pa_nil))) (pa_cons (pe_cl c__law_take hr (by omega) (by rfl) (pa_cons (pv 0) (pa_cons pe_int pa_nil))) pa_nil))))) (pe_cl c__law_take hr (by omega) (by rfl) (pa_cons (pv 0) (pa_cons pe_int pa_nil))) (fun _ _ => rfl))))
          (pss_cons (ps_set (i := 13) nd rfl (.inl rfl) (pe_op op_add (pe_op op_add (pe_op op_add (pv 12) (pv 9)) (pv 10)) (pe_ix (kx_list (K := K)) (pe_lst (pa_cons pe_int (pa_cons pe_int (pa_cons pe_int (pa_cons (pe_cl c__law_take hr (by omega) (by rfl) (pa_cons (pv 0) (pa_cons pe_int pa_nil))) pa_nil))))) (pe_cl c__law_take hr (by omega) (by rfl) (pa_cons (pv 0) (pa_cons pe_int pa_nil))) (fun _ _ => rfl))))
          (pss_cons (ps_asg (pe_tup (pa_cons (pe_op op_add (pv 13) (pe_ix (kx_list (K := K)) (pe_lst (pa_cons pe_int (pa_cons (pe_op op_add pe_int (pe_cl c__law_take hr (by omega) (by rfl) (pa_cons (pv 0) (pa_cons pe_int pa_nil)))) (pa_cons (pe_op op_add pe_int (pe_cl c__law_take hr (by omega) (by rfl) (pa_cons (pv 0) (pa_cons pe_int pa_nil)))) pa_nil)))) (pe_cl c__law_take hr (by omega) (by rfl) (pa_cons (pv 0) (pa_cons pe_int pa_nil))) (fun _ _ => rfl))) (pa_cons (pv 8) pa_nil))) (kg_tup (K := K) (n := 2) (pgs_cons (pg_name (i := 4) nd rfl (.inl rfl)) (pgs_cons (pg_name (i := 5) nd rfl (.inr rfl)) pgs_nil))))
          (pss_one (ps_expr (pe_bm PySem.F.plainAttrs_list PySem.F.slot_list_append PySem.F.type_list_append mt_append (pv 3) (pa_cons (pe_tup (pa_cons (pv 12) (pa_cons (pv 8) (pa_cons (pv 13) (pa_cons (pv 4) pa_nil))))) pa_nil))))))))))
      (pss_cons (ps_set (i := 14) nd rfl (.inr rfl) (pe_op op_mul (pe_op op_sub (pe_op op_pow pe_int pe_int) (pv 4)) (pe_callTy call_int1 (by rfl) T.int (by decide +kernel) (pa_cons (pe_cmpR op_eq (pe_cl c__law_take hr (by omega) (by rfl) (pa_cons (pv 0) (pa_cons pe_int pa_nil))) pe_int (nomark _)) pa_nil))))
      (pss_one (ps_ret (pe_lc (own := [("_law_at", 12), ("_law_colour", 15), ("_law_begin", 13), ("_law_end", 16)]) rfl nd (ki_list (K := K) (pv 3)) (blkOk_by (N := n__law_turns) (sc := defScope s__law_turns) (by decide +kernel)) (fun _ _ _ _ _ => (kg_tup (K := K) (n := 4) (pgs_cons (pg_name (i := 12) nd rfl (.inl rfl)) (pgs_cons (pg_name (i := 15) nd rfl (.inl rfl)) (pgs_cons (pg_name (i := 13) nd rfl (.inl rfl)) (pgs_cons (pg_name (i := 16) nd rfl (.inl rfl)) pgs_nil)))))) (fun _ _ _ _ _ => pts_nil) (fun _ _ _ _ _ => (pe_tup (pa_cons (pe_op op_add (pv 12) (pv 14)) (pa_cons (pv 15) (pa_cons (pe_op op_add (pv 13) (pv 14)) (pa_cons (pe_op op_add (pv 16) (pv 14)) pa_nil)))))))))))), ?_⟩
    have l12 := pb.le
    have l1 := pb.ne
    refine ⟨Nat.zero_le _, fun R nR => ?_⟩
    have M : Acc K H b R [(v, palD cs ws)] n [] [] (upd H R (.lst [])) := Acc.start B (Same.refl _) nR (fun q hq => by rw [List.mem_singleton.mp hq]; exact dp)
    generalize upd H R (.lst []) = H1 at M ⊢
    refine ⟨_, rfl, b, 60, _, rfl, (by decide), (by decide), M.st, by omega, fun H2 r2 r20 r21 B2 s2 => ?_⟩
    have M := M.drawn B2 s2
    refine ⟨(by show 3 ≤ sizeLine; decide), fun a1 na1 => ?_⟩
    refine ⟨_, rfl, b, 3, _, rfl, (by decide), (by decide), (M.put na1).st, by omega, fun H3 r3 r30 r31 B3 s3 => ?_⟩
    have h1 := sm1_at s3 (M.st.ne na1) upd_same
    have M := (M.put na1).drawn B3 s3
    obtain ⟨f0, ef, f00, f01⟩ : ∃ x : Int, atI [V.int 0, .int 1, .int r2] r3 = some (.int x) ∧ 0 ≤ x ∧ x ≤ 59 := by
      have h : r3 = 0 ∨ r3 = 1 ∨ r3 = 2 := by omega
      rcases h with rfl | rfl | rfl
      · exact ⟨_, rfl, by omega, by omega⟩
      · exact ⟨_, rfl, by omega, by omega⟩
      · exact ⟨_, rfl, by omega, by omega⟩
    refine ⟨a1, _, r3, _, rfl, rfl, SqL.of h1, ef, (by show 3 ≤ sizeLine; decide), fun t0 nt0 => ?_⟩
    have M := M.put (o := .tup [.ref R, .int f0, .non]) nt0
    refine ⟨t0, _, rfl, .inl (.inl upd_same), rfl, _, _, rfl, _, _, rfl, _, _, rfl, rfl, ?_⟩
    generalize upd H3 t0 (.tup [.ref R, .int f0, .non]) = H4 at M ⊢
    have M := M.mono (show _ ≤ n + 10 by omega)
    clear h1 ef s3 B3 na1 s2 B2 nt0
    refine ⟨_, rfl, _, rfl, (by omega), (by omega), ?_⟩
    have nmI : ∀ {z : Str}, InC cs z → Nm z := fun h => by obtain ⟨c, hc, rfl⟩ := h; exact pb.wd c hc
    refine for_it walk_range (fun i σ H5 => ∃ v6 v7 v8 v9 v10 v11 v12 v13 free l us ts, σ = [some (.ref b), some v, some (.int (m : Nat)), some (.ref R), some (.int free), some (namV l), v6, v7, v8, v9, v10, v11, v12, v13, none, none, none, none] ∧ Acc K H b R [(v, palD cs ws)] (n + 10 + 12 * i) us (ts.map trD) H5 ∧ ts.length = i ∧ Ch cs ws f0 none ts ∧ free = lastE f0 ts ∧ l = lastN none ts ∧ (∀ z, l = some z → InC cs z))
      ⟨_, _, _, _, _, _, _, _, f0, none, [], [], rfl, M, rfl, trivial, rfl, rfl, fun z e => by cases e⟩ (fun _ _ _ _ _ => trivial) ?_ ?_
    · rintro i x σ H5x H5 hi ⟨v6, v7, v8, v9, v10, v11, v12, v13, free, l, us, ts, rfl, M, lts, cts, efr, el, hlI⟩ ⟨rfl, rfl⟩
      have hi2 : i < m := by omega
      have lus : us.length = ts.length := dpAll_map_len M.dR
      have dpP := M.fr _ (List.mem_singleton.mpr rfl)
      obtain ⟨p, ca, w2, cxs, ys, ev, hp, hca, hx, hw, hy⟩ := pal_dp dpP
      have ev : v = .ref p := ev
      have lx : cxs.length = cs.length := dpAll_map_len hx
      -- the colours that may follow
      refine ⟨_, rfl, p, _, 0, .ref ca, ev, rfl, sqt_off hp, rfl, ca, rfl, ⟨_, sqt_off hca⟩, fun D nD => ?_⟩
      refine lc_it (walk_tup (xs := cxs)) (PvD K H5 [R, b] D fun i => ((cs.take i).filter (fun c => (washF ws l c.1).isSome)).map colD) (pd_start nD rfl) (fun i H2 _ h => same_tup h.sm (sqt_off hca)) ?_ ?_
      · rintro j y Hax Ha hj pv ⟨rfl, gx⟩
        obtain ⟨c, gc, dpc⟩ := dpAll_map_at hx gx
        have hcm := List.mem_of_getElem? gc
        obtain ⟨r, rfl, hr2⟩ := col_dp dpc
        refine ⟨rfl, _, rfl, _, rfl, _, rfl, r, _, 0, _, rfl, rfl, same_tup (off_sub.trans pv.sm) hr2, rfl, v, cs, ws, l, c.1, rfl, dp_same (off_sub.trans pv.sm) dpP, pb.ok, (fun z e => nmI (hlI z e)), pb.wd c hcm, fun Hc sC => ?_⟩
        cases ew : washF ws l c.1 with
        | none => exact ⟨rfl, _, rfl, iteF (pd_skip pv sC (filt_no colD gc (by rw [ew]; rfl)))⟩
        | some h => exact ⟨rfl, _, rfl, iteT ⟨_, rfl, pd_put nD pv sC (dp_same ((pv.keep nD).trans (sm_of sC)) dpc) (filt_yes colD gc (by rw [ew]; rfl)) (filt_len colD _ (by omega))⟩⟩
      intro H6 pv
      obtain ⟨s6, us2, fD, daS⟩ := pd_end M.live nD pv (filt_all colD _ (by omega))
      have M := M.same s6
      have lus2 : us2.length = (cs.filter (fun c => (washF ws l c.1).isSome)).length := dpAll_map_len daS
      have lf : 0 < us2.length := by
        obtain ⟨c, hc, h⟩ := some_ne pb hlI
        rw [lus2]
        exact List.length_pos_of_mem (List.mem_filter.mpr ⟨hc, h⟩)
      have lf2 : us2.length ≤ 12 := by rw [lus2]; exact Nat.le_trans (List.length_filter_le ..) l12
      refine ⟨_, rfl, _, rfl, _, rfl, _, _, rfl, .inl ⟨_, SqL.of (at_off fD), rfl⟩, b, _, _, rfl, (by omega), (by omega), M.st, by omega, fun H7 rc c0 c1 B7 s7 => ?_⟩
      have sr7 : Sm [R, b] H6 H7 := sm_one (by simp) s7
      have M := M.drawn B7 s7
      have fD := sr7 _ _ fD
      have daS := dpAll_same sr7 daS
      obtain ⟨rn, rfl⟩ : ∃ rn : Nat, rc = (rn : Int) := ⟨rc.toNat, by omega⟩
      have hrn : rn < us2.length := by omega
      obtain ⟨c, gc, dpc⟩ := dpAll_map_at daS (List.getElem?_eq_getElem hrn)
      obtain ⟨hcm, hcw⟩ := List.mem_filter.mp (List.mem_of_getElem? gc)
      obtain ⟨wh, ew⟩ := Option.isSome_iff_exists.mp hcw
      obtain ⟨w0, w99⟩ := washF_pos pb.wa ew
      obtain ⟨ch1, ch2, ch3, ch4⟩ := pb.ch c hcm
      obtain ⟨r, er, hr2⟩ := col_dp dpc
      refine ⟨D, _, _, _, rfl, rfl, SqL.of (at_off fD), atI_nat (by rw [List.getElem?_eq_getElem hrn, er]), r, _, rfl, sqt_off hr2, rfl, _, _, rfl, _, _, rfl, _, _, rfl, _, _, rfl, rfl, ?_⟩
      -- filled
      refine ⟨_, rfl, _, rfl, _, rfl, _, rfl, v, cs, ws, l, c.1, rfl, dp_off (M.fr _ (List.mem_singleton.mpr rfl)), pb.ok, (fun z e => nmI (hlI z e)), pb.wd c hcm, fun H8 s8 => ?_⟩
      have M := M.same s8
      rw [ew]
      refine ⟨_, _, rfl, rfl, ?_⟩
      refine ⟨_, rfl, b, 4, _, rfl, (by decide), (by decide), M.st, by omega, fun H9 q9 q90 q91 B9 s9 => ?_⟩
      have M := M.drawn B9 s9
      refine ⟨_, rfl, b, 40, _, rfl, (by decide), (by decide), M.st, by omega, fun H10 q10 q100 q101 B10 s10 => ?_⟩
      have M := M.drawn B10 s10
      refine ⟨(by show 4 ≤ sizeLine; decide), fun a1 na1 => ?_⟩
      refine ⟨_, rfl, b, 4, _, rfl, (by decide), (by decide), (M.put na1).st, by omega, fun H11 g g0 g1 B11 s11 => ?_⟩
      have h1 := sm1_at s11 (M.st.ne na1) upd_same
      have M := (M.put na1).drawn B11 s11
      obtain ⟨gp, eg, gp0, gp1⟩ : ∃ x : Int, atI [V.int 0, .int 1, .int q9, .int q10] g = some (.int x) ∧ 0 ≤ x ∧ x ≤ 39 := by
        have h : g = 0 ∨ g = 1 ∨ g = 2 ∨ g = 3 := by omega
        rcases h with rfl | rfl | rfl | rfl
        · exact ⟨_, rfl, by omega, by omega⟩
        · exact ⟨_, rfl, by omega, by omega⟩
        · exact ⟨_, rfl, by omega, by omega⟩
        · exact ⟨_, rfl, by omega, by omega⟩
      refine ⟨a1, _, g, _, rfl, rfl, SqL.of h1, eg, _, _, rfl, rfl, ?_⟩
      clear h1 eg s11 B11 na1
      -- begun
      refine ⟨_, rfl, _, rfl, _, _, rfl, rfl, _, rfl, _, _, rfl, rfl, ?_⟩
      refine ⟨_, rfl, b, 30, _, rfl, (by decide), (by decide), M.st, by omega, fun H12 q12 q120 q121 B12 s12 => ?_⟩
      have M := M.drawn B12 s12
      refine ⟨(by show 4 ≤ sizeLine; decide), fun a1 na1 => ?_⟩
      refine ⟨_, rfl, b, 4, _, rfl, (by decide), (by decide), (M.put na1).st, by omega, fun H13 g g0 g1 B13 s13 => ?_⟩
      have h1 := sm1_at s13 (M.st.ne na1) upd_same
      have M := (M.put na1).drawn B13 s13
      obtain ⟨gq, eg, gq0, gq1⟩ : ∃ x : Int, atI [V.int 0, .int 0, .int 1, .int q12] g = some (.int x) ∧ 0 ≤ x ∧ x ≤ 29 := by
        have h : g = 0 ∨ g = 1 ∨ g = 2 ∨ g = 3 := by omega
        rcases h with rfl | rfl | rfl | rfl
        · exact ⟨_, rfl, by omega, by omega⟩
        · exact ⟨_, rfl, by omega, by omega⟩
        · exact ⟨_, rfl, by omega, by omega⟩
        · exact ⟨_, rfl, by omega, by omega⟩
      refine ⟨a1, _, g, _, rfl, rfl, SqL.of h1, eg, _, _, rfl, rfl, ?_⟩
      clear h1 eg s13 B13 na1
      -- ended
      refine ⟨_, rfl, _, rfl, b, 4, _, rfl, (by decide), (by decide), M.st, by omega, fun H14 q14 q140 q141 B14 s14 => ⟨_, _, rfl, rfl, ?_⟩⟩
      have M := M.drawn B14 s14
      refine ⟨_, rfl, b, 90, _, rfl, (by decide), (by decide), M.st, by omega, fun H15 q15 q150 q151 B15 s15 => ⟨_, _, rfl, rfl, ?_⟩⟩
      have M := M.drawn B15 s15
      refine ⟨(by show 3 ≤ sizeLine; decide), fun a1 na1 => ?_⟩
      refine ⟨_, rfl, b, 3, _, rfl, (by decide), (by decide), (M.put na1).st, by omega, fun H16 g g0 g1 B16 s16 => ?_⟩
      have h1 := sm1_at s16 (M.st.ne na1) upd_same
      have M := (M.put na1).drawn B16 s16
      obtain ⟨gr, eg, gr0, gr1⟩ : ∃ x : Int, atI [V.int 1, .int (1 + q14), .int (1 + q15)] g = some (.int x) ∧ 1 ≤ x ∧ x ≤ 90 := by
        have h : g = 0 ∨ g = 1 ∨ g = 2 := by omega
        rcases h with rfl | rfl | rfl
        · exact ⟨_, rfl, by omega, by omega⟩
        · exact ⟨_, rfl, by omega, by omega⟩
        · exact ⟨_, rfl, by omega, by omega⟩
      refine ⟨a1, _, g, _, rfl, rfl, SqL.of h1, eg, _, _, rfl, rfl, ?_⟩
      clear h1 eg s16 B16 na1
      dsimp only
      generalize eat : free + wh + gp = at_
      generalize ebg : at_ + c.2.1 + c.2.2.1 + gq = bg
      generalize een : bg + gr = en
      refine ⟨_, rfl, (by show 2 ≤ sizeLine; decide), fun t2 nt2 => ?_⟩
      have M := M.put (o := .tup [.int en, .str c.1]) nt2
      refine ⟨t2, _, rfl, .inl (.inl upd_same), rfl, _, _, rfl, _, _, rfl, rfl, ?_⟩
      generalize upd H16 t2 (.tup [.int en, .str c.1]) = H17 at M ⊢
      -- append
      refine ⟨_, rfl, .inl ⟨rfl, _, SqL.of M.hR⟩, _, rfl, _, rfl, _, rfl, _, rfl, (by show 4 ≤ sizeLine; decide), fun t3 nt3 => ?_⟩
      have hv : Dp K (off (upd H17 t3 (.tup [.int at_, .str c.1, .int bg, .int en])) [R, b]) (.ref t3) (trD (at_, c.1, bg, en)) := .tup (.inl (.inl (M.new nt3))) (.cons (.int _) (.cons (.str _) (.cons (.int _) (.cons (.int _) .nil))))
      have M := M.put (o := .tup [.int at_, .str c.1, .int bg, .int en]) nt3
      generalize upd H17 t3 (.tup [.int at_, .str c.1, .int bg, .int en]) = H18 at M hv ⊢
      refine ⟨R, _, _, rfl, rfl, M.hR, (by rw [lus, lts, sizeLine_eq]; omega), ?_⟩
      have M := M.app hv
      have et : ts.map trD ++ [trD (at_, c.1, bg, en)] = (ts ++ [((at_, c.1, bg, en) : Trn)]).map trD := by rw [List.map_append]; rfl
      rw [et] at M
      refine ⟨_, _, _, _, _, _, _, _, en, some c.1, _, ts ++ [((at_, c.1, bg, en) : Trn)], rfl, M.mono (by omega), by rw [List.length_append, lts]; rfl, ch_app cts ⟨c, wh, colF_self pb.nd hcm, (by rw [← el]; exact ew), (by rw [← efr]; show free + wh ≤ at_; omega), (by show at_ + c.2.1 + c.2.2.1 ≤ bg; omega), (by show bg < en; omega), (by rw [← efr]; show en ≤ free + 400; omega)⟩, (by rw [lastE_app]), (by rw [lastN_app]), fun z e => by cases e; exact ⟨c, hcm, rfl⟩⟩
    · rintro σ H5 ⟨v6, v7, v8, v9, v10, v11, v12, v13, free, l, us, ts, rfl, M, lts, cts, efr, el, hlI⟩
      rw [Int.toNat_natCast] at M lts
      have lus : us.length = ts.length := dpAll_map_len M.dR
      have hfr := ch_len cts
      have e6 := e106
      refine ⟨_, _, rfl, rfl, ⟨by decide, by decide, by decide⟩, _, rfl, _, _, rfl, rfl, ?_⟩
      refine ⟨_, rfl, b, 8, _, rfl, (by decide), (by decide), M.st, by omega, fun H6 r6 r60 r61 B6 s6 => ⟨rfl, .inr ⟨_, rfl, ?_⟩⟩⟩
      have M := M.drawn B6 s6
      refine ⟨_, _, rfl, rfl, .inr (b01 _), ?_⟩
      dsimp only
      generalize hby : (10 ^ Int.toNat 6 - free) * (if decide (V.int r6 = V.int 0) = true then 1 else 0) = by_
      have hb1 : by_ = 0 ∨ by_ = 1000000 - free := by
        rw [← hby, e6]
        split
        · rw [Int.mul_one]; exact .inr rfl
        · rw [Int.mul_zero]; exact .inl rfl
      have hb0 : 0 ≤ by_ := by omega
      refine ⟨_, rfl, R, rfl, ⟨_, SqL.of M.hR⟩, fun D nD => ?_⟩
      refine lc_it (walk_list (xs := us)) (PvD K H6 [R, b] D fun i => ((ts.map (shf by_)).take i).map trD) (pd_start nD rfl) (fun i H2 _ h => SqL.of (h.sm _ _ M.hR)) ?_ ?_
      · rintro i y Hax Ha hi pv ⟨rfl, gx⟩
        obtain ⟨t, gt, dpt⟩ := dpAll_map_at M.dR gx
        obtain ⟨r, rfl, hr2⟩ := tr_dp dpt
        refine ⟨r, _, rfl, same_tup (off_sub.trans pv.sm) hr2, rfl, _, _, rfl, _, _, rfl, _, _, rfl, _, _, rfl, rfl, rfl, tYes_at ?_⟩
        rw [if_pos rfl]
        refine ⟨_, rfl, _, rfl, _, _, rfl, rfl, _, rfl, _, rfl, _, rfl, _, _, rfl, rfl, _, rfl, _, rfl, _, _, rfl, rfl, (by show 4 ≤ sizeLine; decide), fun t1 n1 => ?_⟩
        exact pd_put nD pv (same_upd n1) (.tup (.inl (.inl (off_new (pv.live M.live) n1))) (.cons (.int _) (.cons (.str _) (.cons (.int _) (.cons (.int _) .nil))))) (take_mapD trD (l := ts.map (shf by_)) (x := shf by_ t) (by rw [List.getElem?_map, gt]; rfl)) (take_lenD (by rw [List.length_map]; omega))
      · intro H7 pv
        obtain ⟨s7, us2, fD, da⟩ := pd_end M.live nD pv (take_allD (by rw [List.length_map]; omega))
        have M2 := M.same s7
        exact q _ D us2 (ts.map (shf by_)) (f0 + by_) (M2.st.mono (by omega)) M2.sm (sm_free M.sm M.st.bx nD) (at_off fD) (dpAll_same (off_mono (by simp)) da) (by rw [List.length_map]; exact lts) (by omega) (ch_shf by_ cts) (by rw [lastE_shf, ← efr]; omega)

end
end Pot

namespace Pot
open PySem PySem.Spec PyProof.Rows L2
section
variable {P : Program} {w : World} {K : PySem.W.Frag} {mg : Str → Option Value} {base : Heap}
theorem kit_bs {H : Hp} {x : V} {d : PyData} (h : Dp K H x d) : PySem.W.kitAny K (.type (tyD d)) [.type "bool", .type "str"] = some (isBoolD d || isStrD d) := by
  cases h <;> rfl
abbrev s__law_same : Stmt := topS 39
def n__law_same : List Str := ["_law_found", "_law_due", "_law_one", "_law_other"]
theorem sc__law_same : FnScope n__law_same ["_law_found", "_law_due"] (defScope s__law_same) := ⟨rfl, rfl, rfl, by decide +kernel, rfl, by decide +kernel, by decide +kernel⟩
/-! ### _law_same: two of one and the same make are told to be so -/
def spSame (K : PySem.W.Frag) (k : Nat) : Sp := fun vs H Q _ => ∃ (x y : V) (d : PyData) (m : Nat), vs = [x, y] ∧ Dp K H x d ∧ Dp K H y d ∧ d.depth < k ∧ widAll.wid d ≤ 1000 ∧ gd m d ∧ ∀ H', Same H H' → Q (.bl true) H'
theorem ok_same {f : Addr} {fd : FuncData} (F : Fun K "_law_same" "_law_same" s__law_same f fd) (T : Txt mg) (bF : Binds K fd ["_law_found", "_law_due"] []) (gF : mg "_law_same" = some (.ref f)) :
    ∀ k : Nat, FnOk P w K mg base CX0 (k + 1) f fd ["_law_found", "_law_due"] (spSame K k) := by
  intro k
  induction k with
  | zero =>
    refine F.ok sc__law_same (fun vs H Q E h => ?_) (fun cdv A outer s H vs Q E hr h => ?_)
    · obtain ⟨x, y, d, m, rfl, _⟩ := h
      rfl
    · obtain ⟨x, y, d, m, rfl, hx, hy, hd, hw, hg, q⟩ := h
      exact absurd hd (Nat.not_lt_zero _)
  | succ k G =>
    refine F.ok sc__law_same (fun vs H Q E h => ?_) (fun cdv A outer s H vs Q E hr h => ?_)
    · obtain ⟨x, y, d, m, rfl, _⟩ := h
      rfl
    · obtain ⟨x, y, d, m, rfl, hx, hy, hd, hw, hg, q⟩ := h
      have nd := sc__law_same.nd
      have hu64 := hr.units
      refine ⟨_, (pss_cons (ps_if (pt_val (pe_callB (kc_isiT (K := K)) (by rfl) T.isinstance (by decide +kernel) (pa_cons (pv 1) (pa_cons (pe_tup (pa_cons (pe_bltn (v := .ty "list") (by rfl) T.list (by decide +kernel) rfl) (pa_cons (pe_bltn (v := .ty "tuple") (by rfl) T.tuple (by decide +kernel) rfl) pa_nil))) pa_nil))))
          (pss_cons (ps_if ((pw_or (pt_cmpR op_ne (pe_callB (kc_isi (K := K)) (by rfl) T.isinstance (by decide +kernel) (pa_cons (pv 0) (pa_cons (pe_bltn (v := .ty "list") (by rfl) T.list (by decide +kernel) rfl) pa_nil))) (pe_callB (kc_isi (K := K)) (by rfl) T.isinstance (by decide +kernel) (pa_cons (pv 1) (pa_cons (pe_bltn (v := .ty "list") (by rfl) T.list (by decide +kernel) rfl) pa_nil))) (nomark _)) (pw_or1 (pt_cmpR op_ne (pe_callB (kc_isi (K := K)) (by rfl) T.isinstance (by decide +kernel) (pa_cons (pv 0) (pa_cons (pe_bltn (v := .ty "tuple") (by rfl) T.tuple (by decide +kernel) rfl) pa_nil))) (pe_callB (kc_isi (K := K)) (by rfl) T.isinstance (by decide +kernel) (pa_cons (pv 1) (pa_cons (pe_bltn (v := .ty "tuple") (by rfl) T.tuple (by decide +kernel) rfl) pa_nil))) (nomark _))))).pt
              pss_never
              pss_nil)
          (pss_one (ps_ret (pe_and (pe_cmpR op_eq (pe_callB (kc_len (K := K)) (by rfl) T.len PySem.boot_len (pa_cons (pv 0) pa_nil)) (pe_callB (kc_len (K := K)) (by rfl) T.len PySem.boot_len (pa_cons (pv 1) pa_nil)) (nomark _)) (pe_one (pe_callB (kc_all (K := K)) (by rfl) T.all (by decide +kernel) (pa_cons (pe_lc (own := [("_law_one", 2), ("_law_other", 3)]) rfl nd (ki_zip (K := K) (by rfl) T.zip (pa_cons (pv 0) (pa_cons (pv 1) pa_nil))) (blkOk_by (N := n__law_same) (sc := defScope s__law_same) (by decide +kernel)) (fun _ _ _ _ _ => (kg_tup (K := K) (n := 2) (pgs_cons (pg_name (i := 2) nd rfl (.inl rfl)) (pgs_cons (pg_name (i := 3) nd rfl (.inl rfl)) pgs_nil)))) (fun _ _ _ _ _ => pts_nil) (fun _ _ _ _ _ => (pe_call G hr (by rfl) gF F.kp bF .nil pass0 (pa_cons (pv 2) (pa_cons (pv 3) pa_nil))))) pa_nil)))))))
          pss_nil)
      (pss_cons (ps_if ((pw_or (pt_cmpR op_isN (pv 1) pe_non (nomark _)) (pw_or1 (pt_val (pe_callB (kc_isiT (K := K)) (by rfl) T.isinstance (by decide +kernel) (pa_cons (pv 1) (pa_cons (pe_tup (pa_cons (pe_bltn (v := .ty "bool") (by rfl) T.bool (by decide +kernel) rfl) (pa_cons (pe_bltn (v := .ty "str") (by rfl) T.str (by decide +kernel) rfl) pa_nil))) pa_nil))))))).pt
          (pss_one (ps_ret (pe_and (pe_cmpR (ko_eq (K := K) hu64) (pv 0) (pv 1) (nomark _)) (pe_and (pe_cmpR op_eq (pe_callB (kc_isi (K := K)) (by rfl) T.isinstance (by decide +kernel) (pa_cons (pv 0) (pa_cons (pe_bltn (v := .ty "bool") (by rfl) T.bool (by decide +kernel) rfl) pa_nil))) (pe_callB (kc_isi (K := K)) (by rfl) T.isinstance (by decide +kernel) (pa_cons (pv 1) (pa_cons (pe_bltn (v := .ty "bool") (by rfl) T.bool (by decide +kernel) rfl) pa_nil))) (nomark _)) (pe_one (pe_cmpR op_eq (pe_cmpR op_isN (pv 0) pe_non (nomark _)) (pe_cmpR op_isN (pv 1) pe_non (nomark _)) (nomark _)))))))
          pss_nil)
      (pss_one (ps_ret (pe_and (pe_callB (kc_isi (K := K)) (by rfl) T.isinstance (by decide +kernel) (pa_cons (pv 0) (pa_cons (pe_bltn (v := .ty "int") (by rfl) T.int (by decide +kernel) rfl) pa_nil))) (pe_and (pe_not (pe_callB (kc_isi (K := K)) (by rfl) T.isinstance (by decide +kernel) (pa_cons (pv 0) (pa_cons (pe_bltn (v := .ty "bool") (by rfl) T.bool (by decide +kernel) rfl) pa_nil)))) (pe_one (pe_cmpR (ko_eq (K := K) hu64) (pv 0) (pv 1) (nomark _))))))))), ?_⟩
      refine ⟨_, rfl, (by show 2 ≤ sizeLine; decide), fun t ht => ?_⟩
      have sm1 : Same H (upd H t (.tup [.ty "list", .ty "tuple"])) := same_upd ht
      have hx1 := dp_same sm1 hx
      have hy1 := dp_same sm1 hy
      have ht1 : (upd H t (.tup [.ty "list", .ty "tuple"])) t = some (.tup [.ty "list", .ty "tuple"]) := upd_same
      generalize upd H t (.tup [.ty "list", .ty "tuple"]) = H1 at sm1 hx1 hy1 ht1 ⊢
      refine ⟨_, t, _, _, _, _, rfl, ht1, .cons (.ty _) (.cons (.ty _) .nil), tyx_dp hy1, kit_lt hy1, _, rfl, ?_⟩
      have hx2 := hx1
      have hy2 := hy1
      cases hy1 with
      | non =>
        cases hx1
        refine iteF ?_
        refine ⟨_, rfl, rfl, _, rfl, iteT ?_⟩
        refine ⟨_, rfl, _, rfl, _, _, hx2, hy2, rfl, rfl, _, rfl, ?_⟩
        refine iteT ⟨_, rfl, _, .ty _, _, _, isBoolD _, rfl, .ty _, tyx_dp hx2, kit_bool hx2, _, rfl, _, .ty _, _, _, isBoolD _, rfl, .ty _, tyx_dp hy2, kit_bool hy2, rfl, _, rfl, iteT ⟨_, rfl, rfl, _, rfl, rfl, rfl, ?_⟩⟩
        rw [decide_eq_true rfl]
        exact q _ sm1
      | str z =>
        cases hx1
        have hsh := gd_shaped hg (by show 0 ≤ 64; decide)
        refine iteF ?_
        refine ⟨_, rfl, rfl, _, rfl, iteF ⟨_, rfl, (by show 2 ≤ sizeLine; decide), fun t2 n2 => ?_⟩⟩
        have sm2 : Same H1 (upd H1 t2 (.tup [.ty "bool", .ty "str"])) := same_upd n2
        have hx2 := dp_same sm2 hx2
        have hy2 := dp_same sm2 hy2
        have ht2 : (upd H1 t2 (.tup [.ty "bool", .ty "str"])) t2 = some (.tup [.ty "bool", .ty "str"]) := upd_same
        have sm1 := sm1.trans sm2
        generalize upd H1 t2 (.tup [.ty "bool", .ty "str"]) = H2 at sm1 hx2 hy2 ht2 ⊢
        refine ⟨_, t2, _, _, _, _, rfl, ht2, .cons (.ty _) (.cons (.ty _) .nil), tyx_dp hy2, kit_bs hy2, _, rfl, ?_⟩
        refine iteT ⟨_, rfl, _, rfl, _, _, hx2, hy2, hsh, hsh, _, rfl, ?_⟩
        have e : PyData.eqv (.str z) (.str z) = true := by simp [PyData.eqv]
        rw [e]
        refine iteT ⟨_, rfl, _, .ty _, _, _, isBoolD _, rfl, .ty _, tyx_dp hx2, kit_bool hx2, _, rfl, _, .ty _, _, _, isBoolD _, rfl, .ty _, tyx_dp hy2, kit_bool hy2, rfl, _, rfl, iteT ⟨_, rfl, rfl, _, rfl, rfl, rfl, ?_⟩⟩
        rw [decide_eq_true rfl]
        exact q _ sm1
      | bl b =>
        cases hx1
        refine iteF ?_
        refine ⟨_, rfl, rfl, _, rfl, iteF ⟨_, rfl, (by show 2 ≤ sizeLine; decide), fun t2 n2 => ?_⟩⟩
        have sm2 : Same H1 (upd H1 t2 (.tup [.ty "bool", .ty "str"])) := same_upd n2
        have hx2 := dp_same sm2 hx2
        have hy2 := dp_same sm2 hy2
        have ht2 : (upd H1 t2 (.tup [.ty "bool", .ty "str"])) t2 = some (.tup [.ty "bool", .ty "str"]) := upd_same
        have sm1 := sm1.trans sm2
        generalize upd H1 t2 (.tup [.ty "bool", .ty "str"]) = H2 at sm1 hx2 hy2 ht2 ⊢
        refine ⟨_, t2, _, _, _, _, rfl, ht2, .cons (.ty _) (.cons (.ty _) .nil), tyx_dp hy2, kit_bs hy2, _, rfl, ?_⟩
        refine iteT ⟨_, rfl, _, rfl, _, _, hx2, hy2, rfl, rfl, _, rfl, ?_⟩
        have e : PyData.eqv (.bool b) (.bool b) = true := by cases b <;> rfl
        rw [e]
        refine iteT ⟨_, rfl, _, .ty _, _, _, isBoolD _, rfl, .ty _, tyx_dp hx2, kit_bool hx2, _, rfl, _, .ty _, _, _, isBoolD _, rfl, .ty _, tyx_dp hy2, kit_bool hy2, rfl, _, rfl, iteT ⟨_, rfl, rfl, _, rfl, rfl, rfl, ?_⟩⟩
        rw [decide_eq_true rfl]
        exact q _ sm1
      | int i =>
        cases hx1
        refine iteF ?_
        refine ⟨_, rfl, rfl, _, rfl, iteF ⟨_, rfl, (by show 2 ≤ sizeLine; decide), fun t2 n2 => ?_⟩⟩
        have sm2 : Same H1 (upd H1 t2 (.tup [.ty "bool", .ty "str"])) := same_upd n2
        have hx2 := dp_same sm2 hx2
        have hy2 := dp_same sm2 hy2
        have ht2 : (upd H1 t2 (.tup [.ty "bool", .ty "str"])) t2 = some (.tup [.ty "bool", .ty "str"]) := upd_same
        have sm1 := sm1.trans sm2
        generalize upd H1 t2 (.tup [.ty "bool", .ty "str"]) = H2 at sm1 hx2 hy2 ht2 ⊢
        refine ⟨_, t2, _, _, _, _, rfl, ht2, .cons (.ty _) (.cons (.ty _) .nil), tyx_dp hy2, kit_bs hy2, _, rfl, ?_⟩
        refine iteF ?_
        refine ⟨_, rfl, _, .ty _, _, _, isIntD _, rfl, .ty _, tyx_dp hx2, kit_int hx2, _, rfl, iteT ⟨_, rfl, _, .ty _, _, _, isBoolD _, rfl, .ty _, tyx_dp hx2, kit_bool hx2, _, rfl, _, rfl, iteT ?_⟩⟩
        refine ⟨_, rfl, _, rfl, _, _, hx2, hy2, rfl, rfl, ?_⟩
        have e : PyData.eqv (.int i) (.int i) = true := by show (i == i) = true; exact beq_self_eq_true i
        rw [e]
        exact q _ sm1
      | @lst b ys ds hl ha =>
        cases hx1 with
        | @lst a xs _ hl' ha' =>
        have e1 : xs.length = ys.length := (dpAll_len ha').trans (dpAll_len ha).symm
        refine iteT ?_
        refine ⟨_, rfl, _, .ty _, _, _, isListD _, rfl, .ty _, tyx_dp hx2, kit_list hx2, _, rfl, _, .ty _, _, _, isListD _, rfl, .ty _, tyx_dp hy2, kit_list hy2, rfl, _, rfl, iteF ?_⟩
        refine ⟨_, rfl, _, .ty _, _, _, isTupD _, rfl, .ty _, tyx_dp hx2, kit_tup hx2, _, rfl, _, .ty _, _, _, isTupD _, rfl, .ty _, tyx_dp hy2, kit_tup hy2, rfl, _, rfl, iteF ?_⟩
        refine ⟨_, rfl, _, xs.length, rfl, .inl ⟨xs, hl', rfl⟩, _, rfl, _, ys.length, rfl, .inl ⟨ys, hl, rfl⟩, rfl, _, rfl, ?_⟩
        rw [e1]
        refine ite2 (fun _ => ?_) (fun h => absurd (decide_eq_true rfl) h)
        refine ⟨_, rfl, _, rfl, a, b, xs, ys, rfl, .inl ⟨hl', hl, fun D hD => ?_⟩⟩
        refine lc_it (walk_zip (xs := xs) (ys := ys) (n := ys.length) (by rw [e1, Nat.min_self])) (fun i H2 => Same H1 H2 ∧ H1 D = none ∧ H2 D = some (.lst ((List.replicate i true).map V.bl))) ⟨same_upd hD, hD, upd_same⟩ (fun i H2 _ h => ⟨h.1.seq hl', h.1.seq hl⟩) ?_ ?_
        · skip
          rintro i v H2 H3 hi ⟨sm, nD, hL⟩ ⟨u, x1, y1, rfl, hu, rfl, gx, gy⟩
          have sm3 : Same H1 (upd H2 u (.tup [x1, y1])) := same_put sm (sm.free hu)
          obtain ⟨d1, g1, p1⟩ := dpAll_at ha' gx
          obtain ⟨d2, g2, p2⟩ := dpAll_at ha gy
          have ed : d1 = d2 := Option.some.inj (g1.symm.trans g2)
          subst ed
          refine ⟨u, _, rfl, .inl (.inl upd_same), rfl, _, _, rfl, _, _, rfl, rfl, rfl, tYes_at ?_⟩
          rw [if_pos rfl]
          refine ⟨_, rfl, _, rfl, x1, y1, d1, m, rfl, dp_same sm3 p1, dp_same sm3 p2, ?_, ?_, gdAll_iff.mp hg d1 (List.mem_of_getElem? g1), fun H4 s4 => ?_⟩
          · have h1 := depth_at g1
            have h2 : PyData.depthAll ds + 1 < k + 1 := hd
            omega
          · exact Nat.le_trans (wid_at g1) (Nat.le_trans (Nat.le_max_right _ _) hw)
          · have nuD : D ≠ u := ne_of_none hL hu
            refine ⟨_, s4 _ _ (by rw [upd_ne nuD]; exact hL), ?_, same_put (sm3.trans s4) nD, nD, ?_⟩
            · rw [List.length_map, List.length_replicate]
              exact Nat.lt_of_lt_of_le (dpAll_len ha ▸ hi) (Nat.le_trans (Nat.le_trans (Nat.le_max_left _ _) hw) (by decide))
            · rw [upd_same, List.replicate_succ', List.map_append]
              rfl
        · skip
          rintro H2 ⟨sm, nD, hL⟩
          refine ⟨D, _, rfl, SqL.of hL, ?_⟩
          have e : (List.replicate ys.length true).all id = true := by simp
          rw [e]
          exact q _ (sm1.trans sm)
      | @tup b ys ds hl ha =>
        cases hx1 with
        | @tup a xs _ hl' ha' =>
        have e1 : xs.length = ys.length := (dpAll_len ha').trans (dpAll_len ha).symm
        refine iteT ?_
        refine ⟨_, rfl, _, .ty _, _, _, isListD _, rfl, .ty _, tyx_dp hx2, kit_list hx2, _, rfl, _, .ty _, _, _, isListD _, rfl, .ty _, tyx_dp hy2, kit_list hy2, rfl, _, rfl, iteF ?_⟩
        refine ⟨_, rfl, _, .ty _, _, _, isTupD _, rfl, .ty _, tyx_dp hx2, kit_tup hx2, _, rfl, _, .ty _, _, _, isTupD _, rfl, .ty _, tyx_dp hy2, kit_tup hy2, rfl, _, rfl, iteF ?_⟩
        refine ⟨_, rfl, _, xs.length, rfl, .inr ⟨xs, hl', rfl⟩, _, rfl, _, ys.length, rfl, .inr ⟨ys, hl, rfl⟩, rfl, _, rfl, ?_⟩
        rw [e1]
        refine ite2 (fun _ => ?_) (fun h => absurd (decide_eq_true rfl) h)
        refine ⟨_, rfl, _, rfl, a, b, xs, ys, rfl, .inr ⟨hl', hl, fun D hD => ?_⟩⟩
        refine lc_it (walk_zipT (xs := xs) (ys := ys) (n := ys.length) (by rw [e1, Nat.min_self])) (fun i H2 => Same H1 H2 ∧ H1 D = none ∧ H2 D = some (.lst ((List.replicate i true).map V.bl))) ⟨same_upd hD, hD, upd_same⟩ (fun i H2 _ h => ⟨same_tup h.1 hl', same_tup h.1 hl⟩) ?_ ?_
        · skip
          rintro i v H2 H3 hi ⟨sm, nD, hL⟩ ⟨u, x1, y1, rfl, hu, rfl, gx, gy⟩
          have sm3 : Same H1 (upd H2 u (.tup [x1, y1])) := same_put sm (sm.free hu)
          obtain ⟨d1, g1, p1⟩ := dpAll_at ha' gx
          obtain ⟨d2, g2, p2⟩ := dpAll_at ha gy
          have ed : d1 = d2 := Option.some.inj (g1.symm.trans g2)
          subst ed
          refine ⟨u, _, rfl, .inl (.inl upd_same), rfl, _, _, rfl, _, _, rfl, rfl, rfl, tYes_at ?_⟩
          rw [if_pos rfl]
          refine ⟨_, rfl, _, rfl, x1, y1, d1, m, rfl, dp_same sm3 p1, dp_same sm3 p2, ?_, ?_, gdAll_iff.mp hg d1 (List.mem_of_getElem? g1), fun H4 s4 => ?_⟩
          · have h1 := depth_at g1
            have h2 : PyData.depthAll ds + 1 < k + 1 := hd
            omega
          · exact Nat.le_trans (wid_at g1) (Nat.le_trans (Nat.le_max_right _ _) hw)
          · have nuD : D ≠ u := ne_of_none hL hu
            refine ⟨_, s4 _ _ (by rw [upd_ne nuD]; exact hL), ?_, same_put (sm3.trans s4) nD, nD, ?_⟩
            · rw [List.length_map, List.length_replicate]
              exact Nat.lt_of_lt_of_le (dpAll_len ha ▸ hi) (Nat.le_trans (Nat.le_trans (Nat.le_max_left _ _) hw) (by decide))
            · rw [upd_same, List.replicate_succ', List.map_append]
              rfl
        · skip
          rintro H2 ⟨sm, nD, hL⟩
          refine ⟨D, _, rfl, SqL.of hL, ?_⟩
          have e : (List.replicate ys.length true).all id = true := by simp
          rw [e]
          exact q _ (sm1.trans sm)

end
end Pot

namespace Pot
open PySem PySem.Spec PyProof.Rows L2
section
variable {P : Program} {w : World} {K : PySem.W.Frag} {mg : Str → Option Value} {base : Heap}
/-! ### what a break does -/
def mx (i j : Int) : Int := if j > i then j else i
def plF (cs : List Col) (t : Trn) (s : Int) : Trn := match colF cs t.2.1 with
  | none => t
  | some c => (mx t.1 s, t.2.1, mx t.2.2.1 (mx t.1 s + c.2.1 + c.2.2.1), mx t.2.2.1 (mx t.1 s + c.2.1 + c.2.2.1) + t.2.2.2 - t.2.2.1)
def nxF (ws : List Wsh) (s : Int) (acc : List Trn) (t : Trn) : Int := match acc.getLast? with
  | none => s
  | some q => q.2.2.2 + (washF ws (some q.2.1) t.2.1).getD 0
def pbF (cs : List Col) (ws : List Wsh) (s : Int) (bs : List Trn) : List Trn := bs.foldl (fun acc t => acc ++ [plF cs t (nxF ws s acc t)]) []
theorem pbF_snoc (cs : List Col) (ws : List Wsh) (s : Int) (bs : List Trn) (t : Trn) : pbF cs ws s (bs ++ [t]) = pbF cs ws s bs ++ [plF cs t (nxF ws s (pbF cs ws s bs) t)] := by
  unfold pbF
  rw [List.foldl_append]; rfl
theorem plF_col (cs : List Col) (t : Trn) (s : Int) : (plF cs t s).2.1 = t.2.1 := by
  unfold plF
  split <;> rfl
theorem pbF_len (cs : List Col) (ws : List Wsh) (s : Int) : ∀ (n : Nat) (bs : List Trn), bs.length = n → (pbF cs ws s bs).length = n
  | 0, bs, h => by rw [List.length_eq_zero_iff.mp h]; rfl
  | n + 1, bs, h => by
    have hne : bs ≠ [] := fun z => by rw [z] at h; cases h
    rw [← List.dropLast_concat_getLast hne, pbF_snoc, List.length_append, pbF_len cs ws s n _ (by rw [List.length_dropLast, h]; rfl)]; rfl
def endF (h : Int) (ts : List Trn) : List Trn := ts.filter fun t => decide (t.2.2.2 ≤ h)
def fstF (h : Int) (ts : List Trn) : Nat := (ts.filter fun t => decide (t.1 ≤ h)).length
def lostF (h : Int) (ts : List Trn) : Option Int := if (endF h ts).length < fstF h ts then some ((fstF h ts : Nat) - 1) else none
def behF (cs : List Col) (ws : List Wsh) (h w : Int) (ts : List Trn) : List Trn := pbF cs ws (h + w) (ts.drop (fstF h ts))
def mvF : Nat → List Trn → List Trn → List Int
  | _, [], _ => []
  | _, _, [] => []
  | n, x :: xs, y :: ys => (if x = y then [] else [((n : Nat) : Int)]) ++ mvF (n + 1) xs ys
theorem mvF_snoc {x y : Trn} : ∀ {xs ys : List Trn} {n : Nat}, xs.length = ys.length → mvF n (xs ++ [x]) (ys ++ [y]) = mvF n xs ys ++ (if x = y then [] else [((n + xs.length : Nat) : Int)])
  | [], [], n, _ => by show (if x = y then [] else [((n : Nat) : Int)]) ++ [] = [] ++ _; rw [List.append_nil]; rfl
  | [], _ :: _, _, h => by cases h
  | _ :: _, [], _, h => by cases h
  | a :: xs, b :: ys, n, h => by
    show (if a = b then [] else [((n : Nat) : Int)]) ++ mvF (n + 1) (xs ++ [x]) (ys ++ [y]) = ((if a = b then [] else [((n : Nat) : Int)]) ++ mvF (n + 1) xs ys) ++ _
    rw [mvF_snoc (Nat.succ.inj h), List.append_assoc, List.length_cons, show n + 1 + xs.length = n + (xs.length + 1) by omega]
theorem mvF_len : ∀ (xs ys : List Trn) (n : Nat), (mvF n xs ys).length ≤ xs.length
  | [], _, _ => Nat.le_refl _
  | _ :: _, [], _ => Nat.zero_le _
  | x :: xs, y :: ys, n => by
    show ((if x = y then [] else [((n : Nat) : Int)]) ++ mvF (n + 1) xs ys).length ≤ xs.length + 1
    have := mvF_len xs ys (n + 1)
    rw [List.length_append]
    split <;> simp <;> omega
theorem eqv_tr (x y : Trn) : PyData.eqv (trD x) (trD y) = decide (x = y) := by
  obtain ⟨a, b, c, d⟩ := x
  obtain ⟨a2, b2, c2, d2⟩ := y
  by_cases h : (a, b, c, d) = (a2, b2, c2, d2)
  · cases h
    rw [decide_eq_true rfl]
    simp [trD, PyData.eqv, PyData.eqvAll]
  · rw [decide_eq_false h]
    simp only [trD, PyData.eqv, PyData.eqvAll]
    simp only [Prod.mk.injEq, not_and] at h
    cases e1 : (a == a2) <;> cases e2 : (b == b2) <;> cases e3 : (c == c2) <;> cases e4 : (d == d2) <;> simp_all
/-- none but washings that may be, one turn behind the other -/
def WOk (ws : List Wsh) : List Trn → Prop
  | [] => True
  | t :: ts => (∀ u, ts.head? = some u → ∃ h, washF ws (some t.2.1) u.2.1 = some h) ∧ WOk ws ts
theorem WOk.at {ws : List Wsh} {t u : Trn} : ∀ {ts : List Trn} {i : Nat}, WOk ws ts → ts[i]? = some t → ts[i + 1]? = some u → ∃ h, washF ws (some t.2.1) u.2.1 = some h
  | [], _, _, g, _ => by cases g
  | x :: ts, 0, w, g, g2 => by
    cases g
    exact w.1 u (by rw [List.head?_eq_getElem?]; exact g2)
  | x :: ts, i + 1, w, g, g2 => WOk.at (ts := ts) (i := i) w.2 g g2
theorem WOk.drop {ws : List Wsh} : ∀ {ts : List Trn} (n : Nat), WOk ws ts → WOk ws (ts.drop n)
  | _, 0, h => h
  | [], _ + 1, h => h
  | _ :: ts, n + 1, h => WOk.drop (ts := ts) n h.2
abbrev s_first_behind : Stmt := topS 17
def n_first_behind : List Str := ["turns", "hour", "turn"]
theorem sc_first_behind : FnScope n_first_behind ["turns", "hour"] (defScope s_first_behind) := ⟨rfl, rfl, rfl, by decide +kernel, rfl, by decide +kernel, by decide +kernel⟩
def spFb (K : PySem.W.Frag) : Sp := fun vs H Q _ => ∃ (a : Addr) (xs : List V) (ts : List Trn) (h : Int), vs = [.ref a, .int h] ∧ SqL K H a xs ∧ DpAll K H xs (ts.map trD) ∧ ts.length ≤ 31 ∧ ∀ H', Same H H' → Q (.int (fstF h ts : Nat)) H'
theorem ok_fb {f : Addr} {fd : FuncData} {k : Nat} (F : Fun K "first_behind" "first_behind" s_first_behind f fd) (T : Txt mg) : FnOk P w K mg base CX0 (k + 1) f fd ["turns", "hour"] (spFb K) := by
  refine F.ok sc_first_behind (fun vs H Q E h => ?_) (fun cdv A outer s H vs Q E hr h => ?_)
  · obtain ⟨a, xs, ts, h, rfl, _⟩ := h
    rfl
  · obtain ⟨a, xs, ts, h, rfl, hS, hx, hl, q⟩ := h
    have nd := sc_first_behind.nd
    /- 0 turns, 1 hour, 2 turn -/
    refine ⟨_, (pss_one (ps_ret (pe_callB (kc_len (K := K)) (by rfl) T.len PySem.boot_len (pa_cons (pe_lc (own := [("turn", 2)]) rfl nd (ki_list (K := K) (pv 0)) (blkOk_by (N := n_first_behind) (sc := defScope s_first_behind) (by decide +kernel)) (fun _ _ _ _ _ => (pg_name (i := 2) nd rfl (.inl rfl))) (fun _ _ _ _ _ => (pts_one (pt_cmpR op_le (pe_ix (kx_tup (K := K)) (pv 2) pe_int (fun _ _ => rfl)) (pv 1) (nomark _)))) (fun _ _ _ _ _ => (pv 2))) pa_nil)))), ?_⟩
    have lx : xs.length = ts.length := dpAll_map_len hx
    refine ⟨_, rfl, a, rfl, ⟨_, hS⟩, fun D nD => ?_⟩
    refine lc_it (walk_list (xs := xs)) (PvD K H [] D fun i => ((ts.take i).filter (fun t => decide (t.1 ≤ h))).map trD) (pd_start nD rfl) (fun i H2 _ p => p.sm.seq hS) ?_ ?_
    · rintro i y Ha Hb hi pv ⟨rfl, gx⟩
      obtain ⟨t, gt, dp⟩ := dpAll_map_at hx gx
      have dp0 := dp
      obtain ⟨r, rfl, hr2⟩ := tr_dp dp
      refine ⟨rfl, _, rfl, r, _, 0, _, rfl, rfl, same_tup pv.sm hr2, rfl, _, rfl, _, _, rfl, rfl, _, rfl, ite2 (fun hb => ?_) (fun hb => ?_)⟩
      · exact ⟨_, rfl, pd_put nD pv (Same.refl _) (dp_same (same_offD (S := []) nD pv.sm) (by rw [off_nil]; exact dp0)) (filt_yes trD gt hb) (filt_len trD _ (by omega))⟩
      · exact pd_skip pv (Same.refl _) (filt_no trD gt (Bool.not_eq_true _ |>.mp hb))
    · intro H2 pv
      obtain ⟨s2, us, fD, da⟩ := pd_end live_nil nD pv (filt_all trD _ (by omega))
      refine ⟨_, _, rfl, .inl ⟨_, SqL.of (at_off fD), rfl⟩, ?_⟩
      have e : us.length = fstF h ts := dpAll_map_len da
      rw [e]
      exact q _ s2
abbrev s_put_later : Stmt := topS 19
def n_put_later : List Str := ["palette", "turn", "since", "at", "colour", "begin", "end", "later", "worked"]
theorem sc_put_later : FnScope n_put_later ["palette", "turn", "since"] (defScope s_put_later) := ⟨rfl, rfl, rfl, by decide +kernel, rfl, by decide +kernel, by decide +kernel⟩
def spPl (K : PySem.W.Frag) : Sp := fun vs H Q _ => ∃ (v : V) (cs : List Col) (ws : List Wsh) (x : V) (t : Trn) (s : Int), vs = [v, x, .int s] ∧ Dp K H v (palD cs ws) ∧ Dp K H x (trD t) ∧ InC cs t.2.1 ∧ ∀ p, H p = none → Q (.ref p) (upd H p (.tup [.int (plF cs t s).1, .str (plF cs t s).2.1, .int (plF cs t s).2.2.1, .int (plF cs t s).2.2.2]))
theorem ok_pl {f : Addr} {fd : FuncData} {k : Nat} (F : Fun K "put_later" "put_later" s_put_later f fd) (T : Txt mg) (c_ready_at : ClD P w K mg base (k + 2) "ready_at" [] (spReady K)) : FnOk P w K mg base CX0 (k + 3) f fd ["palette", "turn", "since"] (spPl K) := by
  refine F.ok sc_put_later (fun vs H Q E h => ?_) (fun cdv A outer s H vs Q E hr h => ?_)
  · obtain ⟨v, cs, ws, x, t, s, rfl, _⟩ := h
    rfl
  · obtain ⟨v, cs, ws, x, t, s, rfl, dpP, dp, hin, q⟩ := h
    have nd := sc_put_later.nd
    /- 0 palette, 1 turn, 2 since, 3 at, 4 colour, 5 begin, 6 end, 7 later, 8 worked -/
    refine ⟨_, (pss_cons (ps_asg (pv 1) (kg_tup (K := K) (n := 4) (pgs_cons (pg_name (i := 3) nd rfl (.inl rfl)) (pgs_cons (pg_name (i := 4) nd rfl (.inl rfl)) (pgs_cons (pg_name (i := 5) nd rfl (.inl rfl)) (pgs_cons (pg_name (i := 6) nd rfl (.inl rfl)) pgs_nil))))))
      (pss_cons (ps_set (i := 7) nd rfl (.inl rfl) (pe_callB (call_max2 rfl) (by rfl) T.max (by decide +kernel) (pa_cons (pv 3) (pa_cons (pv 2) pa_nil))))
      (pss_cons (ps_set (i := 8) nd rfl (.inl rfl) (pe_callB (call_max2 rfl) (by rfl) T.max (by decide +kernel) (pa_cons (pv 5) (pa_cons (pe_cd c_ready_at hr (by omega) (by rfl) (pa_cons (pv 0) (pa_cons (pv 4) (pa_cons (pv 7) pa_nil)))) pa_nil))))
      (pss_one (ps_ret (pe_tup (pa_cons (pv 7) (pa_cons (pv 4) (pa_cons (pv 8) (pa_cons (pe_op op_sub (pe_op op_add (pv 8) (pv 6)) (pv 5)) pa_nil)))))))))), ?_⟩
    obtain ⟨p, rfl, hp⟩ := tr_dp dp
    obtain ⟨c, ec⟩ := colF_some hin
    refine ⟨_, rfl, p, _, rfl, hp, rfl, _, _, rfl, _, _, rfl, _, _, rfl, _, _, rfl, rfl, ?_⟩
    refine ⟨_, rfl, _, rfl, _, _, rfl, ?_⟩
    refine ⟨_, rfl, _, rfl, _, rfl, _, rfl, v, cs, ws, t.2.1, _, rfl, dpP, hin, fun c2 ec2 => ?_⟩
    rw [ec] at ec2
    cases ec2
    refine ⟨_, _, rfl, ?_⟩
    refine ⟨_, rfl, _, rfl, _, rfl, _, rfl, _, rfl, _, _, rfl, rfl, _, rfl, _, _, rfl, rfl, (by show 4 ≤ sizeLine; decide), fun l nl => ?_⟩
    have e : plF cs t s = (mx t.1 s, t.2.1, mx t.2.2.1 (mx t.1 s + c.2.1 + c.2.2.1), mx t.2.2.1 (mx t.1 s + c.2.1 + c.2.2.1) + t.2.2.2 - t.2.2.1) := by unfold plF; rw [ec]
    rw [e] at q
    exact q l nl

end
end Pot

namespace Pot
open PySem PySem.Spec PyProof.Rows L2
section
variable {P : Program} {w : World} {K : PySem.W.Frag} {mg : Str → Option Value} {base : Heap}
abbrev s_put_behind : Stmt := topS 18
def n_put_behind : List Str := ["palette", "turns", "since", "told", "turn"]
theorem sc_put_behind : FnScope n_put_behind ["palette", "turns", "since"] (defScope s_put_behind) := ⟨rfl, rfl, rfl, by decide +kernel, rfl, by decide +kernel, by decide +kernel⟩
def spPb (K : PySem.W.Frag) : Sp := fun vs H Q _ => ∃ (v : V) (cs : List Col) (ws : List Wsh) (a : Addr) (xs : List V) (ts : List Trn) (s : Int), vs = [v, .ref a, .int s] ∧ Dp K H v (palD cs ws) ∧ SqL K H a xs ∧ DpAll K H xs (ts.map trD) ∧ ts.length ≤ 31 ∧ (∀ t ∈ ts, InC cs t.2.1) ∧ WOk ws ts ∧
  ∀ H' R ys, Same H H' → H R = none → H' R = some (.lst ys) → DpAll K (off H' [R]) ys ((pbF cs ws s ts).map trD) → Q (.ref R) H'
set_option maxHeartbeats 1000000 in
theorem ok_pb {f : Addr} {fd : FuncData} {k : Nat} (F : Fun K "put_behind" "put_behind" s_put_behind f fd) (T : Txt mg) (c_wash_for : Cl P w K mg base (k + 2) "wash_for" (spWash K)) (c_put_later : Cl P w K mg base (k + 3) "put_later" (spPl K)) : FnOk P w K mg base CX0 (k + 4) f fd ["palette", "turns", "since"] (spPb K) := by
  refine F.ok sc_put_behind (fun vs H Q E h => ?_) (fun cdv A outer s H vs Q E hr h => ?_)
  · obtain ⟨v, cs, ws, a, xs, ts, s, rfl, _⟩ := h
    rfl
  · obtain ⟨v, cs, ws, a, xs, ts, s, rfl, dpP, hS, hx, hl, hin, wok, q⟩ := h
    have nd := sc_put_behind.nd
    /- 0 palette, 1 turns, 2 since, 3 told, 4 turn -/
    refine ⟨_, (pss_cons (ps_set (i := 3) nd rfl (.inl rfl) (pe_lst pa_nil))
      (pss_cons (ps_for PassesOwn.never rfl (ki_list (K := K) (pv 1)) (pg_name (i := 4) nd rfl (.inl rfl))
          (pss_cons (ps_if (kt_truth (K := K) (pv 3))
              (pss_one (ps_set (i := 2) nd rfl (.inl rfl) (pe_op op_add (pe_ix (kx_tup (K := K)) (pe_ix (kx_list (K := K)) (pv 3) (pe_un un_neg pe_int) (fun _ _ => rfl)) pe_int (fun _ _ => rfl)) (pe_cl c_wash_for hr (by omega) (by rfl) (pa_cons (pv 0) (pa_cons (pe_ix (kx_tup (K := K)) (pe_ix (kx_list (K := K)) (pv 3) (pe_un un_neg pe_int) (fun _ _ => rfl)) pe_int (fun _ _ => rfl)) (pa_cons (pe_ix (kx_tup (K := K)) (pv 4) pe_int (fun _ _ => rfl)) pa_nil)))))))
              pss_nil)
          (pss_one (ps_expr (pe_bm PySem.F.plainAttrs_list PySem.F.slot_list_append PySem.F.type_list_append mt_append (pv 3) (pa_cons (pe_cl c_put_later hr (by omega) (by rfl) (pa_cons (pv 0) (pa_cons (pv 4) (pa_cons (pv 2) pa_nil)))) pa_nil))))))
      (pss_one (ps_ret (pv 3))))), ?_⟩
    have lx : xs.length = ts.length := dpAll_map_len hx
    refine ⟨Nat.zero_le _, fun R nR => ?_⟩
    have p0 : PvD K H [] R (fun i => (pbF cs ws s (ts.take i)).map trD) 0 (upd H R (.lst [])) := pd_start nR rfl
    generalize upd H R (.lst []) = H1 at p0 ⊢
    refine ⟨_, rfl, a, rfl, ⟨_, p0.sm.seq hS⟩, ?_⟩
    refine for_it (walk_list (xs := xs)) (fun i σ Hx => ∃ s2 v4, σ = [some v, some (.ref a), some (.int s2), some (.ref R), v4] ∧ PvD K H [] R (fun i => (pbF cs ws s (ts.take i)).map trD) i Hx ∧ (i = 0 → s2 = s)) ⟨_, _, rfl, p0, fun _ => rfl⟩ (fun i σ Hx _ h => by obtain ⟨_, _, _, h, _⟩ := h; exact h.sm.seq hS) ?_ ?_
    · rintro i y σ Hax Ha hi ⟨s2, v4, rfl, pv, hs0⟩ ⟨rfl, gx⟩
      obtain ⟨t, gt, dp⟩ := dpAll_map_at hx gx
      have hit := hin t (List.mem_of_getElem? gt)
      obtain ⟨r, rfl, hr2⟩ := tr_dp dp
      have pv0 := pv
      obtain ⟨s1, us, hR, da⟩ := pv
      have dpP1 := dp_same s1 dpP
      have hr3 := same_tup s1 hr2
      have ltk : (ts.take i).length = i := by rw [List.length_take]; omega
      have lpb : (pbF cs ws s (ts.take i)).length = i := pbF_len cs ws s i _ ltk
      have lus : us.length = i := by rw [dpAll_map_len da]; exact lpb
      have etk : ts.take (i + 1) = ts.take i ++ [t] := by rw [List.take_add_one, gt]; rfl
      have lv1 : Live [R] Ha := live_nil.cons hR
      by_cases hu : us = []
      · have i0 : i = 0 := by rw [← lus, hu]; rfl
        have es := hs0 i0
        refine ⟨_, rfl, _, .inl ⟨us, SqL.of hR, rfl⟩, ?_⟩
        have etr : (!us.isEmpty) = false := by rw [hu]; rfl
        rw [etr]
        refine iteF ?_
        obtain ⟨sN, esN⟩ : ∃ sN, sN = s2 := ⟨_, rfl⟩
        rw [← esN]
        have hnx : nxF ws s (pbF cs ws s (ts.take i)) t = sN := by rw [esN, es, i0]; rfl
        refine ⟨_, rfl, .inl ⟨rfl, _, SqL.of hR⟩, _, rfl, _, rfl, _, rfl, v, cs, ws, _, t, _, rfl, dpP1, dp_same s1 dp, hit, fun p np => ?_⟩
        have hR2 := same_upd (o := .tup [.int (plF cs t sN).1, .str (plF cs t sN).2.1, .int (plF cs t sN).2.2.1, .int (plF cs t sN).2.2.2]) np _ _ hR
        refine ⟨R, us, _, rfl, rfl, hR2, (by rw [lus, sizeLine_eq]; omega), ?_⟩
        refine ⟨_, _, rfl, ?_, fun h => absurd h (by omega)⟩
        have dn : Dp K (off (upd Ha p (.tup [.int (plF cs t sN).1, .str (plF cs t sN).2.1, .int (plF cs t sN).2.2.1, .int (plF cs t sN).2.2.2])) [R]) (.ref p) (trD (plF cs t sN)) := .tup (.inl (.inl (off_new lv1 np))) (.cons (.int _) (.cons (.str _) (.cons (.int _) (.cons (.int _) .nil))))
        have sp := same_upd (o := .tup [.int (plF cs t sN).1, .str (plF cs t sN).2.1, .int (plF cs t sN).2.2.1, .int (plF cs t sN).2.2.2]) np
        have pe := pd_ext (j := i + 1) (ms := (pbF cs ws s (ts.take i)).map trD) (ns := [trD (plF cs t sN)]) (zs := [.ref p]) nR (s1.trans sp) hR2 (dpAll_same (sm_of sp) da) (.cons dn .nil)
        obtain ⟨e1, e2⟩ := pe
        refine ⟨e1, ?_⟩
        show ∃ us, _ ∧ DpAll K _ us ((pbF cs ws s (ts.take (i + 1))).map trD)
        rw [etk, pbF_snoc, hnx, List.map_append]
        exact e2
      · have lpos : 0 < us.length := List.length_pos_iff.mpr hu
        obtain ⟨j, rfl⟩ : ∃ j, i = j + 1 := ⟨i - 1, by omega⟩
        obtain ⟨tp, gtp⟩ : ∃ tp, ts[j]? = some tp := ⟨ts[j]'(by omega), List.getElem?_eq_getElem (by omega)⟩
        have etj : ts.take (j + 1) = ts.take j ++ [tp] := by rw [List.take_add_one, gtp]; rfl
        obtain ⟨wh, ew⟩ := wok.at gtp gt
        obtain ⟨qt, eq⟩ : ∃ qt, qt = plF cs tp (nxF ws s (pbF cs ws s (ts.take j)) tp) := ⟨_, rfl⟩
        have epb : pbF cs ws s (ts.take (j + 1)) = pbF cs ws s (ts.take j) ++ [qt] := by rw [etj, pbF_snoc, eq]
        have eqc : qt.2.1 = tp.2.1 := by rw [eq, plF_col]
        have lastd : ∃ us1 ul, us = us1 ++ [ul] ∧ Dp K (off Ha [R]) ul (trD qt) := by
          have hne : us ≠ [] := hu
          have e1 := List.dropLast_concat_getLast hne
          have gl : us[j]? = some (us.getLast hne) := by
            rw [List.getLast_eq_getElem, List.getElem?_eq_getElem (by omega)]
            congr 1
            simp only [lus]; rfl
          obtain ⟨tq, gtq, dpq⟩ := dpAll_map_at da gl
          rw [epb] at gtq
          have lpj : (pbF cs ws s (ts.take j)).length = j := pbF_len cs ws s j _ (by rw [List.length_take]; omega)
          have : (pbF cs ws s (ts.take j) ++ [qt])[j]? = some qt := by
            have := List.getElem?_concat_length (l := pbF cs ws s (ts.take j)) (a := qt)
            rw [lpj] at this
            exact this
          rw [this] at gtq
          cases gtq
          exact ⟨_, _, e1.symm, dpq⟩
        obtain ⟨us1, ul, eus, dul⟩ := lastd
        obtain ⟨pl, rfl, hpl⟩ := tr_dp dul
        have hpl := same_tup (off_sub (S := [R])) hpl
        refine ⟨_, rfl, _, .inl ⟨us, SqL.of hR, rfl⟩, ?_⟩
        have etr : (!us.isEmpty) = true := by
          cases hz : us with
          | nil => exact absurd hz hu
          | cons _ _ => rfl
        rw [etr]
        refine iteT ?_
        have al : atI us (-1) = some (.ref pl) := by rw [eus]; exact atI_last _ _
        refine ⟨_, rfl, 1, rfl, R, us, _, .ref pl, rfl, rfl, SqL.of hR, al, pl, _, 3, _, rfl, rfl, hpl, rfl, ?_⟩
        refine ⟨_, rfl, _, rfl, 1, rfl, R, us, _, .ref pl, rfl, rfl, SqL.of hR, al, pl, _, 1, _, rfl, rfl, hpl, rfl, _, rfl, r, _, 1, _, rfl, rfl, hr3, rfl, v, cs, ws, some qt.2.1, t.2.1, rfl, dpP1, (fun z e => by cases e; rw [eqc]; exact hin tp (List.mem_of_getElem? gtp)), hit, ?_⟩
        rw [eqc, ew]
        refine ⟨_, _, rfl, rfl, ?_⟩
        dsimp only
        obtain ⟨sN, esN⟩ : ∃ sN, sN = qt.2.2.2 + wh := ⟨_, rfl⟩
        rw [← esN]
        have hnx : nxF ws s (pbF cs ws s (ts.take (j + 1))) t = sN := by
          rw [epb, esN]
          unfold nxF
          rw [List.getLast?_concat]
          show qt.2.2.2 + (washF ws (some qt.2.1) t.2.1).getD 0 = _
          rw [eqc, ew]; rfl
        generalize j + 1 = i at *
        refine ⟨_, rfl, .inl ⟨rfl, _, SqL.of hR⟩, _, rfl, _, rfl, _, rfl, v, cs, ws, _, t, _, rfl, dpP1, dp_same s1 dp, hit, fun p np => ?_⟩
        have hR2 := same_upd (o := .tup [.int (plF cs t sN).1, .str (plF cs t sN).2.1, .int (plF cs t sN).2.2.1, .int (plF cs t sN).2.2.2]) np _ _ hR
        refine ⟨R, us, _, rfl, rfl, hR2, (by rw [lus, sizeLine_eq]; omega), ?_⟩
        refine ⟨_, _, rfl, ?_, fun h => absurd h (by omega)⟩
        have dn : Dp K (off (upd Ha p (.tup [.int (plF cs t sN).1, .str (plF cs t sN).2.1, .int (plF cs t sN).2.2.1, .int (plF cs t sN).2.2.2])) [R]) (.ref p) (trD (plF cs t sN)) := .tup (.inl (.inl (off_new lv1 np))) (.cons (.int _) (.cons (.str _) (.cons (.int _) (.cons (.int _) .nil))))
        have sp := same_upd (o := .tup [.int (plF cs t sN).1, .str (plF cs t sN).2.1, .int (plF cs t sN).2.2.1, .int (plF cs t sN).2.2.2]) np
        have pe := pd_ext (j := i + 1) (ms := (pbF cs ws s (ts.take i)).map trD) (ns := [trD (plF cs t sN)]) (zs := [.ref p]) nR (s1.trans sp) hR2 (dpAll_same (sm_of sp) da) (.cons dn .nil)
        obtain ⟨e1, e2⟩ := pe
        refine ⟨e1, ?_⟩
        show ∃ us, _ ∧ DpAll K _ us ((pbF cs ws s (ts.take (i + 1))).map trD)
        rw [etk, pbF_snoc, hnx, List.map_append]
        exact e2
    · rintro σ Ha ⟨s2, v4, rfl, pv, hs0⟩
      obtain ⟨s1, us, hR, da⟩ := pv
      rw [lx, List.take_length] at da
      exact ⟨_, rfl, q _ _ _ s1 nR hR da⟩

end
end Pot

namespace Pot
open PySem PySem.Spec PyProof.Rows L2
section
variable {P : Program} {w : World} {K : PySem.W.Frag} {mg : Str → Option Value} {base : Heap}
def optI (o : Option Int) : V := optV o
/-- what broken tells, with its lists at E, B, M -/
structure BrAt (K : PySem.W.Frag) (H0 H : Hp) (p E B M : Addr) (es bs : List V) (ed bd : List Trn) (lo : Option Int) (ms : List Int) : Prop where
  sm : Same H0 H
  nE : H0 E = none
  nB : H0 B = none
  nM : H0 M = none
  EB : E ≠ B
  EM : E ≠ M
  BM : B ≠ M
  hp : H p = some (.tup [.ref E, optV lo, .ref B, .ref M])
  hE : H E = some (.lst es)
  hB : H B = some (.lst bs)
  hM : H M = some (.lst (ms.map V.int))
  dE : DpAll K (off H [E, B, M]) es (ed.map trD)
  dB : DpAll K (off H [E, B, M]) bs (bd.map trD)
def brD (ed : List Trn) (lo : Option Int) (bd : List Trn) (ms : List Int) : PyData := .tuple [.list (ed.map trD), optD lo, .list (bd.map trD), .list (ms.map PyData.int)]
theorem BrAt.dp {H0 H : Hp} {p E B M : Addr} {es bs : List V} {ed bd : List Trn} {lo : Option Int} {ms : List Int} (h : BrAt K H0 H p E B M es bs ed bd lo ms) : Dp K H (.ref p) (brD ed lo bd ms) :=
  .tup (.inl (.inl h.hp)) (.cons (.lst (SqL.of h.hE) (dpAll_same off_sub h.dE)) (.cons (opt_dp _) (.cons (.lst (SqL.of h.hB) (dpAll_same off_sub h.dB)) (.cons (.lst (SqL.of h.hM) (dp_ints _)) .nil))))
theorem pbF_cols (cs : List Col) (ws : List Wsh) (s : Int) : ∀ (n : Nat) (bs : List Trn), bs.length = n → ∀ q ∈ pbF cs ws s bs, ∃ t ∈ bs, q.2.1 = t.2.1
  | 0, bs, h, q, hq => by rw [List.length_eq_zero_iff.mp h] at hq; cases hq
  | n + 1, bs, h, q, hq => by
    have hne : bs ≠ [] := fun z => by rw [z] at h; cases h
    have e := List.dropLast_concat_getLast hne
    rw [← e, pbF_snoc] at hq
    rcases List.mem_append.mp hq with hq | hq
    · obtain ⟨t, ht, et⟩ := pbF_cols cs ws s n _ (by rw [List.length_dropLast, h]; rfl) q hq
      exact ⟨t, (List.dropLast_sublist _).subset ht, et⟩
    · rw [List.mem_singleton.mp hq, plF_col]
      exact ⟨_, List.getLast_mem hne, rfl⟩
theorem tr_gd {t : Trn} (h : Nm t.2.1) : gdAll.gd (t.1.natAbs + t.2.2.1.natAbs + t.2.2.2.natAbs) (trD t) :=
  ⟨by show t.1.natAbs ≤ _; omega, ⟨Nat.le_trans h.1.1 (by decide), fun x hx => Nat.lt_trans (h.ascii x hx) (by decide)⟩, by show t.2.2.1.natAbs ≤ _; omega, by show t.2.2.2.natAbs ≤ _; omega, trivial⟩
theorem tr_shaped {t : Trn} (h : Nm t.2.1) : SeqAt.shaped (trD t) = true := gd_shaped (tr_gd h) (by simp [trD, PyData.depth, PyData.depthAll])
abbrev s_broken : Stmt := topS 14
def n_broken : List Str := ["palette", "turns", "hour", "warm", "ended", "first", "behind", "moved", "lost", "turn", "at"]
theorem sc_broken : FnScope n_broken ["palette", "turns", "hour", "warm"] (defScope s_broken) := ⟨rfl, rfl, rfl, by decide +kernel, rfl, by decide +kernel, by decide +kernel⟩
def spBroken (K : PySem.W.Frag) : Sp := fun vs H Q _ => ∃ (v : V) (cs : List Col) (ws : List Wsh) (a : Addr) (xs : List V) (ts : List Trn) (h wm : Int), vs = [v, .ref a, .int h, .int wm] ∧ Dp K H v (palD cs ws) ∧ SqL K H a xs ∧ DpAll K H xs (ts.map trD) ∧ ts.length ≤ 31 ∧ (∀ t ∈ ts, InC cs t.2.1 ∧ Nm t.2.1) ∧ WOk ws ts ∧
  ∀ H' p E B M es bs, BrAt K H H' p E B M es bs (endF h ts) (behF cs ws h wm ts) (lostF h ts) (mvF (fstF h ts) (behF cs ws h wm ts) (ts.drop (fstF h ts))) → Q (.ref p) H'
set_option maxHeartbeats 2000000 in
theorem ok_broken {f : Addr} {fd : FuncData} {k : Nat} (F : FunV K "broken" s_broken [.int 24] f fd) (T : Txt mg) (c_first_behind : Cl P w K mg base (k + 1) "first_behind" (spFb K)) (c_put_behind : Cl P w K mg base (k + 4) "put_behind" (spPb K)) : FnOk P w K mg base CX0 (k + 5) f fd ["palette", "turns", "hour", "warm"] (spBroken K) := by
  refine okD F sc_broken (fun vs H Q E h => ?_) (fun cdv A outer s H vs Q E hr h => ?_)
  · obtain ⟨v, cs, ws, a, xs, ts, h, wm, rfl, _⟩ := h
    rfl
  · obtain ⟨v, cs, ws, a, xs, ts, h, wm, rfl, dpP, hS, hx, hl, hin, wok, q⟩ := h
    have nd := sc_broken.nd
    have hu64 := hr.units
    /- 0 palette, 1 turns, 2 hour, 3 warm, 4 ended, 5 first, 6 behind, 7 moved, 8 lost, 9 turn, 10 at -/
    refine ⟨_, (pss_cons (ps_setLc (i := 4) (own := [("turn", 9)]) rfl nd rfl rfl (sw_true rfl rfl rfl (by decide +kernel)) (ki_list (K := K) (pv 1)) (blkOk_by (N := n_broken) (sc := defScope s_broken) (by decide +kernel)) (fun _ _ _ _ _ => (pg_name (i := 9) nd rfl (.inl rfl))) (fun _ _ _ _ _ => (pts_one (pt_cmpR op_le (pe_ix (kx_tup (K := K)) (pv 9) pe_int (fun _ _ => rfl)) (pv 2) (nomark _)))) (fun _ _ _ _ _ => (pv 9)))
      (pss_cons (ps_set (i := 5) nd rfl (.inr rfl) (pe_cl c_first_behind hr (by omega) (by rfl) (pa_cons (pv 1) (pa_cons (pv 2) pa_nil))))
      (pss_cons (ps_set (i := 6) nd rfl (.inl rfl) (pe_cl c_put_behind hr (by omega) (by rfl) (pa_cons (pv 0) (pa_cons (pe_slice (kl_list (K := K)) (pv 1) (po_some (pv 5)) po_none) (pa_cons (pe_op op_add (pv 2) (pv 3)) pa_nil)))))
      (pss_cons (ps_setLc (i := 7) (own := [("at", 10), ("turn", 9)]) rfl nd rfl rfl (sw_true rfl rfl rfl (by decide +kernel)) (ki_enum (K := K) (by rfl) T.enumerate (pa_cons (pv 6) pa_nil)) (blkOk_by (N := n_broken) (sc := defScope s_broken) (by decide +kernel)) (fun _ _ _ _ _ => (kg_tup (K := K) (n := 2) (pgs_cons (pg_name (i := 10) nd rfl (.inl rfl)) (pgs_cons (pg_name (i := 9) nd rfl (.inl rfl)) pgs_nil)))) (fun _ _ _ _ _ => (pts_one (pt_cmpR (ko_ne (K := K) hu64) (pv 9) (pe_ix (kx_list (K := K)) (pv 1) (pe_op op_add (pv 5) (pv 10)) (fun _ _ => rfl)) (nomark _)))) (fun _ _ _ _ _ => (pe_op op_add (pv 5) (pv 10))))
      (pss_cons (ps_set (i := 8) nd rfl (.inl rfl) (pe_ifExp (pt_cmpR op_lt (pe_callB (kc_len (K := K)) (by rfl) T.len PySem.boot_len (pa_cons (pv 4) pa_nil)) (pv 5) (nomark _)) (pe_op op_sub (pv 5) pe_int) pe_non))
      (pss_one (ps_ret (pe_tup (pa_cons (pv 4) (pa_cons (pv 8) (pa_cons (pv 6) (pa_cons (pv 7) pa_nil)))))))))))), ?_⟩
    have lx : xs.length = ts.length := dpAll_map_len hx
    refine ⟨_, rfl, a, rfl, ⟨_, hS⟩, fun D nD => ?_⟩
    refine lc_it (walk_list (xs := xs)) (PvD K H [] D fun i => ((ts.take i).filter (fun t => decide (t.2.2.2 ≤ h))).map trD) (pd_start nD rfl) (fun i H2 _ p => p.sm.seq hS) ?_ ?_
    · rintro i y Ha Hb hi pv ⟨rfl, gx⟩
      obtain ⟨t, gt, dp⟩ := dpAll_map_at hx gx
      have dp0 := dp
      obtain ⟨r, rfl, hr2⟩ := tr_dp dp
      refine ⟨rfl, _, rfl, r, _, 3, _, rfl, rfl, same_tup pv.sm hr2, rfl, _, rfl, _, _, rfl, rfl, _, rfl, ite2 (fun hb => ?_) (fun hb => ?_)⟩
      · exact ⟨_, rfl, pd_put nD pv (Same.refl _) (dp_same (same_offD (S := []) nD pv.sm) (by rw [off_nil]; exact dp0)) (filt_yes trD gt hb) (filt_len trD _ (by omega))⟩
      · exact pd_skip pv (Same.refl _) (filt_no trD gt (Bool.not_eq_true _ |>.mp hb))
    intro H2 pv
    obtain ⟨s2, es, fD, daE⟩ := pd_end live_nil nD pv (filt_all trD _ (by omega))
    rw [off_nil] at fD daE
    have lE : es.length = (endF h ts).length := dpAll_map_len daE
    refine ⟨_, rfl, _, rfl, a, xs, ts, h, rfl, s2.seq hS, dpAll_same s2 hx, hl, fun H3 s3 => ?_⟩
    have s13 := s2.trans s3
    have lfs : fstF h ts ≤ ts.length := List.length_filter_le ..
    generalize hfs : fstF h ts = fs at lfs q
    -- put behind
    refine ⟨_, rfl, _, rfl, _, rfl, _, rfl, a, _, rfl, s13.seq hS, fun l1 nl1 => ?_⟩
    rw [cut_tail]
    have s14 := s13.trans (same_upd (o := .lst (xs.drop fs)) nl1)
    have s4 := s3.trans (same_upd (o := .lst (xs.drop fs)) nl1)
    have hl1 : upd H3 l1 (.lst (xs.drop fs)) l1 = some (.lst (xs.drop fs)) := upd_same
    generalize upd H3 l1 (.lst (xs.drop fs)) = H4 at s14 s4 hl1 ⊢
    refine ⟨_, rfl, _, rfl, _, _, rfl, rfl, v, cs, ws, l1, xs.drop fs, ts.drop fs, _, rfl, dp_same s14 dpP, SqL.of hl1, (by rw [List.map_drop]; exact dpAll_drop _ (dpAll_same s14 hx)), (by rw [List.length_drop]; omega), (fun t ht => (hin t (List.mem_of_mem_drop ht)).1), wok.drop fs, fun H5 B bs s5 nB hB daB => ?_⟩
    have ebh : behF cs ws h wm ts = pbF cs ws (h + wm) (ts.drop fs) := by unfold behF; rw [hfs]
    have lbh : (behF cs ws h wm ts).length = ts.length - fs := by rw [ebh]; exact pbF_len cs ws _ _ _ (List.length_drop ..)
    have nmB : ∀ q ∈ behF cs ws h wm ts, Nm q.2.1 := fun q hq => by
      rw [ebh] at hq
      obtain ⟨t, ht, et⟩ := pbF_cols cs ws _ _ _ rfl q hq
      rw [et]; exact (hin t (List.mem_of_mem_drop ht)).2
    rw [← ebh] at daB
    clear ebh
    generalize behF cs ws h wm ts = bh at daB lbh q nmB
    have lB : bs.length = bh.length := dpAll_map_len daB
    have s15 := s14.trans s5
    have hD5 := s5 _ _ (s4 _ _ fD)
    have DB : D ≠ B := ne_of_none (s4 _ _ fD) nB
    -- the moved ones
    refine ⟨_, rfl, B, _, rfl, SqL.of hB, fun M nM => ?_⟩
    refine lc_it (walk_enum (xs := bs)) (PvL H5 M fun i => (mvF fs (bh.take i) ((ts.drop fs).take i)).map V.int) (pv_start nM rfl) (fun i H' _ h => SqL.of (h.1 _ _ hB)) ?_ ?_
    · rintro i y Ha Hb hi pm ⟨tt, x1, x2, rfl, nt, rfl, g1, g2⟩
      cases g1
      replace g2 : bs[i]? = some x2 := g2
      obtain ⟨qb, gq, dpq⟩ := dpAll_map_at daB g2
      have lif : fs + i < xs.length := by omega
      obtain ⟨tu, gu, dpu⟩ := dpAll_map_at hx (List.getElem?_eq_getElem lif)
      have gd2 : (ts.drop fs)[i]? = some tu := by rw [List.getElem?_drop]; exact gu
      have sA := pm.1.trans (same_upd (o := .tup [.int (i : Nat), x2]) nt)
      have et1 : bh.take (i + 1) = bh.take i ++ [qb] := by rw [List.take_add_one, gq]; rfl
      have et2 : (ts.drop fs).take (i + 1) = (ts.drop fs).take i ++ [tu] := by rw [List.take_add_one, gd2]; rfl
      have ll : (bh.take i).length = ((ts.drop fs).take i).length := by rw [List.length_take, List.length_take, List.length_drop]; omega
      have li : (bh.take i).length = i := by rw [List.length_take]; omega
      have eo : mvF fs (bh.take (i + 1)) ((ts.drop fs).take (i + 1)) = mvF fs (bh.take i) ((ts.drop fs).take i) ++ (if qb = tu then [] else [((fs + i : Nat) : Int)]) := by rw [et1, et2, mvF_snoc ll, li]
      refine ⟨tt, _, rfl, .inl (.inl upd_same), rfl, _, _, rfl, _, _, rfl, rfl, rfl, ?_⟩
      refine ⟨_, rfl, _, rfl, _, rfl, _, rfl, _, _, rfl, rfl, a, _, _, _, rfl, rfl, (s15.trans sA).seq hS, (by show atI xs (((fs : Nat) : Int) + ((i : Nat) : Int)) = some xs[fs + i]; rw [show ((fs : Nat) : Int) + ((i : Nat) : Int) = ((fs + i : Nat) : Int) by omega]; exact atI_nat (List.getElem?_eq_getElem lif)), trD qb, trD tu, dp_same (off_sub.trans sA) dpq, dp_same (s15.trans sA) dpu, tr_shaped (nmB qb (List.mem_of_getElem? gq)), tr_shaped (hin tu (List.mem_of_getElem? gu)).2, _, rfl, ?_⟩
      rw [eqv_tr]
      have lo : ((mvF fs (bh.take i) ((ts.drop fs).take i)).map V.int).length < sizeLine := by
        rw [List.length_map, sizeLine_eq]
        have := mvF_len (bh.take i) ((ts.drop fs).take i) fs
        omega
      by_cases hq : qb = tu
      · rw [decide_eq_true hq]
        refine iteF ?_
        exact pv_skip pm (same_upd nt) (by rw [eo, if_pos hq, List.append_nil])
      · rw [decide_eq_false hq]
        refine iteT ?_
        refine ⟨_, rfl, _, rfl, _, _, rfl, rfl, ?_⟩
        exact pv_put nM pm (same_upd nt) (by rw [eo, if_neg hq, List.map_append]; show _ ++ [V.int ((fs + i : Nat) : Int)] = _ ++ [V.int (((fs : Nat) : Int) + ((i : Nat) : Int))]; rw [show ((fs + i : Nat) : Int) = ((fs : Nat) : Int) + ((i : Nat) : Int) by omega]) lo
    intro H6 pm
    obtain ⟨s6, hM⟩ := pv_end pm (zs := (mvF fs bh (ts.drop fs)).map V.int) (by rw [List.take_of_length_le (by omega), List.take_of_length_le (by rw [List.length_drop]; omega)])
    have DM : D ≠ M := ne_of_none hD5 nM
    have BM : B ≠ M := ne_of_none hB nM
    have hD6 := s6 _ _ hD5
    -- lost, and the end
    have s16 := s15.trans s6
    have nB0 : H B = none := s14.free nB
    have nM0 : H M = none := s15.free nM
    have hLs : ∀ s ∈ [D, B, M], ∃ xs, H6 s = some (.lst xs) := fun s hs => by
      simp only [List.mem_cons, List.not_mem_nil, or_false] at hs
      rcases hs with rfl | rfl | rfl
      · exact ⟨_, hD6⟩
      · exact ⟨_, s6 _ _ hB⟩
      · exact ⟨_, hM⟩
    have nlt : ∀ us : List Trn, noLAll (us.map trD) := fun us => noL_map (f := trD) (fun t => ⟨trivial, trivial, trivial, trivial, trivial⟩) us
    have oE : DpAll K (off H6 [D, B, M]) es ((endF h ts).map trD) := dpAll_offL hLs (nlt _) (dpAll_same (s4.trans (s5.trans s6)) daE)
    have oB : DpAll K (off H6 [D, B, M]) bs (bh.map trD) := dpAll_offL hLs (nlt _) (dpAll_same (off_sub.trans s6) daB)
    have fin : ∀ lo, lostF h ts = lo → ∀ p, H6 p = none → Q (.ref p) (upd H6 p (.tup [.ref D, optV lo, .ref B, .ref M])) := fun lo elo p np => by
      have sp := same_upd (o := .tup [.ref D, optV lo, .ref B, .ref M]) np
      refine q _ p D B M es bs ⟨s16.trans sp, nD, nB0, nM0, DB, DM, BM, by rw [elo]; exact upd_same, sp _ _ hD6, sp _ _ (s6 _ _ hB), sp _ _ hM, dpAll_same (sm_of sp) oE, dpAll_same (sm_of sp) oB⟩
    refine ⟨_, rfl, _, _, rfl, .inl ⟨_, SqL.of hD6, rfl⟩, _, rfl, _, _, rfl, rfl, _, rfl, ite2 (fun hb => ?_) (fun hb => ?_)⟩
    · have hb := of_decide_eq_true hb
      refine ⟨_, rfl, _, _, rfl, rfl, _, rfl, _, rfl, _, rfl, _, rfl, (by show 4 ≤ sizeLine; decide), fun p np => ?_⟩
      exact fin (some (((fs : Nat) : Int) - 1)) (by unfold lostF; rw [hfs, if_pos (by omega)]) p np
    · have hb : ¬ ((es.length : Nat) : Int) < ((fs : Nat) : Int) := fun z => hb (decide_eq_true z)
      refine ⟨_, rfl, _, rfl, _, rfl, _, rfl, (by show 4 ≤ sizeLine; decide), fun p np => ?_⟩
      exact fin none (by unfold lostF; rw [hfs, if_neg (by omega)]) p np

end
end Pot

namespace Pot
open PySem PySem.Spec PyProof.Rows L2
section
variable {P : Program} {w : World} {K : PySem.W.Frag} {mg : Str → Option Value} {base : Heap}
/-! ### three lists that are filled -/
structure Tri (K : PySem.W.Frag) (H0 : Hp) (E B M : Addr) (es bs : List V) (ed bd : List Trn) (ms : List Int) (H : Hp) : Prop where
  sm : Same H0 H
  nE : H0 E = none
  nB : H0 B = none
  nM : H0 M = none
  EB : E ≠ B
  EM : E ≠ M
  BM : B ≠ M
  hE : H E = some (.lst es)
  hB : H B = some (.lst bs)
  hM : H M = some (.lst (ms.map V.int))
  dE : DpAll K (off H [E, B, M]) es (ed.map trD)
  dB : DpAll K (off H [E, B, M]) bs (bd.map trD)
section
variable {H0 H H' : Hp} {E B M p : Addr} {es bs : List V} {ed bd : List Trn} {ms : List Int}
theorem Tri.same (t : Tri K H0 E B M es bs ed bd ms H) (s : Same H H') : Tri K H0 E B M es bs ed bd ms H' :=
  ⟨t.sm.trans s, t.nE, t.nB, t.nM, t.EB, t.EM, t.BM, s _ _ t.hE, s _ _ t.hB, s _ _ t.hM, dpAll_same (sm_of s) t.dE, dpAll_same (sm_of s) t.dB⟩
theorem Tri.keep (t : Tri K H0 E B M es bs ed bd ms H) : Same H0 (off H [E, B, M]) := fun x o e => by
  have h1 : x ≠ E := fun z => by rw [z, t.nE] at e; cases e
  have h2 : x ≠ B := fun z => by rw [z, t.nB] at e; cases e
  have h3 : x ≠ M := fun z => by rw [z, t.nM] at e; cases e
  rw [off_out (by simp only [List.mem_cons, List.not_mem_nil, or_false, not_or]; exact ⟨h1, h2, h3⟩)]
  exact t.sm _ _ e
theorem Tri.live (t : Tri K H0 E B M es bs ed bd ms H) : Live [E, B, M] H := ((live_nil.cons t.hM).cons t.hB).cons t.hE
theorem Tri.appE (t : Tri K H0 E B M es bs ed bd ms H) {v : V} {d : Trn} (dv : Dp K (off H [E, B, M]) v (trD d)) : Tri K H0 E B M (es ++ [v]) bs (ed ++ [d]) bd ms (upd H E (.lst (es ++ [v]))) := by
  have sw : Sm [E, B, M] H (upd H E (.lst (es ++ [v]))) := sm_wr (by simp)
  refine ⟨same_put t.sm t.nE, t.nE, t.nB, t.nM, t.EB, t.EM, t.BM, upd_same, by rw [upd_ne t.EB.symm]; exact t.hB, by rw [upd_ne t.EM.symm]; exact t.hM, ?_, dpAll_same sw t.dB⟩
  rw [List.map_append]
  exact dpAll_app (dpAll_same sw t.dE) (.cons (dp_same sw dv) .nil)
theorem Tri.appB (t : Tri K H0 E B M es bs ed bd ms H) {v : V} {d : Trn} (dv : Dp K (off H [E, B, M]) v (trD d)) : Tri K H0 E B M es (bs ++ [v]) ed (bd ++ [d]) ms (upd H B (.lst (bs ++ [v]))) := by
  have sw : Sm [E, B, M] H (upd H B (.lst (bs ++ [v]))) := sm_wr (by simp)
  refine ⟨same_put t.sm t.nB, t.nE, t.nB, t.nM, t.EB, t.EM, t.BM, by rw [upd_ne t.EB]; exact t.hE, upd_same, by rw [upd_ne t.BM.symm]; exact t.hM, dpAll_same sw t.dE, ?_⟩
  rw [List.map_append]
  exact dpAll_app (dpAll_same sw t.dB) (.cons (dp_same sw dv) .nil)
theorem Tri.appM (t : Tri K H0 E B M es bs ed bd ms H) {i : Int} : Tri K H0 E B M es bs ed bd (ms ++ [i]) (upd H M (.lst (ms.map V.int ++ [.int i]))) := by
  have sw : Sm [E, B, M] H (upd H M (.lst (ms.map V.int ++ [.int i]))) := sm_wr (by simp)
  refine ⟨same_put t.sm t.nM, t.nE, t.nB, t.nM, t.EB, t.EM, t.BM, by rw [upd_ne t.EM]; exact t.hE, by rw [upd_ne t.BM]; exact t.hB, by rw [upd_same, List.map_append]; rfl, dpAll_same sw t.dE, dpAll_same sw t.dB⟩
theorem Tri.br (t : Tri K H0 E B M es bs ed bd ms H) {lo : Option Int} (np : H p = none) : BrAt K H0 (upd H p (.tup [.ref E, optV lo, .ref B, .ref M])) p E B M es bs ed bd lo ms :=
  have s := same_upd (o := .tup [.ref E, optV lo, .ref B, .ref M]) np
  have u := t.same s
  ⟨u.sm, u.nE, u.nB, u.nM, u.EB, u.EM, u.BM, upd_same, u.hE, u.hB, u.hM, u.dE, u.dB⟩
end
/-! ### of turns without fault those ended, those filled stand first -/
theorem filt_pre {α : Type} {p : α → Bool} : ∀ {l : List α}, (∀ (i j : Nat) (x y : α), i < j → l[i]? = some x → l[j]? = some y → p y = true → p x = true) → ∀ {j : Nat} {x : α}, l[j]? = some x → (p x = true ↔ j < (l.filter p).length)
  | [], _, _, _, g => by cases g
  | y :: l, h, j, x, g => by
    have hl : ∀ (i j : Nat) (x y : α), i < j → l[i]? = some x → l[j]? = some y → p y = true → p x = true := fun i j x y hij g1 g2 => h (i + 1) (j + 1) x y (by omega) g1 g2
    cases hy : p y with
    | true =>
      rw [List.filter_cons_of_pos hy, List.length_cons]
      cases j with
      | zero => cases g; exact ⟨fun _ => Nat.succ_pos _, fun _ => hy⟩
      | succ j =>
        have := filt_pre hl (j := j) (x := x) g
        exact ⟨fun z => Nat.succ_lt_succ (this.mp z), fun z => this.mpr (Nat.lt_of_succ_lt_succ z)⟩
    | false =>
      have no : ∀ z ∈ y :: l, p z = false := fun z hz => by
        obtain ⟨i, hi, rfl⟩ := List.getElem_of_mem hz
        cases i with
        | zero => exact hy
        | succ i =>
          cases e : p (y :: l)[i + 1] with
          | false => rfl
          | true => exact absurd (h 0 (i + 1) y _ (Nat.succ_pos _) rfl (List.getElem?_eq_getElem hi) e) (by rw [hy]; exact Bool.false_ne_true)
      have e0 : (y :: l).filter p = [] := List.filter_eq_nil_iff.mpr fun z hz => by rw [no z hz]; exact Bool.false_ne_true
      rw [e0]
      exact ⟨fun z => absurd z (by rw [no x (List.mem_of_getElem? g)]; exact Bool.false_ne_true), fun z => absurd z (Nat.not_lt_zero _)⟩
theorem ch_sort {cs : List Col} {ws : List Wsh} (pb : PalC cs ws) : ∀ {ts : List Trn} {f : Int} {l : Option Str} {i j : Nat} {x y : Trn}, Ch cs ws f l ts → i < j → ts[i]? = some x → ts[j]? = some y → x.2.2.2 ≤ y.1
  | [], _, _, _, _, _, _, _, _, g, _ => by cases g
  | t :: ts, f, l, 0, 0, x, y, _, h, _, _ => absurd h (Nat.lt_irrefl _)
  | t :: ts, f, l, 0, j + 1, x, y, ⟨_, r⟩, _, g, g2 => by
    cases g
    exact ((ch_bounds pb r).2 y (List.mem_of_getElem? g2)).1
  | t :: ts, f, l, i + 1, 0, x, y, _, h, _, _ => absurd h (Nat.not_lt_zero _)
  | t :: ts, f, l, i + 1, j + 1, x, y, ⟨_, r⟩, h, g, g2 => ch_sort pb r (i := i) (j := j) (Nat.lt_of_succ_lt_succ h) g g2
theorem ch_wok {cs : List Col} {ws : List Wsh} : ∀ {ts : List Trn} {f : Int} {l : Option Str}, Ch cs ws f l ts → WOk ws ts
  | [], _, _, _ => trivial
  | t :: ts, f, l, ⟨s, r⟩ => ⟨fun u hu => by
      cases ts with
      | nil => cases hu
      | cons y ts =>
        cases hu
        obtain ⟨⟨c, h, a1, a2, _⟩, _⟩ := r
        exact ⟨h, a2⟩, ch_wok r⟩
structure Srt (h : Int) (ts : List Trn) (le fs : Nat) : Prop where
  en : ∀ j t, ts[j]? = some t → (t.2.2.2 ≤ h ↔ j < le)
  at_ : ∀ j t, ts[j]? = some t → (t.1 ≤ h ↔ j < fs)
  l1 : le ≤ fs
  l2 : fs ≤ le + 1
  l3 : fs ≤ ts.length
theorem srt_of {cs : List Col} {ws : List Wsh} (pb : PalC cs ws) {ts : List Trn} {f : Int} {l : Option Str} (c : Ch cs ws f l ts) (h : Int) : Srt h ts (endF h ts).length (fstF h ts) := by
  have b := (ch_bounds pb c).2
  have a1 : ∀ j t, ts[j]? = some t → (t.2.2.2 ≤ h ↔ j < (endF h ts).length) := fun j t g => by
    have := filt_pre (p := fun t : Trn => decide (t.2.2.2 ≤ h)) (l := ts) (fun i j x y hij g1 g2 z => decide_eq_true (by
      have := ch_sort pb c hij g1 g2
      have := b y (List.mem_of_getElem? g2)
      have := of_decide_eq_true z
      omega)) g
    exact ⟨fun z => this.mp (decide_eq_true z), fun z => of_decide_eq_true (this.mpr z)⟩
  have a2 : ∀ j t, ts[j]? = some t → (t.1 ≤ h ↔ j < fstF h ts) := fun j t g => by
    have := filt_pre (p := fun t : Trn => decide (t.1 ≤ h)) (l := ts) (fun i j x y hij g1 g2 z => decide_eq_true (by
      have := ch_sort pb c hij g1 g2
      have := b x (List.mem_of_getElem? g1)
      have := of_decide_eq_true z
      omega)) g
    exact ⟨fun z => this.mp (decide_eq_true z), fun z => of_decide_eq_true (this.mpr z)⟩
  have l3 : fstF h ts ≤ ts.length := List.length_filter_le ..
  have l4 : (endF h ts).length ≤ ts.length := List.length_filter_le ..
  refine ⟨a1, a2, ?_, ?_, l3⟩
  · rcases Nat.eq_zero_or_pos (endF h ts).length with z | z
    · omega
    · have g := List.getElem?_eq_getElem (show (endF h ts).length - 1 < ts.length by omega)
      have h1 := (a1 _ _ g).mpr (by omega)
      have h2 := b _ (List.mem_of_getElem? g)
      have := (a2 _ _ g).mp (by omega)
      omega
  · rcases Nat.lt_or_ge (fstF h ts) 2 with z | z
    · omega
    · have g1 := List.getElem?_eq_getElem (show fstF h ts - 2 < ts.length by omega)
      have g2 := List.getElem?_eq_getElem (show fstF h ts - 1 < ts.length by omega)
      have h1 := (a2 _ _ g2).mpr (by omega)
      have h2 := ch_sort pb c (show fstF h ts - 2 < fstF h ts - 1 by omega) g1 g2
      have := (a1 _ _ g1).mp (by omega)
      omega
theorem trs_gdE : ∀ {us : List Trn}, (∀ t ∈ us, Nm t.2.1) → ∃ m, gdAll.gd m (.list (us.map trD))
  | [], _ => ⟨0, trivial⟩
  | t :: us, h => by
    obtain ⟨m, hm⟩ := trs_gdE fun x hx => h x (List.mem_cons_of_mem _ hx)
    exact ⟨m + (t.1.natAbs + t.2.2.1.natAbs + t.2.2.2.natAbs), gd_mono (by omega) _ (tr_gd (h t List.mem_cons_self)), gdAll_mono (by omega) _ hm⟩
theorem trs_depth (ts : List Trn) : (PyData.list (ts.map trD)).depth ≤ 2 := by
  show PyData.depthAll _ + 1 ≤ 2
  have : PyData.depthAll (ts.map trD) ≤ 1 := depthAll_iff.mpr fun d hd => by
    obtain ⟨t, _, rfl⟩ := List.mem_map.mp hd
    simp [trD, PyData.depth, PyData.depthAll]
  omega
theorem trs_shaped {us : List Trn} (h : ∀ t ∈ us, Nm t.2.1) : SeqAt.shaped (.list (us.map trD)) = true := by
  obtain ⟨m, hm⟩ := trs_gdE h
  exact gd_shaped hm (Nat.le_trans (trs_depth us) (by decide))

end
end Pot

namespace Pot
open PySem PySem.Spec PyProof.Rows L2
section
variable {P : Program} {w : World} {K : PySem.W.Frag} {mg : Str → Option Value} {base : Heap}
abbrev s__law_broken : Stmt := topS 40
def n__law_broken : List Str := ["_law_palette_here", "_law_turns_here", "_law_hour", "_law_warm", "_law_ended", "_law_lost", "_law_behind", "_law_moved", "_law_free", "_law_number", "_law_at", "_law_colour", "_law_begin", "_law_end", "_law_charge", "_law_melt", "_law_fill", "_law_work"]
theorem sc__law_broken : FnScope n__law_broken ["_law_palette_here", "_law_turns_here", "_law_hour", "_law_warm"] (defScope s__law_broken) := ⟨rfl, rfl, rfl, by decide +kernel, rfl, by decide +kernel, by decide +kernel⟩
def spLBroken (K : PySem.W.Frag) : Sp := fun vs H Q _ => ∃ (v : V) (cs : List Col) (ws : List Wsh) (a : Addr) (xs : List V) (ts : List Trn) (h wm f0 : Int), vs = [v, .ref a, .int h, .int wm] ∧ Dp K H v (palD cs ws) ∧ PalC cs ws ∧ SqL K H a xs ∧ DpAll K H xs (ts.map trD) ∧ ts.length ≤ 31 ∧ Ch cs ws f0 none ts ∧
  ∀ H' p E B M es bs, BrAt K H H' p E B M es bs (endF h ts) (behF cs ws h wm ts) (lostF h ts) (mvF (fstF h ts) (behF cs ws h wm ts) (ts.drop (fstF h ts))) → Q (.ref p) H'
set_option maxHeartbeats 4000000 in
theorem ok_lbroken {f : Addr} {fd : FuncData} {k : Nat} (F : Fun K "_law_broken" "_law_broken" s__law_broken f fd) (T : Txt mg) (c__law_hours : Cl P w K mg base (k + 1) "_law_hours" (spLHours K)) (c__law_wash : Cl P w K mg base (k + 1) "_law_wash" (spLWash K)) : FnOk P w K mg base CX0 (k + 2) f fd ["_law_palette_here", "_law_turns_here", "_law_hour", "_law_warm"] (spLBroken K) := by
  refine F.ok sc__law_broken (fun vs H Q E h => ?_) (fun cdv A outer s H vs Q E hr h => ?_)
  · obtain ⟨v, cs, ws, a, xs, ts, h, wm, f0, rfl, _⟩ := h
    rfl
  · obtain ⟨v, cs, ws, a, xs, ts, h, wm, f0, rfl, dpP, pb, hS, hx, hl, cts, q⟩ := h
    have nd := sc__law_broken.nd
    have hu64 := hr.units
    /- 0 _law_palette_here, 1 _law_turns_here, 2 _law_hour, 3 _law_warm, 4 _law_ended, 5 _law_lost, 6 _law_behind, 7 _law_moved, 8 _law_free, 9 _law_number, 10 _law_at, 11 _law_colour, 12 _law_begin, 13 _law_end, 14 _law_charge, 15 _law_melt, 16 _law_fill, 17 _law_work -/
    refine ⟨_, (pss_cons (ps_asg (pe_tup (pa_cons (pe_lst pa_nil) (pa_cons pe_non (pa_cons (pe_lst pa_nil) (pa_cons (pe_lst pa_nil) (pa_cons (pe_op op_add (pv 2) (pv 3)) pa_nil)))))) (kg_tup (K := K) (n := 5) (pgs_cons (pg_name (i := 4) nd rfl (.inl rfl)) (pgs_cons (pg_name (i := 5) nd rfl (.inl rfl)) (pgs_cons (pg_name (i := 6) nd rfl (.inl rfl)) (pgs_cons (pg_name (i := 7) nd rfl (.inl rfl)) (pgs_cons (pg_name (i := 8) nd rfl (.inl rfl)) pgs_nil)))))))
      (pss_cons (ps_for PassesOwn.never rfl (ki_enum (K := K) (by rfl) T.enumerate (pa_cons (pv 1) pa_nil)) (kg_tup (K := K) (n := 2) (pgs_cons (pg_name (i := 9) nd rfl (.inl rfl)) (pgs_cons (kg_tup (K := K) (n := 4) (pgs_cons (pg_name (i := 10) nd rfl (.inl rfl)) (pgs_cons (pg_name (i := 11) nd rfl (.inl rfl)) (pgs_cons (pg_name (i := 12) nd rfl (.inl rfl)) (pgs_cons (pg_name (i := 13) nd rfl (.inl rfl)) pgs_nil))))) pgs_nil)))
          (pss_cons (ps_asg (pe_cl c__law_hours hr (by omega) (by rfl) (pa_cons (pv 0) (pa_cons (pv 11) pa_nil))) (kg_tup (K := K) (n := 2) (pgs_cons (pg_name (i := 14) nd rfl (.inl rfl)) (pgs_cons (pg_name (i := 15) nd rfl (.inl rfl)) pgs_nil))))
          (pss_one (ps_if (pt_cmpR op_le (pv 13) (pv 2) (nomark _))
              (pss_one (ps_expr (pe_bm PySem.F.plainAttrs_list PySem.F.slot_list_append PySem.F.type_list_append mt_append (pv 4) (pa_cons (pe_ix (kx_list (K := K)) (pv 1) (pv 9) (fun _ _ => rfl)) pa_nil))))
              (pss_one (ps_if (pt_cmpR op_le (pv 10) (pv 2) (nomark _))
                  (pss_one (ps_set (i := 5) nd rfl (.inl rfl) (pv 9)))
                  (pss_cons (ps_if (pt_cmpR (ko_ne (K := K) hu64) (pv 6) (pe_lst pa_nil) (nomark _))
                      (pss_one (ps_set (i := 8) nd rfl (.inl rfl) (pe_op op_add (pe_ix (kx_tup (K := K)) (pe_ix (kx_list (K := K)) (pv 6) (pe_un un_neg pe_int) (fun _ _ => rfl)) pe_int (fun _ _ => rfl)) (pe_cl c__law_wash hr (by omega) (by rfl) (pa_cons (pv 0) (pa_cons (pe_ix (kx_tup (K := K)) (pe_ix (kx_list (K := K)) (pv 6) (pe_un un_neg pe_int) (fun _ _ => rfl)) pe_int (fun _ _ => rfl)) (pa_cons (pv 11) pa_nil)))))))
                      pss_nil)
                  (pss_cons (ps_set (i := 16) nd rfl (.inl rfl) (pe_callB (call_max2 rfl) (by rfl) T.max (by decide +kernel) (pa_cons (pv 10) (pa_cons (pv 8) pa_nil))))
                  (pss_cons (ps_set (i := 17) nd rfl (.inl rfl) (pe_callB (call_max2 rfl) (by rfl) T.max (by decide +kernel) (pa_cons (pv 12) (pa_cons (pe_op op_add (pe_op op_add (pv 16) (pv 14)) (pv 15)) pa_nil))))
                  (pss_cons (ps_expr (pe_bm PySem.F.plainAttrs_list PySem.F.slot_list_append PySem.F.type_list_append mt_append (pv 6) (pa_cons (pe_tup (pa_cons (pv 16) (pa_cons (pv 11) (pa_cons (pv 17) (pa_cons (pe_op op_sub (pe_op op_add (pv 17) (pv 13)) (pv 12)) pa_nil))))) pa_nil)))
                  (pss_one (ps_if (pt_cmpR (ko_ne (K := K) hu64) (pe_ix (kx_list (K := K)) (pv 6) (pe_un un_neg pe_int) (fun _ _ => rfl)) (pe_ix (kx_list (K := K)) (pv 1) (pv 9) (fun _ _ => rfl)) (nomark _))
                      (pss_one (ps_expr (pe_bm PySem.F.plainAttrs_list PySem.F.slot_list_append PySem.F.type_list_append mt_append (pv 7) (pa_cons (pv 9) pa_nil))))
                      pss_nil))))))))))))
      (pss_one (ps_ret (pe_tup (pa_cons (pv 4) (pa_cons (pv 5) (pa_cons (pv 6) (pa_cons (pv 7) pa_nil))))))))), ?_⟩
    have lx : xs.length = ts.length := dpAll_map_len hx
    have srt := srt_of pb cts h
    have wok := ch_wok cts
    have cb := (ch_bounds pb cts).2
    have l20 : cs.length ≤ 20 := by have := pb.le; omega
    have nmI : ∀ {z : Str}, InC cs z → Nm z := fun h => by obtain ⟨c, hc, rfl⟩ := h; exact pb.wd c hc
    have efs : ∃ fs, fs = fstF h ts := ⟨_, rfl⟩
    have ele : ∃ le, le = (endF h ts).length := ⟨_, rfl⟩
    obtain ⟨fs, efs⟩ := efs
    obtain ⟨le, ele⟩ := ele
    rw [← efs, ← ele] at srt
    refine ⟨Nat.zero_le _, fun E nE => ?_⟩
    refine ⟨Nat.zero_le _, fun B nB => ?_⟩
    refine ⟨Nat.zero_le _, fun M nM => ?_⟩
    have sE := same_upd (o := .lst []) nE
    have sB := same_upd (o := .lst []) nB
    have sM := same_upd (o := .lst []) nM
    have T0 : Tri K H E B M [] [] [] [] [] (upd (upd (upd H E (.lst [])) B (.lst [])) M (.lst [])) :=
      ⟨sE.trans (sB.trans sM), nE, sE.free nB, (sE.trans sB).free nM, ne_of_none upd_same nB, ne_of_none (sB _ _ upd_same) nM, ne_of_none upd_same nM, sM _ _ (sB _ _ upd_same), sM _ _ upd_same, upd_same, .nil, .nil⟩
    generalize upd (upd (upd H E (.lst [])) B (.lst [])) M (.lst []) = H1 at T0 ⊢
    refine ⟨_, rfl, _, rfl, _, _, rfl, rfl, (by show 5 ≤ sizeLine; decide), fun t0 nt0 => ?_⟩
    have T0 := T0.same (same_upd (o := .tup [.ref E, .non, .ref B, .ref M, .int (h + wm)]) nt0)
    refine ⟨t0, _, rfl, .inl (.inl upd_same), rfl, _, _, rfl, _, _, rfl, _, _, rfl, _, _, rfl, _, _, rfl, rfl, ?_⟩
    generalize upd H1 t0 (.tup [.ref E, .non, .ref B, .ref M, .int (h + wm)]) = H2 at T0 ⊢
    refine ⟨_, rfl, a, _, rfl, T0.sm.seq hS, ?_⟩
    refine for_it (walk_enum (xs := xs)) (fun i σ Hx => ∃ es bs fr v9 v10 v11 v12 v13 v14 v15 v16 v17, σ = [some v, some (.ref a), some (.int h), some (.int wm), some (.ref E), some (optV (if le < fs ∧ le < i then some ((le : Nat) : Int) else none)), some (.ref B), some (.ref M), some (.int fr), v9, v10, v11, v12, v13, v14, v15, v16, v17] ∧ Tri K H E B M es bs (endF h (ts.take i)) (pbF cs ws (h + wm) ((ts.drop fs).take (i - fs))) (mvF fs (pbF cs ws (h + wm) ((ts.drop fs).take (i - fs))) ((ts.drop fs).take (i - fs))) Hx ∧ (i ≤ fs → fr = h + wm))
      ⟨[], [], h + wm, _, _, _, _, _, _, _, _, _, (by rw [if_neg (by omega)]; rfl), (by rw [Nat.zero_sub]; exact T0), fun _ => rfl⟩ (fun i σ H4 _ z => by obtain ⟨_, _, _, _, _, _, _, _, _, _, _, _, _, z, _⟩ := z; exact z.sm.seq hS) ?_ ?_
    · rintro i x σ H4 H5 hi ⟨es, bs, fr, v9, v10, v11, v12, v13, v14, v15, v16, v17, rfl, Tr, hfr⟩ ⟨tt, x1, x2, rfl, nt, rfl, g1, g2⟩
      cases g1
      replace g2 : xs[i]? = some x2 := g2
      obtain ⟨t, gt, dp⟩ := dpAll_map_at hx g2
      obtain ⟨b1, b2, b3, b4, hit⟩ := cb t (List.mem_of_getElem? gt)
      obtain ⟨pt1, rfl, hpt1⟩ := tr_dp dp
      have Tr := Tr.same (same_upd (o := .tup [.int (i : Nat), .ref pt1]) nt)
      refine ⟨tt, _, rfl, .inl (.inl upd_same), rfl, _, _, rfl, _, _, rfl, pt1, _, rfl, same_tup Tr.sm hpt1, rfl, _, _, rfl, _, _, rfl, _, _, rfl, _, _, rfl, rfl, rfl, ?_⟩
      generalize upd H4 tt (.tup [.int (i : Nat), .ref pt1]) = H5 at Tr ⊢
      refine ⟨_, rfl, _, rfl, v, cs, ws, t.2.1, rfl, dp_same Tr.sm dpP, l20, hit, fun H6 yh c s6 ec hy => ?_⟩
      refine ⟨yh, _, rfl, hy, rfl, _, _, rfl, _, _, rfl, rfl, ?_⟩
      have Tr := Tr.same s6
      simp only [List.set]
      have hS6 := Tr.sm.seq hS
      have les : es.length ≤ 31 := by
        rw [dpAll_map_len Tr.dE]
        exact Nat.le_trans (List.length_filter_le ..) (Nat.le_trans (List.length_take_le' ..) hl)
      have etk : ts.take (i + 1) = ts.take i ++ [t] := by rw [List.take_add_one, gt]; rfl
      have een := srt.en i t gt
      have eat := srt.at_ i t gt
      have l1 := srt.l1
      have l2 := srt.l2
      refine ⟨_, rfl, _, rfl, _, _, rfl, rfl, _, rfl, ite2 (fun hb => ?_) (fun hb => ?_)⟩
      · have hb := of_decide_eq_true hb
        have ile := een.mp hb
        refine ⟨_, rfl, .inl ⟨rfl, _, SqL.of Tr.hE⟩, _, rfl, _, rfl, a, _, _, _, rfl, rfl, hS6, atI_nat g2, E, es, _, rfl, rfl, Tr.hE, (by rw [sizeLine_eq]; omega), ?_⟩
        have T2 := Tr.appE (dp_same Tr.keep dp)
        have e1 : endF h (ts.take (i + 1)) = endF h (ts.take i) ++ [t] := by
          unfold endF
          rw [etk, List.filter_append]
          simp [hb]
        refine ⟨_, _, _, _, _, _, _, _, _, _, _, _, (by rw [if_neg (show ¬ (le < fs ∧ le < i) by omega), if_neg (show ¬ (le < fs ∧ le < i + 1) by omega)]), (by rw [e1, show i + 1 - fs = i - fs by omega]; exact T2), fun z => hfr (by omega)⟩
      have hb : ¬ t.2.2.2 ≤ h := fun z => hb (decide_eq_true z)
      have nle : ¬ i < le := fun z => hb (een.mpr z)
      have e1 : endF h (ts.take (i + 1)) = endF h (ts.take i) := by
        unfold endF
        rw [etk, List.filter_append, List.filter_cons_of_neg (by rw [decide_eq_false hb]; exact Bool.false_ne_true), List.filter_nil, List.append_nil]
      refine ⟨_, rfl, _, rfl, _, _, rfl, rfl, _, rfl, ite2 (fun hc => ?_) (fun hc => ?_)⟩
      · have ifs := eat.mp (of_decide_eq_true hc)
        have ei : i = le := by omega
        refine ⟨_, rfl, _, _, _, _, _, _, _, _, _, _, _, _, (by rw [if_pos (show le < fs ∧ le < i + 1 by omega), ← ei]; rfl), (by rw [e1, show i + 1 - fs = i - fs by omega]; exact Tr), fun z => hfr (by omega)⟩
      have nfs : ¬ i < fs := fun z => hc (decide_eq_true (eat.mpr z))
      have lts : (ts.drop fs).length = ts.length - fs := List.length_drop ..
      have lit : i < ts.length := (List.getElem?_eq_some_iff.mp gt).1
      have gd3 : (ts.drop fs)[i - fs]? = some t := by rw [List.getElem?_drop, show fs + (i - fs) = i by omega]; exact gt
      have etb : (ts.drop fs).take (i + 1 - fs) = (ts.drop fs).take (i - fs) ++ [t] := by rw [show i + 1 - fs = (i - fs) + 1 by omega, List.take_add_one, gd3]; rfl
      have ltb : ((ts.drop fs).take (i - fs)).length = i - fs := by rw [List.length_take, lts]; omega
      obtain ⟨bk, ebk⟩ : ∃ bk, bk = (ts.drop fs).take (i - fs) := ⟨_, rfl⟩
      rw [← ebk] at Tr etb ltb
      have lpb : (pbF cs ws (h + wm) bk).length = i - fs := pbF_len cs ws _ _ _ ltb
      have nmP : ∀ q ∈ pbF cs ws (h + wm) bk, Nm q.2.1 := fun q hq => by
        obtain ⟨u, hu, eu⟩ := pbF_cols cs ws _ _ _ rfl q hq
        rw [eu]
        rw [ebk] at hu
        exact nmI (cb u (List.mem_of_mem_drop (List.mem_of_mem_take hu))).2.2.2.2
      have lbs : bs.length = i - fs := by rw [dpAll_map_len Tr.dB]; exact lpb
      have sh1 := trs_shaped nmP
      refine ⟨_, rfl, Nat.zero_le _, fun e ne => ?_⟩
      have Tr := Tr.same (same_upd (o := .lst []) ne)
      have he : upd H6 e (.lst []) e = some (.lst []) := upd_same
      generalize upd H6 e (.lst []) = H7 at Tr he ⊢
      refine ⟨.list ((pbF cs ws (h + wm) bk).map trD), .list [], .lst (SqL.of Tr.hB) (dpAll_same off_sub Tr.dB), .lst (SqL.of he) .nil, sh1, rfl, _, rfl, ?_⟩
      by_cases h0 : i = fs
      · have e0 : bk = [] := List.length_eq_zero_iff.mp (by omega)
        have etr : (!PyData.eqv (.list ((pbF cs ws (h + wm) bk).map trD)) (.list [])) = false := by rw [e0]; rfl
        rw [etr]
        refine iteF ?_
        obtain ⟨sN, esN⟩ : ∃ sN, sN = fr := ⟨_, rfl⟩
        rw [← esN]
        have hnx : nxF ws (h + wm) (pbF cs ws (h + wm) bk) t = sN := by rw [esN, hfr (by omega), e0]; rfl
        generalize H7 = HZ at Tr he ⊢
        refine ⟨_, rfl, _, rfl, _, _, rfl, ?_⟩
        refine ⟨_, rfl, _, rfl, _, rfl, _, _, rfl, rfl, _, rfl, _, _, rfl, rfl, _, _, rfl, ?_⟩
        refine ⟨_, rfl, .inl ⟨rfl, _, SqL.of Tr.hB⟩, _, rfl, _, rfl, _, rfl, _, rfl, _, rfl, _, _, rfl, rfl, _, rfl, _, _, rfl, rfl, (by show 4 ≤ sizeLine; decide), fun p np => ?_⟩
        have epl : plF cs t sN = (mx t.1 sN, t.2.1, mx t.2.2.1 (mx t.1 sN + c.2.1 + c.2.2.1), mx t.2.2.1 (mx t.1 sN + c.2.1 + c.2.2.1) + t.2.2.2 - t.2.2.1) := by unfold plF; rw [ec]
        have T1 := Tr.same (same_upd (o := .tup [.int (mx t.1 sN), .str t.2.1, .int (mx t.2.2.1 (mx t.1 sN + c.2.1 + c.2.2.1)), .int (mx t.2.2.1 (mx t.1 sN + c.2.1 + c.2.2.1) + t.2.2.2 - t.2.2.1)]) np)
        have dn : Dp K (off (upd HZ p (.tup [.int (mx t.1 sN), .str t.2.1, .int (mx t.2.2.1 (mx t.1 sN + c.2.1 + c.2.2.1)), .int (mx t.2.2.1 (mx t.1 sN + c.2.1 + c.2.2.1) + t.2.2.2 - t.2.2.1)])) [E, B, M]) (.ref p) (trD (plF cs t sN)) := by
          rw [epl]
          exact .tup (.inl (.inl (off_new Tr.live np))) (.cons (.int _) (.cons (.str _) (.cons (.int _) (.cons (.int _) .nil))))
        have nmp : Nm (plF cs t sN).2.1 := by rw [plF_col]; exact nmI hit
        refine ⟨B, bs, _, rfl, rfl, T1.hB, (by rw [sizeLine_eq]; omega), ?_⟩
        have T2 := T1.appB dn
        have eB : pbF cs ws (h + wm) (bk ++ [t]) = pbF cs ws (h + wm) bk ++ [plF cs t sN] := by rw [pbF_snoc, hnx]
        have eM : mvF fs (pbF cs ws (h + wm) bk ++ [plF cs t sN]) (bk ++ [t]) = mvF fs (pbF cs ws (h + wm) bk) bk ++ (if plF cs t sN = t then [] else [((i : Nat) : Int)]) := by rw [mvF_snoc (by omega), lpb, show fs + (i - fs) = i by omega]
        have lM : (mvF fs (pbF cs ws (h + wm) bk) bk).length ≤ 31 := Nat.le_trans (mvF_len _ _ _) (by omega)
        have elo : (if le < fs ∧ le < i then some ((le : Nat) : Int) else none) = (if le < fs ∧ le < i + 1 then some ((le : Nat) : Int) else none) := by
          by_cases z : le < fs
          · rw [if_pos ⟨z, by omega⟩, if_pos ⟨z, by omega⟩]
          · rw [if_neg (fun y => z y.1), if_neg (fun y => z y.1)]
        generalize plF cs t sN = pn at T2 eB eM nmp dn
        refine ⟨_, rfl, 1, rfl, B, _, _, .ref p, rfl, rfl, SqL.of T2.hB, atI_last _ _, _, rfl, _, rfl, a, _, _, _, rfl, rfl, T2.sm.seq hS, atI_nat g2, trD pn, trD t, ?_, dp_same T2.sm dp, tr_shaped nmp, tr_shaped (nmI hit), _, rfl, ?_⟩
        · obtain ⟨tq, gtq, dpq⟩ := dpAll_map_at T2.dB (i := bs.length) (x := .ref p) (by rw [List.getElem?_concat_length])
          have : tq = pn := by
            rw [lbs, ← lpb, List.getElem?_concat_length] at gtq
            exact (Option.some.inj gtq).symm
          subst this
          exact dp_off dpq
        rw [eqv_tr]
        by_cases hq : pn = t
        · rw [decide_eq_true hq]
          refine iteF ⟨_, _, _, _, _, _, _, _, _, _, _, _, (by rw [elo]; rfl), (by rw [e1, etb, eB, eM, if_pos hq, List.append_nil]; exact T2), fun z => absurd z (by omega)⟩
        · rw [decide_eq_false hq]
          refine iteT ?_
          refine ⟨_, rfl, .inl ⟨rfl, _, SqL.of T2.hM⟩, _, rfl, M, _, _, rfl, rfl, T2.hM, (by rw [List.length_map, sizeLine_eq]; omega), ?_⟩
          refine ⟨_, _, _, _, _, _, _, _, _, _, _, _, (by rw [elo]; rfl), (by rw [e1, etb, eB, eM, if_neg hq]; exact T2.appM), fun z => absurd z (by omega)⟩
      · obtain ⟨j, rfl⟩ : ∃ j, i = j + 1 := ⟨i - 1, by omega⟩
        obtain ⟨tp, gtp⟩ : ∃ tp, ts[j]? = some tp := ⟨ts[j]'(by omega), List.getElem?_eq_getElem (by omega)⟩
        obtain ⟨wh, ew⟩ := wok.at gtp gt
        have gpb : (ts.drop fs)[j - fs]? = some tp := by rw [List.getElem?_drop, show fs + (j - fs) = j by omega]; exact gtp
        obtain ⟨b0, eb0⟩ : ∃ b0, b0 = (ts.drop fs).take (j - fs) := ⟨_, rfl⟩
        have ebk2 : bk = b0 ++ [tp] := by rw [ebk, eb0, show j + 1 - fs = (j - fs) + 1 by omega, List.take_add_one, gpb]; rfl
        obtain ⟨qt, eqt⟩ : ∃ qt, qt = plF cs tp (nxF ws (h + wm) (pbF cs ws (h + wm) b0) tp) := ⟨_, rfl⟩
        have epb : pbF cs ws (h + wm) bk = pbF cs ws (h + wm) b0 ++ [qt] := by rw [ebk2, pbF_snoc, eqt]
        have eqc : qt.2.1 = tp.2.1 := by rw [eqt, plF_col]
        have hup : bs ≠ [] := fun z => by rw [z] at lbs; have : 0 = j + 1 - fs := lbs; omega
        have gl : bs[j - fs]? = some (bs.getLast hup) := by
          rw [List.getLast_eq_getElem, List.getElem?_eq_getElem (by omega)]
          congr 1
          simp only [lbs, show j + 1 - fs - 1 = j - fs by omega]
        obtain ⟨tq, gtq, dpq⟩ := dpAll_map_at Tr.dB gl
        have lp0 : (pbF cs ws (h + wm) b0).length = j - fs := by
          rw [epb, List.length_append] at lpb
          have : (pbF cs ws (h + wm) b0).length + 1 = j + 1 - fs := lpb
          omega
        have etq : tq = qt := by
          rw [epb, ← lp0, List.getElem?_concat_length] at gtq
          exact (Option.some.inj gtq).symm
        subst etq
        obtain ⟨pl, epl0, hpl⟩ := tr_dp (dp_off dpq)
        have al : atI bs (-1) = some (.ref pl) := by
          rw [← List.dropLast_concat_getLast hup, epl0]; exact atI_last _ _
        have etr : (!PyData.eqv (.list ((pbF cs ws (h + wm) bk).map trD)) (.list [])) = true := by
          cases hz : pbF cs ws (h + wm) bk with
          | nil => rw [hz] at lpb; have : 0 = j + 1 - fs := lpb; omega
          | cons _ _ => rfl
        rw [etr]
        refine iteT ?_
        refine ⟨_, rfl, 1, rfl, B, bs, _, .ref pl, rfl, rfl, SqL.of Tr.hB, al, pl, _, 3, _, rfl, rfl, hpl, rfl, ?_⟩
        refine ⟨_, rfl, _, rfl, 1, rfl, B, bs, _, .ref pl, rfl, rfl, SqL.of Tr.hB, al, pl, _, 1, _, rfl, rfl, hpl, rfl, _, rfl, v, cs, ws, some tq.2.1, t.2.1, rfl, dp_same Tr.sm dpP, pb.ok, (fun z e => by cases e; rw [eqc]; exact nmI (cb tp (List.mem_of_getElem? gtp)).2.2.2.2), nmI hit, fun H8 s8 => ?_⟩
        have Tr := Tr.same s8
        rw [eqc, ew]
        refine ⟨_, _, rfl, rfl, ?_⟩
        dsimp only
        obtain ⟨sN, esN⟩ : ∃ sN, sN = tq.2.2.2 + wh := ⟨_, rfl⟩
        rw [← esN]
        have hnx : nxF ws (h + wm) (pbF cs ws (h + wm) bk) t = sN := by
          rw [epb, esN]
          unfold nxF
          rw [List.getLast?_concat]
          show tq.2.2.2 + (washF ws (some tq.2.1) t.2.1).getD 0 = _
          rw [eqc, ew]; rfl
        clear gl al gtq hpl
        generalize j + 1 = i at *
        generalize H8 = HZ at Tr ⊢
        refine ⟨_, rfl, _, rfl, _, _, rfl, ?_⟩
        refine ⟨_, rfl, _, rfl, _, rfl, _, _, rfl, rfl, _, rfl, _, _, rfl, rfl, _, _, rfl, ?_⟩
        refine ⟨_, rfl, .inl ⟨rfl, _, SqL.of Tr.hB⟩, _, rfl, _, rfl, _, rfl, _, rfl, _, rfl, _, _, rfl, rfl, _, rfl, _, _, rfl, rfl, (by show 4 ≤ sizeLine; decide), fun p np => ?_⟩
        have epl : plF cs t sN = (mx t.1 sN, t.2.1, mx t.2.2.1 (mx t.1 sN + c.2.1 + c.2.2.1), mx t.2.2.1 (mx t.1 sN + c.2.1 + c.2.2.1) + t.2.2.2 - t.2.2.1) := by unfold plF; rw [ec]
        have T1 := Tr.same (same_upd (o := .tup [.int (mx t.1 sN), .str t.2.1, .int (mx t.2.2.1 (mx t.1 sN + c.2.1 + c.2.2.1)), .int (mx t.2.2.1 (mx t.1 sN + c.2.1 + c.2.2.1) + t.2.2.2 - t.2.2.1)]) np)
        have dn : Dp K (off (upd HZ p (.tup [.int (mx t.1 sN), .str t.2.1, .int (mx t.2.2.1 (mx t.1 sN + c.2.1 + c.2.2.1)), .int (mx t.2.2.1 (mx t.1 sN + c.2.1 + c.2.2.1) + t.2.2.2 - t.2.2.1)])) [E, B, M]) (.ref p) (trD (plF cs t sN)) := by
          rw [epl]
          exact .tup (.inl (.inl (off_new Tr.live np))) (.cons (.int _) (.cons (.str _) (.cons (.int _) (.cons (.int _) .nil))))
        have nmp : Nm (plF cs t sN).2.1 := by rw [plF_col]; exact nmI hit
        refine ⟨B, bs, _, rfl, rfl, T1.hB, (by rw [sizeLine_eq]; omega), ?_⟩
        have T2 := T1.appB dn
        have eB : pbF cs ws (h + wm) (bk ++ [t]) = pbF cs ws (h + wm) bk ++ [plF cs t sN] := by rw [pbF_snoc, hnx]
        have eM : mvF fs (pbF cs ws (h + wm) bk ++ [plF cs t sN]) (bk ++ [t]) = mvF fs (pbF cs ws (h + wm) bk) bk ++ (if plF cs t sN = t then [] else [((i : Nat) : Int)]) := by rw [mvF_snoc (by omega), lpb, show fs + (i - fs) = i by omega]
        have lM : (mvF fs (pbF cs ws (h + wm) bk) bk).length ≤ 31 := Nat.le_trans (mvF_len _ _ _) (by omega)
        have elo : (if le < fs ∧ le < i then some ((le : Nat) : Int) else none) = (if le < fs ∧ le < i + 1 then some ((le : Nat) : Int) else none) := by
          by_cases z : le < fs
          · rw [if_pos ⟨z, by omega⟩, if_pos ⟨z, by omega⟩]
          · rw [if_neg (fun y => z y.1), if_neg (fun y => z y.1)]
        generalize plF cs t sN = pn at T2 eB eM nmp dn
        refine ⟨_, rfl, 1, rfl, B, _, _, .ref p, rfl, rfl, SqL.of T2.hB, atI_last _ _, _, rfl, _, rfl, a, _, _, _, rfl, rfl, T2.sm.seq hS, atI_nat g2, trD pn, trD t, ?_, dp_same T2.sm dp, tr_shaped nmp, tr_shaped (nmI hit), _, rfl, ?_⟩
        · obtain ⟨tq, gtq, dpq⟩ := dpAll_map_at T2.dB (i := bs.length) (x := .ref p) (by rw [List.getElem?_concat_length])
          have : tq = pn := by
            rw [lbs, ← lpb, List.getElem?_concat_length] at gtq
            exact (Option.some.inj gtq).symm
          subst this
          exact dp_off dpq
        rw [eqv_tr]
        by_cases hq : pn = t
        · rw [decide_eq_true hq]
          refine iteF ⟨_, _, _, _, _, _, _, _, _, _, _, _, (by rw [elo]; rfl), (by rw [e1, etb, eB, eM, if_pos hq, List.append_nil]; exact T2), fun z => absurd z (by omega)⟩
        · rw [decide_eq_false hq]
          refine iteT ?_
          refine ⟨_, rfl, .inl ⟨rfl, _, SqL.of T2.hM⟩, _, rfl, M, _, _, rfl, rfl, T2.hM, (by rw [List.length_map, sizeLine_eq]; omega), ?_⟩
          refine ⟨_, _, _, _, _, _, _, _, _, _, _, _, (by rw [elo]; rfl), (by rw [e1, etb, eB, eM, if_neg hq]; exact T2.appM), fun z => absurd z (by omega)⟩
    · rintro σ Hx ⟨es, bs, fr, v9, v10, v11, v12, v13, v14, v15, v16, v17, rfl, Tr, hfr⟩
      rw [lx, List.take_length, List.take_of_length_le (show (ts.drop fs).length ≤ ts.length - fs by rw [List.length_drop]; exact Nat.le_refl _)] at Tr
      refine ⟨_, rfl, _, rfl, _, rfl, _, rfl, (by show 4 ≤ sizeLine; decide), fun p np => ?_⟩
      have l1 := srt.l1
      have l2 := srt.l2
      have l3 := srt.l3
      have eb : behF cs ws h wm ts = pbF cs ws (h + wm) (ts.drop fs) := by unfold behF; rw [← efs]
      have el : lostF h ts = (if le < fs ∧ le < xs.length then some ((le : Nat) : Int) else none) := by
        unfold lostF
        rw [← efs, ← ele]
        by_cases z : le < fs
        · rw [if_pos z, if_pos ⟨z, by omega⟩, show ((fs : Nat) : Int) - 1 = ((le : Nat) : Int) by omega]
        · rw [if_neg z, if_neg (fun y => z y.1)]
      rw [eb, el, ← efs] at q
      exact q _ p E B M es bs (Tr.br np)

end
end Pot

namespace Pot
open PySem PySem.Spec PyProof.Rows L2
section
variable {P : Program} {w : World} {K : PySem.W.Frag} {mg : Str → Option Value} {base : Heap}
theorem Acc.begin {H0 H : Hp} {b R : Addr} {fs : List (V × PyData)} {n : Nat} {us : List V} {ds : List PyData} (B : Bp H b n) (s : Sm [b] H0 H) (h : H R = none) (fr : ∀ p ∈ fs, Dp K (off H [b]) p.1 p.2) (dR : DpAll K (off H [b]) us ds) : Acc K H0 b R fs n us ds (upd H R (.lst us)) := by
  have e : off (upd H R (.lst us)) [R, b] = off H [b] := off_fresh h
  exact ⟨B.put h, s.trans (sm_put h), B.ne h, sm_free s B.bx h, fun q hq => by rw [e]; exact fr q hq, upd_same, by rw [e]; exact dR⟩
abbrev s__law_when : Stmt := topS 41
def n__law_when : List Str := ["_law_box_here", "_law_turns_here", "_law_some", "_law_turn", "_law_one"]
theorem sc__law_when : FnScope n__law_when ["_law_box_here", "_law_turns_here"] (defScope s__law_when) := ⟨rfl, rfl, rfl, by decide +kernel, rfl, by decide +kernel, by decide +kernel⟩
def spWhen (K : PySem.W.Frag) : Sp := fun vs H Q _ => ∃ (b : Addr) (n : Nat) (a : Addr) (xs : List V) (ts : List Trn), vs = [.ref b, .ref a] ∧ Bp H b n ∧ n + 100 < 2 ^ 40 ∧ off H [b] a = some (.lst xs) ∧ DpAll K (off H [b]) xs (ts.map trD) ∧ ts.length ≤ 31 ∧ (∀ t ∈ ts, Nm t.2.1) ∧
  ∀ (H' : Hp) (h : Int), Bp H' b (n + 15) → Sm [b] H H' → 0 ≤ h → h ≤ 1000000 → Q (.int h) H'
set_option maxHeartbeats 2000000 in
theorem ok_when {f : Addr} {fd : FuncData} {k : Nat} (F : Fun K "_law_when" "_law_when" s__law_when f fd) (T : Txt mg) (c__law_take : Cl P w K mg base (k + 1) "_law_take" spTake) : FnOk P w K mg base CX0 (k + 2) f fd ["_law_box_here", "_law_turns_here"] (spWhen K) := by
  refine F.ok sc__law_when (fun vs H Q E h => ?_) (fun cdv A outer s H vs Q E hr h => ?_)
  · obtain ⟨b, n, a, xs, ts, rfl, _⟩ := h
    rfl
  · obtain ⟨b, n, a, xs, ts, rfl, B, hn, fa, dax, l31, nmt, q⟩ := h
    have nd := sc__law_when.nd
    have hu64 := hr.units
    /- 0 _law_box_here, 1 _law_turns_here, 2 _law_some, 3 _law_turn, 4 _law_one -/
    refine ⟨_, (pss_cons (ps_set (i := 2) nd rfl (.inl rfl) (pe_lst (pa_cons pe_int (pa_cons (pe_cl c__law_take hr (by omega) (by rfl) (pa_cons (pv 0) (pa_cons pe_int pa_nil))) (pa_cons (pe_op op_pow pe_int pe_int) pa_nil)))))
      (pss_cons (ps_for PassesOwn.never rfl (pi_range1 (by rfl) T.range (pa_cons (pe_op op_mul pe_int (pe_callTy call_int1 (by rfl) T.int (by decide +kernel) (pa_cons (pe_cmpR (ko_ne (K := K) hu64) (pv 1) (pe_lst pa_nil) (nomark _)) pa_nil))) pa_nil)) (pg_name (i := 3) nd rfl (.inl rfl))
          (pss_cons (ps_set (i := 4) nd rfl (.inl rfl) (pe_ix (kx_list (K := K)) (pv 1) (pe_cl c__law_take hr (by omega) (by rfl) (pa_cons (pv 0) (pa_cons (pe_callB (kc_len (K := K)) (by rfl) T.len PySem.boot_len (pa_cons (pv 1) pa_nil)) pa_nil))) (fun _ _ => rfl)))
          (pss_one (ps_expr (pe_bm PySem.F.plainAttrs_list PySem.F.slot_list_append PySem.F.type_list_append mt_append (pv 2) (pa_cons (pe_op op_sub (pe_op op_add (pe_ix (kx_list (K := K)) (pe_lst (pa_cons (pe_ix (kx_tup (K := K)) (pv 4) pe_int (fun _ _ => rfl)) (pa_cons (pe_ix (kx_tup (K := K)) (pv 4) pe_int (fun _ _ => rfl)) (pa_cons (pe_ix (kx_tup (K := K)) (pv 4) pe_int (fun _ _ => rfl)) pa_nil)))) (pe_cl c__law_take hr (by omega) (by rfl) (pa_cons (pv 0) (pa_cons pe_int pa_nil))) (fun _ _ => rfl)) (pe_cl c__law_take hr (by omega) (by rfl) (pa_cons (pv 0) (pa_cons pe_int pa_nil)))) pe_int) pa_nil))))))
      (pss_one (ps_ret (pe_callB (call_max2 rfl) (by rfl) T.max (by decide +kernel) (pa_cons pe_int (pa_cons (pe_callB (call_min2 rfl) (by rfl) T.min (by decide +kernel) (pa_cons (pe_op op_pow pe_int pe_int) (pa_cons (pe_ix (kx_list (K := K)) (pv 2) (pe_cl c__law_take hr (by omega) (by rfl) (pa_cons (pv 0) (pa_cons (pe_callB (kc_len (K := K)) (by rfl) T.len PySem.boot_len (pa_cons (pv 2) pa_nil)) pa_nil))) (fun _ _ => rfl)) pa_nil))) pa_nil))))))), ?_⟩
    have lx : xs.length = ts.length := dpAll_map_len dax
    have e6 := e106
    refine ⟨_, rfl, b, 300, _, rfl, (by decide), (by decide), B, by omega, fun H1 r1 r10 r11 B1 s1 => ?_⟩
    have fa := s1 _ _ fa
    have dax := dpAll_same s1 dax
    refine ⟨_, _, rfl, rfl, ⟨by decide, by decide, by decide⟩, (by show 3 ≤ sizeLine; decide), fun R nR => ?_⟩
    have A0 := Acc.begin (K := K) (fs := [(.ref a, .list (ts.map trD))]) (us := [.int 0, .int r1, .int (10 ^ Int.toNat 6)]) (ds := [0, r1, 10 ^ Int.toNat 6].map PyData.int) B1 s1 nR (fun p hp => by rw [List.mem_singleton.mp hp]; exact .lst (SqL.of fa) dax) (.cons (.int _) (.cons (.int _) (.cons (.int _) .nil)))
    generalize upd H1 R (.lst [.int 0, .int r1, .int (10 ^ Int.toNat 6)]) = H2 at A0 ⊢
    have dA := A0.kept (q := (.ref a, .list (ts.map trD))) (by simp)
    refine ⟨_, rfl, Nat.zero_le _, fun e ne => ?_⟩
    have A0 := A0.put (o := .lst []) ne
    have he : upd H2 e (.lst []) e = some (.lst []) := upd_same
    generalize upd H2 e (.lst []) = H3 at A0 he ⊢
    have dA := A0.kept (q := (.ref a, .list (ts.map trD))) (by simp)
    refine ⟨.list (ts.map trD), .list [], dp_off dA, .lst (SqL.of he) .nil, trs_shaped nmt, rfl, .inr ⟨_, rfl, _, _, rfl, rfl, .inr (b01 _), ?_⟩⟩
    obtain ⟨z, ez, z3, zne⟩ : ∃ z : Int, z = 3 * (if (!PyData.eqv (.list (ts.map trD)) (.list [])) = true then 1 else 0) ∧ (0 ≤ z ∧ z ≤ 3) ∧ (0 < z → 0 < ts.length) := ⟨_, rfl, by split <;> decide, fun h => by
      cases ts with
      | nil => exact absurd h (by decide)
      | cons _ _ => exact Nat.succ_pos _⟩
    refine ⟨z, (by rw [ez]), (by omega), (by omega), ?_⟩
    refine for_it walk_range (fun i σ Hx => ∃ v3 v4 us ns, σ = [some (.ref b), some (.ref a), some (.ref R), v3, v4] ∧ Acc K H b R [(.ref a, .list (ts.map trD))] (n + 1 + 3 * i) us (ns.map PyData.int) Hx ∧ us = ns.map V.int ∧ ns.length = 3 + i) ⟨_, _, _, [0, r1, 10 ^ Int.toNat 6], rfl, A0, rfl, rfl⟩ (fun _ _ _ _ _ => trivial) ?_ ?_
    · rintro i x σ Hax Ha hi ⟨v3, v4, us, ns, rfl, A1, rfl, lns⟩ ⟨rfl, rfl⟩
      have hi3 : i < 3 := by omega
      have lp := zne (by omega)
      have dA := A1.fr (.ref a, .list (ts.map trD)) (by simp)
      obtain ⟨a', xs', ea, hS', dx'⟩ := dp_lst dA
      cases ea
      have lx' : xs'.length = ts.length := dpAll_map_len dx'
      refine ⟨_, rfl, _, rfl, _, rfl, _, _, rfl, .inl ⟨_, sq_off hS', rfl⟩, b, _, _, rfl, (by omega), (by omega), A1.st, by omega, fun Hb rc c0 c1 Bb sb => ?_⟩
      have A1 := A1.drawn Bb sb
      have dx' := dpAll_same (sm_one (S := [R, b]) (by simp) sb) dx'
      have hS' := (sm_one (S := [R, b]) (by simp) sb).seq hS'
      obtain ⟨rn, rfl⟩ : ∃ rn : Nat, rc = (rn : Int) := ⟨rc.toNat, by omega⟩
      have hrn : rn < xs'.length := by omega
      obtain ⟨t, gt, dpt⟩ := dpAll_map_at dx' (List.getElem?_eq_getElem hrn)
      obtain ⟨pt, ept, hpt⟩ := tr_dp dpt
      refine ⟨a, _, _, _, rfl, rfl, sq_off hS', atI_nat (by rw [List.getElem?_eq_getElem hrn, ept]), ?_⟩
      refine ⟨_, rfl, .inl ⟨rfl, _, SqL.of A1.hR⟩, _, rfl, pt, _, 0, _, rfl, rfl, sqt_off hpt, rfl, _, rfl, pt, _, 2, _, rfl, rfl, sqt_off hpt, rfl, _, rfl, pt, _, 3, _, rfl, rfl, sqt_off hpt, rfl, (by show 3 ≤ sizeLine; decide), fun l nl => ?_⟩
      refine ⟨_, rfl, b, 3, _, rfl, (by decide), (by decide), (A1.put nl).st, by omega, fun Hc rd d0 d1 Bc sc => ?_⟩
      have hl := sm1_at sc (A1.st.ne nl) upd_same
      have A1 := (A1.put nl).drawn Bc sc
      obtain ⟨ho, eo⟩ : ∃ x : Int, atI [V.int t.1, .int t.2.2.1, .int t.2.2.2] rd = some (.int x) := by
        have h : rd = 0 ∨ rd = 1 ∨ rd = 2 := by omega
        rcases h with rfl | rfl | rfl
        · exact ⟨_, rfl⟩
        · exact ⟨_, rfl⟩
        · exact ⟨_, rfl⟩
      refine ⟨l, _, rd, _, rfl, rfl, SqL.of hl, eo, ?_⟩
      refine ⟨_, rfl, b, 3, _, rfl, (by decide), (by decide), A1.st, by omega, fun Hd re re0 re1 Bd sd => ?_⟩
      have A1 := A1.drawn Bd sd
      refine ⟨_, _, rfl, rfl, _, _, rfl, rfl, R, _, _, rfl, rfl, A1.hR, (by rw [List.length_map, lns, sizeLine_eq]; omega), ?_⟩
      have A2 := A1.app (v := .int (ho + re - 1)) (d := .int (ho + re - 1)) (.int _)
      refine ⟨_, _, _, ns ++ [ho + re - 1], rfl, (by rw [List.map_append]; exact A2.mono (by omega)), by rw [List.map_append]; rfl, by rw [List.length_append, lns]; rfl⟩
    · rintro σ Ha ⟨v3, v4, us, ns, rfl, A1, rfl, lns⟩
      have lz : z.toNat ≤ 3 := by omega
      refine ⟨_, _, rfl, rfl, ⟨by decide, by decide, by decide⟩, _, rfl, _, rfl, _, rfl, _, _, rfl, .inl ⟨_, SqL.of A1.hR, rfl⟩, b, _, _, rfl, (by rw [List.length_map, lns]; omega), (by rw [List.length_map, lns]; omega), A1.st, by omega, fun Hb rc c0 c1 Bb sb => ?_⟩
      have A1 := A1.drawn Bb sb
      rw [List.length_map] at c1
      obtain ⟨rn, rfl⟩ : ∃ rn : Nat, rc = (rn : Int) := ⟨rc.toNat, by omega⟩
      have hrn : rn < ns.length := by omega
      refine ⟨R, _, _, _, rfl, rfl, SqL.of A1.hR, atI_nat (by rw [List.getElem?_map, List.getElem?_eq_getElem hrn]; rfl), _, _, rfl, _, _, rfl, ?_⟩
      rw [e6]
      refine q _ _ (A1.st.mono (by omega)) A1.sm ?_ ?_
      · split <;> (try split at *) <;> omega
      · split <;> (try split at *) <;> omega
abbrev s__law_warmth : Stmt := topS 42
def n__law_warmth : List Str := ["_law_box_here"]
theorem sc__law_warmth : FnScope n__law_warmth ["_law_box_here"] (defScope s__law_warmth) := ⟨rfl, rfl, rfl, by decide +kernel, rfl, by decide +kernel, by decide +kernel⟩
def spWarmth : Sp := fun vs H Q _ => ∃ (b : Addr) (n : Nat), vs = [.ref b] ∧ Bp H b n ∧ n + 100 < 2 ^ 40 ∧ ∀ (H' : Hp) (h : Int), Bp H' b (n + 3) → Sm [b] H H' → 0 ≤ h → h ≤ 10000 → Q (.int h) H'
theorem ok_warmth {f : Addr} {fd : FuncData} {k : Nat} (F : Fun K "_law_warmth" "_law_warmth" s__law_warmth f fd) (T : Txt mg) (c__law_take : Cl P w K mg base (k + 1) "_law_take" spTake) : FnOk P w K mg base CX0 (k + 2) f fd ["_law_box_here"] spWarmth := by
  refine F.ok sc__law_warmth (fun vs H Q E h => ?_) (fun cdv A outer s H vs Q E hr h => ?_)
  · obtain ⟨b, n, rfl, _⟩ := h
    rfl
  · obtain ⟨b, n, rfl, B, hn, q⟩ := h
    have nd := sc__law_warmth.nd
    /- 0 _law_box_here -/
    refine ⟨_, (pss_one (ps_ret (pe_ix (kx_list (K := K)) (pe_lst (pa_cons pe_int (pa_cons pe_int (pa_cons pe_int (pa_cons (pe_cl c__law_take hr (by omega) (by rfl) (pa_cons (pv 0) (pa_cons pe_int pa_nil))) (pa_cons (pe_cl c__law_take hr (by omega) (by rfl) (pa_cons (pv 0) (pa_cons pe_int pa_nil))) (pa_cons (pe_op op_pow pe_int pe_int) pa_nil))))))) (pe_cl c__law_take hr (by omega) (by rfl) (pa_cons (pv 0) (pa_cons pe_int pa_nil))) (fun _ _ => rfl)))), ?_⟩
    refine ⟨_, rfl, b, 60, _, rfl, (by decide), (by decide), B, by omega, fun H1 r1 r10 r11 B1 s1 => ?_⟩
    refine ⟨_, rfl, b, 400, _, rfl, (by decide), (by decide), B1, by omega, fun H2 r2 r20 r21 B2 s2 => ?_⟩
    refine ⟨_, _, rfl, rfl, ⟨by decide, by decide, by decide⟩, (by show 6 ≤ sizeLine; decide), fun l nl => ?_⟩
    refine ⟨_, rfl, b, 6, _, rfl, (by decide), (by decide), B2.put nl, by omega, fun H3 r3 r30 r31 B3 s3 => ?_⟩
    have hl := sm1_at s3 (B2.ne nl) upd_same
    obtain ⟨w, ew, w0, w1⟩ : ∃ x : Int, atI [V.int 0, .int 1, .int 24, .int r1, .int r2, .int (10 ^ Int.toNat 4)] r3 = some (.int x) ∧ 0 ≤ x ∧ x ≤ 10000 := by
      have h : r3 = 0 ∨ r3 = 1 ∨ r3 = 2 ∨ r3 = 3 ∨ r3 = 4 ∨ r3 = 5 := by omega
      have e4 : (10 : Int) ^ Int.toNat 4 = 10000 := by decide
      rcases h with rfl | rfl | rfl | rfl | rfl | rfl
      · exact ⟨_, rfl, by omega, by omega⟩
      · exact ⟨_, rfl, by omega, by omega⟩
      · exact ⟨_, rfl, by omega, by omega⟩
      · exact ⟨_, rfl, by omega, by omega⟩
      · exact ⟨_, rfl, by omega, by omega⟩
      · exact ⟨_, rfl, by omega, by omega⟩
    refine ⟨l, _, r3, _, rfl, rfl, SqL.of hl, ew, ?_⟩
    exact q _ _ (B3.mono (by omega)) (s1.trans (s2.trans ((sm_put nl).trans s3))) w0 w1

end
end Pot

namespace Pot
open PySem PySem.Spec PyProof.Rows L2
section
variable {P : Program} {w : World} {K : PySem.W.Frag} {mg : Str → Option Value} {base : Heap}
/-! ### truths in a thing -/
def hbAll : List PyData → Bool
  | [] => false
  | x :: xs => hb x || hbAll xs
where hb : PyData → Bool
  | .bool _ => true
  | .list xs => hbAll xs
  | .tuple xs => hbAll xs
  | _ => false
abbrev hbD (d : PyData) : Bool := hbAll.hb d
theorem hbAll_any : ∀ ds : List PyData, hbAll ds = (ds.map hbD).any id
  | [] => rfl
  | x :: xs => by
    show (hbD x || hbAll xs) = _
    rw [hbAll_any xs]; rfl
theorem kit_lt2 {H : Hp} {x : V} {d : PyData} (h : Dp K H x d) : PySem.W.kitAny K (.type (tyD d)) [.type "list", .type "tuple"] = some (isListD d || isTupD d) := kit_lt h
abbrev s_holds_truth : Stmt := topS 7
def n_holds_truth : List Str := ["thing", "part"]
theorem sc_holds_truth : FnScope n_holds_truth ["thing"] (defScope s_holds_truth) := ⟨rfl, rfl, rfl, by decide +kernel, rfl, by decide +kernel, by decide +kernel⟩
def spHt (K : PySem.W.Frag) (k : Nat) : Sp := fun vs H Q _ => ∃ (x : V) (d : PyData) (m : Nat), vs = [x] ∧ Dp K H x d ∧ d.depth < k ∧ gdAll.gd m d ∧ widAll.wid d ≤ 5000 ∧ ∀ H', Same H H' → Q (.bl (hbD d)) H'
theorem ok_ht {f : Addr} {fd : FuncData} (F : Fun K "holds_truth" "holds_truth" s_holds_truth f fd) (T : Txt mg) (bF : Binds K fd ["thing"] []) (gF : mg "holds_truth" = some (.ref f)) :
    ∀ k : Nat, FnOk P w K mg base CX0 (k + 1) f fd ["thing"] (spHt K k) := by
  intro k
  induction k with
  | zero =>
    refine F.ok sc_holds_truth (fun vs H Q E h => ?_) (fun cdv A outer s H vs Q E hr h => ?_)
    · obtain ⟨x, d, m, rfl, _⟩ := h
      rfl
    · obtain ⟨x, d, m, rfl, _, hd, _⟩ := h
      exact absurd hd (Nat.not_lt_zero _)
  | succ k G =>
    refine F.ok sc_holds_truth (fun vs H Q E h => ?_) (fun cdv A outer s H vs Q E hr h => ?_)
    · obtain ⟨x, d, m, rfl, _⟩ := h
      rfl
    · obtain ⟨x, d, m, rfl, dx, hd, hg, hw, q⟩ := h
      have nd := sc_holds_truth.nd
      /- 0 thing, 1 part -/
      refine ⟨_, (pss_cons (ps_if (pt_val (pe_callB (kc_isiT (K := K)) (by rfl) T.isinstance (by decide +kernel) (pa_cons (pv 0) (pa_cons (pe_tup (pa_cons (pe_bltn (v := .ty "list") (by rfl) T.list (by decide +kernel) rfl) (pa_cons (pe_bltn (v := .ty "tuple") (by rfl) T.tuple (by decide +kernel) rfl) pa_nil))) pa_nil))))
          (pss_one (ps_ret (pe_callB (kc_any (K := K)) (by rfl) T.any (by decide +kernel) (pa_cons (pe_lc (own := [("part", 1)]) rfl nd (ki_anyS (K := K) (pv 0)) (blkOk_by (N := n_holds_truth) (sc := defScope s_holds_truth) (by decide +kernel)) (fun _ _ _ _ _ => (pg_name (i := 1) nd rfl (.inl rfl))) (fun _ _ _ _ _ => pts_nil) (fun _ _ _ _ _ => (pe_call G hr (by rfl) gF F.kp bF .nil pass0 (pa_cons (pv 1) pa_nil)))) pa_nil))))
          pss_nil)
      (pss_one (ps_ret (pe_callB (kc_isi (K := K)) (by rfl) T.isinstance (by decide +kernel) (pa_cons (pv 0) (pa_cons (pe_bltn (v := .ty "bool") (by rfl) T.bool (by decide +kernel) rfl) pa_nil)))))), ?_⟩
      refine ⟨_, rfl, (by show 2 ≤ sizeLine; decide), fun t nt => ?_⟩
      have s1 := same_upd (o := .tup [.ty "list", .ty "tuple"]) nt
      have dx := dp_same s1 dx
      have ht : upd H t (.tup [.ty "list", .ty "tuple"]) t = some (.tup [.ty "list", .ty "tuple"]) := upd_same
      generalize upd H t (.tup [.ty "list", .ty "tuple"]) = H1 at s1 dx ht ⊢
      refine ⟨_, t, _, _, _, _, rfl, ht, .cons (.ty _) (.cons (.ty _) .nil), tyx_dp dx, kit_lt dx, _, rfl, ?_⟩
      have dx0 := dx
      cases dx with
      | @lst a xs ds hl ha =>
        refine iteT (.inl ⟨_, rfl, a, rfl, ⟨_, hl⟩, fun D nD => ?_⟩)
        refine lc_it (walk_list (xs := xs)) (PvL H1 D fun i => ((ds.map hbD).take i).map V.bl) (pv_start nD rfl) (fun i H2 _ h => h.1.seq hl) ?_ ?_
        · skip
          have lx := dpAll_len ha
          have l5 : ds.length ≤ 5000 := Nat.le_trans (Nat.le_max_left _ _) hw
          rintro i y Hax Ha hi p ⟨rfl, gy⟩
          obtain ⟨d1, g1, p1⟩ := dpAll_at ha gy
          refine ⟨rfl, tYes_at ?_⟩
          rw [if_pos rfl]
          refine ⟨_, rfl, y, d1, m, rfl, dp_same p.1 p1, ?_, gdAll_iff.mp hg d1 (List.mem_of_getElem? g1), ?_, fun Hb sb => ?_⟩
          · have h1 := depth_at g1
            have h2 : PyData.depthAll ds + 1 < k + 1 := hd
            omega
          · exact Nat.le_trans (wid_at g1) (Nat.le_trans (Nat.le_max_right _ _) hw)
          · exact pv_put nD p sb (take_map V.bl (by rw [List.getElem?_map, g1]; rfl)) (take_len_le (by rw [List.length_map]; omega))
        · skip
          have lx := dpAll_len ha
          intro Ha p
          obtain ⟨s2, hD⟩ := pv_end p (take_all (by rw [List.length_map, lx]; exact Nat.le_refl _))
          refine ⟨D, _, rfl, SqL.of hD, ?_⟩
          have e : hbAll ds = (ds.map hbD).any id := hbAll_any ds
          rw [← e]
          exact q _ (s1.trans s2)
      | @tup a xs ds hl ha =>
        refine iteT (.inr ⟨_, rfl, a, rfl, ⟨_, hl⟩, fun D nD => ?_⟩)
        refine lc_it (walk_tup (xs := xs)) (PvL H1 D fun i => ((ds.map hbD).take i).map V.bl) (pv_start nD rfl) (fun i H2 _ h => same_tup h.1 hl) ?_ ?_
        · skip
          have lx := dpAll_len ha
          have l5 : ds.length ≤ 5000 := Nat.le_trans (Nat.le_max_left _ _) hw
          rintro i y Hax Ha hi p ⟨rfl, gy⟩
          obtain ⟨d1, g1, p1⟩ := dpAll_at ha gy
          refine ⟨rfl, tYes_at ?_⟩
          rw [if_pos rfl]
          refine ⟨_, rfl, y, d1, m, rfl, dp_same p.1 p1, ?_, gdAll_iff.mp hg d1 (List.mem_of_getElem? g1), ?_, fun Hb sb => ?_⟩
          · have h1 := depth_at g1
            have h2 : PyData.depthAll ds + 1 < k + 1 := hd
            omega
          · exact Nat.le_trans (wid_at g1) (Nat.le_trans (Nat.le_max_right _ _) hw)
          · exact pv_put nD p sb (take_map V.bl (by rw [List.getElem?_map, g1]; rfl)) (take_len_le (by rw [List.length_map]; omega))
        · skip
          have lx := dpAll_len ha
          intro Ha p
          obtain ⟨s2, hD⟩ := pv_end p (take_all (by rw [List.length_map, lx]; exact Nat.le_refl _))
          refine ⟨D, _, rfl, SqL.of hD, ?_⟩
          have e : hbAll ds = (ds.map hbD).any id := hbAll_any ds
          rw [← e]
          exact q _ (s1.trans s2)
      | int i => exact iteF ⟨_, rfl, _, .ty _, _, _, isBoolD _, rfl, .ty _, tyx_dp dx0, kit_bool dx0, q _ s1⟩
      | bl b => exact iteF ⟨_, rfl, _, .ty _, _, _, isBoolD _, rfl, .ty _, tyx_dp dx0, kit_bool dx0, q _ s1⟩
      | str z => exact iteF ⟨_, rfl, _, .ty _, _, _, isBoolD _, rfl, .ty _, tyx_dp dx0, kit_bool dx0, q _ s1⟩
      | non => exact iteF ⟨_, rfl, _, .ty _, _, _, isBoolD _, rfl, .ty _, tyx_dp dx0, kit_bool dx0, q _ s1⟩

end
end Pot

namespace Pot
open PySem PySem.Spec PyProof.Rows L2
section
variable {P : Program} {w : World} {K : PySem.W.Frag} {mg : Str → Option Value} {base : Heap}
/-! ### two things alike, kind by kind -/
def smAll : List PyData → List PyData → Bool
  | [], [] => true
  | x :: xs, y :: ys => sm x y && smAll xs ys
  | _, _ => false
where sm : PyData → PyData → Bool
  | .none, .none => true
  | .int i, .int j => i == j
  | .str x, .str y => x == y
  | .list xs, .list ys => smAll xs ys
  | .tuple xs, .tuple ys => smAll xs ys
  | _, _ => false
abbrev smD (f d : PyData) : Bool := smAll.sm f d
theorem sm_zip : ∀ {fs ds : List PyData}, fs.length = ds.length → smAll fs ds = (List.zipWith smD fs ds).all id
  | [], [], _ => rfl
  | [], _ :: _, h => by cases h
  | _ :: _, [], h => by cases h
  | x :: fs, y :: ds, h => by
    show (smD x y && smAll fs ds) = _
    rw [sm_zip (Nat.succ.inj h)]; rfl
theorem sm_len : ∀ {fs ds : List PyData}, fs.length ≠ ds.length → smAll fs ds = false
  | [], [], h => absurd rfl h
  | [], _ :: _, _ => rfl
  | _ :: _, [], _ => rfl
  | x :: fs, y :: ds, h => by
    show (smD x y && smAll fs ds) = false
    rw [sm_len (fun z => h (by show fs.length + 1 = ds.length + 1; rw [z])), Bool.and_false]
theorem and4 (a b c d : Bool) : ((a && b) && !(c || d)) = ((a && !c) && (b && !d)) := by cases a <;> cases b <;> cases c <;> cases d <;> rfl
mutual
theorem sm_eqv {m m2 : Nat} : ∀ (f d : PyData), gdAll.gd m f → gdAll.gd m2 d → hbD d = false → (PyData.eqv f d && !hbD f) = smD f d
  | .dict _, _, h, _, _ => h.elim
  | _, .dict _, _, h, _ => h.elim
  | _, .bool _, _, _, h => by cases h
  | .bool b, .none, _, _, _ => by show (_ && false) = false; rw [Bool.and_false]
  | .bool b, .int _, _, _, _ => by show (_ && false) = false; rw [Bool.and_false]
  | .bool b, .str _, _, _, _ => by show (_ && false) = false; rw [Bool.and_false]
  | .bool b, .list _, _, _, _ => by show (_ && false) = false; rw [Bool.and_false]
  | .bool b, .tuple _, _, _, _ => by show (_ && false) = false; rw [Bool.and_false]
  | .none, .none, _, _, _ => rfl
  | .none, .int _, _, _, _ => rfl
  | .none, .str _, _, _, _ => rfl
  | .none, .list _, _, _, _ => rfl
  | .none, .tuple _, _, _, _ => rfl
  | .int _, .none, _, _, _ => rfl
  | .int i, .int j, _, _, _ => by show ((i == j) && true) = (i == j); rw [Bool.and_true]
  | .int _, .str _, _, _, _ => rfl
  | .int _, .list _, _, _, _ => rfl
  | .int _, .tuple _, _, _, _ => rfl
  | .str _, .none, _, _, _ => rfl
  | .str _, .int _, _, _, _ => rfl
  | .str x, .str y, _, _, _ => by
    show (PyData.eqv (.str x) (.str y) && true) = (x == y)
    rw [Bool.and_true]
    simp [PyData.eqv]
  | .str _, .list _, _, _, _ => rfl
  | .str _, .tuple _, _, _, _ => rfl
  | .list _, .none, _, _, _ => rfl
  | .list _, .int _, _, _, _ => rfl
  | .list _, .str _, _, _, _ => rfl
  | .list xs, .list ys, g1, g2, h => by
    have e : PyData.eqv (.list xs) (.list ys) = PyData.eqvAll xs ys := by simp [PyData.eqv]
    rw [e]
    exact smAll_eqv xs ys g1 g2 h
  | .list _, .tuple _, _, _, _ => rfl
  | .tuple _, .none, _, _, _ => rfl
  | .tuple _, .int _, _, _, _ => rfl
  | .tuple _, .str _, _, _, _ => rfl
  | .tuple _, .list _, _, _, _ => rfl
  | .tuple xs, .tuple ys, g1, g2, h => by
    have e : PyData.eqv (.tuple xs) (.tuple ys) = PyData.eqvAll xs ys := by simp [PyData.eqv]
    rw [e]
    exact smAll_eqv xs ys g1 g2 h
theorem smAll_eqv {m m2 : Nat} : ∀ (fs ds : List PyData), gdAll m fs → gdAll m2 ds → hbAll ds = false → (PyData.eqvAll fs ds && !hbAll fs) = smAll fs ds
  | [], [], _, _, _ => by simp [PyData.eqvAll, hbAll, smAll]
  | [], _ :: _, _, _, _ => by simp [PyData.eqvAll, smAll]
  | _ :: _, [], _, _, _ => by simp [PyData.eqvAll, smAll]
  | x :: fs, y :: ds, g1, g2, h => by
    have h2 : (hbD y || hbAll ds) = false := h
    obtain ⟨ha, hb⟩ := Bool.or_eq_false_iff.mp h2
    have e : PyData.eqvAll (x :: fs) (y :: ds) = (PyData.eqv x y && PyData.eqvAll fs ds) := by simp [PyData.eqvAll]
    rw [e]
    show ((PyData.eqv x y && PyData.eqvAll fs ds) && !(hbD x || hbAll fs)) = (smD x y && smAll fs ds)
    rw [and4, sm_eqv x y g1.1 g2.1 ha, smAll_eqv fs ds g1.2 g2.2 hb]
end

theorem hb_mem {ds : List PyData} {d : PyData} (h : hbAll ds = false) (hd : d ∈ ds) : hbD d = false := by
  rw [hbAll_any] at h
  cases e : hbD d with
  | false => rfl
  | true => exact absurd (List.any_eq_true.mpr ⟨true, List.mem_map.mpr ⟨d, hd, e⟩, rfl⟩) (by rw [h]; exact Bool.false_ne_true)

end
end Pot

namespace Pot
open PySem PySem.Spec PyProof.Rows L2
section
variable {P : Program} {w : World} {K : PySem.W.Frag} {mg : Str → Option Value} {base : Heap}
def TrB (cs : List Col) (m : Nat) (t : Trn) : Prop := InC cs t.2.1 ∧ t.1.natAbs ≤ m ∧ t.2.2.1.natAbs ≤ m ∧ t.2.2.2.natAbs ≤ m
theorem TrB.mono {cs : List Col} {m m' : Nat} {t : Trn} (h : TrB cs m t) (l : m ≤ m') : TrB cs m' t := ⟨h.1, Nat.le_trans h.2.1 l, Nat.le_trans h.2.2.1 l, Nat.le_trans h.2.2.2 l⟩
theorem trs_gd {cs : List Col} (wd : ∀ c ∈ cs, Nm c.1) {m : Nat} {ts : List Trn} (h : ∀ t ∈ ts, TrB cs m t) : gdAll.gd m (.list (ts.map trD)) := gdAll_iff.mpr fun d hd => by
  obtain ⟨t, ht, rfl⟩ := List.mem_map.mp hd
  obtain ⟨⟨c, hc, e⟩, h1, h2, h3⟩ := h t ht
  have n := wd c hc
  rw [e] at n
  exact ⟨h1, ⟨Nat.le_trans n.1.1 (by decide), fun x hx => Nat.lt_trans (n.ascii x hx) (by decide)⟩, h2, h3, trivial⟩
theorem trs_wid {ts : List Trn} (h : ts.length ≤ 60) : widAll.wid (.list (ts.map trD)) ≤ 60 := by
  refine Nat.max_le.mpr ⟨by rw [List.length_map]; exact h, widAll_iff.mpr fun d hd => ?_⟩
  obtain ⟨t, _, rfl⟩ := List.mem_map.mp hd
  show max 4 (max 0 (max 0 (max 0 (max 0 0)))) ≤ 60
  decide
theorem th_pal {cs : List Col} {ws : List Wsh} (h : PalC cs ws) : Th 10000 1000000 3 60 (palD cs ws) := by
  have l1 := h.le
  have l2 := h.ok.nw
  have wc : ∀ c : Col, widAll.wid (colD c) ≤ 60 := fun c => by
    show max 4 (max 0 (max 0 (max 0 (max 0 0)))) ≤ 60
    decide
  have ww : ∀ r : Wsh, widAll.wid (washD r) ≤ 60 := fun r => by
    show max 3 (max 0 (max 0 (max (widAll.wid (optD r.2.2)) 0))) ≤ 60
    cases r.2.2 <;> (show max 3 (max 0 (max 0 (max 0 0))) ≤ 60; decide)
  refine ⟨⟨gdAll_iff.mpr fun d hd => ?_, gdAll_iff.mpr fun d hd => ?_, trivial⟩, pal_cost h.ok, pal_depth cs ws, ?_⟩
  · obtain ⟨c, hc, rfl⟩ := List.mem_map.mp hd
    obtain ⟨a1, a2, a3, a4, a5⟩ := h.ok.cn c hc
    exact ⟨⟨by omega, a2⟩, Nat.le_of_lt a3, Nat.le_of_lt a4, Nat.le_of_lt a5, trivial⟩
  · obtain ⟨r, hr, rfl⟩ := List.mem_map.mp hd
    obtain ⟨a1, a2, a3⟩ := h.ok.wn r hr
    refine ⟨⟨by omega, a1.2⟩, ⟨by omega, a2.2⟩, ?_, trivial⟩
    cases e : r.2.2 with
    | none => trivial
    | some i => exact Nat.le_of_lt (a3 i e)
  · show max 2 (widAll _) ≤ 60
    refine Nat.max_le.mpr ⟨by decide, widAll_iff.mpr fun d hd => ?_⟩
    simp only [List.mem_cons, List.not_mem_nil, or_false] at hd
    rcases hd with rfl | rfl
    · show max _ (widAll _) ≤ 60
      refine Nat.max_le.mpr ⟨by rw [List.length_map]; omega, widAll_iff.mpr fun d hd => ?_⟩
      obtain ⟨c, hc, rfl⟩ := List.mem_map.mp hd
      exact wc c
    · show max _ (widAll _) ≤ 60
      refine Nat.max_le.mpr ⟨by rw [List.length_map]; omega, widAll_iff.mpr fun d hd => ?_⟩
      obtain ⟨r, hr, rfl⟩ := List.mem_map.mp hd
      exact ww r
theorem th_trs {cs : List Col} (wd : ∀ c ∈ cs, Nm c.1) {m : Nat} {ts : List Trn} (h : ∀ t ∈ ts, TrB cs m t) (l : ts.length ≤ 31) : Th m 200000 2 60 (.list (ts.map trD)) := by
  refine ⟨trs_gd wd h, ?_, trs_depth ts, trs_wid (by omega)⟩
  have hc : costAll (ts.map trD) ≤ ts.length * (5856 + 2) := costAll_map fun t ht => by
    obtain ⟨⟨c, hc, e⟩, _⟩ := h t ht
    have n := (wd c hc).1.1
    rw [e] at n
    show (1921 + 2 + ((10 * t.2.1.length + 2) + 2 + (1921 + 2 + (1921 + 2 + 0)))) + 3 ≤ 5856
    omega
  show costAll (ts.map trD) + 3 ≤ 200000
  have := Nat.mul_le_mul_right 5858 l
  omega
theorem ints_gdE : ∀ ms : List Int, ∃ m, gdAll.gd m (.list (ms.map PyData.int))
  | [] => ⟨0, trivial⟩
  | i :: ms => by
    obtain ⟨m, hm⟩ := ints_gdE ms
    exact ⟨m + i.natAbs, by show i.natAbs ≤ _; omega, gdAll_mono (by omega) _ hm⟩
theorem br_gd {ed bd : List Trn} {lo : Option Int} {ms : List Int} (h1 : ∀ t ∈ ed, Nm t.2.1) (h2 : ∀ t ∈ bd, Nm t.2.1) : ∃ m, gdAll.gd m (brD ed lo bd ms) := by
  obtain ⟨m1, g1⟩ := trs_gdE h1
  obtain ⟨m2, g2⟩ := trs_gdE h2
  obtain ⟨m3, g3⟩ := ints_gdE ms
  cases lo with
  | none => exact ⟨m1 + m2 + m3, gd_mono (by omega) _ g1, trivial, gd_mono (by omega) _ g2, gd_mono (by omega) _ g3, trivial⟩
  | some i => exact ⟨m1 + m2 + m3 + i.natAbs, gd_mono (by omega) _ g1, by show i.natAbs ≤ _; omega, gd_mono (by omega) _ g2, gd_mono (by omega) _ g3, trivial⟩
theorem ints_depth (ms : List Int) : (PyData.list (ms.map PyData.int)).depth ≤ 1 := by
  show PyData.depthAll _ + 1 ≤ 1
  have : PyData.depthAll (ms.map PyData.int) ≤ 0 := depthAll_iff.mpr fun d hd => by
    obtain ⟨t, _, rfl⟩ := List.mem_map.mp hd
    exact Nat.le_refl _
  omega
theorem br_depth (ed bd : List Trn) (lo : Option Int) (ms : List Int) : (brD ed lo bd ms).depth ≤ 3 := by
  show PyData.depthAll _ + 1 ≤ 3
  have : PyData.depthAll [PyData.list (ed.map trD), optD lo, .list (bd.map trD), .list (ms.map PyData.int)] ≤ 2 := depthAll_iff.mpr fun d hd => by
    simp only [List.mem_cons, List.not_mem_nil, or_false] at hd
    rcases hd with rfl | rfl | rfl | rfl
    · exact trs_depth ed
    · cases lo <;> exact Nat.zero_le _
    · exact trs_depth bd
    · exact Nat.le_trans (ints_depth ms) (by decide)
  omega
theorem br_wid {ed bd : List Trn} {lo : Option Int} {ms : List Int} (l1 : ed.length ≤ 60) (l2 : bd.length ≤ 60) (l3 : ms.length ≤ 60) : widAll.wid (brD ed lo bd ms) ≤ 60 := by
  refine Nat.max_le.mpr ⟨by show 4 ≤ 60; decide, widAll_iff.mpr fun d hd => ?_⟩
  simp only [List.mem_cons, List.not_mem_nil, or_false] at hd
  rcases hd with rfl | rfl | rfl | rfl
  · exact trs_wid l1
  · cases lo <;> exact Nat.zero_le _
  · exact trs_wid l2
  · refine Nat.max_le.mpr ⟨by rw [List.length_map]; exact l3, widAll_iff.mpr fun d hd => ?_⟩
    obtain ⟨t, _, rfl⟩ := List.mem_map.mp hd
    exact Nat.zero_le _
theorem hb_trs (us : List Trn) : hbAll (us.map trD) = false := by
  induction us with
  | nil => rfl
  | cons t us ih =>
    show (hbD (trD t) || hbAll (us.map trD)) = false
    rw [ih]; rfl
theorem hb_ints (ms : List Int) : hbAll (ms.map PyData.int) = false := by
  induction ms with
  | nil => rfl
  | cons t us ih =>
    show (false || hbAll (us.map PyData.int)) = false
    rw [ih]; rfl
theorem hb_br (ed bd : List Trn) (lo : Option Int) (ms : List Int) : hbD (brD ed lo bd ms) = false := by
  show (hbAll (ed.map trD) || (hbD (optD lo) || (hbAll (bd.map trD) || (hbAll (ms.map PyData.int) || false)))) = false
  rw [hb_trs, hb_trs, hb_ints]
  cases lo <;> rfl
abbrev s_is_told : Stmt := topS 6
def n_is_told : List Str := ["thing", "told"]
theorem sc_is_told : FnScope n_is_told ["thing", "told"] (defScope s_is_told) := ⟨rfl, rfl, rfl, by decide +kernel, rfl, by decide +kernel, by decide +kernel⟩
def spIsTold (K : PySem.W.Frag) : Sp := fun vs H Q _ => ∃ (x y : V) (f d : PyData) (m m2 : Nat), vs = [x, y] ∧ Dp K H x f ∧ Dp K H y d ∧ gdAll.gd m f ∧ f.depth ≤ 10 ∧ widAll.wid f ≤ 5000 ∧ gdAll.gd m2 d ∧ d.depth ≤ 60 ∧ hbD d = false ∧ ∀ H', Same H H' → Q (.bl (smD f d)) H'
theorem ok_told {f : Addr} {fd : FuncData} {k : Nat} (F : Fun K "is_told" "is_told" s_is_told f fd) (T : Txt mg) (c_holds_truth : Cl P w K mg base (k + 12) "holds_truth" (spHt K 11)) : FnOk P w K mg base CX0 (k + 13) f fd ["thing", "told"] (spIsTold K) := by
  refine F.ok sc_is_told (fun vs H Q E h => ?_) (fun cdv A outer s H vs Q E hr h => ?_)
  · obtain ⟨x, y, g, d, m, m2, rfl, _⟩ := h
    rfl
  · obtain ⟨x, y, g, d, m, m2, rfl, hx, hy, hg, hgd, hgw, hg2, hd, hbd, q⟩ := h
    have nd := sc_is_told.nd
    have hu64 := hr.units
    /- 0 thing, 1 told -/
    refine ⟨_, (pss_one (ps_ret (pe_and (pe_cmpR (ko_eq (K := K) hu64) (pv 0) (pv 1) (nomark _)) (pe_one (pe_not (pe_cl c_holds_truth hr (by omega) (by rfl) (pa_cons (pv 0) pa_nil))))))), ?_⟩
    have e := sm_eqv g d hg hg2 hbd
    refine ⟨_, rfl, _, rfl, g, d, hx, hy, gd_shaped hg (Nat.le_trans hgd (by decide)), gd_shaped hg2 (Nat.le_trans hd (by decide)), _, rfl, ?_⟩
    cases he : PyData.eqv g d with
    | false =>
      rw [he] at e
      rw [← e] at q
      exact iteF (q _ (Same.refl _))
    | true =>
      rw [he, Bool.true_and] at e
      rw [← e] at q
      refine iteT ⟨_, rfl, x, g, m, rfl, hx, by omega, hg, hgw, fun H2 s2 => ?_⟩
      exact ⟨_, rfl, q _ s2⟩
abbrev brX (cs : List Col) (ws : List Wsh) (h wm : Int) (ts : List Trn) : PyData := brD (endF h ts) (lostF h ts) (behF cs ws h wm ts) (mvF (fstF h ts) (behF cs ws h wm ts) (ts.drop (fstF h ts)))
abbrev s_shows_broken : Stmt := topS 15
def n_shows_broken : List Str := ["palette", "turns", "hour", "warm", "thing"]
theorem sc_shows_broken : FnScope n_shows_broken ["palette", "turns", "hour", "warm", "thing"] (defScope s_shows_broken) := ⟨rfl, rfl, rfl, by decide +kernel, rfl, by decide +kernel, by decide +kernel⟩
def spShows (K : PySem.W.Frag) : Sp := fun vs H Q _ => ∃ (v : V) (cs : List Col) (ws : List Wsh) (a : Addr) (xs : List V) (ts : List Trn) (h wm : Int) (x : V) (f : PyData) (m m2 : Nat), vs = [v, .ref a, .int h, .int wm, x] ∧ Dp K H v (palD cs ws) ∧ SqL K H a xs ∧ DpAll K H xs (ts.map trD) ∧ ts.length ≤ 31 ∧ (∀ t ∈ ts, InC cs t.2.1 ∧ Nm t.2.1) ∧ WOk ws ts ∧ Dp K H x f ∧ gdAll.gd m f ∧ f.depth ≤ 10 ∧ widAll.wid f ≤ 5000 ∧ gdAll.gd m2 (brX cs ws h wm ts) ∧ ∀ H', Same H H' → Q (.bl (smD f (brX cs ws h wm ts))) H'
theorem ok_shows {f : Addr} {fd : FuncData} {k : Nat} (F : Fun K "shows_broken" "shows_broken" s_shows_broken f fd) (T : Txt mg) (c_broken : ClD P w K mg base (k + 5) "broken" [] (spBroken K)) (c_is_told : Cl P w K mg base (k + 13) "is_told" (spIsTold K)) : FnOk P w K mg base CX0 (k + 14) f fd ["palette", "turns", "hour", "warm", "thing"] (spShows K) := by
  refine F.ok sc_shows_broken (fun vs H Q E h => ?_) (fun cdv A outer s H vs Q E hr h => ?_)
  · obtain ⟨v, cs, ws, a, xs, ts, h, wm, x, g, m, m2, rfl, _⟩ := h
    rfl
  · obtain ⟨v, cs, ws, a, xs, ts, h, wm, x, g, m, m2, rfl, dpP, hS, hx, hl, hin, wok, dx, hg, hgd, hgw, hg2, q⟩ := h
    have nd := sc_shows_broken.nd
    /- 0 palette, 1 turns, 2 hour, 3 warm, 4 thing -/
    refine ⟨_, (pss_one (ps_ret (pe_cl c_is_told hr (by omega) (by rfl) (pa_cons (pv 4) (pa_cons (pe_cd c_broken hr (by omega) (by rfl) (pa_cons (pv 0) (pa_cons (pv 1) (pa_cons (pv 2) (pa_cons (pv 3) pa_nil))))) pa_nil))))), ?_⟩
    refine ⟨_, rfl, _, rfl, _, rfl, _, rfl, _, rfl, v, cs, ws, a, xs, ts, h, wm, rfl, dpP, hS, hx, hl, hin, wok, fun H2 p E B M es bs br => ?_⟩
    exact ⟨x, .ref p, g, _, m, m2, rfl, dp_same br.sm dx, br.dp, hg, hgd, hgw, hg2, Nat.le_trans (br_depth _ _ _ _) (by decide), hb_br _ _ _ _, fun H3 s3 => q _ (br.sm.trans s3)⟩

end
end Pot

namespace Pot
open PySem PySem.Spec PyProof.Rows L2
section
variable {P : Program} {w : World} {K : PySem.W.Frag} {mg : Str → Option Value} {base : Heap}
/-! ### marks and states -/
abbrev Mk := Str × Nat × Int
def mkD (m : Mk) : PyData := .tuple [.str m.1, .int (m.2.1 : Nat), .int m.2.2]
def wordsS : List Str := ["filled", "melting", "ready", "worked", "washed", "out"]
def Wrd (K : PySem.W.Frag) (mg : Str → Option Value) : Prop := ∃ W, mg "WORDS" = some (.ref W) ∧ ∀ H, SqT K H W (wordsS.map V.str)
def hrsF (c : Col) (t : Trn) (wh : Int) : List Int := [t.1, t.1 + c.2.1, t.1 + c.2.1 + c.2.2.1, t.2.2.1, t.2.2.2, t.2.2.2 + wh]
def six (i : Nat) (hs : List Int) : List Mk := (wordsS.zip hs).map fun p => (p.1, i, p.2)
/-- the hours of washing behind a turn -/
def wbF (ws : List Wsh) (t : Trn) : List Trn → Int
  | [] => 0
  | u :: _ => (washF ws (some t.2.1) u.2.1).getD 0
def mksF (cs : List Col) (ws : List Wsh) : Nat → List Trn → List Mk
  | _, [] => []
  | i, t :: ts => (match colF cs t.2.1 with | none => [] | some c => six i (hrsF c t (wbF ws t ts))) ++ mksF cs ws (i + 1) ts
abbrev s_washing_behind : Stmt := topS 30
def n_washing_behind : List Str := ["palette", "turns", "number"]
theorem sc_washing_behind : FnScope n_washing_behind ["palette", "turns", "number"] (defScope s_washing_behind) := ⟨rfl, rfl, rfl, by decide +kernel, rfl, by decide +kernel, by decide +kernel⟩
def spWbh (K : PySem.W.Frag) : Sp := fun vs H Q _ => ∃ (v : V) (cs : List Col) (ws : List Wsh) (a : Addr) (xs : List V) (ts : List Trn) (i : Nat) (t : Trn), vs = [v, .ref a, .int (i : Nat)] ∧ Dp K H v (palD cs ws) ∧ SqL K H a xs ∧ DpAll K H xs (ts.map trD) ∧ (∀ t ∈ ts, InC cs t.2.1) ∧ WOk ws ts ∧ ts[i]? = some t ∧ Q (.int (wbF ws t (ts.drop (i + 1)))) H
theorem ok_wbh {f : Addr} {fd : FuncData} {k : Nat} (F : Fun K "washing_behind" "washing_behind" s_washing_behind f fd) (T : Txt mg) (c_wash_for : Cl P w K mg base (k + 2) "wash_for" (spWash K)) : FnOk P w K mg base CX0 (k + 3) f fd ["palette", "turns", "number"] (spWbh K) := by
  refine F.ok sc_washing_behind (fun vs H Q E h => ?_) (fun cdv A outer s H vs Q E hr h => ?_)
  · obtain ⟨v, cs, ws, a, xs, ts, i, t, rfl, _⟩ := h
    rfl
  · obtain ⟨v, cs, ws, a, xs, ts, i, t, rfl, dpP, hS, hx, hin, wok, gt, q⟩ := h
    have nd := sc_washing_behind.nd
    /- 0 palette, 1 turns, 2 number -/
    refine ⟨_, (pss_cons (ps_if (pt_cmpR op_eq (pe_op op_add (pv 2) pe_int) (pe_callB (kc_len (K := K)) (by rfl) T.len PySem.boot_len (pa_cons (pv 1) pa_nil)) (nomark _))
          (pss_one (ps_ret pe_int))
          pss_nil)
      (pss_one (ps_ret (pe_cl c_wash_for hr (by omega) (by rfl) (pa_cons (pv 0) (pa_cons (pe_ix (kx_tup (K := K)) (pe_ix (kx_list (K := K)) (pv 1) (pv 2) (fun _ _ => rfl)) pe_int (fun _ _ => rfl)) (pa_cons (pe_ix (kx_tup (K := K)) (pe_ix (kx_list (K := K)) (pv 1) (pe_op op_add (pv 2) pe_int) (fun _ _ => rfl)) pe_int (fun _ _ => rfl)) pa_nil))))))), ?_⟩
    have lx : xs.length = ts.length := dpAll_map_len hx
    have li : i < ts.length := (List.getElem?_eq_some_iff.mp gt).1
    refine ⟨_, rfl, _, _, rfl, rfl, _, rfl, _, _, rfl, .inl ⟨_, hS, rfl⟩, rfl, _, rfl, ite2 (fun h => ?_) (fun h => ?_)⟩
    · have h : V.int (((i : Nat) : Int) + 1) = V.int ((xs.length : Nat) : Int) := of_decide_eq_true h
      have h := V.int.inj h
      have e : ts.drop (i + 1) = [] := List.drop_of_length_le (by omega)
      rw [e] at q
      exact q
    · have h : ¬ V.int (((i : Nat) : Int) + 1) = V.int ((xs.length : Nat) : Int) := fun z => h (decide_eq_true z)
      have l1 : i + 1 < ts.length := by
        rcases Nat.lt_or_ge (i + 1) ts.length with z | z
        · exact z
        · exact absurd (by rw [show ((i : Nat) : Int) + 1 = ((xs.length : Nat) : Int) by omega]) h
      have gu := List.getElem?_eq_getElem l1
      obtain ⟨t2, g2, dp2⟩ := dpAll_map_at hx (List.getElem?_eq_getElem (show i < xs.length by omega))
      rw [gt] at g2
      cases g2
      obtain ⟨u, gu2, dpu⟩ := dpAll_map_at hx (List.getElem?_eq_getElem (show i + 1 < xs.length by omega))
      obtain ⟨pt, ept, hpt⟩ := tr_dp dp2
      obtain ⟨pu, epu, hpu⟩ := tr_dp dpu
      have e : ts.drop (i + 1) = u :: ts.drop (i + 2) := by
        rw [List.drop_eq_getElem_cons l1, (List.getElem?_eq_some_iff.mp gu2).2]
      obtain ⟨wh, ew⟩ := wok.at gt gu2
      have ewb : wbF ws t (ts.drop (i + 1)) = wh := by rw [e]; show (washF ws (some t.2.1) u.2.1).getD 0 = wh; rw [ew]; rfl
      rw [ewb] at q
      refine ⟨_, rfl, _, rfl, _, rfl, a, _, _, _, rfl, rfl, hS, atI_nat (by rw [List.getElem?_eq_getElem (show i < xs.length by omega), ept]), pt, _, 1, _, rfl, rfl, hpt, rfl, ?_⟩
      refine ⟨_, rfl, _, rfl, _, _, rfl, rfl, a, _, _, _, rfl, rfl, hS, (by show atI xs (((i : Nat) : Int) + 1) = some (.ref pu); rw [show ((i : Nat) : Int) + 1 = ((i + 1 : Nat) : Int) by omega]; exact atI_nat (by rw [List.getElem?_eq_getElem (show i + 1 < xs.length by omega), epu])), pu, _, 1, _, rfl, rfl, hpu, rfl, v, cs, ws, some t.2.1, u.2.1, rfl, dpP, (fun z e => by cases e; exact hin t (List.mem_of_getElem? gt)), hin u (List.mem_of_getElem? gu2), ?_⟩
      rw [ew]
      exact q
abbrev s_marks_of : Stmt := topS 29
def n_marks_of : List Str := ["palette", "turns", "marks", "number", "at", "colour", "begin", "end", "filled", "washed", "hours", "word", "since"]
theorem sc_marks_of : FnScope n_marks_of ["palette", "turns"] (defScope s_marks_of) := ⟨rfl, rfl, rfl, by decide +kernel, rfl, by decide +kernel, by decide +kernel⟩
def spMarks (K : PySem.W.Frag) : Sp := fun vs H Q _ => ∃ (v : V) (cs : List Col) (ws : List Wsh) (a : Addr) (xs : List V) (ts : List Trn), vs = [v, .ref a] ∧ Dp K H v (palD cs ws) ∧ SqL K H a xs ∧ DpAll K H xs (ts.map trD) ∧ (∀ t ∈ ts, InC cs t.2.1) ∧ WOk ws ts ∧ ts.length ≤ 31 ∧
  ∀ H' R ys, Same H H' → H' R = some (.lst ys) → H R = none → DpAll K (off H' [R]) ys ((mksF cs ws 0 ts).map mkD) → Q (.ref R) H'
set_option maxHeartbeats 2000000 in
theorem ok_marks {f : Addr} {fd : FuncData} {k : Nat} (F : Fun K "marks_of" "marks_of" s_marks_of f fd) (T : Txt mg) (LW : Wrd K mg) (c_colour_row : Cl P w K mg base (k + 1) "colour_row" (spColour K)) (c_washing_behind : Cl P w K mg base (k + 3) "washing_behind" (spWbh K)) (c_ready_at : ClD P w K mg base (k + 2) "ready_at" [] (spReady K)) : FnOk P w K mg base CX0 (k + 4) f fd ["palette", "turns"] (spMarks K) := by
  refine F.ok sc_marks_of (fun vs H Q E h => ?_) (fun cdv A outer s H vs Q E hr h => ?_)
  · obtain ⟨v, cs, ws, a, xs, ts, rfl, _⟩ := h
    rfl
  · obtain ⟨v, cs, ws, a, xs, ts, rfl, dpP, hS, hx, hin, wok, l31, q⟩ := h
    obtain ⟨W, hW, sW⟩ := LW
    have nd := sc_marks_of.nd
    /- 0 palette, 1 turns, 2 marks, 3 number, 4 at, 5 colour, 6 begin, 7 end, 8 filled, 9 washed, 10 hours, 11 word, 12 since -/
    refine ⟨_, (pss_cons (ps_set (i := 2) nd rfl (.inl rfl) (pe_lst pa_nil))
      (pss_cons (ps_for PassesOwn.never rfl (ki_enum (K := K) (by rfl) T.enumerate (pa_cons (pv 1) pa_nil)) (kg_tup (K := K) (n := 2) (pgs_cons (pg_name (i := 3) nd rfl (.inr rfl)) (pgs_cons (kg_tup (K := K) (n := 4) (pgs_cons (pg_name (i := 4) nd rfl (.inl rfl)) (pgs_cons (pg_name (i := 5) nd rfl (.inl rfl)) (pgs_cons (pg_name (i := 6) nd rfl (.inl rfl)) (pgs_cons (pg_name (i := 7) nd rfl (.inl rfl)) pgs_nil))))) pgs_nil)))
          (pss_cons (ps_set (i := 8) nd rfl (.inl rfl) (pe_op op_add (pv 4) (pe_ix (kx_tup (K := K)) (pe_cl c_colour_row hr (by omega) (by rfl) (pa_cons (pv 0) (pa_cons (pv 5) pa_nil))) pe_int (fun _ _ => rfl))))
          (pss_cons (ps_set (i := 9) nd rfl (.inl rfl) (pe_op op_add (pv 7) (pe_cl c_washing_behind hr (by omega) (by rfl) (pa_cons (pv 0) (pa_cons (pv 1) (pa_cons (pv 3) pa_nil))))))
          (pss_cons (ps_set (i := 10) nd rfl (.inl rfl) (pe_tup (pa_cons (pv 4) (pa_cons (pv 8) (pa_cons (pe_cd c_ready_at hr (by omega) (by rfl) (pa_cons (pv 0) (pa_cons (pv 5) (pa_cons (pv 4) pa_nil)))) (pa_cons (pv 6) (pa_cons (pv 7) (pa_cons (pv 9) pa_nil))))))))
          (pss_one (ps_expr (pe_bm PySem.F.plainAttrs_list PySem.F.slot_list_extend PySem.F.type_list_extend mt_extend (pv 2) (pa_cons (pe_lc (own := [("word", 11), ("since", 12)]) rfl nd (ki_zip (K := K) (by rfl) T.zip (pa_cons (pe_glob (v := .ref W) (by rfl) hW rfl) (pa_cons (pv 10) pa_nil))) (blkOk_by (N := n_marks_of) (sc := defScope s_marks_of) (by decide +kernel)) (fun _ _ _ _ _ => (kg_tup (K := K) (n := 2) (pgs_cons (pg_name (i := 11) nd rfl (.inl rfl)) (pgs_cons (pg_name (i := 12) nd rfl (.inl rfl)) pgs_nil)))) (fun _ _ _ _ _ => pts_nil) (fun _ _ _ _ _ => (pe_tup (pa_cons (pv 11) (pa_cons (pv 3) (pa_cons (pv 12) pa_nil)))))) pa_nil))))))))
      (pss_one (ps_ret (pv 2))))), ?_⟩
    have lx : xs.length = ts.length := dpAll_map_len hx
    refine ⟨Nat.zero_le _, fun R nR => ?_⟩
    have p0 : PvD K H [] R (fun _ => ([] : List Mk).map mkD) 0 (upd H R (.lst [])) := pd_start nR rfl
    generalize upd H R (.lst []) = H1 at p0 ⊢
    refine ⟨_, rfl, a, _, rfl, p0.sm.seq hS, ?_⟩
    refine for_it (walk_enum (xs := xs)) (fun i σ Hx => ∃ v3 v4 v5 v6 v7 v8 v9 v10 ms, σ = [some v, some (.ref a), some (.ref R), v3, v4, v5, v6, v7, v8, v9, v10, none, none] ∧ PvD K H [] R (fun _ => ms.map mkD) 0 Hx ∧ mksF cs ws 0 ts = ms ++ mksF cs ws i (ts.drop i) ∧ ms.length ≤ 6 * i)
      ⟨_, _, _, _, _, _, _, _, [], rfl, p0, rfl, Nat.zero_le _⟩ (fun i σ H4 _ h => by obtain ⟨_, _, _, _, _, _, _, _, _, _, h, _⟩ := h; exact h.sm.seq hS) ?_ ?_
    · rintro i x σ H4 H5 hi ⟨v3, v4, v5, v6, v7, v8, v9, v10, ms, rfl, pv, old, lms⟩ ⟨tt, x1, x2, rfl, nt, rfl, g1, g2⟩
      cases g1
      replace g2 : xs[i]? = some x2 := g2
      obtain ⟨t, gt, dp⟩ := dpAll_map_at hx g2
      have hit := hin t (List.mem_of_getElem? gt)
      have edrop : ts.drop i = t :: ts.drop (i + 1) := by
        rw [List.drop_eq_getElem_cons (by omega), (List.getElem?_eq_some_iff.mp gt).2]
      rw [edrop] at old
      obtain ⟨pt1, rfl, hpt1⟩ := tr_dp dp
      have pv := pv.same (same_upd (o := .tup [.int (i : Nat), .ref pt1]) nt)
      refine ⟨tt, _, rfl, .inl (.inl upd_same), rfl, _, _, rfl, _, _, rfl, pt1, _, rfl, same_tup pv.sm hpt1, rfl, _, _, rfl, _, _, rfl, _, _, rfl, _, _, rfl, rfl, rfl, ?_⟩
      generalize upd H4 tt (.tup [.int (i : Nat), .ref pt1]) = H5 at pv ⊢
      have dpP5 := dp_same pv.sm dpP
      refine ⟨_, rfl, _, rfl, _, rfl, v, cs, ws, t.2.1, rfl, dpP5, hit, fun xc c ec dpc => ?_⟩
      obtain ⟨r, rfl, hr2⟩ := col_dp dpc
      refine ⟨r, _, 1, _, rfl, rfl, hr2, rfl, _, _, rfl, rfl, ?_⟩
      refine ⟨_, rfl, _, rfl, _, rfl, _, rfl, v, cs, ws, a, xs, ts, i, t, rfl, dpP5, pv.sm.seq hS, dpAll_same pv.sm hx, hin, wok, gt, _, _, rfl, rfl, ?_⟩
      generalize hwb : wbF ws t (ts.drop (i + 1)) = wh
      refine ⟨_, rfl, _, rfl, _, rfl, _, rfl, _, rfl, v, cs, ws, t.2.1, t.1, rfl, dpP5, hit, fun c2 ec2 => ?_⟩
      rw [ec] at ec2
      cases ec2
      refine ⟨_, rfl, _, rfl, _, rfl, (by show 6 ≤ sizeLine; decide), fun th nth => ?_⟩
      have pv := pv.same (same_upd (o := .tup [V.int t.1, .int (t.1 + c.2.1), .int (t.1 + c.2.1 + c.2.2.1), .int t.2.2.1, .int t.2.2.2, .int (t.2.2.2 + wh)]) nth)
      have hth : upd H5 th (.tup [V.int t.1, .int (t.1 + c.2.1), .int (t.1 + c.2.1 + c.2.2.1), .int t.2.2.1, .int t.2.2.2, .int (t.2.2.2 + wh)]) th = some (.tup [V.int t.1, .int (t.1 + c.2.1), .int (t.1 + c.2.1 + c.2.2.1), .int t.2.2.1, .int t.2.2.2, .int (t.2.2.2 + wh)]) := upd_same
      generalize upd H5 th (.tup [V.int t.1, .int (t.1 + c.2.1), .int (t.1 + c.2.1 + c.2.2.1), .int t.2.2.1, .int t.2.2.2, .int (t.2.2.2 + wh)]) = H6 at pv hth ⊢
      have hth : H6 th = some (.tup ((hrsF c t wh).map V.int)) := hth
      have pv0 := pv
      obtain ⟨s6, us, hR, daR⟩ := pv
      have lvR : Live [R] H6 := live_nil.cons hR
      refine ⟨_, rfl, .inl ⟨rfl, _, SqL.of hR⟩, _, rfl, W, th, _, _, rfl, .inr ⟨sW _, .inl (.inl hth), fun D nD => ?_⟩⟩
      have e6 : mksF cs ws i (t :: ts.drop (i + 1)) = six i (hrsF c t wh) ++ mksF cs ws (i + 1) (ts.drop (i + 1)) := by
        show (match colF cs t.2.1 with | none => [] | some c => six i (hrsF c t (wbF ws t (ts.drop (i + 1))))) ++ _ = _
        rw [ec, hwb]
      rw [e6] at old
      have lh : (hrsF c t wh).length = 6 := rfl
      generalize hrsF c t wh = hs at hth old lh
      have l6 : (six i hs).length = 6 := by
        unfold six
        rw [List.length_map, List.length_zip, lh]; rfl
      refine lc_it (walk_zipT (xs := wordsS.map V.str) (ys := hs.map V.int) (n := 6) (by rw [List.length_map, List.length_map, lh]; rfl)) (PvD K H6 [R] D fun j => ((six i hs).take j).map mkD) (pd_start nD rfl) (fun j H' _ h => ⟨sW _, same_tup h.sm (.inl (.inl hth))⟩) ?_ ?_
      · rintro j y Ha Hb hj pz ⟨u, x1, y1, rfl, nu, rfl, gx, gy⟩
        replace gx : (wordsS.map V.str)[j]? = some x1 := gx
        replace gy : (hs.map V.int)[j]? = some y1 := gy
        rw [List.getElem?_map] at gx gy
        obtain ⟨wd, gw, rfl⟩ := Option.map_eq_some_iff.mp gx
        obtain ⟨ho, gh, rfl⟩ := Option.map_eq_some_iff.mp gy
        have g6 : (six i hs)[j]? = some (wd, i, ho) := by
          unfold six
          rw [List.getElem?_map, (List.getElem?_zip_eq_some (z := (wd, ho))).mpr ⟨gw, gh⟩]; rfl
        have pz := pz.same (same_upd (o := .tup [.str wd, .int ho]) nu)
        refine ⟨u, _, rfl, .inl (.inl upd_same), rfl, _, _, rfl, _, _, rfl, rfl, rfl, tYes_at ?_⟩
        rw [if_pos rfl]
        generalize upd Ha u (.tup [.str wd, .int ho]) = Hc at pz ⊢
        refine ⟨_, rfl, _, rfl, _, rfl, (by show 3 ≤ sizeLine; decide), fun t3 n3 => ?_⟩
        exact pd_put nD pz (same_upd n3) (.tup (.inl (.inl (off_new (pz.live lvR) n3))) (.cons (.str _) (.cons (.int _) (.cons (.int _) .nil)))) (take_mapD mkD g6) (take_lenD (by omega))
      · intro H7 pz
        obtain ⟨s7, us2, fD, da⟩ := pd_end lvR nD pz (take_allD (by omega))
        have l2 : us2.length = 6 := by rw [dpAll_map_len da]; exact l6
        have l1 : us.length = ms.length := dpAll_map_len daR
        refine ⟨R, D, us, us2, rfl, rfl, s7 _ _ hR, at_off fD, (by rw [sizeLine_eq]; omega), ?_⟩
        have pe := pd_ext (j := 0) nR (s6.trans s7) (s7 _ _ hR) (dpAll_same (sm_of s7) daR) da
        refine ⟨_, _, _, _, _, _, _, _, ms ++ six i hs, rfl, ?_, by rw [old, List.append_assoc], by rw [List.length_append]; omega⟩
        simp only [List.map_append]
        exact pe
    · rintro σ Hx ⟨v3, v4, v5, v6, v7, v8, v9, v10, ms, rfl, pv, old, lms⟩
      rw [lx, List.drop_length] at old
      have e0 : mksF cs ws ts.length [] = [] := rfl
      rw [e0, List.append_nil] at old
      obtain ⟨s6, us, hR, daR⟩ := pv
      rw [old] at q
      exact ⟨_, rfl, q _ _ _ s6 hR nR daR⟩

end
end Pot

namespace Pot
open PySem PySem.Spec PyProof.Rows L2
section
variable {P : Program} {w : World} {K : PySem.W.Frag} {mg : Str → Option Value} {base : Heap}
/-! ### stretches: from mark to mark -/
abbrev Mo := Str × Option Nat × Int
abbrev Rw := Str × Option Nat × Int × Int
def onV : Option Nat → V
  | none => .non
  | some n => .int (n : Nat)
def onD : Option Nat → PyData
  | none => .none
  | some n => .int (n : Nat)
theorem on_dp {H : Hp} (o : Option Nat) : Dp K H (onV o) (onD o) := by
  cases o
  · exact .non
  · exact .int _
theorem dp_on {H : Hp} {x : V} {o : Option Nat} (h : Dp K H x (onD o)) : x = onV o := by
  cases o
  · cases h; rfl
  · exact dp_int h
def moD (m : Mo) : PyData := .tuple [.str m.1, onD m.2.1, .int m.2.2]
def rwD (r : Rw) : PyData := .tuple [.str r.1, onD r.2.1, .int r.2.2.1, .int r.2.2.2]
def opn (m : Mk) : Mo := (m.1, some m.2.1, m.2.2)
theorem mo_mk (m : Mk) : mkD m = moD (opn m) := rfl
def cutR (f l : Int) (m : Mo) (u : Int) : Rw := (m.1, m.2.1, (if m.2.2 > f then m.2.2 else f), (if u < l then u else l))
def keepR (r : Rw) : Bool := decide (r.2.2.1 < r.2.2.2)
def rowsS (f l : Int) (m : Mo) (ms : List Mk) : List Rw := ((m :: ms.map opn).zip (ms.map (·.2.2) ++ [l])).map fun p => cutR f l p.1 p.2
def strF (f l : Int) (ms : List Mk) : List Rw := (rowsS f l ("out", none, f) ms).filter keepR
/-- rows one behind the other without a gap -/
def Run : Int → Int → List Rw → Prop
  | h, e, [] => h = e
  | h, e, r :: rs => r.2.2.1 = h ∧ r.2.2.1 < r.2.2.2 ∧ Run r.2.2.2 e rs
def Mn : Int → List Mk → Prop
  | _, [] => True
  | lo, m :: ms => lo ≤ m.2.2 ∧ Mn m.2.2 ms
theorem rows_cons (f l : Int) (m : Mo) (m2 : Mk) (ms : List Mk) : rowsS f l m (m2 :: ms) = cutR f l m m2.2.2 :: rowsS f l (opn m2) ms := rfl
theorem run_rows (f l : Int) (hfl : f ≤ l) : ∀ (ms : List Mk) (m : Mo), Mn m.2.2 ms → Run (if (if m.2.2 > f then m.2.2 else f) < l then (if m.2.2 > f then m.2.2 else f) else l) l ((rowsS f l m ms).filter keepR)
  | [], m, _ => by
    show Run _ l (([cutR f l m l]).filter keepR)
    rw [List.filter_cons]
    generalize es : (if m.2.2 > f then m.2.2 else f) = s
    have ec : cutR f l m l = (m.1, m.2.1, s, l) := by
      unfold cutR
      rw [es, if_neg (by omega)]
    rw [ec]
    by_cases h : s < l
    · have k : keepR (m.1, m.2.1, s, l) = true := decide_eq_true h
      rw [if_pos h, if_pos k]
      exact ⟨rfl, h, rfl⟩
    · have k : keepR (m.1, m.2.1, s, l) = false := decide_eq_false h
      rw [if_neg h, if_neg (by rw [k]; exact Bool.false_ne_true)]
      rfl
  | m2 :: ms, m, ⟨h0, h1⟩ => by
    have ih := run_rows f l hfl ms (opn m2) h1
    rw [rows_cons, List.filter_cons]
    have e2 : (opn m2).2.2 = m2.2.2 := rfl
    rw [e2] at ih
    generalize m2.2.2 = u at h0 ih ⊢
    generalize es : (if m.2.2 > f then m.2.2 else f) = s
    have ec : cutR f l m u = (m.1, m.2.1, s, if u < l then u else l) := by
      unfold cutR
      rw [es]
    rw [ec]
    generalize eu : (if u < l then u else l) = t
    by_cases h : s < t
    · have k : keepR (m.1, m.2.1, s, t) = true := decide_eq_true h
      rw [if_pos k]
      have e1 : (if s < l then s else l) = s := if_pos (by split at eu <;> omega)
      have e3 : (if (if u > f then u else f) < l then (if u > f then u else f) else l) = t := by
        split at es <;> split at eu <;> (repeat' split) <;> omega
      rw [e1]
      rw [e3] at ih
      exact ⟨rfl, h, ih⟩
    · have k : keepR (m.1, m.2.1, s, t) = false := decide_eq_false h
      have kn : ¬ (keepR (m.1, m.2.1, s, t) = true) := by rw [k]; exact Bool.false_ne_true
      rw [if_neg kn]
      have e3 : (if (if u > f then u else f) < l then (if u > f then u else f) else l) = (if s < l then s else l) := by
        split at es <;> split at eu <;> (repeat' split) <;> omega
      rw [← e3]
      exact ih
theorem run_str {f l : Int} (hfl : f ≤ l) {ms : List Mk} (h : Mn f ms) : Run f l (strF f l ms) := by
  have := run_rows f l hfl ms ("out", none, f) h
  have e : (if (if ((("out", none, f) : Mo).2.2) > f then (("out", none, f) : Mo).2.2 else f) < l then (if ((("out", none, f) : Mo).2.2) > f then (("out", none, f) : Mo).2.2 else f) else l) = f := by
    show (if (if f > f then f else f) < l then (if f > f then f else f) else l) = f
    (repeat' split) <;> omega
  rw [e] at this
  exact this
/-! ### the words of marks and rows, and how great they are -/
theorem mks_words {cs : List Col} {ws : List Wsh} : ∀ {ts : List Trn} {i : Nat} {m : Mk}, m ∈ mksF cs ws i ts → m.1 ∈ wordsS
  | [], _, _, h => (List.not_mem_nil h).elim
  | t :: ts, i, m, h => by
    have h : m ∈ (match colF cs t.2.1 with | none => [] | some c => six i (hrsF c t (wbF ws t ts))) ++ mksF cs ws (i + 1) ts := h
    rcases List.mem_append.mp h with h | h
    · cases e : colF cs t.2.1 with
      | none => rw [e] at h; exact (List.not_mem_nil h).elim
      | some c =>
        rw [e] at h
        obtain ⟨p, hp, rfl⟩ := List.mem_map.mp h
        exact (List.of_mem_zip (show (p.1, p.2) ∈ _ from hp)).1
    · exact mks_words h
theorem rows_words {f l : Int} : ∀ {ms : List Mk} {m : Mo} {r : Rw}, m.1 ∈ wordsS → (∀ m ∈ ms, m.1 ∈ wordsS) → r ∈ rowsS f l m ms → r.1 ∈ wordsS
  | [], m, r, h0, _, h => by
    have h : r ∈ [cutR f l m l] := h
    rw [List.mem_singleton.mp h]
    exact h0
  | m2 :: ms, m, r, h0, h1, h => by
    rw [rows_cons] at h
    rcases List.mem_cons.mp h with rfl | h
    · exact h0
    · exact rows_words (m := opn m2) (h1 m2 List.mem_cons_self) (fun x hx => h1 x (List.mem_cons_of_mem _ hx)) h
theorem str_words {cs : List Col} {ws : List Wsh} {ts : List Trn} {f l : Int} {r : Rw} (h : r ∈ strF f l (mksF cs ws 0 ts)) : r.1 ∈ wordsS :=
  rows_words (m := ("out", none, f)) (show Str.ofString "out" ∈ wordsS by decide +kernel) (fun _ h => mks_words h) (List.mem_filter.mp h).1
theorem rows_len (f l : Int) : ∀ (ms : List Mk) (m : Mo), (rowsS f l m ms).length = ms.length + 1
  | [], _ => rfl
  | m2 :: ms, m => by rw [rows_cons, List.length_cons, rows_len f l ms]; rfl
theorem str_len (f l : Int) (ms : List Mk) : (strF f l ms).length ≤ ms.length + 1 := by
  have := List.length_filter_le keepR (rowsS f l ("out", none, f) ms)
  rw [rows_len] at this
  exact this
theorem word_ok {z : Str} (h : z ∈ wordsS) : z.length ≤ 2000 ∧ ∀ x ∈ z.cps.toList, x < 1114112 := by
  simp only [wordsS, List.mem_cons, List.not_mem_nil, or_false] at h
  rcases h with rfl | rfl | rfl | rfl | rfl | rfl <;> exact ⟨by decide +kernel, by decide +kernel⟩
def rowG (r : Rw) : Nat := (match r.2.1 with | none => 0 | some n => n) + r.2.2.1.natAbs + r.2.2.2.natAbs
theorem rw_gd {r : Rw} {m : Nat} (h : r.1 ∈ wordsS) (l : rowG r ≤ m) : gdAll.gd m (rwD r) := by
  unfold rowG at l
  obtain ⟨a, o, b, c⟩ := r
  cases o with
  | none =>
    replace l : 0 + b.natAbs + c.natAbs ≤ m := l
    exact ⟨word_ok h, trivial, by show b.natAbs ≤ m; omega, by show c.natAbs ≤ m; omega, trivial⟩
  | some n =>
    replace l : n + b.natAbs + c.natAbs ≤ m := l
    exact ⟨word_ok h, by show n ≤ m; omega, by show b.natAbs ≤ m; omega, by show c.natAbs ≤ m; omega, trivial⟩
theorem rws_gd {rs : List Rw} (h : ∀ r ∈ rs, r.1 ∈ wordsS) : ∃ m, gdAll.gd m (.list (rs.map rwD)) := by
  refine ⟨(rs.map rowG).sum, gdAll_iff.mpr fun d hd => ?_⟩
  obtain ⟨r, hr, rfl⟩ := List.mem_map.mp hd
  refine rw_gd (h r hr) ?_
  have : ∀ {l : List Nat} {x : Nat}, x ∈ l → x ≤ l.sum := fun {l x} hx => by
    induction l with
    | nil => exact (List.not_mem_nil hx).elim
    | cons y l ih =>
      rw [List.sum_cons]
      rcases List.mem_cons.mp hx with rfl | hx
      · omega
      · have := ih hx; omega
  exact this (List.mem_map.mpr ⟨r, hr, rfl⟩)

/-! ### what follows where there is no fault -/
theorem one_none {cs : List Col} {ws : List Wsh} {p : Option Trn} {t : Trn} (h : oneF cs ws p t = none) : (∀ q, p = some q → btwF ws q t = none) ∧ witF cs t = none := by
  unfold oneF at h
  split at h
  · rename_i e
    refine ⟨fun q hq => ?_, h⟩
    rw [hq] at e
    exact e
  · cases h
theorem fau_cons {cs : List Col} {ws : List Wsh} {p : Option Trn} {i : Nat} {t : Trn} {ts : List Trn} (h : fauF cs ws p i (t :: ts) = none) : oneF cs ws p t = none ∧ fauF cs ws (some t) (i + 1) ts = none := by
  unfold fauF at h
  split at h
  · cases h
  · rename_i e
    exact ⟨e, h⟩
theorem btw_none {ws : List Wsh} {q t : Trn} (h : btwF ws q t = none) : ∃ wh, washF ws (some q.2.1) t.2.1 = some wh ∧ q.2.2.2 ≤ t.1 ∧ q.2.2.2 + wh ≤ t.1 := by
  unfold btwF at h
  split at h
  · cases h
  · rename_i h0
    split at h
    · cases h
    · rename_i wh ew
      split at h
      · cases h
      · rename_i h1
        exact ⟨wh, ew, by omega, by omega⟩
theorem wit_none {cs : List Col} {t : Trn} {c : Col} (h : witF cs t = none) (e : colF cs t.2.1 = some c) : t.1 + c.2.1 + c.2.2.1 ≤ t.2.2.1 := by
  unfold witF at h
  rw [e] at h
  have h : (if 0 < t.1 + c.2.1 + c.2.2.1 - t.2.2.1 then some (("early", some (t.1 + c.2.1 + c.2.2.1 - t.2.2.1)) : Flt) else none) = none := h
  split at h
  · cases h
  · omega
theorem mn_six {i : Nat} {a b c d e g lo : Int} {ms : List Mk} (h0 : lo ≤ a) (h1 : a ≤ b) (h2 : b ≤ c) (h3 : c ≤ d) (h4 : d ≤ e) (h5 : e ≤ g) (h6 : Mn g ms) : Mn lo (six i [a, b, c, d, e, g] ++ ms) := ⟨h0, h1, h2, h3, h4, h5, h6⟩
theorem mn_low {lo lo2 : Int} (h : lo2 ≤ lo) : ∀ {ms : List Mk}, Mn lo ms → Mn lo2 ms
  | [], _ => trivial
  | _ :: _, ⟨a, b⟩ => ⟨by omega, b⟩
/-- without fault marks rise, and none but washings that may be stand between -/
theorem fau_marks {cs : List Col} {ws : List Wsh} (hc : ∀ c ∈ cs, 1 ≤ c.2.1 ∧ c.2.1 ≤ 20 ∧ 0 ≤ c.2.2.1 ∧ c.2.2.1 ≤ 99) (hw : ∀ r ∈ ws, ∀ i, r.2.2 = some i → 0 ≤ i ∧ i ≤ 99) : ∀ {ts : List Trn} {p : Option Trn} {i : Nat} {lo : Int}, fauF cs ws p i ts = none → (∀ t ∈ ts, InC cs t.2.1 ∧ t.2.2.1 < t.2.2.2) → (∀ t, ts.head? = some t → lo ≤ t.1) → WOk ws ts ∧ Mn lo (mksF cs ws i ts)
  | [], _, _, _, _, _, _ => ⟨trivial, trivial⟩
  | t :: ts, p, i, lo, h, hin, hlo => by
    obtain ⟨h1, h2⟩ := fau_cons h
    obtain ⟨hI, hbe⟩ := hin t List.mem_cons_self
    obtain ⟨c, ec⟩ := colF_some hI
    have w := wit_none (one_none h1).2 ec
    have hcm := hc c (colF_mem ec).1
    have l0 := hlo t rfl
    have em : mksF cs ws i (t :: ts) = six i (hrsF c t (wbF ws t ts)) ++ mksF cs ws (i + 1) ts := by
      show (match colF cs t.2.1 with | none => [] | some c => six i (hrsF c t (wbF ws t ts))) ++ _ = _
      rw [ec]
    rw [em]
    cases ts with
    | nil =>
      obtain ⟨i1, i2⟩ := fau_marks hc hw (lo := t.2.2.2 + wbF ws t []) h2 (fun u hu => (List.not_mem_nil hu).elim) (fun u hu => by cases hu)
      refine ⟨⟨fun u hu => (by cases hu), trivial⟩, ?_⟩
      exact mn_six l0 (by omega) (by omega) (by omega) (by omega) (by show t.2.2.2 ≤ t.2.2.2 + 0; omega) i2
    | cons u us =>
      obtain ⟨h3, _⟩ := fau_cons h2
      obtain ⟨wh, ew, b1, b2⟩ := btw_none ((one_none h3).1 t rfl)
      have w0 := (washF_pos hw ew).1
      have ewb : wbF ws t (u :: us) = wh := by
        show (washF ws (some t.2.1) u.2.1).getD 0 = wh
        rw [ew]; rfl
      obtain ⟨i1, i2⟩ := fau_marks hc hw (lo := t.2.2.2 + wbF ws t (u :: us)) h2 (fun x hx => hin x (List.mem_cons_of_mem _ hx)) (fun x hx => by cases hx; rw [ewb]; exact b2)
      refine ⟨⟨fun x hx => ⟨wh, by cases hx; exact ew⟩, i1⟩, ?_⟩
      exact mn_six l0 (by omega) (by omega) (by omega) (by omega) (by show t.2.2.2 ≤ t.2.2.2 + wbF ws t (u :: us); rw [ewb]; omega) i2
theorem fau_spare {cs : List Col} {ws : List Wsh} {t : Trn} {c : Col} : ∀ {ts : List Trn} {p : Option Trn} {i : Nat}, fauF cs ws p i ts = none → t ∈ ts → colF cs t.2.1 = some c → t.1 + c.2.1 + c.2.2.1 ≤ t.2.2.1
  | [], _, _, _, h, _ => (List.not_mem_nil h).elim
  | u :: ts, p, i, h, hm, e => by
    obtain ⟨h1, h2⟩ := fau_cons h
    rcases List.mem_cons.mp hm with rfl | hm
    · exact wit_none (one_none h1).2 e
    · exact fau_spare h2 hm e

abbrev s_stretches : Stmt := topS 28
def n_stretches : List Str := ["palette", "turns", "first", "last", "marks", "ends", "rows", "until", "word", "number", "since", "row", "mark"]
theorem sc_stretches : FnScope n_stretches ["palette", "turns", "first", "last"] (defScope s_stretches) := ⟨rfl, rfl, rfl, by decide +kernel, rfl, by decide +kernel, by decide +kernel⟩
def spStr (K : PySem.W.Frag) : Sp := fun vs H Q _ => ∃ (v : V) (cs : List Col) (ws : List Wsh) (a : Addr) (xs : List V) (ts : List Trn) (f l : Int), vs = [v, .ref a, .int f, .int l] ∧ Dp K H v (palD cs ws) ∧ SqL K H a xs ∧ DpAll K H xs (ts.map trD) ∧ (∀ t ∈ ts, InC cs t.2.1) ∧ WOk ws ts ∧ ts.length ≤ 31 ∧
  ∀ H' R ys, Same H H' → H' R = some (.lst ys) → H R = none → DpAll K (off H' [R]) ys ((strF f l (mksF cs ws 0 ts)).map rwD) → Q (.ref R) H'
theorem mks_len (cs : List Col) (ws : List Wsh) : ∀ (ts : List Trn) (i : Nat), (mksF cs ws i ts).length ≤ 6 * ts.length
  | [], _ => Nat.le_refl 0
  | t :: ts, i => by
    have ih := mks_len cs ws ts (i + 1)
    show ((match colF cs t.2.1 with | none => [] | some c => six i (hrsF c t (wbF ws t ts))) ++ mksF cs ws (i + 1) ts).length ≤ _
    rw [List.length_append, List.length_cons]
    cases colF cs t.2.1 with
    | none => show 0 + _ ≤ _; omega
    | some c => show 6 + _ ≤ _; omega
theorem mo_dp {H : Hp} {x : V} {m : Mo} (h : Dp K H x (moD m)) : ∃ p, x = .ref p ∧ SqT K H p [.str m.1, onV m.2.1, .int m.2.2] := by
  obtain ⟨p, xs, rfl, hp, hx⟩ := dp_tup h
  cases hx with
  | cons a hx =>
    obtain ⟨y, z, rfl, b, c⟩ := dp_two hx
    rw [dp_str a, dp_on b, dp_int c] at hp
    exact ⟨p, rfl, hp⟩
theorem rw_dp {H : Hp} {x : V} {r : Rw} (h : Dp K H x (rwD r)) : ∃ p, x = .ref p ∧ SqT K H p [.str r.1, onV r.2.1, .int r.2.2.1, .int r.2.2.2] := by
  obtain ⟨p, xs, rfl, hp, hx⟩ := dp_tup h
  obtain ⟨xa, xc, xe, xg, rfl, qa, qc, qe, qg⟩ := dp_four hx
  rw [dp_str qa, dp_on qc, dp_int qe, dp_int qg] at hp
  exact ⟨p, rfl, hp⟩
set_option maxHeartbeats 2000000 in
theorem ok_str {f : Addr} {fd : FuncData} {k : Nat} (F : Fun K "stretches" "stretches" s_stretches f fd) (T : Txt mg) (c_marks_of : Cl P w K mg base (k + 4) "marks_of" (spMarks K)) : FnOk P w K mg base CX0 (k + 5) f fd ["palette", "turns", "first", "last"] (spStr K) := by
  refine F.ok sc_stretches (fun vs H Q E h => ?_) (fun cdv A outer s H vs Q E hr h => ?_)
  · obtain ⟨v, cs, ws, a, xs, ts, f, l, rfl, _⟩ := h
    rfl
  · obtain ⟨v, cs, ws, a, xs, ts, f, l, rfl, dpP, hS, hx, hin, wok, l31, q⟩ := h
    have nd := sc_stretches.nd
    /- 0 palette, 1 turns, 2 first, 3 last, 4 marks, 5 ends, 6 rows, 7 until, 8 word, 9 number, 10 since, 11 row, 12 mark -/
    refine ⟨_, (pss_cons (ps_set (i := 4) nd rfl (.inl rfl) (pe_op op_cat (pe_lst (pa_cons (pe_tup (pa_cons pe_str (pa_cons pe_non (pa_cons (pv 2) pa_nil)))) pa_nil)) (pe_cl c_marks_of hr (by omega) (by rfl) (pa_cons (pv 0) (pa_cons (pv 1) pa_nil)))))
      (pss_cons (ps_set (i := 5) nd rfl (.inl rfl) (pe_op op_cat (pe_lc (own := [("mark", 12)]) rfl nd (ki_list (K := K) (pe_slice (kl_list (K := K)) (pv 4) (po_some pe_int) po_none)) (blkOk_by (N := n_stretches) (sc := defScope s_stretches) (by decide +kernel)) (fun _ _ _ _ _ => (pg_name (i := 12) nd rfl (.inl rfl))) (fun _ _ _ _ _ => pts_nil) (fun _ _ _ _ _ => (pe_ix (kx_tup (K := K)) (pv 12) pe_int (fun _ _ => rfl)))) (pe_lst (pa_cons (pv 3) pa_nil))))
      (pss_cons (ps_setLc (i := 6) (own := [("until", 7), ("word", 8), ("number", 9), ("since", 10)]) rfl nd rfl rfl (sw_true rfl rfl rfl (by decide +kernel)) (ki_zip (K := K) (by rfl) T.zip (pa_cons (pv 4) (pa_cons (pv 5) pa_nil))) (blkOk_by (N := n_stretches) (sc := defScope s_stretches) (by decide +kernel)) (fun _ _ _ _ _ => (kg_tup (K := K) (n := 2) (pgs_cons (kg_tup (K := K) (n := 3) (pgs_cons (pg_name (i := 8) nd rfl (.inl rfl)) (pgs_cons (pg_name (i := 9) nd rfl (.inl rfl)) (pgs_cons (pg_name (i := 10) nd rfl (.inl rfl)) pgs_nil)))) (pgs_cons (pg_name (i := 7) nd rfl (.inl rfl)) pgs_nil)))) (fun _ _ _ _ _ => pts_nil) (fun _ _ _ _ _ => (pe_tup (pa_cons (pv 8) (pa_cons (pv 9) (pa_cons (pe_callB (call_max2 rfl) (by rfl) T.max (by decide +kernel) (pa_cons (pv 2) (pa_cons (pv 10) pa_nil))) (pa_cons (pe_callB (call_min2 rfl) (by rfl) T.min (by decide +kernel) (pa_cons (pv 3) (pa_cons (pv 7) pa_nil))) pa_nil)))))))
      (pss_one (ps_ret (pe_lc (own := [("row", 11)]) rfl nd (ki_list (K := K) (pv 6)) (blkOk_by (N := n_stretches) (sc := defScope s_stretches) (by decide +kernel)) (fun _ _ _ _ _ => (pg_name (i := 11) nd rfl (.inl rfl))) (fun _ _ _ _ _ => (pts_one (pt_cmpR op_lt (pe_ix (kx_tup (K := K)) (pv 11) pe_int (fun _ _ => rfl)) (pe_ix (kx_tup (K := K)) (pv 11) pe_int (fun _ _ => rfl)) (nomark _)))) (fun _ _ _ _ _ => (pv 11)))))))), ?_⟩
    have est : L2.start n_stretches [v, .ref a, .int f, .int l] = [some v, some (.ref a), some (.int f), some (.int l), none, none, none, none, none, none, none, none, none] := rfl
    rw [est]
    refine ⟨_, rfl, (by show 3 ≤ sizeLine; decide), fun t0 nt0 => ?_⟩
    have s1 := same_upd (o := .tup [.str "out", .non, .int f]) nt0
    have h0 : upd H t0 (.tup [.str "out", .non, .int f]) t0 = _ := upd_same
    generalize upd H t0 (.tup [.str "out", .non, .int f]) = H1 at s1 h0 ⊢
    refine ⟨(by show 1 ≤ sizeLine; decide), fun l0 nl0 => ?_⟩
    have s2 := s1.trans (same_upd (o := .lst [.ref t0]) nl0)
    have h0 := same_upd (o := .lst [.ref t0]) nl0 _ _ h0
    have hl0 : upd H1 l0 (.lst [.ref t0]) l0 = _ := upd_same
    generalize upd H1 l0 (.lst [.ref t0]) = H2 at s2 h0 hl0 ⊢
    refine ⟨_, rfl, _, rfl, v, cs, ws, a, xs, ts, rfl, dp_same s2 dpP, s2.seq hS, dpAll_same s2 hx, hin, wok, l31, fun H3 R ys s3 hR nR da => ?_⟩
    have s3' := s2.trans s3
    have h0 := s3 _ _ h0
    have hl0 := s3 _ _ hl0
    have lm := mks_len cs ws ts 0
    generalize mksF cs ws 0 ts = ms at da lm q
    have lys : ys.length = ms.length := dpAll_map_len da
    have da : DpAll K H3 ys (ms.map mkD) := dpAll_same off_sub da
    refine ⟨l0, R, _, _, rfl, rfl, hl0, hR, (by rw [sizeLine_eq]; show 1 + ys.length ≤ _; omega), fun M nM => ?_⟩
    have s4 := s3'.trans (same_upd (o := .lst ([.ref t0] ++ ys)) nM)
    have h0 := same_upd (o := .lst ([.ref t0] ++ ys)) nM _ _ h0
    have da := dpAll_same (same_upd (o := .lst ([.ref t0] ++ ys)) nM) da
    have hM : upd H3 M (.lst ([.ref t0] ++ ys)) M = _ := upd_same
    generalize upd H3 M (.lst ([.ref t0] ++ ys)) = H4 at s4 h0 da hM ⊢
    have dM : DpAll K H4 (.ref t0 :: ys) ((("out", none, f) :: ms.map opn : List Mo).map moD) := .cons (.tup (.inl (.inl h0)) (.cons (.str _) (.cons .non (.cons (.int _) .nil)))) (by rw [List.map_map]; exact da)
    clear hR nR hl0 nl0 nt0 s1 s2 s3 s3' nM
    refine ⟨_, rfl, _, rfl, M, _, rfl, SqL.of hM, fun l1 nl1 => ?_⟩
    have ecu : cutV ([V.ref t0] ++ ys) (some 1) none = ys := by
      have := cut_tail (xs := [V.ref t0] ++ ys) (k := 1); exact this
    rw [ecu]
    have s5 := s4.trans (same_upd (o := .lst ys) nl1)
    have dM := dpAll_same (same_upd (o := .lst ys) nl1) dM
    have hM := same_upd (o := .lst ys) nl1 _ _ hM
    have hl1 : upd H4 l1 (.lst ys) l1 = _ := upd_same
    generalize upd H4 l1 (.lst ys) = H5 at s5 dM hM hl1 ⊢
    cases dM with
    | cons d0 da5 =>
    refine ⟨l1, rfl, ⟨_, SqL.of hl1⟩, fun D nD => ?_⟩
    refine lc_it (walk_list (xs := ys)) (PvL H5 D fun i => ((ms.map (·.2.2)).take i).map V.int) (pv_start nD rfl) (fun i H6 _ h => SqL.of (h.1 _ _ hl1)) ?_ ?_
    · rintro i y H6 H7 hi p ⟨rfl, gx⟩
      obtain ⟨m0, gm0, dpm⟩ := dpAll_map_at da5 gx
      rw [List.getElem?_map] at gm0
      obtain ⟨m, gm, rfl⟩ := Option.map_eq_some_iff.mp gm0
      obtain ⟨pm, rfl, hpm⟩ := mo_dp dpm
      refine ⟨rfl, tYes_at ?_⟩
      rw [if_pos rfl]
      refine ⟨_, rfl, pm, _, 2, _, rfl, rfl, same_tup p.1 hpm, rfl, ?_⟩
      exact pv_put nD p (Same.refl _) (take_map V.int (by rw [List.getElem?_map, gm]; rfl)) (take_len_le (by rw [List.length_map]; omega))
    intro H6 p
    obtain ⟨s6, hD⟩ := pv_end p (take_all (by rw [List.length_map]; omega))
    have hM := s6 _ _ hM
    have dM : DpAll K H6 (.ref t0 :: ys) ((("out", none, f) :: ms.map opn : List Mo).map moD) := dpAll_same s6 (.cons d0 da5)
    have s6 := s5.trans s6
    refine ⟨_, rfl, (by show 1 ≤ sizeLine; decide), fun l2 nl2 => ?_⟩
    have s7 := s6.trans (same_upd (o := .lst [.int l]) nl2)
    have hM := same_upd (o := .lst [.int l]) nl2 _ _ hM
    have hD := same_upd (o := .lst [.int l]) nl2 _ _ hD
    have dM := dpAll_same (same_upd (o := .lst [.int l]) nl2) dM
    have hl2 : upd H6 l2 (.lst [.int l]) l2 = _ := upd_same
    generalize upd H6 l2 (.lst [.int l]) = H7 at s7 hM hD dM hl2 ⊢
    refine ⟨D, l2, _, _, rfl, rfl, hD, hl2, (by rw [sizeLine_eq]; simp only [List.length_map, List.length_cons, List.length_nil]; omega), fun E2 nE2 => ?_⟩
    have ee : (ms.map (·.2.2)).map V.int ++ [V.int l] = (ms.map (·.2.2) ++ [l]).map V.int := by rw [List.map_append]; rfl
    rw [ee]
    generalize hes : ms.map (·.2.2) ++ [l] = es
    have les : es.length = ms.length + 1 := by rw [← hes, List.length_append, List.length_map]; rfl
    have s8 := s7.trans (same_upd (o := .lst (es.map V.int)) nE2)
    have hM := same_upd (o := .lst (es.map V.int)) nE2 _ _ hM
    have dM := dpAll_same (same_upd (o := .lst (es.map V.int)) nE2) dM
    have hE : upd H7 E2 (.lst (es.map V.int)) E2 = _ := upd_same
    generalize upd H7 E2 (.lst (es.map V.int)) = H8 at s8 hM dM hE ⊢
    have hM : H8 M = some (.lst (V.ref t0 :: ys)) := hM
    generalize (V.ref t0 :: ys) = mv at hM dM
    have erow : strF f l ms = (((("out", none, f) :: ms.map opn : List Mo).zip es).map fun p => cutR f l p.1 p.2).filter keepR := by rw [← hes]; rfl
    rw [erow] at q
    have lmo : (("out", none, f) :: ms.map opn : List Mo).length = ms.length + 1 := by rw [List.length_cons, List.length_map]
    generalize (("out", none, f) :: ms.map opn : List Mo) = mo at dM q lmo
    have lmv : mv.length = mo.length := dpAll_map_len dM
    clear da5 d0 hD hl2 hl1 ee hes
    simp only [List.set]
    refine ⟨_, rfl, _, rfl, M, E2, _, _, rfl, .inl ⟨SqL.of hM, SqL.of hE, fun D2 nD2 => ?_⟩⟩
    have lz : (mo.zip es).length = ms.length + 1 := by rw [List.length_zip, lmo, les]; omega
    refine lc_it (walk_zip (xs := mv) (ys := es.map V.int) (n := (mo.zip es).length) (by rw [List.length_map, List.length_zip, lmv])) (PvD K H8 [] D2 fun j => (((mo.zip es).map fun p => cutR f l p.1 p.2).take j).map rwD) (pd_start nD2 rfl) (fun j H' _ h => ⟨SqL.of (h.sm _ _ hM), SqL.of (h.sm _ _ hE)⟩) ?_ ?_
    · rintro j y Ha Hb hj pz ⟨u, x1, y1, rfl, nu, rfl, gx, gy⟩
      replace gx : mv[j]? = some x1 := gx
      replace gy : (es.map V.int)[j]? = some y1 := gy
      rw [List.getElem?_map] at gy
      obtain ⟨e, ge, rfl⟩ := Option.map_eq_some_iff.mp gy
      obtain ⟨m, gm, dpm⟩ := dpAll_map_at dM gx
      obtain ⟨pm, rfl, hpm⟩ := mo_dp dpm
      have gz : (mo.zip es)[j]? = some (m, e) := (List.getElem?_zip_eq_some (z := (m, e))).mpr ⟨gm, ge⟩
      have pz := pz.same (same_upd (o := .tup [.ref pm, .int e]) nu)
      have hu : upd Ha u (.tup [.ref pm, .int e]) u = _ := upd_same
      generalize upd Ha u (.tup [.ref pm, .int e]) = Hc at pz hu ⊢
      refine ⟨u, _, rfl, .inl (.inl hu), rfl, _, _, rfl, pm, _, rfl, same_tup pz.sm hpm, rfl, _, _, rfl, _, _, rfl, _, _, rfl, rfl, _, _, rfl, rfl, rfl, tYes_at ?_⟩
      rw [if_pos rfl]
      refine ⟨_, rfl, _, rfl, _, rfl, _, rfl, _, _, rfl, _, rfl, _, rfl, _, _, rfl, (by show 4 ≤ sizeLine; decide), fun t4 n4 => ?_⟩
      exact pd_put nD2 pz (same_upd n4) (.tup (.inl (.inl (off_new (pz.live live_nil) n4))) (.cons (.str _) (.cons (on_dp _) (.cons (.int _) (.cons (.int _) .nil))))) (take_mapD rwD (x := cutR f l m e) (by rw [List.getElem?_map, gz]; rfl)) (take_lenD (by rw [List.length_map]; omega))
    intro H9 pz
    obtain ⟨s9, us, hD2, daR⟩ := pz
    have eall : (((mo.zip es).map fun p => cutR f l p.1 p.2).take (mo.zip es).length).map rwD = ((mo.zip es).map fun p => cutR f l p.1 p.2).map rwD := take_allD (by rw [List.length_map]; exact Nat.le_refl _)
    rw [eall] at daR
    have lrs : ((mo.zip es).map fun p => cutR f l p.1 p.2).length = ms.length + 1 := by rw [List.length_map]; exact lz
    generalize ((mo.zip es).map fun p => cutR f l p.1 p.2) = rs at daR q lrs
    have daR : DpAll K H9 us (rs.map rwD) := dpAll_same off_sub daR
    have lus : us.length = rs.length := dpAll_map_len daR
    have s9 := s8.trans s9
    refine ⟨_, rfl, D2, rfl, ⟨_, SqL.of hD2⟩, fun D3 nD3 => ?_⟩
    have daR0 : DpAll K (off H9 []) us (rs.map rwD) := by rw [off_nil]; exact daR
    refine lc_it (walk_list (xs := us)) (PvD K H9 [] D3 fun j => ((rs.take j).filter keepR).map rwD) (pd_start nD3 rfl) (fun j H' _ h => SqL.of (h.sm _ _ hD2)) ?_ ?_
    · rintro j y Ha Hb hj pv ⟨rfl, gx⟩
      obtain ⟨r, gr, dpr⟩ := dpAll_map_at daR0 gx
      obtain ⟨pr, rfl, hpr⟩ := rw_dp dpr
      have hpr := same_tup (off_sub.trans pv.sm) hpr
      refine ⟨rfl, _, rfl, pr, _, 2, _, rfl, rfl, hpr, rfl, _, rfl, pr, _, 3, _, rfl, rfl, hpr, rfl, _, _, rfl, rfl, _, rfl, ite2 (fun h => ?_) (fun h => ?_)⟩
      · exact ⟨_, rfl, pd_put nD3 pv (Same.refl _) (dp_same (pv.keep nD3) dpr) (filt_yes rwD gr h) (filt_len rwD _ (by omega))⟩
      · exact pd_skip pv (Same.refl _) (filt_no rwD gr ((Bool.not_eq_true _).mp h))
    intro H10 pv
    obtain ⟨s10, vs, hD3, daF⟩ := pv
    have efl : ((rs.take us.length).filter keepR).map rwD = (rs.filter keepR).map rwD := filt_all rwD _ (by omega)
    rw [efl] at daF
    have nD30 : H D3 = none := by
      cases e : H D3 with
      | none => rfl
      | some o => rw [s9 _ _ e] at nD3; cases nD3
    exact q _ _ _ (s9.trans s10) hD3 nD30 daF

end
end Pot

namespace Pot
open PySem PySem.Spec PyProof.Rows L2
section
variable {P : Program} {w : World} {K : PySem.W.Frag} {mg : Str → Option Value} {base : Heap}
/-! ### what is told of a break -/
theorem filt_take {α : Type} {p : α → Bool} : ∀ {l : List α}, (∀ (i j : Nat) (x y : α), i < j → l[i]? = some x → l[j]? = some y → p y = true → p x = true) → l.filter p = l.take (l.filter p).length
  | [], _ => rfl
  | y :: l, h => by
    have hl : ∀ (i j : Nat) (x y : α), i < j → l[i]? = some x → l[j]? = some y → p y = true → p x = true := fun i j x y hij g1 g2 => h (i + 1) (j + 1) x y (by omega) g1 g2
    cases hy : p y with
    | true =>
      rw [List.filter_cons_of_pos hy, List.length_cons, List.take_succ_cons, ← filt_take hl]
    | false =>
      have no : ∀ z ∈ y :: l, p z = false := fun z hz => by
        obtain ⟨i, hi, rfl⟩ := List.getElem_of_mem hz
        cases i with
        | zero => exact hy
        | succ i =>
          cases e : p (y :: l)[i + 1] with
          | false => rfl
          | true => exact absurd (h 0 (i + 1) y _ (Nat.succ_pos _) rfl (List.getElem?_eq_getElem hi) e) (by rw [hy]; exact Bool.false_ne_true)
      have e0 : (y :: l).filter p = [] := List.filter_eq_nil_iff.mpr fun z hz => by rw [no z hz]; exact Bool.false_ne_true
      rw [e0]; rfl
theorem end_take {cs : List Col} {ws : List Wsh} (pb : PalC cs ws) {ts : List Trn} {f : Int} {l : Option Str} (c : Ch cs ws f l ts) (h : Int) : endF h ts = ts.take (endF h ts).length := by
  have b := (ch_bounds pb c).2
  exact filt_take (p := fun t : Trn => decide (t.2.2.2 ≤ h)) (l := ts) fun i j x y hij g1 g2 z => decide_eq_true (by
    have := ch_sort pb c hij g1 g2
    have := b y (List.mem_of_getElem? g2)
    have := of_decide_eq_true z
    omega)
theorem ch_take {cs : List Col} {ws : List Wsh} : ∀ {ts : List Trn} {f : Int} {l : Option Str} (n : Nat), Ch cs ws f l ts → Ch cs ws f l (ts.take n)
  | _, _, _, 0, _ => trivial
  | [], _, _, _ + 1, _ => trivial
  | _ :: _, _, _, n + 1, ⟨s, r⟩ => ⟨s, ch_take n r⟩
theorem fau_none {cs : List Col} {ws : List Wsh} : ∀ {ts : List Trn} {p : Option Trn} {i : Nat}, (∀ j t, ts[j]? = some t → oneF cs ws (if j = 0 then p else ts[j - 1]?) t = none) → fauF cs ws p i ts = none
  | [], _, _, _ => by unfold fauF; rfl
  | t :: ts, p, i, h => by
    unfold fauF
    have h0 := h 0 t rfl
    rw [if_pos rfl] at h0
    rw [h0]
    show fauF cs ws (some t) (i + 1) ts = none
    refine fau_none fun j u g => ?_
    have := h (j + 1) u g
    rw [if_neg (by omega), show j + 1 - 1 = j by omega] at this
    cases j with
    | zero => rw [if_pos rfl]; exact this
    | succ j => rw [if_neg (by omega)]; exact this
theorem pb_take (cs : List Col) (ws : List Wsh) (s : Int) : ∀ (n : Nat) (bs : List Trn), bs.length = n → ∀ j, pbF cs ws s (bs.take j) = (pbF cs ws s bs).take j
  | 0, bs, h, j => by rw [List.length_eq_zero_iff.mp h, List.take_nil]; show [] = ([] : List Trn).take j; rw [List.take_nil]
  | n + 1, bs, h, j => by
    have hne : bs ≠ [] := fun z => by rw [z] at h; cases h
    have e := List.dropLast_concat_getLast hne
    have ld : bs.dropLast.length = n := by rw [List.length_dropLast, h]; rfl
    have ih := pb_take cs ws s n bs.dropLast ld j
    have lp : (pbF cs ws s bs.dropLast).length = n := pbF_len cs ws s n _ ld
    rcases Nat.lt_or_ge n j with z | z
    · rw [List.take_of_length_le (show bs.length ≤ j by omega), List.take_of_length_le (by rw [pbF_len cs ws s (n + 1) bs h]; omega)]
    · rw [← e, pbF_snoc, List.take_append_of_le_length (by omega), List.take_append_of_le_length (by omega), ih]
theorem pb_at {cs : List Col} {ws : List Wsh} {s : Int} {bs : List Trn} {j : Nat} {t : Trn} (g : bs[j]? = some t) : (pbF cs ws s bs)[j]? = some (plF cs t (nxF ws s ((pbF cs ws s bs).take j) t)) := by
  have lj : j < bs.length := (List.getElem?_eq_some_iff.mp g).1
  have e1 : bs.take (j + 1) = bs.take j ++ [t] := by rw [List.take_add_one, g]; rfl
  have e2 := pb_take cs ws s _ bs rfl (j + 1)
  rw [e1, pbF_snoc, pb_take cs ws s _ bs rfl j] at e2
  have l1 : ((pbF cs ws s bs).take j).length = j := by rw [List.length_take, pbF_len cs ws s _ bs rfl]; omega
  have e3 : ((pbF cs ws s bs).take (j + 1))[j]? = (pbF cs ws s bs)[j]? := List.getElem?_take_of_lt (by omega)
  rw [← e3, ← e2]
  have := List.getElem?_concat_length (l := (pbF cs ws s bs).take j) (a := plF cs t (nxF ws s ((pbF cs ws s bs).take j) t))
  rw [l1] at this
  exact this
/-- what stands of each turn behind a break -/
structure Pl (c : Col) (t q : Trn) (s : Int) : Prop where
  col : q.2.1 = t.2.1
  at_ : q.1 = mx t.1 s
  bg : q.2.2.1 = mx t.2.2.1 (q.1 + c.2.1 + c.2.2.1)
  en : q.2.2.2 = q.2.2.1 + t.2.2.2 - t.2.2.1
theorem pl_of {cs : List Col} {c : Col} {t : Trn} (ec : colF cs t.2.1 = some c) (s : Int) : Pl c t (plF cs t s) s := by
  have e : plF cs t s = (mx t.1 s, t.2.1, mx t.2.2.1 (mx t.1 s + c.2.1 + c.2.2.1), mx t.2.2.1 (mx t.1 s + c.2.1 + c.2.2.1) + t.2.2.2 - t.2.2.1) := by unfold plF; rw [ec]
  rw [e]
  exact ⟨rfl, rfl, rfl, rfl⟩
theorem mx_ge (i j : Int) : i ≤ mx i j ∧ j ≤ mx i j ∧ (mx i j = i ∨ mx i j = j) := by unfold mx; split <;> omega
theorem ch_gap {cs : List Col} {ws : List Wsh} {x y : Trn} : ∀ {ts : List Trn} {f : Int} {l : Option Str} {i : Nat}, Ch cs ws f l ts → ts[i]? = some x → ts[i + 1]? = some y → ∃ h c, washF ws (some x.2.1) y.2.1 = some h ∧ x.2.2.2 + h ≤ y.1 ∧ colF cs y.2.1 = some c ∧ y.1 + c.2.1 + c.2.2.1 ≤ y.2.2.1
  | [], _, _, _, _, g, _ => by cases g
  | [t], _, _, 0, _, _, g => by cases g
  | t :: u :: ts, f, l, 0, ⟨_, ⟨c, h, a1, a2, a3, a4, a5, a6⟩, _⟩, g, g2 => by
    cases g
    cases g2
    exact ⟨h, c, a2, a3, a1, a4⟩
  | t :: ts, f, l, i + 1, ⟨_, r⟩, g, g2 => ch_gap (i := i) r g g2
theorem plF_id {cs : List Col} {c : Col} {y : Trn} {s : Int} (ec : colF cs y.2.1 = some c) (h1 : s ≤ y.1) (h2 : y.1 + c.2.1 + c.2.2.1 ≤ y.2.2.1) : plF cs y s = y := by
  unfold plF
  rw [ec]
  obtain ⟨a, n, e, g⟩ := y
  have m1 : mx a s = a := by unfold mx; rw [if_neg (by show ¬ s > a; have : s ≤ a := h1; omega)]
  have m2 : mx e (a + c.2.1 + c.2.2.1) = e := by unfold mx; rw [if_neg (by have : a + c.2.1 + c.2.2.1 ≤ e := h2; omega)]
  show (mx a s, n, mx e (mx a s + c.2.1 + c.2.2.1), mx e (mx a s + c.2.1 + c.2.2.1) + g - e) = (a, n, e, g)
  rw [m1, m2, show e + g - e = g by omega]
theorem stay1 {cs : List Col} {ws : List Wsh} {ts : List Trn} {f0 s : Int} (c : Ch cs ws f0 none ts) (fs k : Nat) (hk : k + 1 < (ts.drop fs).length) (h : (pbF cs ws s (ts.drop fs))[k]? = (ts.drop fs)[k]?) : (pbF cs ws s (ts.drop fs))[k + 1]? = (ts.drop fs)[k + 1]? := by
  obtain ⟨x, gx⟩ : ∃ x, (ts.drop fs)[k]? = some x := ⟨_, List.getElem?_eq_getElem (by omega)⟩
  obtain ⟨y, gy⟩ : ∃ y, (ts.drop fs)[k + 1]? = some y := ⟨_, List.getElem?_eq_getElem hk⟩
  obtain ⟨hh, c0, e1, e2, e3, e4⟩ := ch_gap c (i := fs + k) (by rw [← List.getElem?_drop]; exact gx) (by rw [show fs + k + 1 = fs + (k + 1) by omega, ← List.getElem?_drop]; exact gy)
  rw [gx] at h
  rw [pb_at gy, gy]
  have en : nxF ws s ((pbF cs ws s (ts.drop fs)).take (k + 1)) y = x.2.2.2 + hh := by
    rw [List.take_add_one, h, Option.toList_some]
    unfold nxF
    rw [List.getLast?_concat]
    show x.2.2.2 + (washF ws (some x.2.1) y.2.1).getD 0 = _
    rw [e1]; rfl
  rw [en, plF_id e3 e2 e4]
theorem stayN {cs : List Col} {ws : List Wsh} {ts : List Trn} {f0 s : Int} (c : Ch cs ws f0 none ts) (fs k : Nat) (h : (pbF cs ws s (ts.drop fs))[k]? = (ts.drop fs)[k]?) : ∀ d : Nat, k + d < (ts.drop fs).length → (pbF cs ws s (ts.drop fs))[k + d]? = (ts.drop fs)[k + d]?
  | 0, _ => h
  | d + 1, hd => stay1 c fs (k + d) (by omega) (stayN c fs k h d (by omega))
def othF (bh bs : List Trn) (n : Nat) : List Nat := (List.range n).filter fun k => decide (bh[k]? ≠ bs[k]?)
theorem oth_mv (fs : Nat) (bh bs : List Trn) (e : bh.length = bs.length) : ∀ m : Nat, m ≤ bh.length → mvF fs (bh.take m) (bs.take m) = (othF bh bs m).map fun k => ((fs + k : Nat) : Int)
  | 0, _ => rfl
  | m + 1, h => by
    obtain ⟨x, gx⟩ : ∃ x, bh[m]? = some x := ⟨_, List.getElem?_eq_getElem (by omega)⟩
    obtain ⟨y, gy⟩ : ∃ y, bs[m]? = some y := ⟨_, List.getElem?_eq_getElem (by omega)⟩
    have l1 : (bh.take m).length = m := by rw [List.length_take]; omega
    have l2 : (bs.take m).length = m := by rw [List.length_take]; omega
    rw [List.take_add_one, gx, List.take_add_one, gy, Option.toList_some, Option.toList_some, mvF_snoc (by omega), oth_mv fs bh bs e m (by omega), l1]
    unfold othF
    rw [List.range_succ, List.filter_append, List.map_append]
    congr 1
    by_cases z : x = y
    · rw [if_pos z]
      simp [gx, gy, z]
    · rw [if_neg z]
      simp [gx, gy, z]
theorem oth_pre {cs : List Col} {ws : List Wsh} {ts : List Trn} {f0 s : Int} (c : Ch cs ws f0 none ts) (fs : Nat) : othF (pbF cs ws s (ts.drop fs)) (ts.drop fs) (ts.drop fs).length = List.range (othF (pbF cs ws s (ts.drop fs)) (ts.drop fs) (ts.drop fs).length).length := by
  have h := filt_take (p := fun k => decide ((pbF cs ws s (ts.drop fs))[k]? ≠ (ts.drop fs)[k]?)) (l := List.range (ts.drop fs).length) (fun i j x y hij g1 g2 z => by
    have hj := (List.getElem?_eq_some_iff.mp g2).1
    rw [List.length_range] at hj
    rw [List.getElem?_range (by omega)] at g1 g2
    cases g1
    cases g2
    refine decide_eq_true fun w => of_decide_eq_true z ?_
    have := stayN c fs i w (j - i) (by omega)
    rw [show i + (j - i) = j by omega] at this
    exact this)
  have l1 : (othF (pbF cs ws s (ts.drop fs)) (ts.drop fs) (ts.drop fs).length).length ≤ (ts.drop fs).length := by
    unfold othF
    exact Nat.le_trans (List.length_filter_le ..) (by rw [List.length_range]; exact Nat.le_refl _)
  refine Eq.trans h ?_
  rw [List.take_range, Nat.min_eq_left]
  · rfl
  · exact l1
theorem pb_none {cs : List Col} {ws : List Wsh} (pb : PalC cs ws) {s : Int} {bs : List Trn} (hin : ∀ t ∈ bs, InC cs t.2.1) (wok : WOk ws bs) : fauF cs ws none 0 (pbF cs ws s bs) = none := by
  refine fau_none fun j q g => ?_
  have lp : (pbF cs ws s bs).length = bs.length := pbF_len cs ws s _ bs rfl
  have lj : j < bs.length := by rw [← lp]; exact (List.getElem?_eq_some_iff.mp g).1
  obtain ⟨t, gt⟩ : ∃ t, bs[j]? = some t := ⟨_, List.getElem?_eq_getElem lj⟩
  obtain ⟨c, ec⟩ := colF_some (hin t (List.mem_of_getElem? gt))
  have e := pb_at (cs := cs) (ws := ws) (s := s) gt
  rw [g] at e
  have pq := pl_of ec (nxF ws s ((pbF cs ws s bs).take j) t)
  rw [← Option.some.inj e] at pq
  have f2 := mx_ge t.2.2.1 (q.1 + c.2.1 + c.2.2.1)
  rw [← pq.bg] at f2
  have f1 := mx_ge t.1 (nxF ws s ((pbF cs ws s bs).take j) t)
  rw [← pq.at_] at f1
  have hw : witF cs q = none := by
    unfold witF
    rw [pq.col, ec]
    show (if 0 < q.1 + c.2.1 + c.2.2.1 - q.2.2.1 then _ else none) = none
    rw [if_neg (by omega)]
  have hb : ((if j = 0 then none else (pbF cs ws s bs)[j - 1]?).bind fun p => btwF ws p q) = none := by
    cases j with
    | zero => rfl
    | succ j =>
      rw [if_neg (by omega), show j + 1 - 1 = j by omega]
      obtain ⟨tp, gtp⟩ : ∃ tp, bs[j]? = some tp := ⟨_, List.getElem?_eq_getElem (by omega)⟩
      have ep := pb_at (cs := cs) (ws := ws) (s := s) gtp
      obtain ⟨wh, ew⟩ := wok.at gtp gt
      have w0 := (washF_pos pb.wa ew).1
      rw [List.take_add_one, ep, Option.toList_some] at f1
      have ecp : (plF cs tp (nxF ws s ((pbF cs ws s bs).take j) tp)).2.1 = tp.2.1 := plF_col ..
      rw [ep]
      generalize plF cs tp (nxF ws s ((pbF cs ws s bs).take j) tp) = pp at f1 ecp
      unfold nxF at f1
      rw [List.getLast?_concat] at f1
      have en : (washF ws (some pp.2.1) t.2.1).getD 0 = wh := by rw [ecp, ew]; rfl
      have f1 : t.1 ≤ q.1 ∧ pp.2.2.2 + (washF ws (some pp.2.1) t.2.1).getD 0 ≤ q.1 ∧ _ := f1
      rw [en] at f1
      show btwF ws pp q = none
      unfold btwF
      rw [if_neg (by omega), pq.col, ecp, ew]
      show (if q.1 - pp.2.2.2 < wh then _ else none) = none
      rw [if_neg (by omega)]
  unfold oneF
  rw [hb]
  exact hw
def zT : Trn := (0, Str.ofString "", 0, 0)
def cstF (cs : List Col) (ws : List Wsh) (x y : Trn) : Int := (match colF cs x.2.1 with | some c => c.2.1 + c.2.2.1 | none => 0) + x.2.2.2 - x.2.2.1 + (washF ws (some x.2.1) y.2.1).getD 0
def sumC (cs : List Col) (ws : List Wsh) (ts : List Trn) (fs : Nat) : Nat → Int
  | 0 => 0
  | k + 1 => sumC cs ws ts fs k + cstF cs ws (ts.getD (fs + k) zT) (ts.getD (fs + k + 1) zT)
theorem gD {ts : List Trn} {i : Nat} {t : Trn} (g : ts[i]? = some t) : ts.getD i zT = t := by rw [List.getD_eq_getElem?_getD, g]; rfl
structure Mv (cs : List Col) (ws : List Wsh) (ts : List Trn) (fs : Nat) (s : Int) (k : Nat) (t q : Trn) : Prop where
  lo : s + sumC cs ws ts fs k ≤ q.1
  up : q ≠ t → q.1 = s + sumC cs ws ts fs k ∧ t.1 < q.1
theorem ch_col {cs : List Col} {ws : List Wsh} {x : Trn} : ∀ {ts : List Trn} {f : Int} {l : Option Str} {i : Nat}, Ch cs ws f l ts → ts[i]? = some x → ∃ c, colF cs x.2.1 = some c ∧ x.1 + c.2.1 + c.2.2.1 ≤ x.2.2.1
  | [], _, _, _, _, g => by cases g
  | t :: ts, f, l, 0, ⟨⟨c, h, a1, a2, a3, a4, a5, a6⟩, _⟩, g => by
    cases g
    exact ⟨c, a1, a4⟩
  | t :: ts, f, l, i + 1, ⟨_, r⟩, g => ch_col (i := i) r g
theorem mv_of {cs : List Col} {ws : List Wsh} {ts : List Trn} {f0 s : Int} (c : Ch cs ws f0 none ts) (fs : Nat) : ∀ (k : Nat) {t q : Trn}, (ts.drop fs)[k]? = some t → (pbF cs ws s (ts.drop fs))[k]? = some q → Mv cs ws ts fs s k t q
  | 0, t, q, g, gq => by
    obtain ⟨cc, e3, e4⟩ := ch_col c (i := fs + 0) (by rw [← List.getElem?_drop]; exact g)
    rw [pb_at g] at gq
    have gq := Option.some.inj gq
    have en : nxF ws s ((pbF cs ws s (ts.drop fs)).take 0) t = s := rfl
    rw [en] at gq
    have pq := pl_of e3 s
    rw [gq] at pq
    have m1 := mx_ge t.1 s
    rw [← pq.at_] at m1
    refine ⟨by show s + 0 ≤ _; omega, fun ne => ?_⟩
    have : ¬ s ≤ t.1 := fun z => ne (by rw [← gq]; exact plF_id e3 z e4)
    show q.1 = s + 0 ∧ _
    omega
  | k + 1, t, q, g, gq => by
    have lk : k + 1 < (ts.drop fs).length := (List.getElem?_eq_some_iff.mp g).1
    have lp : (pbF cs ws s (ts.drop fs)).length = (ts.drop fs).length := pbF_len cs ws s _ _ rfl
    obtain ⟨x, gx⟩ : ∃ x, (ts.drop fs)[k]? = some x := ⟨_, List.getElem?_eq_getElem (by omega)⟩
    obtain ⟨p, gp⟩ : ∃ p, (pbF cs ws s (ts.drop fs))[k]? = some p := ⟨_, List.getElem?_eq_getElem (by omega)⟩
    have ih := mv_of (s := s) c fs k gx gp
    have st := stay1 (s := s) c fs k lk
    rw [gx, gp, g, gq] at st
    have gx' : ts[fs + k]? = some x := by rw [← List.getElem?_drop]; exact gx
    have gt' : ts[fs + k + 1]? = some t := by rw [show fs + k + 1 = fs + (k + 1) by omega, ← List.getElem?_drop]; exact g
    obtain ⟨hh, c0, e1, e2, e3, e4⟩ := ch_gap c gx' gt'
    obtain ⟨cx, f3, f4⟩ := ch_col c gx'
    have eS : sumC cs ws ts fs (k + 1) = sumC cs ws ts fs k + (cx.2.1 + cx.2.2.1 + x.2.2.2 - x.2.2.1 + hh) := by
      show sumC cs ws ts fs k + cstF cs ws (ts.getD (fs + k) zT) (ts.getD (fs + k + 1) zT) = _
      rw [gD gx', gD gt']
      unfold cstF
      rw [f3, e1]
      rfl
    have gp2 := gp
    rw [pb_at gx] at gp2
    have pp := pl_of f3 (nxF ws s ((pbF cs ws s (ts.drop fs)).take k) x)
    rw [Option.some.inj gp2] at pp
    have en : nxF ws s ((pbF cs ws s (ts.drop fs)).take (k + 1)) t = p.2.2.2 + hh := by
      rw [List.take_add_one, gp, Option.toList_some]
      unfold nxF
      rw [List.getLast?_concat]
      show p.2.2.2 + (washF ws (some p.2.1) t.2.1).getD 0 = _
      rw [pp.col, e1]; rfl
    rw [pb_at g] at gq
    have gq := Option.some.inj gq
    rw [en] at gq
    have pq := pl_of e3 (p.2.2.2 + hh)
    rw [gq] at pq
    have m1 := mx_ge t.1 (p.2.2.2 + hh)
    rw [← pq.at_] at m1
    have m2 := mx_ge x.2.2.1 (p.1 + cx.2.1 + cx.2.2.1)
    rw [← pp.bg] at m2
    have pe := pp.en
    have lo := ih.lo
    refine ⟨by rw [eS]; omega, fun ne => ?_⟩
    have n2 : p ≠ x := fun z => ne (Option.some.inj (st (by rw [z])))
    have u := ih.up n2
    have : ¬ p.2.2.2 + hh ≤ t.1 := fun z => ne (by rw [← gq]; exact plF_id e3 z e4)
    rw [eS]
    omega
theorem mv_iff {cs : List Col} {ws : List Wsh} {ts : List Trn} {f0 s : Int} (c : Ch cs ws f0 none ts) (fs k : Nat) {t q : Trn} (g : (ts.drop fs)[k]? = some t) (gq : (pbF cs ws s (ts.drop fs))[k]? = some q) : q ≠ t ↔ t.1 < s + sumC cs ws ts fs k := by
  have m := mv_of (s := s) c fs k g gq
  constructor
  · intro n
    have := m.up n
    omega
  · rintro l rfl
    have := m.lo
    omega

end
end Pot

namespace Pot
open PySem PySem.Spec PyProof.Rows L2
section
variable {P : Program} {w : World} {K : PySem.W.Frag} {mg : Str → Option Value} {base : Heap}
abbrev s_last_warm : Stmt := topS 16
def n_last_warm : List Str := ["palette", "turns", "hour", "number", "latest", "ahead", "at", "colour", "begin", "end", "wash"]
theorem sc_last_warm : FnScope n_last_warm ["palette", "turns", "hour", "number"] (defScope s_last_warm) := ⟨rfl, rfl, rfl, by decide +kernel, rfl, by decide +kernel, by decide +kernel⟩
def spLast (K : PySem.W.Frag) : Sp := fun vs H Q _ => ∃ (v : V) (cs : List Col) (ws : List Wsh) (a : Addr) (xs : List V) (ts : List Trn) (h : Int) (k : Nat), vs = [v, .ref a, .int h, .int ((fstF h ts + k : Nat) : Int)] ∧ Dp K H v (palD cs ws) ∧ SqL K H a xs ∧ DpAll K H xs (ts.map trD) ∧ ts.length ≤ 31 ∧ (∀ t ∈ ts, InC cs t.2.1) ∧ WOk ws ts ∧ fstF h ts + k < ts.length ∧
  ∀ H', Same H H' → Q (.int ((ts.getD (fstF h ts + k) zT).1 - sumC cs ws ts (fstF h ts) k - h)) H'
set_option maxHeartbeats 1000000 in
theorem ok_last {f : Addr} {fd : FuncData} {k : Nat} (F : Fun K "last_warm" "last_warm" s_last_warm f fd) (T : Txt mg) (c_first_behind : Cl P w K mg base (k + 1) "first_behind" (spFb K)) (c_wash_for : Cl P w K mg base (k + 2) "wash_for" (spWash K)) (c_ready_at1 : ClD P w K mg base (k + 2) "ready_at" [.int 0] (spReady K)) : FnOk P w K mg base CX0 (k + 4) f fd ["palette", "turns", "hour", "number"] (spLast K) := by
  refine F.ok sc_last_warm (fun vs H Q E h => ?_) (fun cdv A outer s H vs Q E hr h => ?_)
  · obtain ⟨v, cs, ws, a, xs, ts, h, k, rfl, _⟩ := h
    rfl
  · obtain ⟨v, cs, ws, a, xs, ts, h, kk, rfl, dpP, hS, hx, hl, hin, wok, hk, q⟩ := h
    have nd := sc_last_warm.nd
    /- 0 palette, 1 turns, 2 hour, 3 number, 4 latest, 5 ahead, 6 at, 7 colour, 8 begin, 9 end, 10 wash -/
    refine ⟨_, (pss_cons (ps_set (i := 4) nd rfl (.inl rfl) (pe_ix (kx_tup (K := K)) (pe_ix (kx_list (K := K)) (pv 1) (pv 3) (fun _ _ => rfl)) pe_int (fun _ _ => rfl)))
      (pss_cons (ps_for PassesOwn.never rfl (pi_range3 (by rfl) T.range (pa_cons (pe_op op_sub (pv 3) pe_int) (pa_cons (pe_op op_sub (pe_cl c_first_behind hr (by omega) (by rfl) (pa_cons (pv 1) (pa_cons (pv 2) pa_nil))) pe_int) (pa_cons (pe_un un_neg pe_int) pa_nil)))) (pg_name (i := 5) nd rfl (.inl rfl))
          (pss_cons (ps_asg (pe_ix (kx_list (K := K)) (pv 1) (pv 5) (fun _ _ => rfl)) (kg_tup (K := K) (n := 4) (pgs_cons (pg_name (i := 6) nd rfl (.inl rfl)) (pgs_cons (pg_name (i := 7) nd rfl (.inl rfl)) (pgs_cons (pg_name (i := 8) nd rfl (.inl rfl)) (pgs_cons (pg_name (i := 9) nd rfl (.inl rfl)) pgs_nil))))))
          (pss_cons (ps_set (i := 10) nd rfl (.inl rfl) (pe_cl c_wash_for hr (by omega) (by rfl) (pa_cons (pv 0) (pa_cons (pv 7) (pa_cons (pe_ix (kx_tup (K := K)) (pe_ix (kx_list (K := K)) (pv 1) (pe_op op_add (pv 5) pe_int) (fun _ _ => rfl)) pe_int (fun _ _ => rfl)) pa_nil)))))
          (pss_one (ps_aug (i := 4) nd rfl (.inl rfl) (pe_op op_add (pe_op op_sub (pe_op op_add (pe_cd c_ready_at1 hr (by omega) (by rfl) (pa_cons (pv 0) (pa_cons (pv 7) pa_nil))) (pv 9)) (pv 8)) (pv 10)) ip_sub)))))
      (pss_one (ps_ret (pe_op op_sub (pv 4) (pv 2)))))), ?_⟩
    have lx : xs.length = ts.length := dpAll_map_len hx
    generalize efs : fstF h ts = fs at *
    obtain ⟨tn, gn, dpn⟩ := dpAll_map_at hx (List.getElem?_eq_getElem (show fs + kk < xs.length by omega))
    obtain ⟨pn, en, hpn⟩ := tr_dp dpn
    rw [gD gn] at q
    refine ⟨_, rfl, _, rfl, a, _, _, _, rfl, rfl, hS, atI_nat (by rw [List.getElem?_eq_getElem (show fs + kk < xs.length by omega), en]), pn, _, 0, _, rfl, rfl, hpn, rfl, ?_⟩
    refine ⟨_, rfl, _, _, rfl, rfl, _, rfl, _, rfl, a, xs, ts, h, rfl, hS, hx, hl, fun H1 s1 => ?_⟩
    rw [efs]
    refine ⟨_, _, rfl, rfl, 1, rfl, _, _, -1, kk, rfl, (by
      have := RgC.neg (i := ((fs + kk : Nat) : Int) - 1) (j := ((fs : Nat) : Int) - 1) (by omega) (by omega) (by omega) (by omega)
      rw [show (((fs + kk : Nat) : Int) - 1 - (((fs : Nat) : Int) - 1)).toNat = kk by omega] at this
      exact this), ?_⟩
    refine for_it walk_rangeC (fun i σ Hx => ∃ v5 v6 v7 v8 v9 v10, σ = [some v, some (.ref a), some (.int h), some (.int ((fs + kk : Nat) : Int)), some (.int (tn.1 - (sumC cs ws ts fs kk - sumC cs ws ts fs (kk - i)))), v5, v6, v7, v8, v9, v10] ∧ Same H Hx) ⟨none, none, none, none, none, none, (by rw [Nat.sub_zero, Int.sub_self, Int.sub_zero]; rfl), s1⟩ (fun _ _ _ _ _ => trivial) ?_ ?_
    · rintro i x σ Hax Ha hi ⟨v5, v6, v7, v8, v9, v10, rfl, sA⟩ ⟨rfl, ex⟩
      have hi : i < kk := hi
      obtain ⟨j, ej⟩ : ∃ j, kk - i = j + 1 := ⟨kk - i - 1, by omega⟩
      have ej2 : kk - (i + 1) = j := by omega
      rw [ej]
      have ea : ((fs + kk : Nat) : Int) - 1 + ((i : Nat) : Int) * -1 = ((fs + j : Nat) : Int) := by omega
      have ex : x = V.int ((fs + j : Nat) : Int) := by rw [← ea]; exact ex
      subst ex
      obtain ⟨t, gt, dpt⟩ := dpAll_map_at hx (List.getElem?_eq_getElem (show fs + j < xs.length by omega))
      obtain ⟨p, ep, hp⟩ := tr_dp dpt
      obtain ⟨u, gu, dpu⟩ := dpAll_map_at hx (List.getElem?_eq_getElem (show fs + j + 1 < xs.length by omega))
      obtain ⟨r, er, hr2⟩ := tr_dp dpu
      have it := hin t (List.mem_of_getElem? gt)
      have iu := hin u (List.mem_of_getElem? gu)
      obtain ⟨c, ec⟩ := colF_some it
      obtain ⟨wh, ew⟩ := wok.at gt gu
      have a1 : atI xs ((fs + j : Nat) : Int) = some (.ref p) := atI_nat (by rw [List.getElem?_eq_getElem (show fs + j < xs.length by omega), ep])
      have a2 : atI xs (((fs + j : Nat) : Int) + 1) = some (.ref r) := by
        rw [show ((fs + j : Nat) : Int) + 1 = ((fs + j + 1 : Nat) : Int) by omega]
        exact atI_nat (by rw [List.getElem?_eq_getElem (show fs + j + 1 < xs.length by omega), er])
      have eS : sumC cs ws ts fs (j + 1) = sumC cs ws ts fs j + (c.2.1 + c.2.2.1 + t.2.2.2 - t.2.2.1 + wh) := by
        show sumC cs ws ts fs j + cstF cs ws (ts.getD (fs + j) zT) (ts.getD (fs + j + 1) zT) = _
        rw [gD gt, gD gu]
        unfold cstF
        rw [ec, ew]
        rfl
      refine ⟨_, rfl, _, rfl, a, _, _, _, rfl, rfl, sA.seq hS, a1, p, _, rfl, same_tup sA hp, rfl, _, _, rfl, _, _, rfl, _, _, rfl, _, _, rfl, rfl, ?_⟩
      simp only [List.set]
      refine ⟨_, rfl, _, rfl, _, rfl, _, rfl, _, _, rfl, rfl, a, _, _, _, rfl, rfl, sA.seq hS, a2, r, _, 1, _, rfl, rfl, same_tup sA hr2, rfl, v, cs, ws, some t.2.1, u.2.1, rfl, dp_same sA dpP, (fun z e => by cases e; exact it), iu, ?_⟩
      rw [ew]
      refine ⟨_, rfl, _, rfl, _, rfl, v, cs, ws, t.2.1, 0, rfl, dp_same sA dpP, it, fun c2 ec2 => ?_⟩
      rw [ec] at ec2
      cases ec2
      refine ⟨_, rfl, _, _, rfl, rfl, _, rfl, _, _, rfl, rfl, _, rfl, _, _, rfl, rfl, _, _, rfl, rfl, ?_⟩
      have this : tn.1 - (sumC cs ws ts fs kk - sumC cs ws ts fs (j + 1)) - (0 + c.2.1 + c.2.2.1 + t.2.2.2 - t.2.2.1 + wh) = tn.1 - (sumC cs ws ts fs kk - sumC cs ws ts fs (kk - (i + 1))) := by rw [ej2, eS]; omega
      dsimp only
      rw [this]
      exact ⟨_, _, _, _, _, _, rfl, sA⟩
    · rintro σ Ha ⟨v5, v6, v7, v8, v9, v10, rfl, sA⟩
      rw [Nat.sub_self]
      refine ⟨_, rfl, _, rfl, _, _, rfl, rfl, ?_⟩
      have := q _ sA
      show Q (V.int (tn.1 - (sumC cs ws ts fs kk - 0) - h)) _
      rw [Int.sub_zero]
      exact this

end
end Pot

namespace Pot
open PySem PySem.Spec PyProof.Rows L2
section
variable {P : Program} {w : World} {K : PySem.W.Frag} {mg : Str → Option Value} {base : Heap}
/-! ### how great the hours behind a break may be -/
theorem wgd {ws : List Wsh} (hw : ∀ r ∈ ws, ∀ i, r.2.2 = some i → 0 ≤ i ∧ i ≤ 99) (l : Option Str) (b : Str) : 0 ≤ (washF ws l b).getD 0 ∧ (washF ws l b).getD 0 ≤ 99 := by
  cases e : washF ws l b with
  | none => exact ⟨Int.le_refl _, by show (0 : Int) ≤ 99; decide⟩
  | some h => exact washF_pos hw e
def InU (U : Int) (t : Trn) : Prop := 0 ≤ t.1 ∧ t.1 ≤ U ∧ 0 ≤ t.2.2.1 ∧ t.2.2.1 ≤ U ∧ t.2.2.1 ≤ t.2.2.2 ∧ t.2.2.2 ≤ U
theorem mx_le {i j U : Int} (h1 : i ≤ U) (h2 : j ≤ U) : mx i j ≤ U := by unfold mx; split <;> omega
theorem mx_ge2 (i j : Int) : i ≤ mx i j ∧ j ≤ mx i j := by unfold mx; split <;> omega
theorem pl_in {cs : List Col} {ws : List Wsh} (pb : PalC cs ws) {U V s : Int} {t : Trn} (ht : InU U t) (s0 : 0 ≤ s) (h1 : U ≤ V) (h2 : s ≤ V) : InU (V + U + 200) (plF cs t s) := by
  unfold InU at ht
  unfold plF
  split
  · unfold InU; omega
  · rename_i c ec
    obtain ⟨c1, c2, c3, c4⟩ := pb.ch c (colF_mem ec).1
    have m1 := mx_le (i := t.1) (j := s) (U := V) (by omega) h2
    have m2 := mx_ge2 t.1 s
    have m3 := mx_le (i := t.2.2.1) (j := mx t.1 s + c.2.1 + c.2.2.1) (U := V + 119) (by omega) (by omega)
    have m4 := mx_ge2 t.2.2.1 (mx t.1 s + c.2.1 + c.2.2.1)
    refine ⟨?_, ?_, ?_, ?_, ?_, ?_⟩
    · show 0 ≤ mx t.1 s; omega
    · show mx t.1 s ≤ _; omega
    · show 0 ≤ mx t.2.2.1 (mx t.1 s + c.2.1 + c.2.2.1); omega
    · show mx t.2.2.1 (mx t.1 s + c.2.1 + c.2.2.1) ≤ _; omega
    · show mx t.2.2.1 (mx t.1 s + c.2.1 + c.2.2.1) ≤ mx t.2.2.1 (mx t.1 s + c.2.1 + c.2.2.1) + t.2.2.2 - t.2.2.1; omega
    · show mx t.2.2.1 (mx t.1 s + c.2.1 + c.2.2.1) + t.2.2.2 - t.2.2.1 ≤ _; omega
theorem InU.mono {U V : Int} {t : Trn} (h : InU U t) (l : U ≤ V) : InU V t := by unfold InU at *; omega
theorem pb_in {cs : List Col} {ws : List Wsh} (pb : PalC cs ws) {U V s : Int} (u0 : 0 ≤ U) (h1 : U ≤ V) (s0 : 0 ≤ s) (h2 : s ≤ V) : ∀ (n : Nat) (bs : List Trn), bs.length = n → (∀ t ∈ bs, InU U t) → ∀ q ∈ pbF cs ws s bs, InU (V + (n : Nat) * (U + 300)) q
  | 0, bs, h, _, q, hq => by rw [List.length_eq_zero_iff.mp h] at hq; cases hq
  | n + 1, bs, h, hb, q, hq => by
    have hne : bs ≠ [] := fun z => by rw [z] at h; cases h
    have e := List.dropLast_concat_getLast hne
    have ld : bs.dropLast.length = n := by rw [List.length_dropLast, h]; rfl
    have hd : ∀ t ∈ bs.dropLast, InU U t := fun t ht => hb t ((List.dropLast_sublist _).subset ht)
    have ih := pb_in pb u0 h1 s0 h2 n _ ld hd
    have hmul : ((n + 1 : Nat) : Int) * (U + 300) = (n : Nat) * (U + 300) + U + 300 := by rw [Int.natCast_add, Int.add_mul]; omega
    have hpos : 0 ≤ ((n : Nat) : Int) * (U + 300) := Int.mul_nonneg (by omega) (by omega)
    rw [hmul]
    generalize ((n : Nat) : Int) * (U + 300) = X at *
    rw [← e, pbF_snoc] at hq
    rcases List.mem_append.mp hq with hq | hq
    · exact (ih q hq).mono (by omega)
    · rw [List.mem_singleton.mp hq]
      have hl := hb _ (List.getLast_mem hne)
      have hs : 0 ≤ nxF ws s (pbF cs ws s bs.dropLast) (bs.getLast hne) ∧ nxF ws s (pbF cs ws s bs.dropLast) (bs.getLast hne) ≤ V + X + 99 := by
        unfold nxF
        split
        · omega
        · rename_i q0 e0
          have hq0 := ih q0 (List.mem_of_getLast? e0)
          have := wgd pb.wa (some q0.2.1) (bs.getLast hne).2.1
          unfold InU at hq0
          omega
      exact (pl_in pb hl hs.1 (V := V + X + 99) (by omega) hs.2).mono (by omega)
theorem mv_in : ∀ (xs ys : List Trn) (n : Nat), ∀ i ∈ mvF n xs ys, 0 ≤ i ∧ i ≤ ((n + xs.length : Nat) : Int)
  | [], _, _, i, h => (List.not_mem_nil h).elim
  | _ :: _, [], _, i, h => (List.not_mem_nil h).elim
  | x :: xs, y :: ys, n, i, h => by
    have h : i ∈ (if x = y then [] else [((n : Nat) : Int)]) ++ mvF (n + 1) xs ys := h
    rcases List.mem_append.mp h with h | h
    · split at h
      · cases h
      · rw [List.mem_singleton.mp h]
        show 0 ≤ ((n : Nat) : Int) ∧ ((n : Nat) : Int) ≤ ((n + (xs.length + 1) : Nat) : Int)
        omega
    · have := mv_in xs ys (n + 1) i h
      show 0 ≤ i ∧ i ≤ ((n + (xs.length + 1) : Nat) : Int)
      omega

/-! ### the turns behind a break are again turns without fault -/
theorem st_two {cs : List Col} {ws : List Wsh} (pb : PalC cs ws) {x y : Trn} : ∀ {ts : List Trn} {f : Int} {l : Option Str} {j : Nat}, Ch cs ws f l ts → ts[j]? = some x → ts[j + 1]? = some y → ∃ c h, colF cs y.2.1 = some c ∧ washF ws (some x.2.1) y.2.1 = some h ∧ 0 ≤ h ∧ x.2.2.2 + h ≤ y.1 ∧ y.1 + c.2.1 + c.2.2.1 ≤ y.2.2.1 ∧ y.2.2.1 < y.2.2.2 ∧ y.2.2.2 ≤ x.2.2.2 + 400
  | [], _, _, _, _, g, _ => by cases g
  | [_], _, _, 0, _, _, g => by cases g
  | a :: b :: r, f, l, 0, ⟨_, ⟨c, h, a1, a2, a3, a4, a5, a6⟩, _⟩, g, g2 => by
    cases g
    cases g2
    exact ⟨c, h, a1, a2, (washF_pos pb.wa a2).1, a3, a4, a5, a6⟩
  | a :: r, f, l, j + 1, ⟨_, r2⟩, g, g2 => st_two pb (ts := r) (j := j) r2 g g2
theorem st_dur {cs : List Col} {ws : List Wsh} (pb : PalC cs ws) {t : Trn} : ∀ {ts : List Trn} {f : Int} {l : Option Str} {j : Nat}, Ch cs ws f l ts → ts[j]? = some t → ∃ c, colF cs t.2.1 = some c ∧ t.1 + c.2.1 + c.2.2.1 ≤ t.2.2.1 ∧ t.2.2.1 < t.2.2.2 ∧ t.2.2.2 ≤ t.1 + 400
  | [], _, _, _, _, g => by cases g
  | a :: r, f, l, 0, ⟨⟨c, h, a1, a2, a3, a4, a5, a6⟩, _⟩, g => by
    cases g
    have := (washF_pos pb.wa a2).1
    exact ⟨c, a1, a4, a5, by omega⟩
  | a :: r, f, l, j + 1, ⟨_, r2⟩, g => st_dur pb (ts := r) (j := j) r2 g
theorem nxS {ws : List Wsh} {s : Int} {l : List Trn} {j : Nat} {q t : Trn} (g : l[j]? = some q) : nxF ws s (l.take (j + 1)) t = q.2.2.2 + (washF ws (some q.2.1) t.2.1).getD 0 := by
  unfold nxF
  rw [List.take_add_one, g, Option.toList_some, List.getLast?_concat]
theorem ch_idx {cs : List Col} {ws : List Wsh} : ∀ {us : List Trn} {f : Int} {l : Option Str}, (∀ t, us[0]? = some t → St cs ws f l t) → (∀ (j : Nat) (x y : Trn), us[j]? = some x → us[j + 1]? = some y → St cs ws x.2.2.2 (some x.2.1) y) → Ch cs ws f l us
  | [], _, _, _, _ => trivial
  | t :: r, f, l, h0, h1 => ⟨h0 t rfl, ch_idx (fun y g => h1 0 t y rfl g) (fun j x y g1 g2 => h1 (j + 1) x y g1 g2)⟩
theorem wash_new (ws : List Wsh) (z : Str) : washF ws none z = some 0 := washF_none fun j r _ _ h => by cases h.1
theorem pb_src {cs : List Col} {ws : List Wsh} {s : Int} {bs : List Trn} {j : Nat} {q : Trn} (g : (pbF cs ws s bs)[j]? = some q) : ∃ t, bs[j]? = some t ∧ q = plF cs t (nxF ws s ((pbF cs ws s bs).take j) t) := by
  have lj : j < bs.length := by
    have := (List.getElem?_eq_some_iff.mp g).1
    rw [pbF_len cs ws s _ bs rfl] at this
    exact this
  have gt := List.getElem?_eq_getElem lj
  refine ⟨_, gt, ?_⟩
  have := pb_at (cs := cs) (ws := ws) (s := s) gt
  rw [g] at this
  exact Option.some.inj this
theorem ch_pb {cs : List Col} {ws : List Wsh} (pb : PalC cs ws) {ts : List Trn} {f0 : Int} (s : Int) (c : Ch cs ws f0 none ts) (fs : Nat) : ∃ f1, s ≤ f1 ∧ Ch cs ws f1 none (pbF cs ws s (ts.drop fs)) := by
  cases h0 : (pbF cs ws s (ts.drop fs))[0]? with
  | none =>
    refine ⟨s, Int.le_refl _, ?_⟩
    have : pbF cs ws s (ts.drop fs) = [] := List.length_eq_zero_iff.mp (by have := List.getElem?_eq_none_iff.mp h0; omega)
    rw [this]
    trivial
  | some q0 =>
    have dur : ∀ {j : Nat} {t : Trn}, (ts.drop fs)[j]? = some t → ∃ c, colF cs t.2.1 = some c ∧ t.1 + c.2.1 + c.2.2.1 ≤ t.2.2.1 ∧ t.2.2.1 < t.2.2.2 ∧ t.2.2.2 ≤ t.1 + 400 := fun {j t} g => by
      rw [List.getElem?_drop] at g
      exact st_dur pb c g
    obtain ⟨t0, gt0, eq0⟩ := pb_src h0
    have eq0 : q0 = plF cs t0 s := eq0
    obtain ⟨c0, ec0, d1, d2, d3⟩ := dur gt0
    have P0 := pl_of ec0 s
    rw [← eq0] at P0
    obtain ⟨p1, p2, p3, p4⟩ := P0
    have m1 := mx_ge t0.1 s
    have m2 := mx_ge t0.2.2.1 (q0.1 + c0.2.1 + c0.2.2.1)
    refine ⟨q0.1, by omega, ch_idx (fun q g => ?_) (fun j x y g1 g2 => ?_)⟩
    · rw [h0] at g
      cases g
      exact ⟨c0, 0, by rw [p1]; exact ec0, wash_new ws _, by omega, by omega, by omega, by omega⟩
    · obtain ⟨t, gt, ex⟩ := pb_src g1
      obtain ⟨u, gu, ey⟩ := pb_src g2
      obtain ⟨ct, ect, e1, e2, e3⟩ := dur gt
      have Px := pl_of ect (nxF ws s ((pbF cs ws s (ts.drop fs)).take j) t)
      rw [← ex] at Px
      rw [List.getElem?_drop] at gt gu
      obtain ⟨cu, h, ecu, ew, h0', b1, b2, b3, b4⟩ := st_two pb c gt gu
      rw [nxS g1, Px.col, ew] at ey
      have Py := pl_of ecu (x.2.2.2 + (some h).getD 0)
      rw [← ey] at Py
      have eg : (some h).getD 0 = h := rfl
      rw [eg] at Py
      have n1 := mx_ge t.1 (nxF ws s ((pbF cs ws s (ts.drop fs)).take j) t)
      have n2 := mx_ge t.2.2.1 (x.1 + ct.2.1 + ct.2.2.1)
      have n3 := mx_ge u.1 (x.2.2.2 + h)
      have n4 := mx_ge u.2.2.1 (y.1 + cu.2.1 + cu.2.2.1)
      have x1 := Px.at_
      have x2 := Px.bg
      have x3 := Px.en
      have y1 := Py.at_
      have y2 := Py.bg
      have y3 := Py.en
      refine ⟨cu, h, by rw [Py.col]; exact ecu, by rw [Px.col, Py.col]; exact ew, by omega, by omega, by omega, ?_⟩
      rcases n4.2.2 with z | z
      · omega
      · rcases n3.2.2 with z2 | z2 <;> omega
theorem lastE_mem : ∀ {us : List Trn} {f : Int}, us ≠ [] → ∃ t ∈ us, lastE f us = t.2.2.2
  | [], _, h => absurd rfl h
  | [t], _, _ => ⟨t, List.mem_cons_self, rfl⟩
  | t :: u :: r, f, _ => by
    obtain ⟨x, hx, e⟩ := lastE_mem (us := u :: r) (f := t.2.2.2) (fun z => by cases z)
    exact ⟨x, List.mem_cons_of_mem _ hx, e⟩
theorem ch_cutoff {cs : List Col} {ws : List Wsh} (pb : PalC cs ws) {us : List Trn} {f1 : Int} (c : Ch cs ws f1 none us) (h : 0 ≤ f1) : ∃ f2, 0 ≤ f2 ∧ Ch cs ws f2 none (endF 1000000 us) ∧ lastE f2 (endF 1000000 us) ≤ 1000000 := by
  have e := end_take pb c 1000000
  by_cases z : endF 1000000 us = []
  · rw [z]
    exact ⟨0, Int.le_refl _, trivial, by show (0 : Int) ≤ 1000000; decide⟩
  · refine ⟨f1, h, by rw [e]; exact ch_take _ c, ?_⟩
    obtain ⟨t, ht, et⟩ := lastE_mem (f := f1) z
    rw [et]
    exact of_decide_eq_true (List.mem_filter.mp ht).2
theorem ch_ris {cs : List Col} {ws : List Wsh} (pb : PalC cs ws) : ∀ {us : List Trn} {f : Int} {l : Option Str}, Ch cs ws f l us → risI (us.map (·.1)) = true
  | [], _, _, _ => rfl
  | [_], _, _, _ => rfl
  | a :: b :: r, f, l, ⟨s1, s2, r2⟩ => by
    show (decide (a.1 < b.1) && risI ((b :: r).map (·.1))) = true
    rw [ch_ris pb (us := b :: r) ⟨s2, r2⟩, Bool.and_true]
    have c1 := (ch_bounds pb (ts := a :: b :: r) ⟨s1, s2, r2⟩).2 a List.mem_cons_self
    obtain ⟨_, h, _, a2, a3, _⟩ := s2
    have := (washF_pos pb.wa a2).1
    exact decide_eq_true (by omega)
theorem inC_of {cs : List Col} {z : Str} (h : InC cs z) : inC cs (.str z) = true := by
  obtain ⟨c, hc, rfl⟩ := h
  exact List.any_eq_true.mpr ⟨.str c.1, List.mem_map.mpr ⟨c, hc, rfl⟩, by simp [PyData.eqv]⟩
theorem turn_yes {cs : List Col} {i j k : Int} {c : PyData} (hc : inC cs c = true) (h0 : 0 ≤ i) (h1 : i < j) (h2 : j < k) (h3 : k ≤ 1000000) : turnD cs (.tuple [.int i, c, .int j, .int k]) = true := by
  show (inC cs c && ((decide (0 ≤ i) && decide (i ≤ 1000000)) && ((decide (0 ≤ j) && decide (j ≤ 1000000)) && (decide (0 ≤ k) && decide (k ≤ 1000000))) && (decide (i < j) && decide (j < k)))) = true
  rw [hc, decide_eq_true h0, decide_eq_true h1, decide_eq_true h2, decide_eq_true h3, decide_eq_true (show i ≤ 1000000 by omega), decide_eq_true (show 0 ≤ j by omega), decide_eq_true (show j ≤ 1000000 by omega), decide_eq_true (show 0 ≤ k by omega)]; rfl
theorem ch_turns {cs : List Col} {ws : List Wsh} (pb : PalC cs ws) {us : List Trn} {f1 : Int} (c : Ch cs ws f1 none us) (h : 0 ≤ f1) (l : lastE f1 us ≤ 1000000) (l30 : us.length ≤ 30) : turnsD cs (.list (us.map trD)) = true := by
  show (decide ((((us.map trD).length : Nat) : Int) ≤ 30) && ((us.map trD).all (turnD cs) && risI ((us.map trD).map firI))) = true
  have e : (us.map trD).map firI = us.map (·.1) := by rw [List.map_map]; rfl
  have a : (us.map trD).all (turnD cs) = true := List.all_eq_true.mpr fun d hd => by
    obtain ⟨t, ht, rfl⟩ := List.mem_map.mp hd
    obtain ⟨b1, b2, b3, b4, b5⟩ := (ch_bounds pb c).2 t ht
    exact turn_yes (inC_of b5) (by omega) b2 b3 (by omega)
  rw [e, ch_ris pb c, a, List.length_map, decide_eq_true (by omega)]
  rfl
/-! ### stretches of the first so many turns -/
theorem rows_behind (f l : Int) : ∀ (ms : List Mk) (m : Mo), l ≤ m.2.2 → Mn m.2.2 ms → (rowsS f l m ms).filter keepR = []
  | [], m, h, _ => by
    show ([cutR f l m l]).filter keepR = []
    have k : keepR (cutR f l m l) = false := decide_eq_false (by show ¬ (if m.2.2 > f then m.2.2 else f) < (if l < l then l else l); split <;> split <;> omega)
    rw [List.filter_cons, if_neg (by rw [k]; exact Bool.false_ne_true)]; rfl
  | m2 :: ms, m, h, ⟨h0, h1⟩ => by
    rw [rows_cons]
    have k : keepR (cutR f l m m2.2.2) = false := decide_eq_false (by show ¬ (if m.2.2 > f then m.2.2 else f) < (if m2.2.2 < l then m2.2.2 else l); split <;> split <;> omega)
    rw [List.filter_cons, if_neg (by rw [k]; exact Bool.false_ne_true)]
    exact rows_behind f l ms (opn m2) (by show l ≤ m2.2.2; omega) h1
theorem mn_app {m2 : Mk} {r : List Mk} : ∀ {ms : List Mk} {lo : Int}, Mn lo (ms ++ m2 :: r) → Mn m2.2.2 r
  | [], _, h => h.2
  | _ :: ms, _, h => mn_app (ms := ms) h.2
theorem rows_cut (f l : Int) {m2 : Mk} {ra rb : List Mk} (hl : l ≤ m2.2.2) : ∀ {ms : List Mk} {m : Mo}, Mn m2.2.2 ra → Mn m2.2.2 rb → (rowsS f l m (ms ++ m2 :: ra)).filter keepR = (rowsS f l m (ms ++ m2 :: rb)).filter keepR
  | [], m, ha, hb => by
    show (rowsS f l m (m2 :: ra)).filter keepR = (rowsS f l m (m2 :: rb)).filter keepR
    rw [rows_cons, rows_cons, List.filter_cons, List.filter_cons, rows_behind f l ra (opn m2) hl ha, rows_behind f l rb (opn m2) hl hb]
  | m1 :: ms, m, ha, hb => by
    show (rowsS f l m (m1 :: (ms ++ m2 :: ra))).filter keepR = (rowsS f l m (m1 :: (ms ++ m2 :: rb))).filter keepR
    rw [rows_cons, rows_cons, List.filter_cons, List.filter_cons, rows_cut f l hl ha hb]
theorem mks_cons {cs : List Col} {ws : List Wsh} {i : Nat} {t : Trn} {ts : List Trn} {c : Col} (ec : colF cs t.2.1 = some c) : mksF cs ws i (t :: ts) = six i (hrsF c t (wbF ws t ts)) ++ mksF cs ws (i + 1) ts := by
  show (match colF cs t.2.1 with | none => [] | some c => six i (hrsF c t (wbF ws t ts))) ++ _ = _
  rw [ec]
theorem mks_take {cs : List Col} {ws : List Wsh} : ∀ {ts : List Trn} {f : Int} {l : Option Str} (n i : Nat), Ch cs ws f l ts → 0 < n → 0 < ts.length → ∃ ms m2 ra rb, mksF cs ws i (ts.take n) = ms ++ m2 :: ra ∧ mksF cs ws i ts = ms ++ m2 :: rb ∧ m2.2.2 = lastE f (ts.take n)
  | [], _, _, _, _, _, _, h => absurd h (by decide)
  | t :: ts, f, l, 0, i, _, h, _ => absurd h (by decide)
  | t :: ts, f, l, n + 1, i, ⟨⟨c, h, a1, a2, a3, a4, a5, a6⟩, r⟩, _, _ => by
    rw [List.take_succ_cons, mks_cons a1, mks_cons a1]
    by_cases z : 0 < n ∧ 0 < ts.length
    · obtain ⟨ms, m2, ra, rb, e1, e2, e3⟩ := mks_take n (i + 1) r z.1 z.2
      have ew : wbF ws t (ts.take n) = wbF ws t ts := by
        cases ts with
        | nil => exact absurd z.2 (by decide)
        | cons u us =>
          cases n with
          | zero => exact absurd z.1 (by decide)
          | succ n => rfl
      exact ⟨six i (hrsF c t (wbF ws t ts)) ++ ms, m2, ra, rb, by rw [ew, e1, List.append_assoc], by rw [e2, List.append_assoc], e3⟩
    · have et : ts.take n = [] := by
        rcases Nat.eq_zero_or_pos n with y | y
        · rw [y, List.take_zero]
        · have : ts = [] := List.length_eq_zero_iff.mp (by omega)
          rw [this, List.take_nil]
      rw [et]
      exact ⟨[(("filled" : Str), i, t.1), ("melting", i, t.1 + c.2.1), ("ready", i, t.1 + c.2.1 + c.2.2.1), ("worked", i, t.2.2.1)], ("washed", i, t.2.2.2), [("out", i, t.2.2.2 + 0)], ("out", i, t.2.2.2 + wbF ws t ts) :: mksF cs ws (i + 1) ts, rfl, rfl, rfl⟩
theorem str_empty {l : Int} (h : l ≤ 0) (ms : List Mk) : ∀ (m : Mo), (rowsS 0 l m ms).filter keepR = [] := by
  induction ms with
  | nil =>
    intro m
    show ([cutR 0 l m l]).filter keepR = []
    have k : keepR (cutR 0 l m l) = false := decide_eq_false (by show ¬ (if m.2.2 > 0 then m.2.2 else 0) < (if l < l then l else l); split <;> split <;> omega)
    rw [List.filter_cons, if_neg (by rw [k]; exact Bool.false_ne_true)]; rfl
  | cons m2 ms ih =>
    intro m
    rw [rows_cons]
    have k : keepR (cutR 0 l m m2.2.2) = false := decide_eq_false (by show ¬ (if m.2.2 > 0 then m.2.2 else 0) < (if m2.2.2 < l then m2.2.2 else l); split <;> split <;> omega)
    rw [List.filter_cons, if_neg (by rw [k]; exact Bool.false_ne_true)]
    exact ih _
theorem str_take {cs : List Col} {ws : List Wsh} (pb : PalC cs ws) {ts : List Trn} {f0 : Int} (n : Nat) (c : Ch cs ws f0 none ts) (h : 0 ≤ f0) (mn1 : Mn 0 (mksF cs ws 0 (ts.take n))) (mn2 : Mn 0 (mksF cs ws 0 ts)) : strF 0 (lastE 0 (ts.take n)) (mksF cs ws 0 (ts.take n)) = strF 0 (lastE 0 (ts.take n)) (mksF cs ws 0 ts) := by
  by_cases z : 0 < n ∧ 0 < ts.length
  · obtain ⟨ms, m2, ra, rb, e1, e2, e3⟩ := mks_take n 0 c z.1 z.2
    have ne : ts.take n ≠ [] := fun y => by
      have := congrArg List.length y
      rw [List.length_take] at this
      have : min n ts.length = 0 := this
      omega
    have el : lastE 0 (ts.take n) = lastE f0 (ts.take n) := by
      cases ht : ts.take n with
      | nil => exact absurd ht ne
      | cons _ _ => rfl
    unfold strF
    rw [el, ← e3]
    rw [e1] at mn1 ⊢
    rw [e2] at mn2 ⊢
    exact rows_cut 0 _ (Int.le_refl _) (mn_app mn1) (mn_app mn2)
  · have e : ts.take n = [] := by
      rcases Nat.eq_zero_or_pos n with y | y
      · rw [y, List.take_zero]
      · have : ts = [] := List.length_eq_zero_iff.mp (by omega)
        rw [this, List.take_nil]
    unfold strF
    rw [e]
    rw [str_empty (show lastE 0 [] ≤ 0 from Int.le_refl _), str_empty (show lastE 0 [] ≤ 0 from Int.le_refl _)]
/-! ### the warmer, the later -/
theorem mx_mono {a b c d : Int} (h1 : a ≤ c) (h2 : b ≤ d) : mx a b ≤ mx c d := by unfold mx; split <;> split <;> omega
theorem pl_mono {cs : List Col} {t : Trn} {s s2 : Int} (h : s ≤ s2) : (plF cs t s).1 ≤ (plF cs t s2).1 ∧ (plF cs t s).2.2.1 ≤ (plF cs t s2).2.2.1 ∧ (plF cs t s).2.2.2 ≤ (plF cs t s2).2.2.2 := by
  unfold plF
  split
  · exact ⟨Int.le_refl _, Int.le_refl _, Int.le_refl _⟩
  · rename_i c _
    have m1 := mx_mono (a := t.1) (c := t.1) (Int.le_refl _) h
    have m2 := mx_mono (a := t.2.2.1) (c := t.2.2.1) (b := mx t.1 s + c.2.1 + c.2.2.1) (d := mx t.1 s2 + c.2.1 + c.2.2.1) (Int.le_refl _) (by omega)
    exact ⟨m1, m2, by show mx t.2.2.1 (mx t.1 s + c.2.1 + c.2.2.1) + t.2.2.2 - t.2.2.1 ≤ mx t.2.2.1 (mx t.1 s2 + c.2.1 + c.2.2.1) + t.2.2.2 - t.2.2.1; omega⟩
theorem pb_mono {cs : List Col} {ws : List Wsh} {s s2 : Int} (h : s ≤ s2) {bs : List Trn} : ∀ {j : Nat} {q q2 : Trn}, (pbF cs ws s bs)[j]? = some q → (pbF cs ws s2 bs)[j]? = some q2 → q.2.1 = q2.2.1 ∧ q.1 ≤ q2.1 ∧ q.2.2.1 ≤ q2.2.2.1 ∧ q.2.2.2 ≤ q2.2.2.2
  | 0, q, q2, g, g2 => by
    obtain ⟨t, gt, e⟩ := pb_src g
    obtain ⟨t2, gt2, e2⟩ := pb_src g2
    rw [gt] at gt2
    cases gt2
    rw [e, e2]
    exact ⟨by rw [plF_col, plF_col], pl_mono h⟩
  | j + 1, q, q2, g, g2 => by
    obtain ⟨t, gt, e⟩ := pb_src g
    obtain ⟨t2, gt2, e2⟩ := pb_src g2
    rw [gt] at gt2
    cases gt2
    have lb := (List.getElem?_eq_some_iff.mp gt).1
    have gx := List.getElem?_eq_getElem (show j < (pbF cs ws s bs).length by rw [pbF_len cs ws s _ bs rfl]; omega)
    have gy := List.getElem?_eq_getElem (show j < (pbF cs ws s2 bs).length by rw [pbF_len cs ws s2 _ bs rfl]; omega)
    obtain ⟨i1, i2, i3, i4⟩ := pb_mono h gx gy
    rw [nxS gx] at e
    rw [nxS gy, ← i1] at e2
    rw [e, e2]
    exact ⟨by rw [plF_col, plF_col], pl_mono (by omega)⟩
theorem oth_mono {cs : List Col} {ws : List Wsh} {ts : List Trn} {f0 s s2 : Int} (c : Ch cs ws f0 none ts) (fs : Nat) (h : s ≤ s2) : (othF (pbF cs ws s (ts.drop fs)) (ts.drop fs) (ts.drop fs).length).length ≤ (othF (pbF cs ws s2 (ts.drop fs)) (ts.drop fs) (ts.drop fs).length).length := by
  unfold othF
  rw [← List.countP_eq_length_filter, ← List.countP_eq_length_filter]
  refine List.countP_mono_left fun k hk hp => ?_
  have lk := List.mem_range.mp hk
  have gt := List.getElem?_eq_getElem lk
  have gx := List.getElem?_eq_getElem (show k < (pbF cs ws s (ts.drop fs)).length by rw [pbF_len cs ws s _ _ rfl]; exact lk)
  have gy := List.getElem?_eq_getElem (show k < (pbF cs ws s2 (ts.drop fs)).length by rw [pbF_len cs ws s2 _ _ rfl]; exact lk)
  have hp := of_decide_eq_true hp
  rw [gx, gt] at hp
  have := (mv_iff c fs k gt gx).mp (fun z => hp (by rw [z]))
  refine decide_eq_true ?_
  rw [gy, gt]
  exact fun z => (mv_iff c fs k gt gy).mpr (by omega) (Option.some.inj z)
theorem mv_range {cs : List Col} {ws : List Wsh} {ts : List Trn} {f0 s : Int} (c : Ch cs ws f0 none ts) (fs : Nat) : mvF fs (pbF cs ws s (ts.drop fs)) (ts.drop fs) = (List.range (othF (pbF cs ws s (ts.drop fs)) (ts.drop fs) (ts.drop fs).length).length).map fun k => ((fs + k : Nat) : Int) := by
  have e := oth_mv fs (pbF cs ws s (ts.drop fs)) (ts.drop fs) (pbF_len cs ws s _ _ rfl) (ts.drop fs).length (by rw [pbF_len cs ws s _ _ rfl]; exact Nat.le_refl _)
  rw [List.take_length, List.take_of_length_le (by rw [pbF_len cs ws s _ _ rfl]; exact Nat.le_refl _)] at e
  rw [e, ← oth_pre c fs]
theorem mv_take {cs : List Col} {ws : List Wsh} {ts : List Trn} {f0 s s2 : Int} (c : Ch cs ws f0 none ts) (fs : Nat) (h : s ≤ s2) : (mvF fs (pbF cs ws s2 (ts.drop fs)) (ts.drop fs)).take (mvF fs (pbF cs ws s (ts.drop fs)) (ts.drop fs)).length = mvF fs (pbF cs ws s (ts.drop fs)) (ts.drop fs) := by
  rw [mv_range c fs, mv_range c fs, List.length_map, List.length_range, ← List.map_take, List.take_range, Nat.min_eq_left (oth_mono c fs h)]
theorem pb_stay {cs : List Col} {ws : List Wsh} {ts : List Trn} {f0 : Int} {fs : Nat} {t : Trn} (c : Ch cs ws f0 none ts) (g : (ts.drop fs)[0]? = some t) : pbF cs ws t.1 (ts.drop fs) = ts.drop fs := by
  have l0 := (List.getElem?_eq_some_iff.mp g).1
  obtain ⟨cc, ec, h1⟩ := ch_col c (by rw [List.getElem?_drop] at g; exact g)
  have e0 : (pbF cs ws t.1 (ts.drop fs))[0]? = (ts.drop fs)[0]? := by
    rw [pb_at g, g]
    show some (plF cs t t.1) = some t
    rw [plF_id ec (Int.le_refl _) h1]
  refine List.ext_getElem? fun k => ?_
  by_cases lk : k < (ts.drop fs).length
  · have := stayN c fs 0 e0 k (by omega)
    rw [Nat.zero_add] at this
    exact this
  · rw [List.getElem?_eq_none (by rw [pbF_len cs ws _ _ _ rfl]; omega), List.getElem?_eq_none (by omega)]

end
end Pot

namespace Pot
open PySem PySem.Spec PyProof.Rows L2
section
variable {P : Program} {w : World} {K : PySem.W.Frag} {mg : Str → Option Value} {base : Heap}
theorem noL_on (o : Option Nat) : noLAll.noL (onD o) := by cases o <;> trivial
theorem noL_rws : ∀ (rs : List Rw), noLAll (rs.map rwD)
  | [] => trivial
  | r :: rs => ⟨⟨trivial, noL_on _, trivial, trivial, trivial⟩, noL_rws rs⟩
theorem rws_depth (rs : List Rw) : (PyData.list (rs.map rwD)).depth ≤ 2 := by
  show PyData.depthAll _ + 1 ≤ 2
  have : PyData.depthAll (rs.map rwD) ≤ 1 := depthAll_iff.mpr fun d hd => by
    obtain ⟨t, _, rfl⟩ := List.mem_map.mp hd
    cases h : t.2.1 <;> simp [rwD, h, onD, PyData.depth, PyData.depthAll]
  omega
theorem rws_wid {rs : List Rw} (h : rs.length ≤ 300) : widAll.wid (.list (rs.map rwD)) ≤ 300 := by
  refine Nat.max_le.mpr ⟨by rw [List.length_map]; exact h, widAll_iff.mpr fun d hd => ?_⟩
  obtain ⟨t, _, rfl⟩ := List.mem_map.mp hd
  show max 4 (max 0 (max (widAll.wid (onD t.2.1)) (max 0 (max 0 0)))) ≤ 300
  cases t.2.1 <;> (show max 4 (max 0 (max 0 (max 0 (max 0 0)))) ≤ 300; decide)

theorem bds_ints {m : Nat} : ∀ {ms : List Int}, (∀ i ∈ ms, i.natAbs ≤ m) → Bds 8 m (1923 * ms.length) 0 31 (ms.map PyData.int)
  | [], _ => Bds.nil
  | i :: ms, h => ((Bds.one ((bd_int (h i List.mem_cons_self)).mono (Nat.le_refl _) (Nat.le_refl _) (Nat.le_refl _) (Nat.le_refl _) (Nat.zero_le _))).app (bds_ints (ms := ms) fun x hx => h x (List.mem_cons_of_mem _ hx))).mono (Nat.le_refl _) (Nat.le_refl _) (by rw [List.length_cons]; omega) (Nat.le_refl _) (Nat.le_refl _)
theorem BrAt.dpo {H0 H : Hp} {p E B M b : Addr} {n : Nat} {S : List Addr} (eS : S = [b]) (Bb : Bp H0 b n) {es bs : List V} {ed bd : List Trn} {lo : Option Int} {ms : List Int} (h : BrAt K H0 H p E B M es bs ed bd lo ms) : Dp K (off H S) (.ref p) (brD ed lo bd ms) := by
  obtain ⟨x, y, z, hb0, _⟩ := Bb
  have hb := h.sm _ _ hb0
  have hS : ∀ s ∈ S, ∃ xs, H s = some (.lst xs) := fun s hs => by
    rw [eS, List.mem_singleton] at hs
    rw [hs]; exact ⟨_, hb⟩
  have nE : E ∉ S := fun z => by rw [eS, List.mem_singleton] at z; rw [← z, h.nE] at hb0; cases hb0
  have nB : B ∉ S := fun z => by rw [eS, List.mem_singleton] at z; rw [← z, h.nB] at hb0; cases hb0
  have nM : M ∉ S := fun z => by rw [eS, List.mem_singleton] at z; rw [← z, h.nM] at hb0; cases hb0
  have np : p ∉ S := fun z => by rw [eS, List.mem_singleton] at z; rw [← z, h.hp] at hb; cases hb
  have nl : ∀ us : List Trn, noLAll (us.map trD) := fun us => noL_map (f := trD) (fun t => ⟨trivial, trivial, trivial, trivial, trivial⟩) us
  exact .tup (.inl (.inl (by rw [off_out np]; exact h.hp))) (.cons (.lst (SqL.of (by rw [off_out nE]; exact h.hE)) (dpAll_offL hS (nl _) (dpAll_same off_sub h.dE))) (.cons (opt_dp _) (.cons (.lst (SqL.of (by rw [off_out nB]; exact h.hB)) (dpAll_offL hS (nl _) (dpAll_same off_sub h.dB))) (.cons (.lst (SqL.of (by rw [off_out nM]; exact h.hM)) (dp_ints _)) .nil))))
theorem sm_refl {d : PyData} {m : Nat} (g : gdAll.gd m d) (h : hbD d = false) : smD d d = true := by
  rw [← sm_eqv d d g g h, SeqAt.eqv_refl _ (gd_lay _ g), h]; rfl

theorem iteV {c : Bool} {A : Prop} {C : Int → Prop} {x : Int} (z : Int) (h1 : c = true → C z → A) (h0 : c = false → x = z) (k : C z) : if c = true then A else C x := by
  cases c with
  | false => rw [if_neg Bool.false_ne_true, h0 rfl]; exact k
  | true => rw [if_pos rfl]; exact h1 rfl k
theorem lastE_get : ∀ {us : List Trn} {t : Trn} {f : Int}, us.getLast? = some t → lastE f us = t.2.2.2
  | [], _, _, h => by cases h
  | [_], _, _, h => by cases h; rfl
  | _ :: u :: r, t, _, h => lastE_get (us := u :: r) (f := 0) (by rw [List.getLast?_cons_cons] at h; exact h)
/-- no list, or the last of a list and what it stands for -/
theorem last_of {H : Hp} {xs : List V} {us : List Trn} (d : DpAll K H xs (us.map trD)) (h : us ≠ []) : ∃ p t, atI xs (-1) = some (.ref p) ∧ us.getLast? = some t ∧ SqT K H p [.int t.1, .str t.2.1, .int t.2.2.1, .int t.2.2.2] := by
  have lx : xs.length = us.length := dpAll_map_len d
  have l0 : 0 < us.length := List.length_pos_iff.mpr h
  obtain ⟨t, gt, dp⟩ := dpAll_map_at d (List.getElem?_eq_getElem (show xs.length - 1 < xs.length by omega))
  obtain ⟨p, ep, hp⟩ := tr_dp dp
  refine ⟨p, t, ?_, ?_, hp⟩
  · have hne : xs ≠ [] := fun z => by rw [z] at lx; exact absurd lx.symm (by show us.length ≠ 0; omega)
    have el : xs.getLast hne = .ref p := by rw [List.getLast_eq_getElem]; exact ep
    rw [← List.dropLast_concat_getLast hne, el]
    exact atI_last _ _
  · rw [List.getLast?_eq_getElem?, ← lx]; exact gt
theorem first_of {H : Hp} {xs : List V} {us : List Trn} (d : DpAll K H xs (us.map trD)) (h : us ≠ []) : ∃ p t r, atI xs 0 = some (.ref p) ∧ us = t :: r ∧ SqT K H p [.int t.1, .str t.2.1, .int t.2.2.1, .int t.2.2.2] := by
  cases us with
  | nil => exact absurd rfl h
  | cons t r =>
    cases d with
    | cons d1 d2 =>
      obtain ⟨p, rfl, hp⟩ := tr_dp d1
      exact ⟨p, t, r, atI_nat (j := 0) rfl, rfl, hp⟩
theorem ne_nil {us : List Trn} (h : (!PyData.eqv (.list (us.map trD)) (.list [])) = true) : us ≠ [] := fun z => by rw [z] at h; cases h
theorem is_nil {us : List Trn} (h : (!PyData.eqv (.list (us.map trD)) (.list [])) = false) : us = [] := by
  cases us with
  | nil => rfl
  | cons t r => cases h
theorem iteB {c : Bool} {A B : Prop} (h : c = true → B → A) (k : B) : if c = true then A else B := by
  cases c with
  | false => rw [if_neg Bool.false_ne_true]; exact k
  | true => rw [if_pos rfl]; exact h rfl k
/-- turns without fault from an hour on, none behind the last hour -/
structure Hr (cs : List Col) (ws : List Wsh) (f0 : Int) (ts : List Trn) : Prop where
  c : Ch cs ws f0 none ts
  f : 0 ≤ f0
  l : lastE f0 ts ≤ 1000000
  n : ts.length ≤ 30
section
variable {cs : List Col} {ws : List Wsh} {f0 : Int} {ts : List Trn}
theorem Hr.bts (h : Hr cs ws f0 ts) (pb : PalC cs ws) : ∀ t ∈ ts, TrB cs 1000000 t := fun t ht => by
  obtain ⟨c1, c2, c3, c4, c5⟩ := (ch_bounds pb h.c).2 t ht
  have := h.f
  have := h.l
  exact ⟨c5, by omega, by omega, by omega⟩
theorem Hr.nm (h : Hr cs ws f0 ts) (pb : PalC cs ws) : ∀ t ∈ ts, Nm t.2.1 := fun t ht => by obtain ⟨c, hc, e⟩ := (h.bts pb t ht).1; rw [← e]; exact pb.wd c hc
theorem Hr.inN (h : Hr cs ws f0 ts) (pb : PalC cs ws) : ∀ t ∈ ts, InC cs t.2.1 ∧ Nm t.2.1 := fun t ht => ⟨(h.bts pb t ht).1, h.nm pb t ht⟩
theorem Hr.inC (h : Hr cs ws f0 ts) (pb : PalC cs ws) : ∀ t ∈ ts, InC cs t.2.1 := fun t ht => (h.bts pb t ht).1
theorem Hr.fa (h : Hr cs ws f0 ts) (pb : PalC cs ws) : fauF cs ws none 0 ts = none := ch_none h.c (fun q e => by cases e) (fun r hr i e => (pb.wa r hr i e).1)
theorem Hr.mn (h : Hr cs ws f0 ts) (pb : PalC cs ws) : WOk ws ts ∧ Mn 0 (mksF cs ws 0 ts) := fau_marks (lo := 0) pb.ch pb.wa (h.fa pb) (fun t ht => ⟨h.inC pb t ht, ((ch_bounds pb h.c).2 t ht).2.2.1⟩) (fun t ht => by have := ((ch_bounds pb h.c).2 t (List.mem_of_mem_head? ht)).1; have := h.f; omega)
theorem lastE_take (pb : PalC cs ws) : ∀ {ts : List Trn} {f : Int} {l : Option Str} (n : Nat), Ch cs ws f l ts → lastE f (ts.take n) ≤ lastE f ts
  | [], _, _, n, _ => by rw [List.take_nil]; exact Int.le_refl _
  | t :: ts, f, l, 0, c => (ch_bounds pb c).1
  | t :: ts, f, l, n + 1, c => lastE_take pb n c.2
theorem Hr.tk (h : Hr cs ws f0 ts) (pb : PalC cs ws) (n : Nat) : Hr cs ws f0 (ts.take n) := ⟨ch_take n h.c, h.f, Int.le_trans (lastE_take pb n h.c) h.l, Nat.le_trans (List.length_take_le' ..) h.n⟩
theorem Hr.beh (h : Hr cs ws f0 ts) (pb : PalC cs ws) {hr wm : Int} (h0 : 0 ≤ hr) (w0 : 0 ≤ wm) : ∃ f2, Hr cs ws f2 (endF 1000000 (behF cs ws hr wm ts)) := by
  obtain ⟨f1, e1, c1⟩ := ch_pb pb (hr + wm) h.c (fstF hr ts)
  obtain ⟨f2, e2, c2, l2⟩ := ch_cutoff pb c1 (by omega)
  refine ⟨f2, c2, e2, l2, ?_⟩
  have := h.n
  have l1 : (behF cs ws hr wm ts).length ≤ 30 := by unfold behF; rw [pbF_len cs ws _ _ _ rfl, List.length_drop]; omega
  exact Nat.le_trans (List.length_filter_le ..) l1
theorem Hr.lb (h : Hr cs ws f0 ts) (hr wm : Int) : (endF hr ts).length ≤ 30 ∧ (behF cs ws hr wm ts).length ≤ 30 ∧ (mvF (fstF hr ts) (behF cs ws hr wm ts) (ts.drop (fstF hr ts))).length ≤ 30 := by
  have := h.n
  have l1 : (behF cs ws hr wm ts).length ≤ 30 := by unfold behF; rw [pbF_len cs ws _ _ _ rfl, List.length_drop]; omega
  exact ⟨Nat.le_trans (List.length_filter_le ..) this, l1, Nat.le_trans (mvF_len _ _ _) l1⟩
theorem Hr.bB (h : Hr cs ws f0 ts) (pb : PalC cs ws) {hr wm : Int} (h0 : 0 ≤ hr) (h1 : hr ≤ 1000000) (w0 : 0 ≤ wm) (w1 : wm ≤ 10000) : ∀ t ∈ behF cs ws hr wm ts, TrB cs 40000000 t := fun q hq => by
  have hn := h.n
  have iu : ∀ t ∈ ts.drop (fstF hr ts), InU 1000000 t := fun t ht => by
    obtain ⟨c1, c2, c3, c4, c5⟩ := (ch_bounds pb h.c).2 t (List.mem_of_mem_drop ht)
    have := h.f
    have := h.l
    unfold InU
    omega
  have := pb_in pb (U := 1000000) (V := 1010000) (s := hr + wm) (by decide) (by decide) (by omega) (by omega) _ (ts.drop (fstF hr ts)) rfl iu q hq
  have ln : (ts.drop (fstF hr ts)).length ≤ 30 := by rw [List.length_drop]; omega
  obtain ⟨u, hu, eu⟩ := pbF_cols cs ws _ _ _ rfl q hq
  unfold InU at this
  exact ⟨by rw [eu]; exact h.inC pb u (List.mem_of_mem_drop hu), by omega, by omega, by omega⟩
theorem Hr.th (h : Hr cs ws f0 ts) (pb : PalC cs ws) {hr wm : Int} (h0 : 0 ≤ hr) (h1 : hr ≤ 1000000) (w0 : 0 ≤ wm) (w1 : wm ≤ 10000) : Th 40000000 600000 3 60 (brX cs ws hr wm ts) := by
  obtain ⟨l1, l2, l3⟩ := h.lb hr wm
  have hn := h.n
  have tE := th_trs pb.wd (ts := endF hr ts) (fun t ht => h.bts pb t (List.mem_filter.mp ht).1) (by omega)
  have tB := th_trs pb.wd (ts := behF cs ws hr wm ts) (h.bB pb h0 h1 w0 w1) (by omega)
  have tM : Bd 8 40000000 (1923 * 30 + 3) 1 31 (.list ((mvF (fstF hr ts) (behF cs ws hr wm ts) (ts.drop (fstF hr ts))).map PyData.int)) := ((bds_ints (m := 40000000) (fun i hi => by
    have := mv_in _ _ _ i hi
    have l4 : fstF hr ts ≤ 30 := Nat.le_trans (List.length_filter_le ..) hn
    omega)).list (by rw [List.length_map]; omega)).mono (Nat.le_refl _) (Nat.le_refl _) (by omega) (Nat.le_refl _) (Nat.le_refl _)
  have tL : Th 40000000 2000 0 60 (optD (lostF hr ts)) := by
    cases e : lostF hr ts with
    | none => exact (bd_none (n := 0) (m := 0)).t.mono (by decide) (by decide) (by decide) (by decide)
    | some i =>
      have hi : i.natAbs ≤ 40000000 := by
        unfold lostF at e
        split at e
        · cases e
          have l4 : fstF hr ts ≤ 30 := Nat.le_trans (List.length_filter_le ..) hn
          omega
        · cases e
      exact (bd_int (n := 0) hi).t.mono (Nat.le_refl _) (by decide) (by decide) (by decide)
  exact (((Ths.one (tE.mono (by decide) (Nat.le_refl _) (Nat.le_refl _) (Nat.le_refl _))).app ((Ths.one (tL.mono (Nat.le_refl _) (Nat.le_refl _) (by decide) (Nat.le_refl _))).app ((Ths.one tB).app (Ths.one (tM.t.mono (Nat.le_refl _) (Nat.le_refl _) (by decide) (by decide)))))).tuple (by show 4 ≤ 60; decide)).mono (Nat.le_refl _) (by decide) (Nat.le_refl _) (Nat.le_refl _)
end
theorem beh_first {cs : List Col} {ws : List Wsh} {h wm : Int} {ts : List Trn} {q : Trn} {r : List Trn} (pb : PalC cs ws) (hin : ∀ t ∈ ts, InC cs t.2.1) (e : behF cs ws h wm ts = q :: r) : h + wm ≤ q.1 := by
  have g : (pbF cs ws (h + wm) (ts.drop (fstF h ts)))[0]? = some q := by
    have : pbF cs ws (h + wm) (ts.drop (fstF h ts)) = q :: r := e
    rw [this]; rfl
  obtain ⟨t, gt, eq⟩ := pb_src g
  have eq : q = plF cs t (h + wm) := eq
  obtain ⟨c, ec⟩ := colF_some (hin t (List.mem_of_mem_drop (List.mem_of_getElem? gt)))
  have P := pl_of ec (h + wm)
  rw [← eq] at P
  have := P.at_
  have := (mx_ge t.1 (h + wm)).2.1
  omega
theorem rw_refl {rs : List Rw} (h : ∀ r ∈ rs, r.1 ∈ wordsS) : PyData.eqv (.list (rs.map rwD)) (.list (rs.map rwD)) = true := by
  obtain ⟨m, g⟩ := rws_gd h
  exact SeqAt.eqv_refl _ (gd_lay _ g)

end
end Pot

namespace Pot
open PySem PySem.Spec PyProof.Rows L2
section
variable {P : Program} {w : World} {K : PySem.W.Frag} {mg : Str → Option Value} {base : Heap}
abbrev s__law_again_right : Stmt := topS 43
def n__law_again_right : List Str := ["_law_box_here", "_law_palette_here", "_law_turns_here", "_law_here", "_law_again", "_law_hour", "_law_warm", "_law_found", "_law_due", "_law_ended", "_law_lost", "_law_behind", "_law_moved", "_law_last", "_law_one"]
theorem sc__law_again_right : FnScope n__law_again_right ["_law_box_here", "_law_palette_here", "_law_turns_here"] (defScope s__law_again_right) := ⟨rfl, rfl, rfl, by decide +kernel, rfl, by decide +kernel, by decide +kernel⟩
def spAgain (K : PySem.W.Frag) : Sp := fun vs H Q _ => ∃ (b : Addr) (n : Nat) (v : V) (cs : List Col) (ws : List Wsh) (R : Addr) (xs : List V) (ts : List Trn) (f0 : Int), vs = [.ref b, v, .ref R] ∧ Bp H b n ∧ n + 1000 < 2 ^ 38 ∧ Dp K (off H [b]) v (palD cs ws) ∧ PalC cs ws ∧ off H [b] R = some (.lst xs) ∧ DpAll K (off H [b]) xs (ts.map trD) ∧ Hr cs ws f0 ts ∧
  ∀ H', Bp H' b (n + 100) → Sm [b] H H' → Q (.bl true) H'
set_option maxHeartbeats 4000000 in
theorem ok_again {f : Addr} {fd : FuncData} {k : Nat} (F : Fun K "_law_again_right" "_law_again_right" s__law_again_right f fd) (T : Txt mg) (c__law_take : Cl P w K mg base (k + 1) "_law_take" spTake) (c__law_when : Cl P w K mg base (k + 2) "_law_when" (spWhen K)) (c_broken : ClD P w K mg base (k + 5) "broken" [] (spBroken K)) (c__law_broken : Cl P w K mg base (k + 2) "_law_broken" (spLBroken K)) (c__law_same : Cl P w K mg base (k + 5) "_law_same" (spSame K 4)) (c_shows_broken : Cl P w K mg base (k + 14) "shows_broken" (spShows K)) (c_is_turns : Cl P w K mg base (k + 3) "is_turns" (spIsTurns K)) (c_stretches : Cl P w K mg base (k + 5) "stretches" (spStr K)) (c_fault_of : Cl P w K mg base (k + 4) "fault_of" (spFault K)) : FnOk P w K mg base CX0 (k + 15) f fd ["_law_box_here", "_law_palette_here", "_law_turns_here"] (spAgain K) := by
  refine F.ok sc__law_again_right (fun vs H Q E h => ?_) (fun cdv A outer s H vs Q E hr h => ?_)
  · obtain ⟨b, n, v, cs, ws, R, xs, ts, f0, rfl, _⟩ := h
    rfl
  · obtain ⟨b, n, v, cs, ws, R, xs, ts, f0, rfl, B, hn, dpP, pb, fR, daR, hh, q⟩ := h
    have nd := sc__law_again_right.nd
    have hu64 := hr.units
    /- 0 _law_box_here, 1 _law_palette_here, 2 _law_turns_here, 3 _law_here, 4 _law_again, 5 _law_hour, 6 _law_warm, 7 _law_found, 8 _law_due, 9 _law_ended, 10 _law_lost, 11 _law_behind, 12 _law_moved, 13 _law_last, 14 _law_one -/
    refine ⟨_, (pss_cons (ps_set (i := 3) nd rfl (.inl rfl) (pv 2))
      (pss_cons (ps_for PassesOwn.never rfl (pi_range1 (by rfl) T.range (pa_cons pe_int pa_nil)) (pg_name (i := 4) nd rfl (.inl rfl))
          (pss_cons (ps_par (i := 5) (j := 6) rfl nd rfl rfl (by decide) rfl rfl (pa_cons (pe_cl c__law_when hr (by omega) (by rfl) (pa_cons (pv 0) (pa_cons (pv 3) pa_nil))) (pa_cons (pe_ix (kx_list (K := K)) (pe_lst (pa_cons pe_int (pa_cons pe_int (pa_cons pe_int (pa_cons (pe_cl c__law_take hr (by omega) (by rfl) (pa_cons (pv 0) (pa_cons pe_int pa_nil))) pa_nil))))) (pe_cl c__law_take hr (by omega) (by rfl) (pa_cons (pv 0) (pa_cons pe_int pa_nil))) (fun _ _ => rfl)) pa_nil)) rfl)
          (pss_cons (ps_par (i := 7) (j := 8) rfl nd rfl rfl (by decide) rfl rfl (pa_cons (pe_cd c_broken hr (by omega) (by rfl) (pa_cons (pv 1) (pa_cons (pv 3) (pa_cons (pv 5) (pa_cons (pv 6) pa_nil))))) (pa_cons (pe_cl c__law_broken hr (by omega) (by rfl) (pa_cons (pv 1) (pa_cons (pv 3) (pa_cons (pv 5) (pa_cons (pv 6) pa_nil))))) pa_nil)) rfl)
          (pss_cons (ps_if ((pw_or (pt_not (pt_val (pe_cl c__law_same hr (by omega) (by rfl) (pa_cons (pv 7) (pa_cons (pv 8) pa_nil))))) (pw_or1 (pt_cmpR op_notBl (pe_cl c_shows_broken hr (by omega) (by rfl) (pa_cons (pv 1) (pa_cons (pv 3) (pa_cons (pv 5) (pa_cons (pv 6) (pa_cons (pv 7) pa_nil)))))) pe_bl (nomark _))))).pt
              pss_never
              pss_nil)
          (pss_cons (ps_asg (pv 7) (kg_tup (K := K) (n := 4) (pgs_cons (pg_name (i := 9) nd rfl (.inl rfl)) (pgs_cons (pg_name (i := 10) nd rfl (.inl rfl)) (pgs_cons (pg_name (i := 11) nd rfl (.inl rfl)) (pgs_cons (pg_name (i := 12) nd rfl (.inl rfl)) pgs_nil))))))
          (pss_cons (ps_if ((pw_and (pt_cmpR (ko_ne (K := K) hu64) (pv 11) (pe_lst pa_nil) (nomark _)) (pw_and1 (pt_cmpR op_lt (pe_ix (kx_tup (K := K)) (pe_ix (kx_list (K := K)) (pv 11) pe_int (fun _ _ => rfl)) pe_int (fun _ _ => rfl)) (pe_op op_add (pv 5) (pv 6)) (nomark _))))).pt
              pss_never
              pss_nil)
          (pss_cons (ps_if ((pw_and (pt_cmpR (ko_ne (K := K) hu64) (pv 11) (pe_lst pa_nil) (nomark _)) (pw_and (pt_cmpR op_le (pe_ix (kx_tup (K := K)) (pe_ix (kx_list (K := K)) (pv 11) (pe_un un_neg pe_int) (fun _ _ => rfl)) pe_int (fun _ _ => rfl)) (pe_op op_pow pe_int pe_int) (nomark _)) (pw_and1 (pt_cmpR op_notBl (pe_cl c_is_turns hr (by omega) (by rfl) (pa_cons (pv 1) (pa_cons (pv 11) pa_nil))) pe_bl (nomark _)))))).pt
              pss_never
              pss_nil)
          (pss_cons (ps_set (i := 13) nd rfl (.inl rfl) (pe_ifExp (pt_cmpR (ko_ne (K := K) hu64) (pv 9) (pe_lst pa_nil) (nomark _)) (pe_ix (kx_tup (K := K)) (pe_ix (kx_list (K := K)) (pv 9) (pe_un un_neg pe_int) (fun _ _ => rfl)) pe_int (fun _ _ => rfl)) pe_int))
          (pss_cons (ps_if (pt_cmpR (ko_ne (K := K) hu64) (pe_cl c_stretches hr (by omega) (by rfl) (pa_cons (pv 1) (pa_cons (pv 9) (pa_cons pe_int (pa_cons (pv 13) pa_nil))))) (pe_cl c_stretches hr (by omega) (by rfl) (pa_cons (pv 1) (pa_cons (pv 3) (pa_cons pe_int (pa_cons (pv 13) pa_nil))))) (nomark _))
              pss_never
              pss_nil)
          (pss_one (ps_setLc (i := 3) (own := [("_law_one", 14)]) rfl nd rfl rfl (sw_true rfl rfl rfl (by decide +kernel)) (ki_list (K := K) (pv 11)) (blkOk_by (N := n__law_again_right) (sc := defScope s__law_again_right) (by decide +kernel)) (fun _ _ _ _ _ => (pg_name (i := 14) nd rfl (.inl rfl))) (fun _ _ _ _ _ => (pts_one (pt_cmpR op_le (pe_ix (kx_tup (K := K)) (pv 14) pe_int (fun _ _ => rfl)) (pe_op op_pow pe_int pe_int) (nomark _)))) (fun _ _ _ _ _ => (pv 14)))))))))))))
      (pss_one (ps_ret (pe_cmpR op_isN (pe_cl c_fault_of hr (by omega) (by rfl) (pa_cons (pv 1) (pa_cons (pv 3) pa_nil))) pe_non (nomark _)))))), ?_⟩
    have est : L2.start n__law_again_right [.ref b, v, .ref R] = [some (.ref b), some v, some (.ref R), none, none, none, none, none, none, none, none, none, none, none, none] := rfl
    rw [est]
    have sc : Sm [b] H H := Same.refl _
    have lv : Live [b] H := Live.pw B
    obtain ⟨S, eS⟩ : ∃ S, S = [b] := ⟨_, rfl⟩
    have hb : b ∈ S := by rw [eS]; exact List.mem_cons_self
    rw [← eS] at lv dpP fR daR
    refine ⟨_, rfl, _, rfl, (by decide), (by decide), ?_⟩
    refine for_it walk_range (fun i σ Hx => ∃ R' xs' ts' f' v4 v5 v6 v7 v8 v9 v10 v11 v12 v13, σ = [some (.ref b), some v, some (.ref R), some (.ref R'), v4, v5, v6, v7, v8, v9, v10, v11, v12, v13, none] ∧ Bp Hx b (n + 30 * i) ∧ Sm [b] H Hx ∧ Dp K (off Hx S) v (palD cs ws) ∧ off Hx S R' = some (.lst xs') ∧ DpAll K (off Hx S) xs' (ts'.map trD) ∧ Hr cs ws f' ts') ⟨R, xs, ts, f0, _, _, _, _, _, _, _, _, _, _, rfl, B, sc, dpP, fR, daR, hh⟩ (fun _ _ _ _ _ => trivial) ?_ ?_
    · rintro i x σ Hax Ha hi ⟨R', xs', ts', f', v4, v5, v6, v7, v8, v9, v10, v11, v12, v13, rfl, B, sc, dpP, fR, daR, hh⟩ ⟨rfl, rfl⟩
      have hi3 : i < 3 := hi
      generalize hm : n + 30 * i = m at B
      have lv : Live S Ha := by rw [eS]; exact Live.pw B
      have hn30 := hh.n
      have lx : xs'.length = ts'.length := dpAll_map_len daR
      refine ⟨_, rfl, _, rfl, b, _, R', xs', ts', rfl, B, by omega, (by rw [← eS]; exact fR), (by rw [← eS]; exact daR), by omega, hh.nm pb, fun Hb h Bb sb h0 h1 => ?_⟩
      have lv := lv.box Bb.bx sb
      have sc := sc.trans sb
      have B := Bb
      have fR := (sm_one hb sb) _ _ fR
      have dpP := dp_same ((sm_one hb sb)) dpP
      have daR := dpAll_same ((sm_one hb sb)) daR
      refine ⟨_, rfl, b, 200, _, rfl, (by decide), (by decide), B, by omega, fun Hc r r0 r1 Bc sC => ?_⟩
      have lv := lv.box Bc.bx sC
      have sc := sc.trans sC
      have B := Bc
      have fR := (sm_one hb sC) _ _ fR
      have dpP := dp_same ((sm_one hb sC)) dpP
      have daR := dpAll_same ((sm_one hb sC)) daR
      refine ⟨(by show 4 ≤ sizeLine; decide), fun e1 ne1 => ?_⟩
      have f1 := off_new (o := .lst [.int 0, .int 1, .int 24, .int r]) lv ne1
      have lv := lv.put (o := .lst [.int 0, .int 1, .int 24, .int r]) ne1
      have B := B.put (o := .lst [.int 0, .int 1, .int 24, .int r]) ne1
      have sc := sc.trans (sm_put (S := [b]) (o := .lst [.int 0, .int 1, .int 24, .int r]) ne1)
      have fR := (sm_put (S := S) (o := .lst [.int 0, .int 1, .int 24, .int r]) ne1) _ _ fR
      have dpP := dp_same ((sm_put (S := S) (o := .lst [.int 0, .int 1, .int 24, .int r]) ne1)) dpP
      have daR := dpAll_same ((sm_put (S := S) (o := .lst [.int 0, .int 1, .int 24, .int r]) ne1)) daR
      generalize upd Hc e1 (.lst [.int 0, .int 1, .int 24, .int r]) = Hd at f1 lv B sc fR dpP daR ⊢
      refine ⟨_, rfl, b, 4, _, rfl, (by decide), (by decide), B, by omega, fun He g g0 g1 Be se => ?_⟩
      have lv := lv.box Be.bx se
      have sc := sc.trans se
      have B := Be
      have f1 := (sm_one hb se) _ _ f1
      have fR := (sm_one hb se) _ _ fR
      have dpP := dp_same ((sm_one hb se)) dpP
      have daR := dpAll_same ((sm_one hb se)) daR
      obtain ⟨wm, ew, w0, w1⟩ : ∃ wm : Int, atI [V.int 0, .int 1, .int 24, .int r] g = some (.int wm) ∧ 0 ≤ wm ∧ wm ≤ 10000 := by
        have z : g = 0 ∨ g = 1 ∨ g = 2 ∨ g = 3 := by omega
        rcases z with rfl | rfl | rfl | rfl
        · exact ⟨_, rfl, by omega, by omega⟩
        · exact ⟨_, rfl, by omega, by omega⟩
        · exact ⟨_, rfl, by omega, by omega⟩
        · exact ⟨_, rfl, by omega, by omega⟩
      refine ⟨e1, _, g, _, rfl, rfl, SqL.of (at_off f1), ew, _, _, rfl, ?_⟩
      clear f1 ew
      simp only [List.set]
      -- broken
      refine ⟨_, rfl, _, rfl, _, rfl, _, rfl, v, cs, ws, R', xs', ts', h, wm, rfl, dp_off dpP, SqL.of (at_off fR), dpAll_same off_sub daR, by omega, hh.inN pb, (hh.mn pb).1, fun Hf p E Bh M es bs BR => ?_⟩
      have dpF := BR.dpo eS B
      have nE : E ∉ S := lv.out BR.nE
      have nBh : Bh ∉ S := lv.out BR.nB
      have hE0 := BR.hE
      have hB0 := BR.hB
      have lv := lv.same BR.sm
      have sc := sc.trans (sm_of (S := [b]) BR.sm)
      have B := B.same BR.sm
      have fR := (sm_of (S := S) BR.sm) _ _ fR
      have dpP := dp_same ((sm_of (S := S) BR.sm)) dpP
      have daR := dpAll_same ((sm_of (S := S) BR.sm)) daR
      have hS : ∀ s ∈ S, ∃ xs, Hf s = some (.lst xs) := fun s hs => by
        rw [eS, List.mem_singleton] at hs
        obtain ⟨x, y, z, hb0, _⟩ := B
        rw [hs]; exact ⟨_, hb0⟩
      have nl : ∀ us : List Trn, noLAll (us.map trD) := fun us => noL_map (f := trD) (fun t => ⟨trivial, trivial, trivial, trivial, trivial⟩) us
      have fE : off Hf S E = some (.lst es) := by rw [off_out nE]; exact hE0
      have fB : off Hf S Bh = some (.lst bs) := by rw [off_out nBh]; exact hB0
      have daE := dpAll_offL hS (nl _) (dpAll_same off_sub BR.dE)
      have daB := dpAll_offL hS (nl _) (dpAll_same off_sub BR.dB)
      have hp0 := BR.hp
      clear BR hS nl hE0 hB0
      -- the law's own
      refine ⟨_, rfl, _, rfl, _, rfl, _, rfl, v, cs, ws, R', xs', ts', h, wm, f', rfl, dp_off dpP, pb, SqL.of (at_off fR), dpAll_same off_sub daR, by omega, hh.c, fun Hg p2 E2 B2 M2 es2 bs2 BR2 => ⟨_, _, rfl, ?_⟩⟩
      have lv := lv.same BR2.sm
      have sc := sc.trans (sm_of (S := [b]) BR2.sm)
      have B := B.same BR2.sm
      have fR := (sm_of (S := S) BR2.sm) _ _ fR
      have fE := (sm_of (S := S) BR2.sm) _ _ fE
      have fB := (sm_of (S := S) BR2.sm) _ _ fB
      have dpP := dp_same ((sm_of (S := S) BR2.sm)) dpP
      have daR := dpAll_same ((sm_of (S := S) BR2.sm)) daR
      have daE := dpAll_same ((sm_of (S := S) BR2.sm)) daE
      have daB := dpAll_same ((sm_of (S := S) BR2.sm)) daB
      have dpF := dp_same ((sm_of (S := S) BR2.sm)) dpF
      have hp := BR2.sm _ _ hp0
      have tB := hh.th pb h0 h1 w0 w1
      simp only [List.set]
      refine ⟨_, rfl, _, rfl, .ref p, .ref p2, _, _, rfl, dp_off dpF, BR2.dp, Nat.lt_of_le_of_lt tB.d (by decide), Nat.le_trans tB.w (by decide), tB.g, fun Hh sH => ?_⟩
      clear BR2
      have hp := sH _ _ hp
      have lv := lv.same sH
      have sc := sc.trans (sm_of (S := [b]) sH)
      have B := B.same sH
      have fR := (sm_of (S := S) sH) _ _ fR
      have fE := (sm_of (S := S) sH) _ _ fE
      have fB := (sm_of (S := S) sH) _ _ fB
      have dpP := dp_same ((sm_of (S := S) sH)) dpP
      have daR := dpAll_same ((sm_of (S := S) sH)) daR
      have daE := dpAll_same ((sm_of (S := S) sH)) daE
      have daB := dpAll_same ((sm_of (S := S) sH)) daB
      have dpF := dp_same ((sm_of (S := S) sH)) dpF
      refine ⟨_, rfl, iteF ?_⟩
      refine ⟨_, rfl, _, rfl, _, rfl, _, rfl, _, rfl, v, cs, ws, R', xs', ts', h, wm, .ref p, _, _, _, rfl, dp_off dpP, SqL.of (at_off fR), dpAll_same off_sub daR, by omega, hh.inN pb, (hh.mn pb).1, dp_off dpF, tB.g, Nat.le_trans tB.d (by decide), Nat.le_trans tB.w (by decide), tB.g, fun Hi sI => ?_⟩
      rw [sm_refl tB.g (hb_br _ _ _ _)]
      have hp := sI _ _ hp
      have lv := lv.same sI
      have sc := sc.trans (sm_of (S := [b]) sI)
      have B := B.same sI
      have fR := (sm_of (S := S) sI) _ _ fR
      have fE := (sm_of (S := S) sI) _ _ fE
      have fB := (sm_of (S := S) sI) _ _ fB
      have dpP := dp_same ((sm_of (S := S) sI)) dpP
      have daR := dpAll_same ((sm_of (S := S) sI)) daR
      have daE := dpAll_same ((sm_of (S := S) sI)) daE
      have daB := dpAll_same ((sm_of (S := S) sI)) daB
      refine ⟨true, true, rfl, rfl, _, rfl, iteF ?_⟩
      refine ⟨_, rfl, p, _, rfl, .inl (.inl hp), rfl, _, _, rfl, _, _, rfl, _, _, rfl, _, _, rfl, rfl, ?_⟩
      simp only [List.set]
      obtain ⟨f2, hr2⟩ := hh.beh pb h0 w0
      have eed := end_take pb hh.c h
      have hrE : Hr cs ws f' (endF h ts') := by rw [eed]; exact hh.tk pb _
      have lB : bs.length = (behF cs ws h wm ts').length := dpAll_map_len daB
      have lB30 := (hh.lb h wm).2.1
      have bB := hh.bB pb h0 h1 w0 w1
      have nmB : ∀ t ∈ behF cs ws h wm ts', Nm t.2.1 := fun t ht => by obtain ⟨c, hc, e⟩ := (bB t ht).1; rw [← e]; exact pb.wd c hc
      have shB := trs_shaped nmB
      refine ⟨_, rfl, Nat.zero_le _, fun e2 ne2 => ?_⟩
      have f2x := off_new (o := .lst []) lv ne2
      have lv := lv.put (o := .lst []) ne2
      have B := B.put (o := .lst []) ne2
      have sc := sc.trans (sm_put (S := [b]) (o := .lst []) ne2)
      have fR := (sm_put (S := S) (o := .lst []) ne2) _ _ fR
      have fE := (sm_put (S := S) (o := .lst []) ne2) _ _ fE
      have fB := (sm_put (S := S) (o := .lst []) ne2) _ _ fB
      have dpP := dp_same ((sm_put (S := S) (o := .lst []) ne2)) dpP
      have daR := dpAll_same ((sm_put (S := S) (o := .lst []) ne2)) daR
      have daE := dpAll_same ((sm_put (S := S) (o := .lst []) ne2)) daE
      have daB := dpAll_same ((sm_put (S := S) (o := .lst []) ne2)) daB
      generalize upd Hi e2 (.lst []) = Hj at f2x lv B sc fR fE fB dpP daR daE daB ⊢
      refine ⟨.list ((behF cs ws h wm ts').map trD), .list [], dp_off (.lst (SqL.of fB) daB), .lst (SqL.of (at_off f2x)) .nil, shB, rfl, _, rfl, iteB (fun hc kk => ?_) ?_⟩
      · obtain ⟨pq, tq, rq, aq, eq, hpq⟩ := first_of daB (ne_nil hc)
        have hf := beh_first pb (hh.inC pb) eq
        refine ⟨_, rfl, Bh, _, 0, _, rfl, rfl, SqL.of (at_off fB), aq, pq, _, 0, _, rfl, rfl, sqt_off hpq, rfl, _, rfl, _, rfl, _, _, rfl, rfl, _, _, rfl, rfl, _, rfl, ?_⟩
        rw [decide_eq_false (by omega)]
        exact iteF kk
      refine ⟨_, rfl, Nat.zero_le _, fun e3 ne3 => ?_⟩
      have f3x := off_new (o := .lst []) lv ne3
      have lv := lv.put (o := .lst []) ne3
      have B := B.put (o := .lst []) ne3
      have sc := sc.trans (sm_put (S := [b]) (o := .lst []) ne3)
      have fR := (sm_put (S := S) (o := .lst []) ne3) _ _ fR
      have fE := (sm_put (S := S) (o := .lst []) ne3) _ _ fE
      have fB := (sm_put (S := S) (o := .lst []) ne3) _ _ fB
      have dpP := dp_same ((sm_put (S := S) (o := .lst []) ne3)) dpP
      have daR := dpAll_same ((sm_put (S := S) (o := .lst []) ne3)) daR
      have daE := dpAll_same ((sm_put (S := S) (o := .lst []) ne3)) daE
      have daB := dpAll_same ((sm_put (S := S) (o := .lst []) ne3)) daB
      generalize upd Hj e3 (.lst []) = Hk3 at f3x lv B sc fR fE fB dpP daR daE daB ⊢
      refine ⟨.list ((behF cs ws h wm ts').map trD), .list [], dp_off (.lst (SqL.of fB) daB), .lst (SqL.of (at_off f3x)) .nil, shB, rfl, _, rfl, iteB (fun hc kk => ?_) ?_⟩
      · obtain ⟨pl, tl, al, gl, hpl⟩ := last_of daB (ne_nil hc)
        refine ⟨_, rfl, 1, rfl, Bh, _, _, _, rfl, rfl, SqL.of (at_off fB), al, pl, _, 3, _, rfl, rfl, sqt_off hpl, rfl, _, _, rfl, rfl, ⟨by decide, by decide, by decide⟩, _, _, rfl, rfl, _, rfl, iteB (fun hd k2 => ?_) kk⟩
        clear kk k2
        have hd : decide (tl.2.2.2 ≤ 10 ^ (6 : Int).toNat) = true := hd
        rw [e106] at hd
        have hd := of_decide_eq_true hd
        have etr : turnsD cs (.list ((behF cs ws h wm ts').map trD)) = true := by
          obtain ⟨fx, ex, cx⟩ := ch_pb pb (h + wm) hh.c (fstF h ts')
          exact ch_turns pb cx (by omega) (by rw [lastE_get (f := fx) gl]; exact hd) lB30
        refine ⟨_, rfl, _, rfl, v, cs, ws, .ref Bh, _, 40000000, rfl, dp_off dpP, pb, dp_off (.lst (SqL.of fB) daB), trs_gd pb.wd bB, Nat.le_trans (trs_depth _) (by decide), Nat.le_trans (trs_wid (by omega)) (by decide), fun Hl3 sL3 => ?_⟩
        rw [etr]
        have lv := lv.same sL3
        have sc := sc.trans (sm_of (S := [b]) sL3)
        have B := B.same sL3
        have fR := (sm_of (S := S) sL3) _ _ fR
        have fE := (sm_of (S := S) sL3) _ _ fE
        have fB := (sm_of (S := S) sL3) _ _ fB
        have dpP := dp_same ((sm_of (S := S) sL3)) dpP
        have daR := dpAll_same ((sm_of (S := S) sL3)) daR
        have daE := dpAll_same ((sm_of (S := S) sL3)) daE
        have daB := dpAll_same ((sm_of (S := S) sL3)) daB
        refine ⟨true, true, rfl, rfl, _, rfl, iteF ?_⟩
        refine ⟨_, rfl, Nat.zero_le _, fun e4 ne4 => ?_⟩
        have f4 := off_new (o := .lst []) lv ne4
        have lv := lv.put (o := .lst []) ne4
        have B := B.put (o := .lst []) ne4
        have sc := sc.trans (sm_put (S := [b]) (o := .lst []) ne4)
        have fR := (sm_put (S := S) (o := .lst []) ne4) _ _ fR
        have fE := (sm_put (S := S) (o := .lst []) ne4) _ _ fE
        have fB := (sm_put (S := S) (o := .lst []) ne4) _ _ fB
        have dpP := dp_same ((sm_put (S := S) (o := .lst []) ne4)) dpP
        have daR := dpAll_same ((sm_put (S := S) (o := .lst []) ne4)) daR
        have daE := dpAll_same ((sm_put (S := S) (o := .lst []) ne4)) daE
        have daB := dpAll_same ((sm_put (S := S) (o := .lst []) ne4)) daB
        generalize upd Hl3 e4 (.lst []) = Hj4 at f4 lv B sc fR fE fB dpP daR daE daB ⊢
        refine ⟨.list ((endF h ts').map trD), .list [], dp_off (.lst (SqL.of fE) daE), .lst (SqL.of (at_off f4)) .nil, trs_shaped (fun t ht => hh.nm pb t (List.mem_filter.mp ht).1), rfl, _, rfl, iteV (C := fun z => gName 13 (V.int z) _ _ _) (lastE 0 (endF h ts')) (fun hc kk => ?_) (fun hc => ?_) ?_⟩
        · obtain ⟨pl, tl, al, gl, hpl⟩ := last_of daE (ne_nil hc)
          refine ⟨_, rfl, 1, rfl, E, _, _, _, rfl, rfl, SqL.of (at_off fE), al, pl, _, 3, _, rfl, rfl, sqt_off hpl, rfl, ?_⟩
          rw [lastE_get gl] at kk
          exact kk
        · rw [is_nil hc]; rfl
        · simp only [gName, List.set]
          refine ⟨_, rfl, _, rfl, _, rfl, v, cs, ws, E, es, _, 0, _, rfl, dp_off dpP, SqL.of (at_off fE), dpAll_same off_sub daE, hrE.inC pb, (hrE.mn pb).1, (by have := hrE.n; omega), fun Hk R1 y1 s1 hR1 nR1 d1 => ?_⟩
          have lv := lv.same s1
          have sc := sc.trans (sm_of (S := [b]) s1)
          have B := B.same s1
          have fB := (sm_of (S := S) s1) _ _ fB
          have fR := (sm_of (S := S) s1) _ _ fR
          have fE := (sm_of (S := S) s1) _ _ fE
          have dpP := dp_same ((sm_of (S := S) s1)) dpP
          have daR := dpAll_same ((sm_of (S := S) s1)) daR
          have daB := dpAll_same ((sm_of (S := S) s1)) daB
          have daE := dpAll_same ((sm_of (S := S) s1)) daE
          refine ⟨_, rfl, _, rfl, _, rfl, v, cs, ws, R', xs', ts', 0, _, rfl, dp_off dpP, SqL.of (at_off fR), dpAll_same off_sub daR, hh.inC pb, (hh.mn pb).1, (by have := hh.n; omega), fun Hl R2 y2 s2 hR2 nR2 d2 => ?_⟩
          have lv := lv.same s2
          have sc := sc.trans (sm_of (S := [b]) s2)
          have B := B.same s2
          have fB := (sm_of (S := S) s2) _ _ fB
          have fR := (sm_of (S := S) s2) _ _ fR
          have dpP := dp_same ((sm_of (S := S) s2)) dpP
          have daR := dpAll_same ((sm_of (S := S) s2)) daR
          have daB := dpAll_same ((sm_of (S := S) s2)) daB
          have d1 := dpAll_same (off_sub.trans s2) d1
          have d2 : DpAll K Hl y2 _ := dpAll_same off_sub d2
          have estr := str_take pb (endF h ts').length hh.c hh.f (by rw [← eed]; exact (hrE.mn pb).2) (hh.mn pb).2
          rw [← eed] at estr
          rw [← estr] at d2
          have wrd : ∀ r ∈ strF 0 (lastE 0 (endF h ts')) (mksF cs ws 0 (endF h ts')), r.1 ∈ wordsS := fun r hr => str_words hr
          generalize strF 0 (lastE 0 (endF h ts')) (mksF cs ws 0 (endF h ts')) = rs at d1 d2 wrd
          obtain ⟨mw, gw⟩ := rws_gd wrd
          have shp := gd_shaped gw (Nat.le_trans (rws_depth rs) (by decide))
          refine ⟨.list (rs.map rwD), .list (rs.map rwD), .lst (SqL.of (s2 _ _ hR1)) d1, .lst (SqL.of hR2) d2, shp, shp, _, rfl, ?_⟩
          rw [rw_refl wrd]
          refine iteF ?_
          -- those that are left
          refine ⟨_, rfl, Bh, rfl, ⟨_, SqL.of (at_off fB)⟩, fun D nD => ?_⟩
          refine lc_it (walk_list (xs := bs)) (PvD K Hl S D fun i => (((behF cs ws h wm ts').take i).filter fun t => decide (t.2.2.2 ≤ 1000000)).map trD) (pd_start nD rfl) (fun i H' _ z => SqL.of (z.sm _ _ (at_off fB))) ?_ ?_
          · rintro i0 y Ha2 Hb2 hi2 pv ⟨rfl, gx⟩
            obtain ⟨t, gt, dpt⟩ := dpAll_map_at daB gx
            obtain ⟨pt, rfl, hpt⟩ := tr_dp dpt
            refine ⟨rfl, _, rfl, pt, _, 3, _, rfl, rfl, same_tup (off_sub.trans pv.sm) hpt, rfl, _, _, rfl, rfl, ⟨by decide, by decide, by decide⟩, _, _, rfl, rfl, _, rfl, ite2 (fun z => ?_) (fun z => ?_)⟩
            · have z : decide (t.2.2.2 ≤ 10 ^ (6 : Int).toNat) = true := z
              rw [e106] at z
              exact ⟨_, rfl, pd_put nD pv (Same.refl _) (dp_same (pv.keep nD) dpt) (filt_yes trD gt z) (filt_len trD _ (by omega))⟩
            · have z : ¬ decide (t.2.2.2 ≤ 10 ^ (6 : Int).toNat) = true := z
              rw [e106] at z
              exact pd_skip pv (Same.refl _) (filt_no trD gt ((Bool.not_eq_true _).mp z))
          · intro Hm2 pv
            obtain ⟨sm2, us, fD, daD⟩ := pd_end lv nD pv (filt_all trD _ (by omega))
            have lv := lv.same sm2
            have sc := sc.trans (sm_of (S := [b]) sm2)
            have B := B.same sm2
            have dpP := dp_same ((sm_of (S := S) sm2)) dpP
            exact ⟨D, us, _, f2, _, _, _, _, _, _, _, _, _, _, rfl, B.mono (by omega), sc, dpP, fD, daD, hr2⟩
      ·
        refine ⟨_, rfl, Nat.zero_le _, fun e4 ne4 => ?_⟩
        have f4 := off_new (o := .lst []) lv ne4
        have lv := lv.put (o := .lst []) ne4
        have B := B.put (o := .lst []) ne4
        have sc := sc.trans (sm_put (S := [b]) (o := .lst []) ne4)
        have fR := (sm_put (S := S) (o := .lst []) ne4) _ _ fR
        have fE := (sm_put (S := S) (o := .lst []) ne4) _ _ fE
        have fB := (sm_put (S := S) (o := .lst []) ne4) _ _ fB
        have dpP := dp_same ((sm_put (S := S) (o := .lst []) ne4)) dpP
        have daR := dpAll_same ((sm_put (S := S) (o := .lst []) ne4)) daR
        have daE := dpAll_same ((sm_put (S := S) (o := .lst []) ne4)) daE
        have daB := dpAll_same ((sm_put (S := S) (o := .lst []) ne4)) daB
        generalize upd Hk3 e4 (.lst []) = Hj4 at f4 lv B sc fR fE fB dpP daR daE daB ⊢
        refine ⟨.list ((endF h ts').map trD), .list [], dp_off (.lst (SqL.of fE) daE), .lst (SqL.of (at_off f4)) .nil, trs_shaped (fun t ht => hh.nm pb t (List.mem_filter.mp ht).1), rfl, _, rfl, iteV (C := fun z => gName 13 (V.int z) _ _ _) (lastE 0 (endF h ts')) (fun hc kk => ?_) (fun hc => ?_) ?_⟩
        · obtain ⟨pl, tl, al, gl, hpl⟩ := last_of daE (ne_nil hc)
          refine ⟨_, rfl, 1, rfl, E, _, _, _, rfl, rfl, SqL.of (at_off fE), al, pl, _, 3, _, rfl, rfl, sqt_off hpl, rfl, ?_⟩
          rw [lastE_get gl] at kk
          exact kk
        · rw [is_nil hc]; rfl
        · simp only [gName, List.set]
          refine ⟨_, rfl, _, rfl, _, rfl, v, cs, ws, E, es, _, 0, _, rfl, dp_off dpP, SqL.of (at_off fE), dpAll_same off_sub daE, hrE.inC pb, (hrE.mn pb).1, (by have := hrE.n; omega), fun Hk R1 y1 s1 hR1 nR1 d1 => ?_⟩
          have lv := lv.same s1
          have sc := sc.trans (sm_of (S := [b]) s1)
          have B := B.same s1
          have fB := (sm_of (S := S) s1) _ _ fB
          have fR := (sm_of (S := S) s1) _ _ fR
          have fE := (sm_of (S := S) s1) _ _ fE
          have dpP := dp_same ((sm_of (S := S) s1)) dpP
          have daR := dpAll_same ((sm_of (S := S) s1)) daR
          have daB := dpAll_same ((sm_of (S := S) s1)) daB
          have daE := dpAll_same ((sm_of (S := S) s1)) daE
          refine ⟨_, rfl, _, rfl, _, rfl, v, cs, ws, R', xs', ts', 0, _, rfl, dp_off dpP, SqL.of (at_off fR), dpAll_same off_sub daR, hh.inC pb, (hh.mn pb).1, (by have := hh.n; omega), fun Hl R2 y2 s2 hR2 nR2 d2 => ?_⟩
          have lv := lv.same s2
          have sc := sc.trans (sm_of (S := [b]) s2)
          have B := B.same s2
          have fB := (sm_of (S := S) s2) _ _ fB
          have fR := (sm_of (S := S) s2) _ _ fR
          have dpP := dp_same ((sm_of (S := S) s2)) dpP
          have daR := dpAll_same ((sm_of (S := S) s2)) daR
          have daB := dpAll_same ((sm_of (S := S) s2)) daB
          have d1 := dpAll_same (off_sub.trans s2) d1
          have d2 : DpAll K Hl y2 _ := dpAll_same off_sub d2
          have estr := str_take pb (endF h ts').length hh.c hh.f (by rw [← eed]; exact (hrE.mn pb).2) (hh.mn pb).2
          rw [← eed] at estr
          rw [← estr] at d2
          have wrd : ∀ r ∈ strF 0 (lastE 0 (endF h ts')) (mksF cs ws 0 (endF h ts')), r.1 ∈ wordsS := fun r hr => str_words hr
          generalize strF 0 (lastE 0 (endF h ts')) (mksF cs ws 0 (endF h ts')) = rs at d1 d2 wrd
          obtain ⟨mw, gw⟩ := rws_gd wrd
          have shp := gd_shaped gw (Nat.le_trans (rws_depth rs) (by decide))
          refine ⟨.list (rs.map rwD), .list (rs.map rwD), .lst (SqL.of (s2 _ _ hR1)) d1, .lst (SqL.of hR2) d2, shp, shp, _, rfl, ?_⟩
          rw [rw_refl wrd]
          refine iteF ?_
          -- those that are left
          refine ⟨_, rfl, Bh, rfl, ⟨_, SqL.of (at_off fB)⟩, fun D nD => ?_⟩
          refine lc_it (walk_list (xs := bs)) (PvD K Hl S D fun i => (((behF cs ws h wm ts').take i).filter fun t => decide (t.2.2.2 ≤ 1000000)).map trD) (pd_start nD rfl) (fun i H' _ z => SqL.of (z.sm _ _ (at_off fB))) ?_ ?_
          · rintro i0 y Ha2 Hb2 hi2 pv ⟨rfl, gx⟩
            obtain ⟨t, gt, dpt⟩ := dpAll_map_at daB gx
            obtain ⟨pt, rfl, hpt⟩ := tr_dp dpt
            refine ⟨rfl, _, rfl, pt, _, 3, _, rfl, rfl, same_tup (off_sub.trans pv.sm) hpt, rfl, _, _, rfl, rfl, ⟨by decide, by decide, by decide⟩, _, _, rfl, rfl, _, rfl, ite2 (fun z => ?_) (fun z => ?_)⟩
            · have z : decide (t.2.2.2 ≤ 10 ^ (6 : Int).toNat) = true := z
              rw [e106] at z
              exact ⟨_, rfl, pd_put nD pv (Same.refl _) (dp_same (pv.keep nD) dpt) (filt_yes trD gt z) (filt_len trD _ (by omega))⟩
            · have z : ¬ decide (t.2.2.2 ≤ 10 ^ (6 : Int).toNat) = true := z
              rw [e106] at z
              exact pd_skip pv (Same.refl _) (filt_no trD gt ((Bool.not_eq_true _).mp z))
          · intro Hm2 pv
            obtain ⟨sm2, us, fD, daD⟩ := pd_end lv nD pv (filt_all trD _ (by omega))
            have lv := lv.same sm2
            have sc := sc.trans (sm_of (S := [b]) sm2)
            have B := B.same sm2
            have dpP := dp_same ((sm_of (S := S) sm2)) dpP
            exact ⟨D, us, _, f2, _, _, _, _, _, _, _, _, _, _, rfl, B.mono (by omega), sc, dpP, fD, daD, hr2⟩
    · rintro σ Ha ⟨R', xs', ts', f', v4, v5, v6, v7, v8, v9, v10, v11, v12, v13, rfl, B, sc, dpP, fR, daR, hh⟩
      refine ⟨_, rfl, _, rfl, v, cs, ws, R', xs', ts', rfl, dp_off dpP, SqL.of (at_off fR), dpAll_same off_sub daR, (by have := hh.n; omega), hh.inC pb, fun Hb yd sb dyd => ?_⟩
      rw [hh.fa pb] at dyd
      cases dyd
      exact ⟨rfl, q _ (B.mono (by show n + 30 * 3 ≤ n + 100; omega) |>.same sb) (sc.trans (sm_of sb))⟩

end
end Pot

namespace Pot
open PySem PySem.Spec PyProof.Rows L2
section
variable {P : Program} {w : World} {K : PySem.W.Frag} {mg : Str → Option Value} {base : Heap}
/-- what broken told, beside the box -/
structure BrO (K : PySem.W.Frag) (H : Hp) (p E B M : Addr) (es bs : List V) (ed bd : List Trn) (lo : Option Int) (ms : List Int) : Prop where
  hp : H p = some (.tup [.ref E, optV lo, .ref B, .ref M])
  hE : H E = some (.lst es)
  hB : H B = some (.lst bs)
  hM : H M = some (.lst (ms.map V.int))
  dE : DpAll K H es (ed.map trD)
  dB : DpAll K H bs (bd.map trD)
theorem BrO.same {H H' : Hp} {p E B M : Addr} {es bs : List V} {ed bd : List Trn} {lo : Option Int} {ms : List Int} (s : Same H H') (h : BrO K H p E B M es bs ed bd lo ms) : BrO K H' p E B M es bs ed bd lo ms :=
  ⟨s _ _ h.hp, s _ _ h.hE, s _ _ h.hB, s _ _ h.hM, dpAll_same s h.dE, dpAll_same s h.dB⟩
theorem BrO.dp {H : Hp} {p E B M : Addr} {es bs : List V} {ed bd : List Trn} {lo : Option Int} {ms : List Int} (h : BrO K H p E B M es bs ed bd lo ms) : Dp K H (.ref p) (brD ed lo bd ms) :=
  .tup (.inl (.inl h.hp)) (.cons (.lst (SqL.of h.hE) h.dE) (.cons (opt_dp _) (.cons (.lst (SqL.of h.hB) h.dB) (.cons (.lst (SqL.of h.hM) (dp_ints _)) .nil))))
theorem BrAt.o {H0 H : Hp} {p E B M b : Addr} {n : Nat} {S : List Addr} (eS : S = [b]) (Bb : Bp H0 b n) {es bs : List V} {ed bd : List Trn} {lo : Option Int} {ms : List Int} (h : BrAt K H0 H p E B M es bs ed bd lo ms) : BrO K (off H S) p E B M es bs ed bd lo ms := by
  obtain ⟨x, y, z, hb0, _⟩ := Bb
  have hb := h.sm _ _ hb0
  have hS : ∀ s ∈ S, ∃ xs, H s = some (.lst xs) := fun s hs => by
    rw [eS, List.mem_singleton] at hs
    rw [hs]; exact ⟨_, hb⟩
  have nE : E ∉ S := fun z => by rw [eS, List.mem_singleton] at z; rw [← z, h.nE] at hb0; cases hb0
  have nB : B ∉ S := fun z => by rw [eS, List.mem_singleton] at z; rw [← z, h.nB] at hb0; cases hb0
  have nM : M ∉ S := fun z => by rw [eS, List.mem_singleton] at z; rw [← z, h.nM] at hb0; cases hb0
  have np : p ∉ S := fun z => by rw [eS, List.mem_singleton] at z; rw [← z, h.hp] at hb; cases hb
  have nl : ∀ us : List Trn, noLAll (us.map trD) := fun us => noL_map (f := trD) (fun t => ⟨trivial, trivial, trivial, trivial, trivial⟩) us
  exact ⟨by rw [off_out np]; exact h.hp, by rw [off_out nE]; exact h.hE, by rw [off_out nB]; exact h.hB, by rw [off_out nM]; exact h.hM, dpAll_offL hS (nl _) (dpAll_same off_sub h.dE), dpAll_offL hS (nl _) (dpAll_same off_sub h.dB)⟩
def laterF (h : Int) (ts : List Trn) (n : Nat) : List Nat := (List.range n).filter fun j => decide ((ts.getD j zT).1 > h)
theorem later_eq {h : Int} {ts : List Trn} {le fs : Nat} (s : Srt h ts le fs) : ∀ n : Nat, n ≤ ts.length → laterF h ts n = (List.range (n - fs)).map fun k => fs + k
  | 0, _ => by rw [Nat.zero_sub]; rfl
  | n + 1, hn => by
    have ih := later_eq s n (by omega)
    unfold laterF at ih ⊢
    rw [List.range_succ, List.filter_append, ih]
    have g := List.getElem?_eq_getElem (show n < ts.length by omega)
    have e := s.at_ n _ g
    rw [List.filter_cons, gD g]
    by_cases z : n < fs
    · rw [if_neg (by rw [decide_eq_true_iff]; have := e.mpr z; omega), List.filter_nil, List.append_nil, show n + 1 - fs = n - fs by omega]
    · rw [if_pos (by rw [decide_eq_true_iff]; have := mt e.mp z; omega), List.filter_nil, show n + 1 - fs = (n - fs) + 1 by omega, List.range_succ, List.map_append]
      show _ ++ [n] = _ ++ [fs + (n - fs)]
      rw [show fs + (n - fs) = n by omega]
theorem mvF_self : ∀ (xs : List Trn) (n : Nat), mvF n xs xs = []
  | [], _ => rfl
  | x :: xs, n => by
    show (if x = x then [] else [((n : Nat) : Int)]) ++ mvF (n + 1) xs xs = []
    rw [if_pos rfl, mvF_self xs]; rfl
theorem ints_refl (ms : List Int) : PyData.eqv (.list (ms.map PyData.int)) (.list (ms.map PyData.int)) = true := by
  obtain ⟨m, g⟩ := ints_gdE ms
  exact SeqAt.eqv_refl _ (gd_lay _ g)
theorem ints_shaped (ms : List Int) : SeqAt.shaped (.list (ms.map PyData.int)) = true := by
  obtain ⟨m, g⟩ := ints_gdE ms
  exact gd_shaped g (Nat.le_trans (ints_depth ms) (by decide))
theorem trs_refl {us : List Trn} (h : ∀ t ∈ us, Nm t.2.1) : PyData.eqv (.list (us.map trD)) (.list (us.map trD)) = true := by
  obtain ⟨m, g⟩ := trs_gdE h
  exact SeqAt.eqv_refl _ (gd_lay _ g)
theorem laterF_succ (h : Int) (ts : List Trn) (n : Nat) : laterF h ts (n + 1) = laterF h ts n ++ (if decide ((ts.getD n zT).1 > h) = true then [n] else []) := by
  unfold laterF
  rw [List.range_succ, List.filter_append, List.filter_cons, List.filter_nil]
theorem laterF_len (h : Int) (ts : List Trn) (n : Nat) : (laterF h ts n).length ≤ n := by
  have := List.length_filter_le (fun j => decide ((ts.getD j zT).1 > h)) (List.range n)
  rw [List.length_range] at this
  exact this

end
end Pot

namespace Pot
open PySem PySem.Spec PyProof.Rows L2
section
variable {P : Program} {w : World} {K : PySem.W.Frag} {mg : Str → Option Value} {base : Heap}
abbrev s__law_warmer_right : Stmt := topS 44
def n__law_warmer_right : List Str := ["_law_box_here", "_law_palette_here", "_law_turns_here", "_law_hour", "_law_ahead", "_law_warm", "_law_found", "_law_later", "_law_number", "_law_one", "_law_other"]
theorem sc__law_warmer_right : FnScope n__law_warmer_right ["_law_box_here", "_law_palette_here", "_law_turns_here"] (defScope s__law_warmer_right) := ⟨rfl, rfl, rfl, by decide +kernel, rfl, by decide +kernel, by decide +kernel⟩
def spWarmer (K : PySem.W.Frag) : Sp := fun vs H Q _ => ∃ (b : Addr) (n : Nat) (v : V) (cs : List Col) (ws : List Wsh) (R : Addr) (xs : List V) (ts : List Trn) (f0 : Int), vs = [.ref b, v, .ref R] ∧ Bp H b n ∧ n + 1000 < 2 ^ 38 ∧ Dp K (off H [b]) v (palD cs ws) ∧ PalC cs ws ∧ off H [b] R = some (.lst xs) ∧ DpAll K (off H [b]) xs (ts.map trD) ∧ Hr cs ws f0 ts ∧
  ∀ H', Bp H' b (n + 100) → Sm [b] H H' → Q (.bl true) H'
set_option maxHeartbeats 4000000 in
theorem ok_warmer {f : Addr} {fd : FuncData} {k : Nat} (F : Fun K "_law_warmer_right" "_law_warmer_right" s__law_warmer_right f fd) (T : Txt mg) (c__law_take : Cl P w K mg base (k + 1) "_law_take" spTake) (c__law_when : Cl P w K mg base (k + 2) "_law_when" (spWhen K)) (c_broken : ClD P w K mg base (k + 5) "broken" [] (spBroken K)) (c_last_warm : Cl P w K mg base (k + 4) "last_warm" (spLast K)) : FnOk P w K mg base CX0 (k + 6) f fd ["_law_box_here", "_law_palette_here", "_law_turns_here"] (spWarmer K) := by
  refine F.ok sc__law_warmer_right (fun vs H Q E h => ?_) (fun cdv A outer s H vs Q E hr h => ?_)
  · obtain ⟨b, n, v, cs, ws, R, xs, ts, f0, rfl, _⟩ := h
    rfl
  · obtain ⟨b, n, v, cs, ws, R, xs, ts, f0, rfl, B, hn, dpP, pb, fR, daR, hh, q⟩ := h
    have nd := sc__law_warmer_right.nd
    have hu64 := hr.units
    /- 0 _law_box_here, 1 _law_palette_here, 2 _law_turns_here, 3 _law_hour, 4 _law_ahead, 5 _law_warm, 6 _law_found, 7 _law_later, 8 _law_number, 9 _law_one, 10 _law_other -/
    refine ⟨_, (pss_cons (ps_asg (pe_tup (pa_cons (pe_cl c__law_when hr (by omega) (by rfl) (pa_cons (pv 0) (pa_cons (pv 2) pa_nil))) (pa_cons pe_non pa_nil))) (kg_tup (K := K) (n := 2) (pgs_cons (pg_name (i := 3) nd rfl (.inr rfl)) (pgs_cons (pg_name (i := 4) nd rfl (.inl rfl)) pgs_nil))))
      (pss_cons (ps_for PassesOwn.never rfl (ki_list (K := K) (pe_callB (kc_sorted (K := K)) (by rfl) T.sorted (by decide +kernel) (pa_cons (pe_lst (pa_cons pe_int (pa_cons pe_int (pa_cons (pe_cl c__law_take hr (by omega) (by rfl) (pa_cons (pv 0) (pa_cons pe_int pa_nil))) (pa_cons (pe_cl c__law_take hr (by omega) (by rfl) (pa_cons (pv 0) (pa_cons pe_int pa_nil))) (pa_cons (pe_op op_pow pe_int pe_int) pa_nil)))))) pa_nil))) (pg_name (i := 5) nd rfl (.inl rfl))
          (pss_cons (ps_set (i := 6) nd rfl (.inl rfl) (pe_cd c_broken hr (by omega) (by rfl) (pa_cons (pv 1) (pa_cons (pv 2) (pa_cons (pv 3) (pa_cons (pv 5) pa_nil))))))
          (pss_cons (ps_if (pt_cmpR op_notN (pv 4) pe_non (nomark _))
              (pss_cons (ps_if ((pw_or (pt_cmpR (ko_ne (K := K) hu64) (pe_slice (kl_tup (K := K)) (pv 6) po_none (po_some pe_int)) (pe_slice (kl_tup (K := K)) (pv 4) po_none (po_some pe_int)) (nomark _)) (pw_or1 (pt_cmpR (ko_ne (K := K) hu64) (pe_slice (kl_list (K := K)) (pe_ix (kx_tup (K := K)) (pv 6) pe_int (fun _ _ => rfl)) po_none (po_some (pe_callB (kc_len (K := K)) (by rfl) T.len PySem.boot_len (pa_cons (pe_ix (kx_tup (K := K)) (pv 4) pe_int (fun _ _ => rfl)) pa_nil)))) (pe_ix (kx_tup (K := K)) (pv 4) pe_int (fun _ _ => rfl)) (nomark _))))).pt
                  pss_never
                  pss_nil)
              (pss_one (ps_if (pt_val (pe_callB (kc_any (K := K)) (by rfl) T.any (by decide +kernel) (pa_cons (pe_lc (own := [("_law_one", 9), ("_law_other", 10)]) rfl nd (ki_zip (K := K) (by rfl) T.zip (pa_cons (pe_ix (kx_tup (K := K)) (pv 6) pe_int (fun _ _ => rfl)) (pa_cons (pe_ix (kx_tup (K := K)) (pv 4) pe_int (fun _ _ => rfl)) pa_nil))) (blkOk_by (N := n__law_warmer_right) (sc := defScope s__law_warmer_right) (by decide +kernel)) (fun _ _ _ _ _ => (kg_tup (K := K) (n := 2) (pgs_cons (pg_name (i := 9) nd rfl (.inl rfl)) (pgs_cons (pg_name (i := 10) nd rfl (.inl rfl)) pgs_nil)))) (fun _ _ _ _ _ => pts_nil) (fun _ _ _ _ _ => (pe_or (pe_cmpR op_lt (pe_ix (kx_tup (K := K)) (pv 9) pe_int (fun _ _ => rfl)) (pe_ix (kx_tup (K := K)) (pv 10) pe_int (fun _ _ => rfl)) (nomark _)) (pe_one (pe_cmpR op_lt (pe_ix (kx_tup (K := K)) (pv 9) pe_int (fun _ _ => rfl)) (pe_ix (kx_tup (K := K)) (pv 10) pe_int (fun _ _ => rfl)) (nomark _)))))) pa_nil)))
                  pss_never
                  pss_nil)))
              pss_nil)
          (pss_one (ps_set (i := 4) nd rfl (.inl rfl) (pv 6))))))
      (pss_cons (ps_setLc (i := 7) (own := [("_law_number", 8), ("_law_one", 9)]) rfl nd rfl rfl (sw_true rfl rfl rfl (by decide +kernel)) (ki_enum (K := K) (by rfl) T.enumerate (pa_cons (pv 2) pa_nil)) (blkOk_by (N := n__law_warmer_right) (sc := defScope s__law_warmer_right) (by decide +kernel)) (fun _ _ _ _ _ => (kg_tup (K := K) (n := 2) (pgs_cons (pg_name (i := 8) nd rfl (.inl rfl)) (pgs_cons (pg_name (i := 9) nd rfl (.inl rfl)) pgs_nil)))) (fun _ _ _ _ _ => (pts_one (pt_cmpR op_gt (pe_ix (kx_tup (K := K)) (pv 9) pe_int (fun _ _ => rfl)) (pv 3) (nomark _)))) (fun _ _ _ _ _ => (pv 8)))
      (pss_cons (ps_if (pt_cmpR (ko_eq (K := K) hu64) (pv 7) (pe_lst pa_nil) (nomark _))
          (pss_one (ps_ret (pe_cmpR (ko_eq (K := K) hu64) (pe_ix (kx_tup (K := K)) (pv 4) pe_int (fun _ _ => rfl)) (pe_lst pa_nil) (nomark _))))
          pss_nil)
      (pss_cons (ps_set (i := 5) nd rfl (.inl rfl) (pe_cl c_last_warm hr (by omega) (by rfl) (pa_cons (pv 1) (pa_cons (pv 2) (pa_cons (pv 3) (pa_cons (pe_ix (kx_list (K := K)) (pv 7) pe_int (fun _ _ => rfl)) pa_nil))))))
      (pss_cons (ps_if (pt_cmpR op_gt (pv 5) (pe_op op_pow pe_int pe_int) (nomark _))
          (pss_one (ps_ret pe_bl))
          pss_nil)
      (pss_cons (ps_set (i := 6) nd rfl (.inl rfl) (pe_cd c_broken hr (by omega) (by rfl) (pa_cons (pv 1) (pa_cons (pv 2) (pa_cons (pv 3) (pa_cons (pv 5) pa_nil))))))
      (pss_one (ps_ret (pe_and (pe_cmpR (ko_eq (K := K) hu64) (pe_ix (kx_tup (K := K)) (pv 6) pe_int (fun _ _ => rfl)) (pe_slice (kl_list (K := K)) (pv 2) (po_some (pe_ix (kx_list (K := K)) (pv 7) pe_int (fun _ _ => rfl))) po_none) (nomark _)) (pe_one (pe_cmpR (ko_eq (K := K) hu64) (pe_ix (kx_tup (K := K)) (pv 6) pe_int (fun _ _ => rfl)) (pe_lst pa_nil) (nomark _))))))))))))), ?_⟩
    have est : L2.start n__law_warmer_right [.ref b, v, .ref R] = [some (.ref b), some v, some (.ref R), none, none, none, none, none, none, none, none] := rfl
    rw [est]
    have sc : Sm [b] H H := Same.refl _
    have lv : Live [b] H := Live.pw B
    obtain ⟨S, eS⟩ : ∃ S, S = [b] := ⟨_, rfl⟩
    have hb : b ∈ S := by rw [eS]; exact List.mem_cons_self
    rw [← eS] at lv dpP fR daR
    have hn30 := hh.n
    have lx : xs.length = ts.length := dpAll_map_len daR
    refine ⟨_, rfl, _, rfl, b, _, R, xs, ts, rfl, B, by omega, (by rw [← eS]; exact fR), (by rw [← eS]; exact daR), by omega, hh.nm pb, fun Hb h Bb sb h0 h1 => ?_⟩
    have lv := lv.box Bb.bx sb
    have sc := sc.trans sb
    have B := Bb
    have fR := (sm_one hb sb) _ _ fR
    have dpP := dp_same ((sm_one hb sb)) dpP
    have daR := dpAll_same ((sm_one hb sb)) daR
    refine ⟨(by show 2 ≤ sizeLine; decide), fun t0 nt0 => ?_⟩
    have ft0 := off_new (o := .tup [.int h, .non]) lv nt0
    have lv := lv.put (o := .tup [.int h, .non]) nt0
    have B := B.put (o := .tup [.int h, .non]) nt0
    have sc := sc.trans (sm_put (S := [b]) (o := .tup [.int h, .non]) nt0)
    have fR := (sm_put (S := S) (o := .tup [.int h, .non]) nt0) _ _ fR
    have dpP := dp_same ((sm_put (S := S) (o := .tup [.int h, .non]) nt0)) dpP
    have daR := dpAll_same ((sm_put (S := S) (o := .tup [.int h, .non]) nt0)) daR
    generalize upd Hb t0 (.tup [.int h, .non]) = Hb1 at ft0 lv B sc fR dpP daR ⊢
    refine ⟨t0, _, rfl, .inl (.inl (at_off ft0)), rfl, _, _, rfl, _, _, rfl, rfl, ?_⟩
    simp only [List.set]
    refine ⟨_, rfl, b, 30, _, rfl, (by decide), (by decide), B, by omega, fun Hc r r0 r1 Bc sC => ?_⟩
    have lv := lv.box Bc.bx sC
    have sc := sc.trans sC
    have B := Bc
    have fR := (sm_one hb sC) _ _ fR
    have dpP := dp_same ((sm_one hb sC)) dpP
    have daR := dpAll_same ((sm_one hb sC)) daR
    refine ⟨_, rfl, b, 300, _, rfl, (by decide), (by decide), B, by omega, fun Hd g g0 g1 Bd sd => ?_⟩
    have lv := lv.box Bd.bx sd
    have sc := sc.trans sd
    have B := Bd
    have fR := (sm_one hb sd) _ _ fR
    have dpP := dp_same ((sm_one hb sd)) dpP
    have daR := dpAll_same ((sm_one hb sd)) daR
    refine ⟨_, _, rfl, rfl, ⟨by decide, by decide, by decide⟩, (by show 5 ≤ sizeLine; decide), fun l0 nl0 => ?_⟩
    have e104 : (10 : Int) ^ (4 : Int).toNat = 10000 := by decide
    have fl0 := off_new (o := .lst [.int 0, .int 1, .int r, .int g, (fun i j : Int => V.int (i ^ j.toNat)) 10 4]) lv nl0
    have lv := lv.put (o := .lst [.int 0, .int 1, .int r, .int g, (fun i j : Int => V.int (i ^ j.toNat)) 10 4]) nl0
    have B := B.put (o := .lst [.int 0, .int 1, .int r, .int g, (fun i j : Int => V.int (i ^ j.toNat)) 10 4]) nl0
    have sc := sc.trans (sm_put (S := [b]) (o := .lst [.int 0, .int 1, .int r, .int g, (fun i j : Int => V.int (i ^ j.toNat)) 10 4]) nl0)
    have fR := (sm_put (S := S) (o := .lst [.int 0, .int 1, .int r, .int g, (fun i j : Int => V.int (i ^ j.toNat)) 10 4]) nl0) _ _ fR
    have dpP := dp_same ((sm_put (S := S) (o := .lst [.int 0, .int 1, .int r, .int g, (fun i j : Int => V.int (i ^ j.toNat)) 10 4]) nl0)) dpP
    have daR := dpAll_same ((sm_put (S := S) (o := .lst [.int 0, .int 1, .int r, .int g, (fun i j : Int => V.int (i ^ j.toNat)) 10 4]) nl0)) daR
    generalize upd Hd l0 (.lst [.int 0, .int 1, .int r, .int g, (fun i j : Int => V.int (i ^ j.toNat)) 10 4]) = He at fl0 lv B sc fR dpP daR ⊢
    refine ⟨l0, [0, 1, r, g, 10 ^ (4 : Int).toNat], rfl, SqL.of (at_off fl0), (by show 5 < 64; decide), fun ns p0 perm ris np0 => ?_⟩
    rw [e104] at perm
    have fp0 := off_new (o := .lst (ns.map V.int)) lv np0
    have lv := lv.put (o := .lst (ns.map V.int)) np0
    have B := B.put (o := .lst (ns.map V.int)) np0
    have sc := sc.trans (sm_put (S := [b]) (o := .lst (ns.map V.int)) np0)
    have fR := (sm_put (S := S) (o := .lst (ns.map V.int)) np0) _ _ fR
    have dpP := dp_same ((sm_put (S := S) (o := .lst (ns.map V.int)) np0)) dpP
    have daR := dpAll_same ((sm_put (S := S) (o := .lst (ns.map V.int)) np0)) daR
    generalize upd He p0 (.lst (ns.map V.int)) = Hf at fp0 lv B sc fR dpP daR ⊢
    have bns : ∀ x ∈ ns, 0 ≤ x ∧ x ≤ 10000 := fun x hx => by
      have hx : x ∈ [0, 1, r, g, 10000] := perm.mem_iff.mp hx
      simp only [List.mem_cons, List.not_mem_nil, or_false] at hx
      rcases hx with rfl | rfl | rfl | rfl | rfl <;> omega
    have lns : ns.length = 5 := perm.length_eq
    refine ⟨p0, rfl, ⟨_, SqL.of (at_off fp0)⟩, ?_⟩
    refine for_it (walk_list (xs := ns.map V.int)) (fun i σ Hx => ∃ y4 v5 v6, σ = [some (.ref b), some v, some (.ref R), some (.int h), some y4, v5, v6, none, none, none, none] ∧ Bp Hx b (n + 20) ∧ Sm [b] H Hx ∧ Dp K (off Hx S) v (palD cs ws) ∧ off Hx S R = some (.lst xs) ∧ DpAll K (off Hx S) xs (ts.map trD) ∧ off Hx S p0 = some (.lst (ns.map V.int)) ∧ (if i = 0 then y4 = .non else ∃ w0 p E Bh M es bs, y4 = .ref p ∧ ns[i - 1]? = some w0 ∧ BrO K (off Hx S) p E Bh M es bs (endF h ts) (behF cs ws h w0 ts) (lostF h ts) (mvF (fstF h ts) (behF cs ws h w0 ts) (ts.drop (fstF h ts)))))
      ⟨_, _, _, rfl, B.mono (by omega), sc, dpP, fR, daR, fp0, rfl⟩ (fun i σ Hx _ z => by obtain ⟨_, _, _, _, _, _, _, _, _, z, _⟩ := z; exact SqL.of (at_off z)) ?_ ?_
    · rintro i x σ Ha Ha2 hi ⟨y4, v5, v6, rfl, B, sc, dpP, fR, daR, fp0, hy⟩ ⟨rfl, gx⟩
      rw [List.getElem?_map] at gx
      obtain ⟨wm, gw, rfl⟩ := Option.map_eq_some_iff.mp gx
      obtain ⟨w0, w1⟩ := bns wm (List.mem_of_getElem? gw)
      have lv : Live S Ha2 := by rw [eS]; exact Live.pw B
      refine ⟨_, rfl, _, rfl, _, rfl, _, rfl, v, cs, ws, R, xs, ts, h, wm, rfl, dp_off dpP, SqL.of (at_off fR), dpAll_same off_sub daR, by omega, hh.inN pb, (hh.mn pb).1, fun Hb p E Bh M es bs BR => ?_⟩
      have bo := BR.o eS B
      have lv := lv.same BR.sm
      have sc := sc.trans (sm_of (S := [b]) BR.sm)
      have B := B.same BR.sm
      have fR := (sm_of (S := S) BR.sm) _ _ fR
      have fp0 := (sm_of (S := S) BR.sm) _ _ fp0
      have dpP := dp_same ((sm_of (S := S) BR.sm)) dpP
      have daR := dpAll_same ((sm_of (S := S) BR.sm)) daR
      by_cases i0 : i = 0
      · rw [if_pos i0] at hy
        rw [hy]
        refine ⟨_, rfl, rfl, _, rfl, iteF ?_⟩
        exact ⟨_, rfl, _, _, _, rfl, B, sc, dpP, fR, daR, fp0, by rw [if_neg (Nat.succ_ne_zero _)]; exact ⟨wm, p, E, Bh, M, es, bs, rfl, gw, bo⟩⟩
      · rw [if_neg i0] at hy
        obtain ⟨wa, pa, Ea, Ba, Ma, ea, ba, rfl, gwa, boa⟩ := hy
        have boa := boa.same (sm_of (S := S) BR.sm)
        clear BR
        obtain ⟨wa0, wa1⟩ := bns wa (List.mem_of_getElem? gwa)
        have wle : wa ≤ wm := by
          obtain ⟨l1, e1⟩ := List.getElem?_eq_some_iff.mp gwa
          obtain ⟨l2, e2⟩ := List.getElem?_eq_some_iff.mp gw
          have := List.pairwise_iff_getElem.mp ris (i - 1) i l1 l2 (by omega)
          rw [e1, e2] at this
          exact this
        refine ⟨_, rfl, rfl, _, rfl, iteT ?_⟩
        simp only [List.set]
        have nw4 : ¬ HT.sIx 4 4 (some 2) = 4 := by decide
        refine ⟨_, rfl, _, rfl, p, _, rfl, .inl (.inl (at_off bo.hp)), (fun z => absurd z.2 nw4), fun _ t2 nt2 => ?_⟩
        have ft2 := off_new (o := .tup (cutV [V.ref E, optV (lostF h ts), V.ref Bh, V.ref M] none (some 2))) lv nt2
        have lv := lv.put (o := .tup (cutV [V.ref E, optV (lostF h ts), V.ref Bh, V.ref M] none (some 2))) nt2
        have B := B.put (o := .tup (cutV [V.ref E, optV (lostF h ts), V.ref Bh, V.ref M] none (some 2))) nt2
        have sc := sc.trans (sm_put (S := [b]) (o := .tup (cutV [V.ref E, optV (lostF h ts), V.ref Bh, V.ref M] none (some 2))) nt2)
        have fR := (sm_put (S := S) (o := .tup (cutV [V.ref E, optV (lostF h ts), V.ref Bh, V.ref M] none (some 2))) nt2) _ _ fR
        have fp0 := (sm_put (S := S) (o := .tup (cutV [V.ref E, optV (lostF h ts), V.ref Bh, V.ref M] none (some 2))) nt2) _ _ fp0
        have dpP := dp_same ((sm_put (S := S) (o := .tup (cutV [V.ref E, optV (lostF h ts), V.ref Bh, V.ref M] none (some 2))) nt2)) dpP
        have daR := dpAll_same ((sm_put (S := S) (o := .tup (cutV [V.ref E, optV (lostF h ts), V.ref Bh, V.ref M] none (some 2))) nt2)) daR
        have bo := BrO.same ((sm_put (S := S) (o := .tup (cutV [V.ref E, optV (lostF h ts), V.ref Bh, V.ref M] none (some 2))) nt2)) bo
        have boa := BrO.same ((sm_put (S := S) (o := .tup (cutV [V.ref E, optV (lostF h ts), V.ref Bh, V.ref M] none (some 2))) nt2)) boa
        generalize upd Hb t2 (.tup (cutV [V.ref E, optV (lostF h ts), V.ref Bh, V.ref M] none (some 2))) = Hc2 at ft2 lv B sc fR fp0 dpP daR bo boa ⊢
        have ft2 : off Hc2 S t2 = some (.tup [.ref E, optV (lostF h ts)]) := ft2
        refine ⟨_, rfl, _, rfl, pa, _, rfl, .inl (.inl (at_off boa.hp)), (fun z => absurd z.2 nw4), fun _ t3 nt3 => ?_⟩
        have ft3 := off_new (o := .tup (cutV [V.ref Ea, optV (lostF h ts), V.ref Ba, V.ref Ma] none (some 2))) lv nt3
        have lv := lv.put (o := .tup (cutV [V.ref Ea, optV (lostF h ts), V.ref Ba, V.ref Ma] none (some 2))) nt3
        have B := B.put (o := .tup (cutV [V.ref Ea, optV (lostF h ts), V.ref Ba, V.ref Ma] none (some 2))) nt3
        have sc := sc.trans (sm_put (S := [b]) (o := .tup (cutV [V.ref Ea, optV (lostF h ts), V.ref Ba, V.ref Ma] none (some 2))) nt3)
        have fR := (sm_put (S := S) (o := .tup (cutV [V.ref Ea, optV (lostF h ts), V.ref Ba, V.ref Ma] none (some 2))) nt3) _ _ fR
        have fp0 := (sm_put (S := S) (o := .tup (cutV [V.ref Ea, optV (lostF h ts), V.ref Ba, V.ref Ma] none (some 2))) nt3) _ _ fp0
        have ft2 := (sm_put (S := S) (o := .tup (cutV [V.ref Ea, optV (lostF h ts), V.ref Ba, V.ref Ma] none (some 2))) nt3) _ _ ft2
        have dpP := dp_same ((sm_put (S := S) (o := .tup (cutV [V.ref Ea, optV (lostF h ts), V.ref Ba, V.ref Ma] none (some 2))) nt3)) dpP
        have daR := dpAll_same ((sm_put (S := S) (o := .tup (cutV [V.ref Ea, optV (lostF h ts), V.ref Ba, V.ref Ma] none (some 2))) nt3)) daR
        have bo := BrO.same ((sm_put (S := S) (o := .tup (cutV [V.ref Ea, optV (lostF h ts), V.ref Ba, V.ref Ma] none (some 2))) nt3)) bo
        have boa := BrO.same ((sm_put (S := S) (o := .tup (cutV [V.ref Ea, optV (lostF h ts), V.ref Ba, V.ref Ma] none (some 2))) nt3)) boa
        generalize upd Hc2 t3 (.tup (cutV [V.ref Ea, optV (lostF h ts), V.ref Ba, V.ref Ma] none (some 2))) = Hd3 at ft3 lv B sc fR fp0 ft2 dpP daR bo boa ⊢
        have ft3 : off Hd3 S t3 = some (.tup [.ref Ea, optV (lostF h ts)]) := ft3
        obtain ⟨g1, g2, g3, g4, _⟩ := (hh.th pb (wm := wm) h0 h1 w0 w1).g
        have gd2 : gdAll.gd 40000000 (.tuple [.list ((endF h ts).map trD), optD (lostF h ts)]) := ⟨g1, g2, trivial⟩
        have sh2 := gd_shaped gd2 (by
          have := (hh.th pb (wm := wm) h0 h1 w0 w1).d
          have h3 : PyData.depthAll [.list ((endF h ts).map trD), optD (lostF h ts), .list ((behF cs ws h wm ts).map trD), .list ((mvF (fstF h ts) (behF cs ws h wm ts) (ts.drop (fstF h ts))).map PyData.int)] + 1 ≤ 3 := this
          show PyData.depthAll [.list ((endF h ts).map trD), optD (lostF h ts)] + 1 ≤ 64
          simp only [PyData.depthAll] at h3 ⊢
          omega)
        refine ⟨_, _, dp_off (.tup (.inl (.inl ft2)) (.cons (.lst (SqL.of bo.hE) bo.dE) (.cons (opt_dp _) .nil))), dp_off (.tup (.inl (.inl ft3)) (.cons (.lst (SqL.of boa.hE) boa.dE) (.cons (opt_dp _) .nil))), sh2, sh2, _, rfl, ?_⟩
        rw [SeqAt.eqv_refl _ (gd_lay _ gd2)]
        refine iteF ?_
        refine ⟨_, rfl, p, _, 3, _, rfl, rfl, .inl (.inl (at_off bo.hp)), rfl, _, rfl, pa, _, 3, _, rfl, rfl, .inl (.inl (at_off boa.hp)), rfl, _, _, rfl, .inl ⟨_, SqL.of (at_off boa.hM), rfl⟩, _, rfl, M, _, rfl, SqL.of (at_off bo.hM), fun l5 nl5 => ?_⟩
        have hle : h + wa ≤ h + wm := by omega
        have ecu : cutV ((mvF (fstF h ts) (behF cs ws h wm ts) (ts.drop (fstF h ts))).map V.int) none (some ((((mvF (fstF h ts) (behF cs ws h wa ts) (ts.drop (fstF h ts))).map V.int).length : Nat) : Int)) = (mvF (fstF h ts) (behF cs ws h wa ts) (ts.drop (fstF h ts))).map V.int := by
          rw [cut_head, List.length_map, ← List.map_take]
          exact congrArg (List.map V.int) (mv_take hh.c (fstF h ts) hle)
        rw [ecu]
        have fl5 := off_new (o := .lst ((mvF (fstF h ts) (behF cs ws h wa ts) (ts.drop (fstF h ts))).map V.int)) lv nl5
        have lv := lv.put (o := .lst ((mvF (fstF h ts) (behF cs ws h wa ts) (ts.drop (fstF h ts))).map V.int)) nl5
        have B := B.put (o := .lst ((mvF (fstF h ts) (behF cs ws h wa ts) (ts.drop (fstF h ts))).map V.int)) nl5
        have sc := sc.trans (sm_put (S := [b]) (o := .lst ((mvF (fstF h ts) (behF cs ws h wa ts) (ts.drop (fstF h ts))).map V.int)) nl5)
        have fR := (sm_put (S := S) (o := .lst ((mvF (fstF h ts) (behF cs ws h wa ts) (ts.drop (fstF h ts))).map V.int)) nl5) _ _ fR
        have fp0 := (sm_put (S := S) (o := .lst ((mvF (fstF h ts) (behF cs ws h wa ts) (ts.drop (fstF h ts))).map V.int)) nl5) _ _ fp0
        have dpP := dp_same ((sm_put (S := S) (o := .lst ((mvF (fstF h ts) (behF cs ws h wa ts) (ts.drop (fstF h ts))).map V.int)) nl5)) dpP
        have daR := dpAll_same ((sm_put (S := S) (o := .lst ((mvF (fstF h ts) (behF cs ws h wa ts) (ts.drop (fstF h ts))).map V.int)) nl5)) daR
        have bo := BrO.same ((sm_put (S := S) (o := .lst ((mvF (fstF h ts) (behF cs ws h wa ts) (ts.drop (fstF h ts))).map V.int)) nl5)) bo
        have boa := BrO.same ((sm_put (S := S) (o := .lst ((mvF (fstF h ts) (behF cs ws h wa ts) (ts.drop (fstF h ts))).map V.int)) nl5)) boa
        generalize upd Hd3 l5 (.lst ((mvF (fstF h ts) (behF cs ws h wa ts) (ts.drop (fstF h ts))).map V.int)) = He5 at fl5 lv B sc fR fp0 dpP daR bo boa ⊢
        refine ⟨_, rfl, pa, _, 3, _, rfl, rfl, .inl (.inl (at_off boa.hp)), rfl, _, _, .lst (SqL.of (at_off fl5)) (dp_ints _), dp_off (.lst (SqL.of boa.hM) (dp_ints _)), ints_shaped _, ints_shaped _, _, rfl, ?_⟩
        rw [ints_refl]
        refine iteF ?_
        have lbs : bs.length = (ts.drop (fstF h ts)).length := (dpAll_map_len bo.dB).trans (pbF_len cs ws _ _ _ rfl)
        have lba : ba.length = (ts.drop (fstF h ts)).length := (dpAll_map_len boa.dB).trans (pbF_len cs ws _ _ _ rfl)
        have ldr : (ts.drop (fstF h ts)).length ≤ 30 := by rw [List.length_drop]; omega
        refine ⟨_, rfl, p, _, 2, _, rfl, rfl, .inl (.inl (at_off bo.hp)), rfl, _, rfl, pa, _, 2, _, rfl, rfl, .inl (.inl (at_off boa.hp)), rfl, Bh, Ba, bs, ba, rfl, .inl ⟨SqL.of (at_off bo.hB), SqL.of (at_off boa.hB), fun D nD => ?_⟩⟩
        refine lc_it (walk_zip (xs := bs) (ys := ba) (n := bs.length) (by omega)) (PvL He5 D fun i => (List.replicate i false).map V.bl) (pv_start nD rfl) (fun j H' _ z => ⟨SqL.of (z.1 _ _ (at_off bo.hB)), SqL.of (z.1 _ _ (at_off boa.hB))⟩) ?_ ?_
        · rintro j y Hq Hq2 hj pv ⟨u, x1, y1, rfl, nu, rfl, gx, gy⟩
          replace gx : bs[j]? = some x1 := gx
          replace gy : ba[j]? = some y1 := gy
          obtain ⟨q1, gq1, dq1⟩ := dpAll_map_at bo.dB gx
          obtain ⟨q0, gq0, dq0⟩ := dpAll_map_at boa.dB gy
          obtain ⟨p1, rfl, hp1⟩ := tr_dp dq1
          obtain ⟨p2, rfl, hp2⟩ := tr_dp dq0
          obtain ⟨_, m1, m2, _⟩ := pb_mono hle gq0 gq1
          have su := same_upd (o := .tup [.ref p1, .ref p2]) nu
          have hp1 := same_tup ((off_sub.trans pv.1).trans su) hp1
          have hp2 := same_tup ((off_sub.trans pv.1).trans su) hp2
          refine ⟨u, _, rfl, .inl (.inl upd_same), rfl, _, _, rfl, _, _, rfl, rfl, rfl, tYes_at ?_⟩
          rw [if_pos rfl]
          refine ⟨_, rfl, p1, _, 0, _, rfl, rfl, hp1, rfl, _, rfl, p2, _, 0, _, rfl, rfl, hp2, rfl, _, _, rfl, rfl, _, rfl, ?_⟩
          rw [decide_eq_false (show ¬ q1.1 < q0.1 by omega)]
          refine iteF ⟨_, rfl, p1, _, 2, _, rfl, rfl, hp1, rfl, _, rfl, p2, _, 2, _, rfl, rfl, hp2, rfl, _, _, rfl, rfl, ?_⟩
          dsimp only
          rw [decide_eq_false (show ¬ q1.2.2.1 < q0.2.2.1 by omega)]
          exact pv_put nD pv su (by rw [List.replicate_succ', List.map_append]; rfl) (by rw [List.length_map, List.length_replicate, sizeLine_eq]; omega)
        intro Hq pv
        obtain ⟨sq, hD⟩ := pv
        have sq : Same He5 Hq := sq
        refine ⟨D, _, rfl, SqL.of hD, _, rfl, ?_⟩
        have ea : (List.replicate bs.length false).any id = false := List.any_eq_false.mpr fun x hx => by rw [(List.mem_replicate.mp hx).2]; exact Bool.false_ne_true
        rw [ea]
        have lv := lv.same sq
        have sc := sc.trans (sm_of (S := [b]) sq)
        have B := B.same sq
        have fR := (sm_of (S := S) sq) _ _ fR
        have fp0 := (sm_of (S := S) sq) _ _ fp0
        have dpP := dp_same ((sm_of (S := S) sq)) dpP
        have daR := dpAll_same ((sm_of (S := S) sq)) daR
        have bo := BrO.same ((sm_of (S := S) sq)) bo
        refine iteF ?_
        exact ⟨_, rfl, _, _, _, rfl, B, sc, dpP, fR, daR, fp0, by rw [if_neg (Nat.succ_ne_zero _)]; exact ⟨wm, p, E, Bh, M, es, bs, rfl, gw, bo⟩⟩
    · rintro σ Ha ⟨y4, v5, v6, rfl, B, sc, dpP, fR, daR, fp0, hy⟩
      rw [List.length_map, lns, if_neg (by decide)] at hy
      obtain ⟨wa, pa, Ea, Ba, Ma, ea, ba, rfl, gwa, boa⟩ := hy
      have lv : Live S Ha := by rw [eS]; exact Live.pw B
      refine ⟨_, rfl, R, _, rfl, SqL.of (at_off fR), fun D nD => ?_⟩
      refine lc_it (walk_enum (xs := xs)) (PvL Ha D fun i => (laterF h ts i).map fun j => V.int ((j : Nat) : Int)) (pv_start nD rfl) (fun j H' _ z => SqL.of (z.1 _ _ (at_off fR))) ?_ ?_
      · rintro j y Hq Hq2 hj pv ⟨tt, x1, x2, rfl, nt, rfl, g1, g2⟩
        cases g1
        replace g2 : xs[j]? = some x2 := g2
        obtain ⟨t, gt, dpt⟩ := dpAll_map_at daR g2
        obtain ⟨pt, rfl, hpt⟩ := tr_dp dpt
        have su := same_upd (o := .tup [.int (j : Nat), .ref pt]) nt
        have hpt := same_tup ((off_sub.trans pv.1).trans su) hpt
        have esu := laterF_succ h ts j
        rw [gD gt] at esu
        refine ⟨tt, _, rfl, .inl (.inl upd_same), rfl, _, _, rfl, _, _, rfl, rfl, rfl, _, rfl, pt, _, 0, _, rfl, rfl, hpt, rfl, _, rfl, _, _, rfl, rfl, _, rfl, ite2 (fun z => ?_) (fun z => ?_)⟩
        · rw [if_pos z] at esu
          exact ⟨_, rfl, pv_put nD pv su (by rw [esu, List.map_append]; rfl) (by rw [List.length_map, sizeLine_eq]; have := laterF_len h ts j; omega)⟩
        · rw [if_neg z, List.append_nil] at esu
          exact pv_skip pv su (by rw [esu])
      intro Hb pv
      obtain ⟨sb2, hD⟩ := pv
      have sb2 : Same Ha Hb := sb2
      have srt := srt_of pb hh.c h
      have l3 := srt.l3
      have eL : (laterF h ts xs.length).map (fun j => V.int ((j : Nat) : Int)) = ((List.range (ts.length - fstF h ts)).map fun k => (((fstF h ts + k : Nat) : Int))).map V.int := by
        rw [lx, later_eq srt _ (Nat.le_refl _), List.map_map, List.map_map]
        rfl
      have hD : Hb D = some (.lst ((laterF h ts xs.length).map (fun j => V.int ((j : Nat) : Int)))) := hD
      rw [eL] at hD
      have lv := lv.same sb2
      have sc := sc.trans (sm_of (S := [b]) sb2)
      have B := B.same sb2
      have fR := (sm_of (S := S) sb2) _ _ fR
      have dpP := dp_same ((sm_of (S := S) sb2)) dpP
      have daR := dpAll_same ((sm_of (S := S) sb2)) daR
      have boa := BrO.same ((sm_of (S := S) sb2)) boa
      refine ⟨_, rfl, Nat.zero_le _, fun e6 ne6 => ?_⟩
      have hD := same_upd (o := .lst []) ne6 _ _ hD
      have f6 := off_new (o := .lst []) lv ne6
      have lv := lv.put (o := .lst []) ne6
      have B := B.put (o := .lst []) ne6
      have sc := sc.trans (sm_put (S := [b]) (o := .lst []) ne6)
      have fR := (sm_put (S := S) (o := .lst []) ne6) _ _ fR
      have dpP := dp_same ((sm_put (S := S) (o := .lst []) ne6)) dpP
      have daR := dpAll_same ((sm_put (S := S) (o := .lst []) ne6)) daR
      have boa := BrO.same ((sm_put (S := S) (o := .lst []) ne6)) boa
      generalize upd Hb e6 (.lst []) = Hc6 at f6 lv B sc fR hD dpP daR boa ⊢
      refine ⟨_, _, .lst (SqL.of hD) (dp_ints _), .lst (SqL.of (at_off f6)) .nil, ints_shaped _, rfl, _, rfl, ?_⟩
      rcases Nat.eq_zero_or_pos (ts.length - fstF h ts) with z | z
      · rw [z]
        refine iteT ?_
        have edr : ts.drop (fstF h ts) = [] := List.drop_of_length_le (by omega)
        have ebh : behF cs ws h wa ts = [] := by unfold behF; rw [edr]; rfl
        refine ⟨_, rfl, pa, _, 2, _, rfl, rfl, .inl (.inl (at_off boa.hp)), rfl, Nat.zero_le _, fun e7 ne7 => ?_⟩
        have f7 := off_new (o := .lst []) lv ne7
        have lv := lv.put (o := .lst []) ne7
        have B := B.put (o := .lst []) ne7
        have sc := sc.trans (sm_put (S := [b]) (o := .lst []) ne7)
        have boa := BrO.same ((sm_put (S := S) (o := .lst []) ne7)) boa
        generalize upd Hc6 e7 (.lst []) = Hd7 at f7 lv B sc boa ⊢
        have dB0 := boa.dB
        rw [ebh] at dB0
        refine ⟨.list [], .list [], dp_off (.lst (SqL.of boa.hB) dB0), .lst (SqL.of (at_off f7)) .nil, rfl, rfl, ?_⟩
        exact q _ (B.mono (by omega)) sc
      · obtain ⟨m, em⟩ : ∃ m, ts.length - fstF h ts = m + 1 := ⟨ts.length - fstF h ts - 1, by omega⟩
        have lfs : fstF h ts < ts.length := by omega
        have gt := List.getElem?_eq_getElem lfs
        have g0 : (ts.drop (fstF h ts))[0]? = some ts[fstF h ts] := by rw [List.getElem?_drop]; exact gt
        have hlt : h < (ts[fstF h ts]).1 := by
          have := mt (srt.at_ _ _ gt).mp (Nat.lt_irrefl _)
          omega
        rw [em, List.range_succ_eq_map] at hD ⊢
        refine iteF ?_
        refine ⟨_, rfl, _, rfl, _, rfl, _, rfl, D, _, 0, .int ((fstF h ts + 0 : Nat) : Int), rfl, rfl, SqL.of hD, atI_nat (j := 0) rfl, v, cs, ws, R, xs, ts, h, 0, rfl, dp_off dpP, SqL.of (at_off fR), dpAll_same off_sub daR, by omega, hh.inC pb, (hh.mn pb).1, by omega, fun Hd sD => ?_⟩
        have hD := sD _ _ hD
        have lv := lv.same sD
        have sc := sc.trans (sm_of (S := [b]) sD)
        have B := B.same sD
        have fR := (sm_of (S := S) sD) _ _ fR
        have dpP := dp_same ((sm_of (S := S) sD)) dpP
        have daR := dpAll_same ((sm_of (S := S) sD)) daR
        have ewm : (ts.getD (fstF h ts + 0) zT).1 - sumC cs ws ts (fstF h ts) 0 - h = (ts[fstF h ts]).1 - h := by
          rw [Nat.add_zero, gD gt]
          show (ts[fstF h ts]).1 - 0 - h = _
          omega
        rw [ewm]
        generalize ewv : (ts[fstF h ts]).1 - h = wv
        simp only [List.set]
        refine ⟨_, rfl, _, _, rfl, rfl, ⟨by decide, by decide, by decide⟩, _, _, rfl, rfl, _, rfl, ite2 (fun z2 => ?_) (fun z2 => ?_)⟩
        · exact q _ (B.mono (by omega)) sc
        · have z2 : ¬ decide ((10 : Int) ^ (4 : Int).toNat < wv) = true := z2
          rw [e104] at z2
          have wv1 : wv ≤ 10000 := by
            rcases Int.lt_or_le 10000 wv with y | y
            · exact absurd (decide_eq_true y) z2
            · exact y
          refine ⟨_, rfl, _, rfl, _, rfl, _, rfl, v, cs, ws, R, xs, ts, h, wv, rfl, dp_off dpP, SqL.of (at_off fR), dpAll_same off_sub daR, by omega, hh.inN pb, (hh.mn pb).1, fun He p E Bh M es bs BR => ?_⟩
          have bo := BR.o eS B
          have hD := BR.sm _ _ hD
          have lv := lv.same BR.sm
          have sc := sc.trans (sm_of (S := [b]) BR.sm)
          have B := B.same BR.sm
          have fR := (sm_of (S := S) BR.sm) _ _ fR
          have dpP := dp_same ((sm_of (S := S) BR.sm)) dpP
          have daR := dpAll_same ((sm_of (S := S) BR.sm)) daR
          have ebh : behF cs ws h wv ts = ts.drop (fstF h ts) := by
            unfold behF
            rw [← ewv, show h + ((ts[fstF h ts]).1 - h) = (ts[fstF h ts]).1 by omega]
            exact pb_stay hh.c g0
          rw [ebh, mvF_self] at bo
          simp only [List.set]
          refine ⟨_, rfl, p, _, 2, _, rfl, rfl, .inl (.inl (at_off bo.hp)), rfl, _, rfl, _, rfl, D, _, 0, .int ((fstF h ts + 0 : Nat) : Int), rfl, rfl, SqL.of hD, atI_nat (j := 0) rfl, _, rfl, R, _, rfl, SqL.of (at_off fR), fun l8 nl8 => ?_⟩
          rw [cut_tail]
          have f8 := off_new (o := .lst (xs.drop (fstF h ts + 0))) lv nl8
          have lv := lv.put (o := .lst (xs.drop (fstF h ts + 0))) nl8
          have B := B.put (o := .lst (xs.drop (fstF h ts + 0))) nl8
          have sc := sc.trans (sm_put (S := [b]) (o := .lst (xs.drop (fstF h ts + 0))) nl8)
          have daR := dpAll_same ((sm_put (S := S) (o := .lst (xs.drop (fstF h ts + 0))) nl8)) daR
          have bo := BrO.same ((sm_put (S := S) (o := .lst (xs.drop (fstF h ts + 0))) nl8)) bo
          generalize upd He l8 (.lst (xs.drop (fstF h ts + 0))) = Hf8 at f8 lv B sc daR bo ⊢
          have nmD : ∀ t ∈ ts.drop (fstF h ts), Nm t.2.1 := fun t ht => hh.nm pb t (List.mem_of_mem_drop ht)
          refine ⟨.list ((ts.drop (fstF h ts)).map trD), .list ((ts.drop (fstF h ts)).map trD), dp_off (.lst (SqL.of bo.hB) bo.dB), .lst (SqL.of (at_off f8)) (dpAll_same off_sub (by rw [List.map_drop]; exact dpAll_drop _ daR)), trs_shaped nmD, trs_shaped nmD, _, rfl, ?_⟩
          rw [trs_refl nmD]
          refine iteT ⟨_, rfl, p, _, 3, _, rfl, rfl, .inl (.inl (at_off bo.hp)), rfl, Nat.zero_le _, fun e9 ne9 => ?_⟩
          have f9 := off_new (o := .lst []) lv ne9
          have lv := lv.put (o := .lst []) ne9
          have B := B.put (o := .lst []) ne9
          have sc := sc.trans (sm_put (S := [b]) (o := .lst []) ne9)
          have bo := BrO.same ((sm_put (S := S) (o := .lst []) ne9)) bo
          generalize upd Hf8 e9 (.lst []) = Hg9 at f9 lv B sc bo ⊢
          refine ⟨.list [], .list [], dp_off (.lst (SqL.of bo.hM) .nil), .lst (SqL.of (at_off f9)) .nil, rfl, rfl, ?_⟩
          exact q _ (B.mono (by omega)) sc

end
end Pot

namespace Pot
open PySem PySem.Spec PyProof.Rows L2
section
variable {P : Program} {w : World} {K : PySem.W.Frag} {mg : Str → Option Value} {base : Heap}
def pairD (p : Int × Int) : PyData := .tuple [.int p.1, .int p.2]
abbrev s__law_two_right : Stmt := topS 45
def n__law_two_right : List Str := ["_law_box_here", "_law_palette_here", "_law_one", "_law_other", "_law_pots", "_law_due", "_law_pot", "_law_hour", "_law_warm", "_law_told", "_law_turn", "_law_which", "_law_found"]
theorem sc__law_two_right : FnScope n__law_two_right ["_law_box_here", "_law_palette_here", "_law_one", "_law_other"] (defScope s__law_two_right) := ⟨rfl, rfl, rfl, by decide +kernel, rfl, by decide +kernel, by decide +kernel⟩
def spTwo (K : PySem.W.Frag) : Sp := fun vs H Q _ => ∃ (b : Addr) (n : Nat) (v : V) (cs : List Col) (ws : List Wsh) (R1 R2 : Addr) (x1 x2 : List V) (t1 t2 : List Trn) (f1 f2 : Int), vs = [.ref b, v, .ref R1, .ref R2] ∧ Bp H b n ∧ n + 1000 < 2 ^ 38 ∧ Dp K (off H [b]) v (palD cs ws) ∧ PalC cs ws ∧ off H [b] R1 = some (.lst x1) ∧ DpAll K (off H [b]) x1 (t1.map trD) ∧ Hr cs ws f1 t1 ∧ off H [b] R2 = some (.lst x2) ∧ DpAll K (off H [b]) x2 (t2.map trD) ∧ Hr cs ws f2 t2 ∧
  ∀ H', Bp H' b (n + 100) → Sm [b] H H' → Q (.bl true) H'
set_option maxHeartbeats 4000000 in
theorem ok_two {f : Addr} {fd : FuncData} {k : Nat} (F : Fun K "_law_two_right" "_law_two_right" s__law_two_right f fd) (T : Txt mg) (c__law_take : Cl P w K mg base (k + 1) "_law_take" spTake) (c__law_when : Cl P w K mg base (k + 2) "_law_when" (spWhen K)) (c__law_warmth : Cl P w K mg base (k + 2) "_law_warmth" spWarmth) (c_broken : ClD P w K mg base (k + 5) "broken" [] (spBroken K)) : FnG P w K mg base (k + 6) f fd ["_law_box_here", "_law_palette_here", "_law_one", "_law_other"] (spTwo K) := by
  refine okG F sc__law_two_right (fun vs H Q E h => ?_) (fun cdv A outer s H vs Q gd hr h => ?_)
  · obtain ⟨b, n, v, cs, ws, R1, R2, x1, x2, t1, t2, f1, f2, rfl, _⟩ := h
    rfl
  · obtain ⟨b, n, v, cs, ws, R1, R2, x1, x2, t1, t2, f1, f2, rfl, B, hn, dpP, pb, fR1, da1, hr1, fR2, da2, hr2, q⟩ := h
    have nd := sc__law_two_right.nd
    have hu64 := hr.units
    /- 0 _law_box_here, 1 _law_palette_here, 2 _law_one, 3 _law_other, 4 _law_pots, 5 _law_due, 6 _law_pot, 7 _law_hour, 8 _law_warm, 9 _law_told, 10 _law_turn, 11 _law_which, 12 _law_found -/
    refine ⟨_, (pss_cons (ps_par (i := 4) (j := 5) rfl nd rfl rfl (by decide) rfl rfl (pa_cons (pe_lst (pa_cons (pv 2) (pa_cons (pv 3) pa_nil))) (pa_cons (pe_lst pa_nil) pa_nil)) rfl)
      (pss_cons (ps_for PassesOwn.never rfl (ki_list (K := K) (pv 4)) (pg_name (i := 6) nd rfl (.inl rfl))
          (pss_one (ps_expr (pe_bm PySem.F.plainAttrs_list PySem.F.slot_list_append PySem.F.type_list_append mt_append (pv 5) (pa_cons (pe_tup (pa_cons (pe_cl c__law_when hr (by omega) (by rfl) (pa_cons (pv 0) (pa_cons (pv 6) pa_nil))) (pa_cons (pe_cl c__law_warmth hr (by omega) (by rfl) (pa_cons (pv 0) pa_nil)) pa_nil))) pa_nil)))))
      (pss_cons (ps_setLc (i := 9) (own := [("_law_pot", 6), ("_law_hour", 7), ("_law_warm", 8)]) rfl nd rfl rfl (sw_true rfl rfl rfl (by decide +kernel)) (ki_zip (K := K) (by rfl) T.zip (pa_cons (pv 4) (pa_cons (pv 5) pa_nil))) (blkOk_by (N := n__law_two_right) (sc := defScope s__law_two_right) (by decide +kernel)) (fun _ _ _ _ _ => (kg_tup (K := K) (n := 2) (pgs_cons (pg_name (i := 6) nd rfl (.inl rfl)) (pgs_cons (kg_tup (K := K) (n := 2) (pgs_cons (pg_name (i := 7) nd rfl (.inl rfl)) (pgs_cons (pg_name (i := 8) nd rfl (.inl rfl)) pgs_nil))) pgs_nil)))) (fun _ _ _ _ _ => pts_nil) (fun _ _ _ _ _ => (pe_callB (kc_repr (K := K) gd hu64) (by rfl) T.repr (by decide +kernel) (pa_cons (pe_cd c_broken hr (by omega) (by rfl) (pa_cons (pv 1) (pa_cons (pv 6) (pa_cons (pv 7) (pa_cons (pv 8) pa_nil))))) pa_nil))))
      (pss_cons (ps_for PassesOwn.never rfl (pi_range1 (by rfl) T.range (pa_cons pe_int pa_nil)) (pg_name (i := 10) nd rfl (.inl rfl))
          (pss_cons (ps_set (i := 11) nd rfl (.inl rfl) (pe_cl c__law_take hr (by omega) (by rfl) (pa_cons (pv 0) (pa_cons pe_int pa_nil))))
          (pss_cons (ps_asg (pe_ix (kx_list (K := K)) (pv 5) (pv 11) (fun _ _ => rfl)) (kg_tup (K := K) (n := 2) (pgs_cons (pg_name (i := 7) nd rfl (.inl rfl)) (pgs_cons (pg_name (i := 8) nd rfl (.inl rfl)) pgs_nil))))
          (pss_cons (ps_set (i := 12) nd rfl (.inl rfl) (pe_cd c_broken hr (by omega) (by rfl) (pa_cons (pv 1) (pa_cons (pe_ix (kx_list (K := K)) (pv 4) (pv 11) (fun _ _ => rfl)) (pa_cons (pv 7) (pa_cons (pv 8) pa_nil))))))
          (pss_cons (ps_if (pt_cmpR op_ne (pe_callB (kc_repr (K := K) gd hu64) (by rfl) T.repr (by decide +kernel) (pa_cons (pv 12) pa_nil)) (pe_ix (kx_list (K := K)) (pv 9) (pv 11) (fun _ _ => rfl)) (nomark _))
              pss_never
              pss_nil)
          (pss_cons (ps_expr (pe_bm0 PySem.F.plainAttrs_list PySem.F.slot_list_clear PySem.F.type_list_clear mt_clear (pe_ix (kx_tup (K := K)) (pv 12) pe_int (fun _ _ => rfl))))
          (pss_one (ps_expr (pe_bm PySem.F.plainAttrs_list PySem.F.slot_list_append PySem.F.type_list_append mt_append (pe_ix (kx_tup (K := K)) (pv 12) pe_int (fun _ _ => rfl)) (pa_cons pe_non pa_nil))))))))))
      (pss_one (ps_ret (pe_cmpR op_eq (pe_callB (kc_repr (K := K) gd hu64) (by rfl) T.repr (by decide +kernel) (pa_cons (pv 4) pa_nil)) (pe_callB (kc_repr (K := K) gd hu64) (by rfl) T.repr (by decide +kernel) (pa_cons (pe_lst (pa_cons (pv 2) (pa_cons (pv 3) pa_nil))) pa_nil)) (nomark _)))))))), ?_⟩
    have est : L2.start n__law_two_right [.ref b, v, .ref R1, .ref R2] = [some (.ref b), some v, some (.ref R1), some (.ref R2), none, none, none, none, none, none, none, none, none] := rfl
    rw [est]
    have sc : Sm [b] H H := Same.refl _
    have lv : Live [b] H := Live.pw B
    obtain ⟨S, eS⟩ : ∃ S, S = [b] := ⟨_, rfl⟩
    have hb : b ∈ S := by rw [eS]; exact List.mem_cons_self
    rw [← eS] at lv dpP fR1 da1 fR2 da2
    have n1 := hr1.n
    have n2 := hr2.n
    refine ⟨_, rfl, _, rfl, (by show 2 ≤ sizeLine; decide), fun Pt nP => ⟨Nat.zero_le _, fun U nU => ⟨_, _, rfl, ?_⟩⟩⟩
    have fP := off_new (o := .lst [.ref R1, .ref R2]) lv nP
    have lv := lv.put (o := .lst [.ref R1, .ref R2]) nP
    have B := B.put (o := .lst [.ref R1, .ref R2]) nP
    have sc := sc.trans (sm_put (S := [b]) (o := .lst [.ref R1, .ref R2]) nP)
    have fR1 := (sm_put (S := S) (o := .lst [.ref R1, .ref R2]) nP) _ _ fR1
    have fR2 := (sm_put (S := S) (o := .lst [.ref R1, .ref R2]) nP) _ _ fR2
    have dpP := dp_same ((sm_put (S := S) (o := .lst [.ref R1, .ref R2]) nP)) dpP
    have da1 := dpAll_same ((sm_put (S := S) (o := .lst [.ref R1, .ref R2]) nP)) da1
    have da2 := dpAll_same ((sm_put (S := S) (o := .lst [.ref R1, .ref R2]) nP)) da2
    generalize upd H Pt (.lst [.ref R1, .ref R2]) = H1 at fP lv B sc fR1 fR2 nU dpP da1 da2 ⊢
    have nU0 : H U = none := sm_free sc B.bx nU
    have Ub : U ≠ b := B.ne nU
    rw [eS] at fP fR1 fR2 dpP da1 da2
    have eoff : off (upd H1 U (.lst [])) [U, b] = off H1 [b] := off_fresh nU
    rw [← eoff] at fP fR1 fR2 dpP da1 da2
    have B := B.put (o := .lst []) nU
    have sc := sc.trans (sm_put (S := [b]) (o := .lst []) nU)
    have hU : upd H1 U (.lst []) U = some (.lst []) := upd_same
    generalize upd H1 U (.lst []) = H2 at fP fR1 fR2 dpP da1 da2 B sc hU ⊢
    obtain ⟨S, eS⟩ : ∃ S, S = [U, b] := ⟨_, rfl⟩
    have hb : b ∈ S := by rw [eS]; simp
    have hUS : U ∈ S := by rw [eS]; exact List.mem_cons_self
    rw [← eS] at fP fR1 fR2 dpP da1 da2
    simp only [List.set]
    refine ⟨_, rfl, Pt, rfl, ⟨_, SqL.of (at_off fP)⟩, ?_⟩
    refine for_it (walk_list (xs := [.ref R1, .ref R2])) (fun i σ Hx => ∃ v6 us hw, σ = [some (.ref b), some v, some (.ref R1), some (.ref R2), some (.ref Pt), some (.ref U), v6, none, none, none, none, none, none] ∧ Bp Hx b (n + 20 * i) ∧ Sm [b] H Hx ∧ Dp K (off Hx S) v (palD cs ws) ∧ off Hx S Pt = some (.lst [.ref R1, .ref R2]) ∧ off Hx S R1 = some (.lst x1) ∧ DpAll K (off Hx S) x1 (t1.map trD) ∧ off Hx S R2 = some (.lst x2) ∧ DpAll K (off Hx S) x2 (t2.map trD) ∧ Hx U = some (.lst us) ∧ DpAll K (off Hx S) us (hw.map pairD) ∧ hw.length = i ∧ ∀ p ∈ hw, 0 ≤ p.1 ∧ p.1 ≤ 1000000 ∧ 0 ≤ p.2 ∧ p.2 ≤ 10000)
      ⟨_, [], [], rfl, B, sc, dpP, fP, fR1, da1, fR2, da2, hU, .nil, rfl, fun _ h => (List.not_mem_nil h).elim⟩ (fun i σ Hx _ z => by obtain ⟨_, _, _, _, _, _, _, z, _⟩ := z; exact SqL.of (at_off z)) ?_ ?_
    · rintro i x σ Hax Ha hi ⟨v6, us, hw, rfl, B, sc, dpP, fP, fR1, da1, fR2, da2, hU, daU, lhw, bhw⟩ ⟨rfl, gx⟩
      have hi2 : i < 2 := hi
      have lus : us.length = hw.length := dpAll_map_len daU
      obtain ⟨Rj, xj, tj, fj, rfl, fRj, daj, hrj⟩ : ∃ Rj xj tj fj, x = .ref Rj ∧ off Ha S Rj = some (.lst xj) ∧ DpAll K (off Ha S) xj (tj.map trD) ∧ Hr cs ws fj tj := by
        match i, hi2, gx with
        | 0, _, gx => cases gx; exact ⟨R1, x1, t1, f1, rfl, fR1, da1, hr1⟩
        | 1, _, gx => cases gx; exact ⟨R2, x2, t2, f2, rfl, fR2, da2, hr2⟩
      have nj := hrj.n
      have lv : Live S Ha := by rw [eS]; exact (Live.pw B).cons hU
      have smS : Same (off Ha S) (off Ha [b]) := by rw [eS]; exact off_mono (by simp)
      generalize hm : n + 20 * i = m at B
      refine ⟨_, rfl, .inl ⟨rfl, _, SqL.of hU⟩, _, rfl, _, rfl, b, _, Rj, xj, tj, rfl, B, by omega, smS _ _ fRj, dpAll_same smS daj, by omega, hrj.nm pb, fun Hb h Bb sb h0 h1 => ?_⟩
      have hU := sm1_at sb Ub hU
      have lv := lv.box Bb.bx sb
      have sc := sc.trans sb
      have B := Bb
      have fP := (sm_one hb sb) _ _ fP
      have fR1 := (sm_one hb sb) _ _ fR1
      have fR2 := (sm_one hb sb) _ _ fR2
      have dpP := dp_same ((sm_one hb sb)) dpP
      have da1 := dpAll_same ((sm_one hb sb)) da1
      have da2 := dpAll_same ((sm_one hb sb)) da2
      have daU := dpAll_same ((sm_one hb sb)) daU
      refine ⟨_, rfl, b, _, rfl, B, by omega, fun Hc wm Bc sC w0 w1 => ?_⟩
      have hU := sm1_at sC Ub hU
      have lv := lv.box Bc.bx sC
      have sc := sc.trans sC
      have B := Bc
      have fP := (sm_one hb sC) _ _ fP
      have fR1 := (sm_one hb sC) _ _ fR1
      have fR2 := (sm_one hb sC) _ _ fR2
      have dpP := dp_same ((sm_one hb sC)) dpP
      have da1 := dpAll_same ((sm_one hb sC)) da1
      have da2 := dpAll_same ((sm_one hb sC)) da2
      have daU := dpAll_same ((sm_one hb sC)) daU
      refine ⟨(by show 2 ≤ sizeLine; decide), fun tp ntp => ?_⟩
      have hU := same_upd (o := .tup [.int h, .int wm]) ntp _ _ hU
      have ftp := off_new (o := .tup [.int h, .int wm]) lv ntp
      have lv := lv.put (o := .tup [.int h, .int wm]) ntp
      have B := B.put (o := .tup [.int h, .int wm]) ntp
      have sc := sc.trans (sm_put (S := [b]) (o := .tup [.int h, .int wm]) ntp)
      have fP := (sm_put (S := S) (o := .tup [.int h, .int wm]) ntp) _ _ fP
      have fR1 := (sm_put (S := S) (o := .tup [.int h, .int wm]) ntp) _ _ fR1
      have fR2 := (sm_put (S := S) (o := .tup [.int h, .int wm]) ntp) _ _ fR2
      have dpP := dp_same ((sm_put (S := S) (o := .tup [.int h, .int wm]) ntp)) dpP
      have da1 := dpAll_same ((sm_put (S := S) (o := .tup [.int h, .int wm]) ntp)) da1
      have da2 := dpAll_same ((sm_put (S := S) (o := .tup [.int h, .int wm]) ntp)) da2
      have daU := dpAll_same ((sm_put (S := S) (o := .tup [.int h, .int wm]) ntp)) daU
      generalize upd Hc tp (.tup [.int h, .int wm]) = Hd at ftp lv B sc fP fR1 fR2 hU dpP da1 da2 daU ⊢
      refine ⟨U, _, _, rfl, rfl, hU, (by rw [sizeLine_eq]; omega), ?_⟩
      have sw : Sm S Hd (upd Hd U (.lst (us ++ [.ref tp]))) := sm_wr hUS
      exact ⟨_, us ++ [.ref tp], hw ++ [(h, wm)], rfl, (B.wr Ub).mono (by omega), smp sc nU0, dp_same sw dpP, sw _ _ fP, sw _ _ fR1, dpAll_same sw da1, sw _ _ fR2, dpAll_same sw da2, upd_same, dpAll_same sw (by rw [List.map_append]; exact dpAll_app daU (.cons (.tup (.inl (.inl ftp)) (.cons (.int _) (.cons (.int _) .nil))) .nil)), by rw [List.length_append, lhw]; rfl, fun p hp => (List.mem_append.mp hp).elim (bhw p) fun z => by rw [List.mem_singleton.mp z]; exact ⟨h0, h1, w0, w1⟩⟩
    rintro σ Ha ⟨v6, us, hw, rfl, B, sc, dpP, fP, fR1, da1, fR2, da2, hU, daU, lhw, bhw⟩
    have B : Bp Ha b (n + 40) := B
    have lhw : hw.length = 2 := lhw
    have lus : us.length = hw.length := dpAll_map_len daU
    have smS : Same (off Ha S) (off Ha [b]) := by rw [eS]; exact off_mono (by simp)
    have dpP := dp_same smS dpP
    have da1 := dpAll_same smS da1
    have da2 := dpAll_same smS da2
    have daU := dpAll_same smS daU
    have fP := smS _ _ fP
    have fR1 := smS _ _ fR1
    have fR2 := smS _ _ fR2
    have fU : off Ha [b] U = some (.lst us) := by rw [off_out (by simpa using Ub)]; exact hU
    obtain ⟨S, eS⟩ : ∃ S, S = [b] := ⟨_, rfl⟩
    have hb : b ∈ S := by rw [eS]; exact List.mem_cons_self
    have lv : Live S Ha := by rw [eS]; exact Live.pw B
    rw [← eS] at fP fR1 fR2 dpP da1 da2 daU fU
    refine ⟨_, rfl, _, rfl, Pt, U, _, _, rfl, .inl ⟨SqL.of (at_off fP), SqL.of (at_off fU), fun D nD => ?_⟩⟩
    obtain ⟨ha, hc, rfl⟩ : ∃ ha hc, hw = [ha, hc] := by
      match hw, lhw with
      | [ha, hc], _ => exact ⟨ha, hc, rfl⟩
    obtain ⟨u1, u2, eus, du1, du2⟩ := dp_two daU
    obtain ⟨p1, y1, eu1, st1, dy1⟩ := dp_tup du1
    obtain ⟨p2, y2, eu2, st2, dy2⟩ := dp_tup du2
    obtain ⟨z1, z2, ez, q1, q2⟩ := dp_two dy1
    obtain ⟨z3, z4, ez2, q3, q4⟩ := dp_two dy2
    rw [ez, dp_int q1, dp_int q2] at st1
    rw [ez2, dp_int q3, dp_int q4] at st2
    rw [eus, eu1, eu2] at fU
    clear daU du1 du2 dy1 dy2 q1 q2 q3 q4 ez ez2
    obtain ⟨ba1, ba2, ba3, ba4⟩ := bhw ha (by simp)
    obtain ⟨bc1, bc2, bc3, bc4⟩ := bhw hc (by simp)
    have tA := hr1.th pb ba1 ba2 ba3 ba4
    have tC := hr2.th pb bc1 bc2 bc3 bc4
    obtain ⟨sh1, esh1⟩ : ∃ z, z = (brX cs ws ha.1 ha.2 t1).shown := ⟨_, rfl⟩
    obtain ⟨sh2, esh2⟩ : ∃ z, z = (brX cs ws hc.1 hc.2 t2).shown := ⟨_, rfl⟩
    -- either pot
    have each : ∀ {Hz : Hp} {j : Nat}, j < 2 → off Hz S R1 = some (.lst x1) → DpAll K (off Hz S) x1 (t1.map trD) → off Hz S R2 = some (.lst x2) → DpAll K (off Hz S) x2 (t2.map trD) → SqT K (off Hz S) p1 [.int ha.1, .int ha.2] → SqT K (off Hz S) p2 [.int hc.1, .int hc.2] → ∃ Rj xj tj fj pj hj wj, [V.ref R1, .ref R2][j]? = some (.ref Rj) ∧ [V.ref p1, .ref p2][j]? = some (.ref pj) ∧ off Hz S Rj = some (.lst xj) ∧ DpAll K (off Hz S) xj (tj.map trD) ∧ Hr cs ws fj tj ∧ SqT K (off Hz S) pj [.int hj, .int wj] ∧ Th 40000000 600000 3 60 (brX cs ws hj wj tj) ∧ [sh1, sh2][j]? = some (brX cs ws hj wj tj).shown := fun {Hz j} hj a1 a2 a3 a4 a5 a6 => by
      match j, hj with
      | 0, _ => exact ⟨R1, x1, t1, f1, p1, ha.1, ha.2, rfl, rfl, a1, a2, hr1, a5, tA, by rw [esh1]; rfl⟩
      | 1, _ => exact ⟨R2, x2, t2, f2, p2, hc.1, hc.2, rfl, rfl, a3, a4, hr2, a6, tC, by rw [esh2]; rfl⟩
    refine lc_it (walk_zip (xs := [.ref R1, .ref R2]) (ys := [.ref p1, .ref p2]) (n := 2) rfl) (PvL Ha D fun i => ([sh1, sh2].take i).map V.str) (pv_start nD rfl) (fun j H' _ z => ⟨SqL.of (z.1 _ _ (at_off fP)), SqL.of (z.1 _ _ (at_off fU))⟩) ?_ ?_
    · rintro j y Hq Hq2 hj pv ⟨u, xa, ya, rfl, nu, rfl, gx, gy⟩
      obtain ⟨Rj, xj, tj, fj, pj, hj2, wj, g1, g2, fRj, daj, hrj, stj, tj2, gsh⟩ := each hj fR1 da1 fR2 da2 st1 st2
      replace gx : [V.ref R1, .ref R2][j]? = some xa := gx
      replace gy : [V.ref p1, .ref p2][j]? = some ya := gy
      rw [g1] at gx
      rw [g2] at gy
      cases gx
      cases gy
      have nj := hrj.n
      have su := same_upd (o := .tup [.ref Rj, .ref pj]) nu
      have sS : Same (off Ha S) (upd Hq u (.tup [.ref Rj, .ref pj])) := (off_sub.trans pv.1).trans su
      refine ⟨u, _, rfl, .inl (.inl upd_same), rfl, _, _, rfl, _, _, rfl, pj, _, rfl, same_tup sS stj, rfl, _, _, rfl, _, _, rfl, rfl, rfl, rfl, tYes_at ?_⟩
      rw [if_pos rfl]
      refine ⟨_, rfl, _, rfl, _, rfl, _, rfl, v, cs, ws, Rj, xj, tj, hj2, wj, rfl, dp_same sS dpP, SqL.of (sS _ _ fRj), dpAll_same sS daj, by omega, hrj.inN pb, (hrj.mn pb).1, fun Hr2 p E Bh M es bs BR => ?_⟩
      refine ⟨p, _, rfl, BR.dp, gd_fineW (by decide) _ tj2.g, Nat.le_trans tj2.d (by decide), Nat.le_trans tj2.c (by decide), ?_⟩
      exact pv_put nD pv (su.trans BR.sm) (take_map V.str gsh) (take_len_le (by show 2 < 100000; decide))
    intro Hb pv
    obtain ⟨sb, hD⟩ := pv_end pv (take_all (Nat.le_refl 2))
    have fD : off Hb S D = some (.lst ([sh1, sh2].map V.str)) := by rw [off_out (lv.out nD)]; exact hD
    have lv := lv.same sb
    have sc := sc.trans (sm_of (S := [b]) sb)
    have B := B.same sb
    have fP := (sm_of (S := S) sb) _ _ fP
    have fR1 := (sm_of (S := S) sb) _ _ fR1
    have fR2 := (sm_of (S := S) sb) _ _ fR2
    have fU := (sm_of (S := S) sb) _ _ fU
    have dpP := dp_same ((sm_of (S := S) sb)) dpP
    have da1 := dpAll_same ((sm_of (S := S) sb)) da1
    have da2 := dpAll_same ((sm_of (S := S) sb)) da2
    have st1 := same_tup ((sm_of (S := S) sb)) st1
    have st2 := same_tup ((sm_of (S := S) sb)) st2
    refine ⟨_, rfl, (by decide), (by decide), ?_⟩
    refine for_it walk_range (fun i σ Hx => ∃ v6 v7 v8 v10 v11 v12, σ = [some (.ref b), some v, some (.ref R1), some (.ref R2), some (.ref Pt), some (.ref U), v6, v7, v8, some (.ref D), v10, v11, v12] ∧ Bp Hx b (n + 40 + i) ∧ Sm [b] H Hx ∧ Dp K (off Hx S) v (palD cs ws) ∧ off Hx S Pt = some (.lst [.ref R1, .ref R2]) ∧ off Hx S R1 = some (.lst x1) ∧ DpAll K (off Hx S) x1 (t1.map trD) ∧ off Hx S R2 = some (.lst x2) ∧ DpAll K (off Hx S) x2 (t2.map trD) ∧ off Hx S U = some (.lst [.ref p1, .ref p2]) ∧ SqT K (off Hx S) p1 [.int ha.1, .int ha.2] ∧ SqT K (off Hx S) p2 [.int hc.1, .int hc.2] ∧ off Hx S D = some (.lst ([sh1, sh2].map V.str)))
      ⟨_, _, _, _, _, _, rfl, B, sc, dpP, fP, fR1, da1, fR2, da2, fU, st1, st2, fD⟩ (fun _ _ _ _ _ => trivial) ?_ ?_
    · rintro i x σ Hqx Hq hi ⟨v6, v7, v8, v10, v11, v12, rfl, B, sc, dpP, fP, fR1, da1, fR2, da2, fU, st1, st2, fD⟩ ⟨rfl, rfl⟩
      have hi4 : i < 4 := hi
      have lv : Live S Hq := by rw [eS]; exact Live.pw B
      refine ⟨_, rfl, b, 2, _, rfl, (by decide), (by decide), B, by omega, fun Hr3 r r0 r1 Br sr => ?_⟩
      have lv := lv.box Br.bx sr
      have sc := sc.trans sr
      have B := Br
      have fP := (sm_one hb sr) _ _ fP
      have fR1 := (sm_one hb sr) _ _ fR1
      have fR2 := (sm_one hb sr) _ _ fR2
      have fU := (sm_one hb sr) _ _ fU
      have fD := (sm_one hb sr) _ _ fD
      have dpP := dp_same ((sm_one hb sr)) dpP
      have da1 := dpAll_same ((sm_one hb sr)) da1
      have da2 := dpAll_same ((sm_one hb sr)) da2
      have st1 := same_tup ((sm_one hb sr)) st1
      have st2 := same_tup ((sm_one hb sr)) st2
      obtain ⟨rn, rfl⟩ : ∃ rn : Nat, r = (rn : Int) := ⟨r.toNat, by omega⟩
      obtain ⟨Rj, xj, tj, fj, pj, hj2, wj, g1, g2, fRj, daj, hrj, stj, tj2, gsh⟩ := each (j := rn) (by omega) fR1 da1 fR2 da2 st1 st2
      have nj := hrj.n
      simp only [List.set]
      refine ⟨_, rfl, _, rfl, U, _, _, _, rfl, rfl, SqL.of (at_off fU), atI_nat g2, pj, _, rfl, sqt_off stj, rfl, _, _, rfl, _, _, rfl, rfl, ?_⟩
      simp only [List.set]
      refine ⟨_, rfl, _, rfl, _, rfl, Pt, _, _, _, rfl, rfl, SqL.of (at_off fP), atI_nat g1, _, rfl, _, rfl, v, cs, ws, Rj, xj, tj, hj2, wj, rfl, dp_off dpP, SqL.of (at_off fRj), dpAll_same off_sub daj, by omega, hrj.inN pb, (hrj.mn pb).1, fun Ht p E Bh M es bs BR => ?_⟩
      simp only [List.set]
      have hD2 := BR.sm _ _ (at_off fD)
      refine ⟨_, rfl, p, _, rfl, BR.dp, gd_fineW (by decide) _ tj2.g, Nat.le_trans tj2.d (by decide), Nat.le_trans tj2.c (by decide), _, rfl, _, rfl, D, _, _, _, rfl, rfl, SqL.of hD2, atI_nat (by rw [List.getElem?_map, gsh]; rfl), rfl, _, rfl, ?_⟩
      rw [decide_eq_true rfl]
      refine iteF ?_
      have neB : p ≠ Bh := fun z => by have h1 := BR.hp; rw [z, BR.hB] at h1; cases h1
      have hp1 : upd Ht Bh (.lst []) p = some (.tup [.ref E, optV (lostF hj2 tj), .ref Bh, .ref M]) := by rw [upd_ne neB]; exact BR.hp
      have hE1 : upd Ht Bh (.lst []) E = some (.lst es) := by rw [upd_ne BR.EB]; exact BR.hE
      have les : es.length ≤ 30 := by rw [dpAll_map_len BR.dE]; exact (hrj.lb hj2 wj).1
      refine ⟨_, rfl, p, _, 2, _, rfl, rfl, .inl (.inl BR.hp), rfl, .inl ⟨rfl, _, SqL.of BR.hB⟩, Bh, _, rfl, rfl, BR.hB, ?_⟩
      refine ⟨_, rfl, p, _, 0, _, rfl, rfl, .inl (.inl hp1), rfl, .inl ⟨rfl, _, SqL.of hE1⟩, E, es, .non, rfl, rfl, hE1, (by rw [sizeLine_eq]; omega), ?_⟩
      have s3 := same_put (o := .lst (es ++ [.non])) (same_put (o := .lst []) BR.sm BR.nB) BR.nE
      have lv := lv.same s3
      have sc := sc.trans (sm_of (S := [b]) s3)
      have B := B.same s3
      have fP := (sm_of (S := S) s3) _ _ fP
      have fR1 := (sm_of (S := S) s3) _ _ fR1
      have fR2 := (sm_of (S := S) s3) _ _ fR2
      have fU := (sm_of (S := S) s3) _ _ fU
      have fD := (sm_of (S := S) s3) _ _ fD
      have dpP := dp_same ((sm_of (S := S) s3)) dpP
      have da1 := dpAll_same ((sm_of (S := S) s3)) da1
      have da2 := dpAll_same ((sm_of (S := S) s3)) da2
      have st1 := same_tup ((sm_of (S := S) s3)) st1
      have st2 := same_tup ((sm_of (S := S) s3)) st2
      exact ⟨_, _, _, _, _, _, rfl, B.mono (by omega), sc, dpP, fP, fR1, da1, fR2, da2, fU, st1, st2, fD⟩
    · rintro σ Hq ⟨v6, v7, v8, v10, v11, v12, rfl, B, sc, dpP, fP, fR1, da1, fR2, da2, fU, st1, st2, fD⟩
      have B : Bp Hq b (n + 44) := B
      have lv : Live S Hq := by rw [eS]; exact Live.pw B
      have tt1 := th_trs pb.wd (hr1.bts pb) (by omega)
      have tt2 := th_trs pb.wd (hr2.bts pb) (by omega)
      have tb : Th 1000000 (200000 + 2 + (200000 + 2) + 3) 3 60 (.list [.list (t1.map trD), .list (t2.map trD)]) := ((Ths.one tt1).app (Ths.one tt2)).list (by show 2 ≤ 60; decide)
      have fb := gd_fineW (by decide) _ tb.g
      refine ⟨_, rfl, Pt, .list [.list (t1.map trD), .list (t2.map trD)], rfl, dp_off (.lst (SqL.of fP) (.cons (.lst (SqL.of fR1) da1) (.cons (.lst (SqL.of fR2) da2) .nil))), fb, Nat.le_trans tb.d (by decide), Nat.le_trans tb.c (by decide), ?_⟩
      refine ⟨_, rfl, _, rfl, (by show 2 ≤ sizeLine; decide), fun l nl => ?_⟩
      have fl := off_new (o := .lst [.ref R1, .ref R2]) lv nl
      have lv := lv.put (o := .lst [.ref R1, .ref R2]) nl
      have B := B.put (o := .lst [.ref R1, .ref R2]) nl
      have sc := sc.trans (sm_put (S := [b]) (o := .lst [.ref R1, .ref R2]) nl)
      have fR1 := (sm_put (S := S) (o := .lst [.ref R1, .ref R2]) nl) _ _ fR1
      have fR2 := (sm_put (S := S) (o := .lst [.ref R1, .ref R2]) nl) _ _ fR2
      have da1 := dpAll_same ((sm_put (S := S) (o := .lst [.ref R1, .ref R2]) nl)) da1
      have da2 := dpAll_same ((sm_put (S := S) (o := .lst [.ref R1, .ref R2]) nl)) da2
      generalize upd Hq l (.lst [.ref R1, .ref R2]) = Hs at fl lv B sc fR1 fR2 da1 da2 ⊢
      refine ⟨l, .list [.list (t1.map trD), .list (t2.map trD)], rfl, dp_off (.lst (SqL.of fl) (.cons (.lst (SqL.of fR1) da1) (.cons (.lst (SqL.of fR2) da2) .nil))), fb, Nat.le_trans tb.d (by decide), Nat.le_trans tb.c (by decide), rfl, ?_⟩
      rw [decide_eq_true rfl]
      exact q _ (B.mono (by omega)) sc

end
end Pot

namespace Pot
open PySem PySem.Spec PyProof.Rows L2
section
variable {P : Program} {w : World} {K : PySem.W.Frag} {mg : Str → Option Value} {base : Heap}
abbrev s__law_right : Stmt := topS 46
def n__law_right : List Str := ["_law_box_here", "_law_palette_here", "_law_turns_here", "_law_other", "_law_kept"]
theorem sc__law_right : FnScope n__law_right ["_law_box_here"] (defScope s__law_right) := ⟨rfl, rfl, rfl, by decide +kernel, rfl, by decide +kernel, by decide +kernel⟩
def spRight : Sp := fun vs H Q _ => ∃ (b : Addr), vs = [.ref b] ∧ Bp H b 0 ∧ ∀ H', Sm [b] H H' → Q (.bl true) H'
set_option maxHeartbeats 4000000 in
theorem ok_right {f : Addr} {fd : FuncData} {k : Nat} (F : Fun K "_law_right" "_law_right" s__law_right f fd) (T : Txt mg) (c__law_take : Cl P w K mg base (k + 1) "_law_take" spTake) (c__law_palette : Cl P w K mg base (k + 3) "_law_palette" (spPalette K)) (c__law_turns : Cl P w K mg base (k + 2) "_law_turns" (spTurns K)) (c__law_again_right : Cl P w K mg base (k + 15) "_law_again_right" (spAgain K)) (c__law_warmer_right : Cl P w K mg base (k + 6) "_law_warmer_right" (spWarmer K)) (c__law_two_right : ClG P w K mg base (k + 6) "_law_two_right" [] (spTwo K)) : FnG P w K mg base (k + 16) f fd ["_law_box_here"] spRight := by
  refine okG F sc__law_right (fun vs H Q E h => ?_) (fun cdv A outer s H vs Q gd hr h => ?_)
  · obtain ⟨b, rfl, _⟩ := h
    rfl
  · obtain ⟨b, rfl, B, q⟩ := h
    have nd := sc__law_right.nd
    have hu64 := hr.units
    /- 0 _law_box_here, 1 _law_palette_here, 2 _law_turns_here, 3 _law_other, 4 _law_kept -/
    refine ⟨_, (pss_cons (ps_set (i := 1) nd rfl (.inl rfl) (pe_cl c__law_palette hr (by omega) (by rfl) (pa_cons (pv 0) (pa_cons pe_int pa_nil))))
      (pss_cons (ps_set (i := 2) nd rfl (.inl rfl) (pe_cl c__law_turns hr (by omega) (by rfl) (pa_cons (pv 0) (pa_cons (pv 1) (pa_cons (pe_ix (kx_list (K := K)) (pe_lst (pa_cons (pe_op op_add pe_int (pe_cl c__law_take hr (by omega) (by rfl) (pa_cons (pv 0) (pa_cons pe_int pa_nil)))) (pa_cons pe_int pa_nil))) (pe_callTy call_int1 (by rfl) T.int (by decide +kernel) (pa_cons (pe_cmpR op_eq (pe_cl c__law_take hr (by omega) (by rfl) (pa_cons (pv 0) (pa_cons pe_int pa_nil))) pe_int (nomark _)) pa_nil)) (fun _ _ => rfl)) pa_nil)))))
      (pss_cons (ps_par (i := 3) (j := 4) rfl nd rfl rfl (by decide) rfl rfl (pa_cons (pe_cl c__law_turns hr (by omega) (by rfl) (pa_cons (pv 0) (pa_cons (pv 1) (pa_cons (pe_op op_add pe_int (pe_cl c__law_take hr (by omega) (by rfl) (pa_cons (pv 0) (pa_cons pe_int pa_nil)))) pa_nil)))) (pa_cons (pe_callB (kc_repr (K := K) gd hu64) (by rfl) T.repr (by decide +kernel) (pa_cons (pe_lst (pa_cons (pv 1) (pa_cons (pv 2) pa_nil))) pa_nil)) pa_nil)) rfl)
      (pss_cons (ps_if ((pw_or (pt_not (pt_val (pe_cl c__law_again_right hr (by omega) (by rfl) (pa_cons (pv 0) (pa_cons (pv 1) (pa_cons (pv 2) pa_nil)))))) (pw_or1 (pt_not (pt_val (pe_cl c__law_warmer_right hr (by omega) (by rfl) (pa_cons (pv 0) (pa_cons (pv 1) (pa_cons (pv 2) pa_nil))))))))).pt
          pss_never
          pss_nil)
      (pss_one (ps_ret (pe_and (pe_clG c__law_two_right hr gd (by omega) (by rfl) (pa_cons (pv 0) (pa_cons (pv 1) (pa_cons (pv 2) (pa_cons (pv 3) pa_nil))))) (pe_one (pe_cmpR op_eq (pe_callB (kc_repr (K := K) gd hu64) (by rfl) T.repr (by decide +kernel) (pa_cons (pe_lst (pa_cons (pv 1) (pa_cons (pv 2) pa_nil))) pa_nil)) (pv 4) (nomark _)))))))))), ?_⟩
    have sc : Sm [b] H H := Same.refl _
    have lv : Live [b] H := Live.pw B
    obtain ⟨S, eS⟩ : ∃ S, S = [b] := ⟨_, rfl⟩
    have hb : b ∈ S := by rw [eS]; exact List.mem_cons_self
    rw [← eS] at lv
    -- palette
    refine ⟨_, rfl, b, _, 4, rfl, (by decide), (by decide), B, by omega, fun H3 v cs ws B3 s3 dpP pb => ?_⟩
    rw [← eS] at dpP
    have lv := lv.box B3.bx s3
    have sc := sc.trans s3
    have B := B3
    -- how many turns
    refine ⟨_, rfl, _, rfl, _, rfl, b, 6, _, rfl, (by decide), (by decide), B, by omega, fun H4 r4 r40 r41 B4 s4 => ⟨_, _, rfl, rfl, ?_⟩⟩
    have lv := lv.box B4.bx s4
    have sc := sc.trans s4
    have B := B4
    have dpP := dp_same ((sm_one hb s4)) dpP
    refine ⟨(by show 2 ≤ sizeLine; decide), fun e1 ne1 => ?_⟩
    have f1 := off_new (o := .lst [.int (2 + r4), .int 30]) lv ne1
    have lv := lv.put (o := .lst [.int (2 + r4), .int 30]) ne1
    have B := B.put (o := .lst [.int (2 + r4), .int 30]) ne1
    have sc := sc.trans (sm_put (S := [b]) (o := .lst [.int (2 + r4), .int 30]) ne1)
    have dpP := dp_same ((sm_put (S := S) (o := .lst [.int (2 + r4), .int 30]) ne1)) dpP
    generalize upd H4 e1 (.lst [.int (2 + r4), .int 30]) = H6 at f1 lv B sc dpP ⊢
    refine ⟨_, rfl, b, 8, _, rfl, (by decide), (by decide), B, by omega, fun H7 r7 r70 r71 B7 s7 => ?_⟩
    have lv := lv.box B7.bx s7
    have sc := sc.trans s7
    have B := B7
    have f1 := (sm_one hb s7) _ _ f1
    have dpP := dp_same ((sm_one hb s7)) dpP
    obtain ⟨mt, emt, mt30⟩ : ∃ mt : Nat, atI [V.int (2 + r4), .int 30] (if decide (V.int r7 = V.int 0) = true then 1 else 0) = some (.int (mt : Nat)) ∧ mt ≤ 30 := by
      by_cases z : decide (V.int r7 = V.int 0) = true
      · rw [if_pos z]; exact ⟨30, rfl, by decide⟩
      · rw [if_neg z]; exact ⟨(2 + r4).toNat, by rw [Int.toNat_of_nonneg (by omega)]; rfl, by omega⟩
    refine ⟨rfl, .inr ⟨_, rfl, e1, _, _, _, rfl, rfl, SqL.of (at_off f1), emt, ?_⟩⟩
    refine ⟨b, _, mt, v, cs, ws, rfl, B, by omega, (by rw [← eS]; exact dpP), pb, by omega, fun H8 R xs ts f00 B8 s8 nR hR daR lts f0p cts lE => ?_⟩
    have Rn : R ∉ S := lv.out nR
    have lv := lv.box B8.bx s8
    have sc := sc.trans s8
    have B := B8
    have dpP := dp_same ((sm_one hb s8)) dpP
    have fR : off H8 S R = some (.lst xs) := by rw [off_out Rn]; exact hR
    rw [← eS] at daR
    have hr1 : Hr cs ws f00 ts := ⟨cts, f0p, lE, by omega⟩
    -- the other pot
    refine ⟨_, rfl, _, rfl, _, rfl, b, 4, _, rfl, (by decide), (by decide), B, by omega, fun H9 r9 r90 r91 B9 s9 => ⟨_, _, rfl, rfl, ?_⟩⟩
    have lv := lv.box B9.bx s9
    have sc := sc.trans s9
    have B := B9
    have fR := (sm_one hb s9) _ _ fR
    have dpP := dp_same ((sm_one hb s9)) dpP
    have daR := dpAll_same ((sm_one hb s9)) daR
    refine ⟨b, _, (1 + r9).toNat, v, cs, ws, (by rw [Int.toNat_of_nonneg (by omega)]; rfl), B, by omega, (by rw [← eS]; exact dpP), pb, by omega, fun H10 R2 xs2 ts2 f02 B10 s10 nR2 hR2 daR2 lts2 f0p2 cts2 lE2 => ?_⟩
    have Rn2 : R2 ∉ S := lv.out nR2
    have lv := lv.box B10.bx s10
    have sc := sc.trans s10
    have B := B10
    have fR := (sm_one hb s10) _ _ fR
    have dpP := dp_same ((sm_one hb s10)) dpP
    have daR := dpAll_same ((sm_one hb s10)) daR
    have fR2 : off H10 S R2 = some (.lst xs2) := by rw [off_out Rn2]; exact hR2
    rw [← eS] at daR2
    have hr2 : Hr cs ws f02 ts2 := ⟨cts2, f0p2, lE2, by omega⟩
    have tP := th_pal pb
    have tA := th_trs pb.wd (hr1.bts pb) (by omega)
    have tb : Th 1000000 (1000000 + 2 + (200000 + 2) + 3) 4 60 (.list [palD cs ws, .list (ts.map trD)]) := ((Ths.one (tP.mono (by decide) (Nat.le_refl _) (Nat.le_refl _) (Nat.le_refl _))).app (Ths.one (tA.mono (Nat.le_refl _) (Nat.le_refl _) (by decide) (Nat.le_refl _)))).list (by show 2 ≤ 60; decide)
    have fb := gd_fineW (by decide) _ tb.g
    refine ⟨_, rfl, _, rfl, (by show 2 ≤ sizeLine; decide), fun l nl => ?_⟩
    have fl := off_new (o := .lst [v, .ref R]) lv nl
    have lv := lv.put (o := .lst [v, .ref R]) nl
    have B := B.put (o := .lst [v, .ref R]) nl
    have sc := sc.trans (sm_put (S := [b]) (o := .lst [v, .ref R]) nl)
    have fR := (sm_put (S := S) (o := .lst [v, .ref R]) nl) _ _ fR
    have fR2 := (sm_put (S := S) (o := .lst [v, .ref R]) nl) _ _ fR2
    have dpP := dp_same ((sm_put (S := S) (o := .lst [v, .ref R]) nl)) dpP
    have daR := dpAll_same ((sm_put (S := S) (o := .lst [v, .ref R]) nl)) daR
    have daR2 := dpAll_same ((sm_put (S := S) (o := .lst [v, .ref R]) nl)) daR2
    generalize upd H10 l (.lst [v, .ref R]) = H11 at fl lv B sc fR fR2 dpP daR daR2 ⊢
    refine ⟨l, .list [palD cs ws, .list (ts.map trD)], rfl, .lst (SqL.of (at_off fl)) (.cons (dp_off dpP) (.cons (dp_off (.lst (SqL.of fR) daR)) .nil)), fb, Nat.le_trans tb.d (by decide), Nat.le_trans tb.c (by decide), _, _, rfl, ?_⟩
    obtain ⟨shn, eshn⟩ : ∃ z, z = (PyData.list [palD cs ws, .list (ts.map trD)]).shown := ⟨_, rfl⟩
    rw [← eshn]
    have B := B.mono (show _ ≤ 4000 by omega)
    refine ⟨_, rfl, _, rfl, _, rfl, b, _, v, cs, ws, R, xs, ts, f00, rfl, B, by omega, (by rw [← eS]; exact dpP), pb, (by rw [← eS]; exact fR), (by rw [← eS]; exact daR), hr1, fun H12 B12 s12 => ?_⟩
    have lv := lv.box B12.bx s12
    have sc := sc.trans s12
    have B := B12
    have fR := (sm_one hb s12) _ _ fR
    have fR2 := (sm_one hb s12) _ _ fR2
    have dpP := dp_same ((sm_one hb s12)) dpP
    have daR := dpAll_same ((sm_one hb s12)) daR
    have daR2 := dpAll_same ((sm_one hb s12)) daR2
    refine ⟨_, rfl, iteF ?_⟩
    refine ⟨_, rfl, _, rfl, _, rfl, b, _, v, cs, ws, R, xs, ts, f00, rfl, B, by omega, (by rw [← eS]; exact dpP), pb, (by rw [← eS]; exact fR), (by rw [← eS]; exact daR), hr1, fun H13 B13 s13 => ?_⟩
    have lv := lv.box B13.bx s13
    have sc := sc.trans s13
    have B := B13
    have fR := (sm_one hb s13) _ _ fR
    have fR2 := (sm_one hb s13) _ _ fR2
    have dpP := dp_same ((sm_one hb s13)) dpP
    have daR := dpAll_same ((sm_one hb s13)) daR
    have daR2 := dpAll_same ((sm_one hb s13)) daR2
    refine ⟨_, rfl, iteF ?_⟩
    refine ⟨_, rfl, _, rfl, _, rfl, _, rfl, b, _, v, cs, ws, R, R2, xs, xs2, ts, ts2, f00, f02, rfl, B, by omega, (by rw [← eS]; exact dpP), pb, (by rw [← eS]; exact fR), (by rw [← eS]; exact daR), hr1, (by rw [← eS]; exact fR2), (by rw [← eS]; exact daR2), hr2, fun H14 B14 s14 => ?_⟩
    have lv := lv.box B14.bx s14
    have sc := sc.trans s14
    have B := B14
    have fR := (sm_one hb s14) _ _ fR
    have dpP := dp_same ((sm_one hb s14)) dpP
    have daR := dpAll_same ((sm_one hb s14)) daR
    refine ⟨_, rfl, iteT ?_⟩
    refine ⟨_, rfl, _, rfl, (by show 2 ≤ sizeLine; decide), fun l2 nl2 => ?_⟩
    have fl2 := off_new (o := .lst [v, .ref R]) lv nl2
    have lv := lv.put (o := .lst [v, .ref R]) nl2
    have B := B.put (o := .lst [v, .ref R]) nl2
    have sc := sc.trans (sm_put (S := [b]) (o := .lst [v, .ref R]) nl2)
    have fR := (sm_put (S := S) (o := .lst [v, .ref R]) nl2) _ _ fR
    have dpP := dp_same ((sm_put (S := S) (o := .lst [v, .ref R]) nl2)) dpP
    have daR := dpAll_same ((sm_put (S := S) (o := .lst [v, .ref R]) nl2)) daR
    generalize upd H14 l2 (.lst [v, .ref R]) = H15 at fl2 lv B sc fR dpP daR ⊢
    refine ⟨l2, .list [palD cs ws, .list (ts.map trD)], rfl, .lst (SqL.of (at_off fl2)) (.cons (dp_off dpP) (.cons (dp_off (.lst (SqL.of fR) daR)) .nil)), fb, Nat.le_trans tb.d (by decide), Nat.le_trans tb.c (by decide), _, rfl, rfl, ?_⟩
    rw [← eshn, decide_eq_true rfl]
    exact q _ sc

end
end Pot

namespace Pot
open PySem PySem.Spec PyProof.Rows L2
section
variable {P : Program} {w : World} {K : PySem.W.Frag} {mg : Str → Option Value} {base : Heap}
theorem same_box {H2 H3 H4 : Hp} {b : Addr} (nb : H2 b = none) (s : Same H2 H3) (s2 : Sm [b] H3 H4) : Same H2 H4 := fun a o h => by
  have ne : a ∉ [b] := fun z => by rw [List.mem_singleton.mp z, nb] at h; cases h
  have := s2 a o (by rw [off_out ne]; exact s a o h)
  rw [off_out ne] at this; exact this
abbrev s_law : Stmt := topS 47
def n_law : List Str := ["_law_script", "_law_k"]
theorem sc_law : FnScope n_law ["_law_script"] (defScope s_law) := ⟨rfl, rfl, rfl, by decide +kernel, rfl, by decide +kernel, by decide +kernel⟩
def spLaw (K : PySem.W.Frag) : Sp := fun vs H Q _ => ∃ (a : Addr) (ns : List Int), vs = [.ref a] ∧ SqL K H a (ns.map V.int) ∧ ns.length ≤ 63 ∧ ∀ H', Q (.bl true) H'
theorem ok_law {f : Addr} {fd : FuncData} {k : Nat} (F : Fun K "law" "law" s_law f fd) (T : Txt mg) (c__law_box : Cl P w K mg base (k + 1) "_law_box" (spBox K)) (c__law_right : ClG P w K mg base (k + 16) "_law_right" [] spRight) : FnG P w K mg base (k + 17) f fd ["_law_script"] (spLaw K) := by
  refine okG F sc_law (fun vs H Q E h => ?_) (fun cdv A outer s H vs Q gd hr h => ?_)
  · obtain ⟨a, ns, rfl, _⟩ := h
    rfl
  · obtain ⟨a, ns, rfl, hS, h63, q⟩ := h
    have nd := sc_law.nd
    /- 0 _law_script, 1 _law_k -/
    refine ⟨_, (pss_one (ps_ret (pe_callB (kc_all (K := K)) (by rfl) T.all (by decide +kernel) (pa_cons (pe_lc (own := [("_law_k", 1)]) rfl nd (pi_range1 (by rfl) T.range (pa_cons (pe_op op_add pe_int (pe_callB (call_min2 rfl) (by rfl) T.min (by decide +kernel) (pa_cons pe_int (pa_cons (pe_callB (kc_len (K := K)) (by rfl) T.len PySem.boot_len (pa_cons (pv 0) pa_nil)) pa_nil)))) pa_nil)) (blkOk_by (N := n_law) (sc := defScope s_law) (by decide +kernel)) (fun _ _ _ _ _ => (pg_name (i := 1) nd rfl (.inl rfl))) (fun _ _ _ _ _ => pts_nil) (fun _ _ _ _ _ => (pe_clG c__law_right hr gd (by omega) (by rfl) (pa_cons (pe_cl c__law_box hr (by omega) (by rfl) (pa_cons (pv 0) (pa_cons (pv 1) pa_nil))) pa_nil)))) pa_nil)))), ?_⟩
    refine ⟨_, rfl, _, _, rfl, .inl ⟨_, hS, rfl⟩, _, _, rfl, _, _, rfl, rfl, ?_⟩
    obtain ⟨z, ez, z0, z4⟩ : ∃ z : Int, z = (1 : Int) + (if (((ns.map V.int).length : Nat) : Int) < 3 then (((ns.map V.int).length : Nat) : Int) else 3) ∧ 0 ≤ z ∧ z ≤ 4 := ⟨_, rfl, by split <;> omega, by split <;> omega⟩
    refine ⟨z, (by rw [ez]), (by omega), (by omega), fun D nD => ?_⟩
    refine lc_it walk_range (fun i H2 => Same H H2 ∧ H2 D = some (.lst ((List.replicate i true).map V.bl))) ⟨same_upd nD, upd_same⟩ (fun _ _ _ _ => trivial) ?_ ?_
    · rintro i y H2 H3 hi ⟨s2, hD⟩ ⟨rfl, rfl⟩
      have hi4 : i < 4 := by omega
      refine ⟨rfl, tYes_at ?_⟩
      rw [if_pos rfl]
      refine ⟨_, rfl, _, rfl, a, ns, i, (by show [V.ref a, V.int ((0 : Int) + (i : Nat))] = _; rw [Int.zero_add]), s2.seq hS, by omega, fun H4 b s4 B nb => ?_⟩
      refine ⟨b, rfl, B, fun H5 s5 => ?_⟩
      have s6 := same_box nb s4 s5
      refine ⟨_, s6 _ _ hD, ?_, same_put (s2.trans s6) nD, ?_⟩
      · rw [List.length_map, List.length_replicate, sizeLine_eq]; omega
      · rw [upd_same, List.replicate_succ', List.map_append]; rfl
    · rintro H2 ⟨s2, hD⟩
      refine ⟨D, _, rfl, SqL.of hD, ?_⟩
      have e : ∀ n : Nat, (List.replicate n true).all id = true := fun n => List.all_eq_true.mpr fun x hx => by rw [(List.mem_replicate.mp hx).2]; rfl
      rw [e]
      exact q _

end
end Pot

namespace Pot
open PySem PySem.Spec PyProof.Rows L2
set_option maxHeartbeats 4000000 in
theorem all_mk {l : PySem.W.OpenLaw} {w : World} {K : PySem.W.Frag} {h : Heap} {mg : Str → Option Value} {fa : Addr} (X : K.In h) (G : h.Ns mainGlobals mg) (hfa : mg "law" = some (.ref fa))
    {f1 : Addr} {od1 an1 : Option Addr} {sl1 : Array (Option Value)} {oc1 kV1 dc1 pm1 cd1 ct1 : Value}
    {f2 : Addr} {od2 an2 : Option Addr} {sl2 : Array (Option Value)} {oc2 kV2 dc2 pm2 cd2 ct2 : Value}
    {f3 : Addr} {od3 an3 : Option Addr} {sl3 : Array (Option Value)} {oc3 kV3 dc3 pm3 cd3 ct3 : Value}
    {f4 : Addr} {od4 an4 : Option Addr} {sl4 : Array (Option Value)} {oc4 kV4 dc4 pm4 cd4 ct4 : Value}
    {f5 : Addr} {od5 an5 : Option Addr} {sl5 : Array (Option Value)} {oc5 kV5 dc5 pm5 cd5 ct5 : Value}
    {f6 : Addr} {od6 an6 : Option Addr} {sl6 : Array (Option Value)} {oc6 kV6 dc6 pm6 cd6 ct6 : Value}
    {f7 : Addr} {od7 an7 : Option Addr} {sl7 : Array (Option Value)} {oc7 kV7 dc7 pm7 cd7 ct7 : Value}
    {f8 : Addr} {od8 an8 : Option Addr} {sl8 : Array (Option Value)} {oc8 kV8 dc8 pm8 cd8 ct8 : Value}
    {f9 : Addr} {od9 an9 : Option Addr} {sl9 : Array (Option Value)} {oc9 kV9 dc9 pm9 cd9 ct9 : Value}
    {T9 : Addr} {ocT9 : Value} {odT9 : Option Addr} {slT9 : Array (Option Value)} {nT9 : Nat}
    {tk9_0 : Tok}
    {f10 : Addr} {od10 an10 : Option Addr} {sl10 : Array (Option Value)} {oc10 kV10 dc10 pm10 cd10 ct10 : Value}
    {T10 : Addr} {ocT10 : Value} {odT10 : Option Addr} {slT10 : Array (Option Value)} {nT10 : Nat}
    {tk10_0 : Tok}
    {f11 : Addr} {od11 an11 : Option Addr} {sl11 : Array (Option Value)} {oc11 kV11 dc11 pm11 cd11 ct11 : Value}
    {f12 : Addr} {od12 an12 : Option Addr} {sl12 : Array (Option Value)} {oc12 kV12 dc12 pm12 cd12 ct12 : Value}
    {f13 : Addr} {od13 an13 : Option Addr} {sl13 : Array (Option Value)} {oc13 kV13 dc13 pm13 cd13 ct13 : Value}
    {f14 : Addr} {od14 an14 : Option Addr} {sl14 : Array (Option Value)} {oc14 kV14 dc14 pm14 cd14 ct14 : Value}
    {f15 : Addr} {od15 an15 : Option Addr} {sl15 : Array (Option Value)} {oc15 kV15 dc15 pm15 cd15 ct15 : Value}
    {f16 : Addr} {od16 an16 : Option Addr} {sl16 : Array (Option Value)} {oc16 kV16 dc16 pm16 cd16 ct16 : Value}
    {f17 : Addr} {od17 an17 : Option Addr} {sl17 : Array (Option Value)} {oc17 kV17 dc17 pm17 cd17 ct17 : Value}
    {f18 : Addr} {od18 an18 : Option Addr} {sl18 : Array (Option Value)} {oc18 kV18 dc18 pm18 cd18 ct18 : Value}
    {f19 : Addr} {od19 an19 : Option Addr} {sl19 : Array (Option Value)} {oc19 kV19 dc19 pm19 cd19 ct19 : Value}
    {f20 : Addr} {od20 an20 : Option Addr} {sl20 : Array (Option Value)} {oc20 kV20 dc20 pm20 cd20 ct20 : Value}
    {f21 : Addr} {od21 an21 : Option Addr} {sl21 : Array (Option Value)} {oc21 kV21 dc21 pm21 cd21 ct21 : Value}
    {f22 : Addr} {od22 an22 : Option Addr} {sl22 : Array (Option Value)} {oc22 kV22 dc22 pm22 cd22 ct22 : Value}
    {f23 : Addr} {od23 an23 : Option Addr} {sl23 : Array (Option Value)} {oc23 kV23 dc23 pm23 cd23 ct23 : Value}
    {f24 : Addr} {od24 an24 : Option Addr} {sl24 : Array (Option Value)} {oc24 kV24 dc24 pm24 cd24 ct24 : Value}
    {f25 : Addr} {od25 an25 : Option Addr} {sl25 : Array (Option Value)} {oc25 kV25 dc25 pm25 cd25 ct25 : Value}
    {f26 : Addr} {od26 an26 : Option Addr} {sl26 : Array (Option Value)} {oc26 kV26 dc26 pm26 cd26 ct26 : Value}
    {f27 : Addr} {od27 an27 : Option Addr} {sl27 : Array (Option Value)} {oc27 kV27 dc27 pm27 cd27 ct27 : Value}
    {f28 : Addr} {od28 an28 : Option Addr} {sl28 : Array (Option Value)} {oc28 kV28 dc28 pm28 cd28 ct28 : Value}
    {f29 : Addr} {od29 an29 : Option Addr} {sl29 : Array (Option Value)} {oc29 kV29 dc29 pm29 cd29 ct29 : Value}
    {f30 : Addr} {od30 an30 : Option Addr} {sl30 : Array (Option Value)} {oc30 kV30 dc30 pm30 cd30 ct30 : Value}
    {f31 : Addr} {od31 an31 : Option Addr} {sl31 : Array (Option Value)} {oc31 kV31 dc31 pm31 cd31 ct31 : Value}
    {f32 : Addr} {od32 an32 : Option Addr} {sl32 : Array (Option Value)} {oc32 kV32 dc32 pm32 cd32 ct32 : Value}
    {f33 : Addr} {od33 an33 : Option Addr} {sl33 : Array (Option Value)} {oc33 kV33 dc33 pm33 cd33 ct33 : Value}
    {f34 : Addr} {od34 an34 : Option Addr} {sl34 : Array (Option Value)} {oc34 kV34 dc34 pm34 cd34 ct34 : Value}
    {f35 : Addr} {od35 an35 : Option Addr} {sl35 : Array (Option Value)} {oc35 kV35 dc35 pm35 cd35 ct35 : Value}
    {f36 : Addr} {od36 an36 : Option Addr} {sl36 : Array (Option Value)} {oc36 kV36 dc36 pm36 cd36 ct36 : Value}
    {f37 : Addr} {od37 an37 : Option Addr} {sl37 : Array (Option Value)} {oc37 kV37 dc37 pm37 cd37 ct37 : Value}
    {f38 : Addr} {od38 an38 : Option Addr} {sl38 : Array (Option Value)} {oc38 kV38 dc38 pm38 cd38 ct38 : Value}
    {f39 : Addr} {od39 an39 : Option Addr} {sl39 : Array (Option Value)} {oc39 kV39 dc39 pm39 cd39 ct39 : Value}
    {tc1 : Tok}
    {WW : Addr} {odW : Option Addr} {slW : Array (Option Value)} {nW : Nat} {tw0 : Tok} {tw1 : Tok} {tw2 : Tok} {tw3 : Tok} {tw4 : Tok} {tw5 : Tok}
    (a1 : PySem.W.nsIn K mainGlobals "is_number" = some (some (.ref f1))) (l1 : K.lookup f1 = some ⟨oc1, od1, .func (PySem.W.fnOf "is_number" "is_number" (defArgs s_is_number) (defBody s_is_number) (defScope s_is_number) .none kV1 dc1 pm1 an1 cd1 ct1), sl1⟩) (c1 : PySem.W.codeIn K cd1 "is_number" = true) (k1 : PySem.W.keepIn K (.ref f1) = true)
    (a2 : PySem.W.nsIn K mainGlobals "is_row" = some (some (.ref f2))) (l2 : K.lookup f2 = some ⟨oc2, od2, .func (PySem.W.fnOf "is_row" "is_row" (defArgs s_is_row) (defBody s_is_row) (defScope s_is_row) .none kV2 dc2 pm2 an2 cd2 ct2), sl2⟩) (c2 : PySem.W.codeIn K cd2 "is_row" = true) (k2 : PySem.W.keepIn K (.ref f2) = true)
    (a3 : PySem.W.nsIn K mainGlobals "is_rising" = some (some (.ref f3))) (l3 : K.lookup f3 = some ⟨oc3, od3, .func (PySem.W.fnOf "is_rising" "is_rising" (defArgs s_is_rising) (defBody s_is_rising) (defScope s_is_rising) .none kV3 dc3 pm3 an3 cd3 ct3), sl3⟩) (c3 : PySem.W.codeIn K cd3 "is_rising" = true) (k3 : PySem.W.keepIn K (.ref f3) = true)
    (a4 : PySem.W.nsIn K mainGlobals "is_told" = some (some (.ref f4))) (l4 : K.lookup f4 = some ⟨oc4, od4, .func (PySem.W.fnOf "is_told" "is_told" (defArgs s_is_told) (defBody s_is_told) (defScope s_is_told) .none kV4 dc4 pm4 an4 cd4 ct4), sl4⟩) (c4 : PySem.W.codeIn K cd4 "is_told" = true) (k4 : PySem.W.keepIn K (.ref f4) = true)
    (a5 : PySem.W.nsIn K mainGlobals "holds_truth" = some (some (.ref f5))) (l5 : K.lookup f5 = some ⟨oc5, od5, .func (PySem.W.fnOf "holds_truth" "holds_truth" (defArgs s_holds_truth) (defBody s_holds_truth) (defScope s_holds_truth) .none kV5 dc5 pm5 an5 cd5 ct5), sl5⟩) (c5 : PySem.W.codeIn K cd5 "holds_truth" = true) (k5 : PySem.W.keepIn K (.ref f5) = true)
    (a6 : PySem.W.nsIn K mainGlobals "colour_names" = some (some (.ref f6))) (l6 : K.lookup f6 = some ⟨oc6, od6, .func (PySem.W.fnOf "colour_names" "colour_names" (defArgs s_colour_names) (defBody s_colour_names) (defScope s_colour_names) .none kV6 dc6 pm6 an6 cd6 ct6), sl6⟩) (c6 : PySem.W.codeIn K cd6 "colour_names" = true) (k6 : PySem.W.keepIn K (.ref f6) = true)
    (a7 : PySem.W.nsIn K mainGlobals "colour_row" = some (some (.ref f7))) (l7 : K.lookup f7 = some ⟨oc7, od7, .func (PySem.W.fnOf "colour_row" "colour_row" (defArgs s_colour_row) (defBody s_colour_row) (defScope s_colour_row) .none kV7 dc7 pm7 an7 cd7 ct7), sl7⟩) (c7 : PySem.W.codeIn K cd7 "colour_row" = true) (k7 : PySem.W.keepIn K (.ref f7) = true)
    (a8 : PySem.W.nsIn K mainGlobals "wash_for" = some (some (.ref f8))) (l8 : K.lookup f8 = some ⟨oc8, od8, .func (PySem.W.fnOf "wash_for" "wash_for" (defArgs s_wash_for) (defBody s_wash_for) (defScope s_wash_for) .none kV8 dc8 pm8 an8 cd8 ct8), sl8⟩) (c8 : PySem.W.codeIn K cd8 "wash_for" = true) (k8 : PySem.W.keepIn K (.ref f8) = true)
    (a9 : PySem.W.nsIn K mainGlobals "ready_at" = some (some (.ref f9))) (l9 : K.lookup f9 = some ⟨oc9, od9, .func (PySem.W.fnOf "ready_at" "ready_at" (defArgs s_ready_at) (defBody s_ready_at) (defScope s_ready_at) (.ref T9) kV9 dc9 pm9 an9 cd9 ct9), sl9⟩) (c9 : PySem.W.codeIn K cd9 "ready_at" = true) (k9 : PySem.W.keepIn K (.ref f9) = true)
    (t9 : K.lookup T9 = some ⟨ocT9, odT9, .seq #[.int 0 tk9_0] nT9, slT9⟩)
    (a10 : PySem.W.nsIn K mainGlobals "broken" = some (some (.ref f10))) (l10 : K.lookup f10 = some ⟨oc10, od10, .func (PySem.W.fnOf "broken" "broken" (defArgs s_broken) (defBody s_broken) (defScope s_broken) (.ref T10) kV10 dc10 pm10 an10 cd10 ct10), sl10⟩) (c10 : PySem.W.codeIn K cd10 "broken" = true) (k10 : PySem.W.keepIn K (.ref f10) = true)
    (t10 : K.lookup T10 = some ⟨ocT10, odT10, .seq #[.int 24 tk10_0] nT10, slT10⟩)
    (a11 : PySem.W.nsIn K mainGlobals "shows_broken" = some (some (.ref f11))) (l11 : K.lookup f11 = some ⟨oc11, od11, .func (PySem.W.fnOf "shows_broken" "shows_broken" (defArgs s_shows_broken) (defBody s_shows_broken) (defScope s_shows_broken) .none kV11 dc11 pm11 an11 cd11 ct11), sl11⟩) (c11 : PySem.W.codeIn K cd11 "shows_broken" = true) (k11 : PySem.W.keepIn K (.ref f11) = true)
    (a12 : PySem.W.nsIn K mainGlobals "last_warm" = some (some (.ref f12))) (l12 : K.lookup f12 = some ⟨oc12, od12, .func (PySem.W.fnOf "last_warm" "last_warm" (defArgs s_last_warm) (defBody s_last_warm) (defScope s_last_warm) .none kV12 dc12 pm12 an12 cd12 ct12), sl12⟩) (c12 : PySem.W.codeIn K cd12 "last_warm" = true) (k12 : PySem.W.keepIn K (.ref f12) = true)
    (a13 : PySem.W.nsIn K mainGlobals "first_behind" = some (some (.ref f13))) (l13 : K.lookup f13 = some ⟨oc13, od13, .func (PySem.W.fnOf "first_behind" "first_behind" (defArgs s_first_behind) (defBody s_first_behind) (defScope s_first_behind) .none kV13 dc13 pm13 an13 cd13 ct13), sl13⟩) (c13 : PySem.W.codeIn K cd13 "first_behind" = true) (k13 : PySem.W.keepIn K (.ref f13) = true)
    (a14 : PySem.W.nsIn K mainGlobals "put_behind" = some (some (.ref f14))) (l14 : K.lookup f14 = some ⟨oc14, od14, .func (PySem.W.fnOf "put_behind" "put_behind" (defArgs s_put_behind) (defBody s_put_behind) (defScope s_put_behind) .none kV14 dc14 pm14 an14 cd14 ct14), sl14⟩) (c14 : PySem.W.codeIn K cd14 "put_behind" = true) (k14 : PySem.W.keepIn K (.ref f14) = true)
    (a15 : PySem.W.nsIn K mainGlobals "put_later" = some (some (.ref f15))) (l15 : K.lookup f15 = some ⟨oc15, od15, .func (PySem.W.fnOf "put_later" "put_later" (defArgs s_put_later) (defBody s_put_later) (defScope s_put_later) .none kV15 dc15 pm15 an15 cd15 ct15), sl15⟩) (c15 : PySem.W.codeIn K cd15 "put_later" = true) (k15 : PySem.W.keepIn K (.ref f15) = true)
    (a16 : PySem.W.nsIn K mainGlobals "is_turns" = some (some (.ref f16))) (l16 : K.lookup f16 = some ⟨oc16, od16, .func (PySem.W.fnOf "is_turns" "is_turns" (defArgs s_is_turns) (defBody s_is_turns) (defScope s_is_turns) .none kV16 dc16 pm16 an16 cd16 ct16), sl16⟩) (c16 : PySem.W.codeIn K cd16 "is_turns" = true) (k16 : PySem.W.keepIn K (.ref f16) = true)
    (a17 : PySem.W.nsIn K mainGlobals "is_turn" = some (some (.ref f17))) (l17 : K.lookup f17 = some ⟨oc17, od17, .func (PySem.W.fnOf "is_turn" "is_turn" (defArgs s_is_turn) (defBody s_is_turn) (defScope s_is_turn) .none kV17 dc17 pm17 an17 cd17 ct17), sl17⟩) (c17 : PySem.W.codeIn K cd17 "is_turn" = true) (k17 : PySem.W.keepIn K (.ref f17) = true)
    (a18 : PySem.W.nsIn K mainGlobals "fault_of" = some (some (.ref f18))) (l18 : K.lookup f18 = some ⟨oc18, od18, .func (PySem.W.fnOf "fault_of" "fault_of" (defArgs s_fault_of) (defBody s_fault_of) (defScope s_fault_of) .none kV18 dc18 pm18 an18 cd18 ct18), sl18⟩) (c18 : PySem.W.codeIn K cd18 "fault_of" = true) (k18 : PySem.W.keepIn K (.ref f18) = true)
    (a19 : PySem.W.nsIn K mainGlobals "fault_between" = some (some (.ref f19))) (l19 : K.lookup f19 = some ⟨oc19, od19, .func (PySem.W.fnOf "fault_between" "fault_between" (defArgs s_fault_between) (defBody s_fault_between) (defScope s_fault_between) .none kV19 dc19 pm19 an19 cd19 ct19), sl19⟩) (c19 : PySem.W.codeIn K cd19 "fault_between" = true) (k19 : PySem.W.keepIn K (.ref f19) = true)
    (a20 : PySem.W.nsIn K mainGlobals "fault_within" = some (some (.ref f20))) (l20 : K.lookup f20 = some ⟨oc20, od20, .func (PySem.W.fnOf "fault_within" "fault_within" (defArgs s_fault_within) (defBody s_fault_within) (defScope s_fault_within) .none kV20 dc20 pm20 an20 cd20 ct20), sl20⟩) (c20 : PySem.W.codeIn K cd20 "fault_within" = true) (k20 : PySem.W.keepIn K (.ref f20) = true)
    (a21 : PySem.W.nsIn K mainGlobals "stretches" = some (some (.ref f21))) (l21 : K.lookup f21 = some ⟨oc21, od21, .func (PySem.W.fnOf "stretches" "stretches" (defArgs s_stretches) (defBody s_stretches) (defScope s_stretches) .none kV21 dc21 pm21 an21 cd21 ct21), sl21⟩) (c21 : PySem.W.codeIn K cd21 "stretches" = true) (k21 : PySem.W.keepIn K (.ref f21) = true)
    (a22 : PySem.W.nsIn K mainGlobals "marks_of" = some (some (.ref f22))) (l22 : K.lookup f22 = some ⟨oc22, od22, .func (PySem.W.fnOf "marks_of" "marks_of" (defArgs s_marks_of) (defBody s_marks_of) (defScope s_marks_of) .none kV22 dc22 pm22 an22 cd22 ct22), sl22⟩) (c22 : PySem.W.codeIn K cd22 "marks_of" = true) (k22 : PySem.W.keepIn K (.ref f22) = true)
    (a23 : PySem.W.nsIn K mainGlobals "washing_behind" = some (some (.ref f23))) (l23 : K.lookup f23 = some ⟨oc23, od23, .func (PySem.W.fnOf "washing_behind" "washing_behind" (defArgs s_washing_behind) (defBody s_washing_behind) (defScope s_washing_behind) .none kV23 dc23 pm23 an23 cd23 ct23), sl23⟩) (c23 : PySem.W.codeIn K cd23 "washing_behind" = true) (k23 : PySem.W.keepIn K (.ref f23) = true)
    (a24 : PySem.W.nsIn K mainGlobals "_law_box" = some (some (.ref f24))) (l24 : K.lookup f24 = some ⟨oc24, od24, .func (PySem.W.fnOf "_law_box" "_law_box" (defArgs s__law_box) (defBody s__law_box) (defScope s__law_box) .none kV24 dc24 pm24 an24 cd24 ct24), sl24⟩) (c24 : PySem.W.codeIn K cd24 "_law_box" = true) (k24 : PySem.W.keepIn K (.ref f24) = true)
    (a25 : PySem.W.nsIn K mainGlobals "_law_take" = some (some (.ref f25))) (l25 : K.lookup f25 = some ⟨oc25, od25, .func (PySem.W.fnOf "_law_take" "_law_take" (defArgs s__law_take) (defBody s__law_take) (defScope s__law_take) .none kV25 dc25 pm25 an25 cd25 ct25), sl25⟩) (c25 : PySem.W.codeIn K cd25 "_law_take" = true) (k25 : PySem.W.keepIn K (.ref f25) = true)
    (a26 : PySem.W.nsIn K mainGlobals "_law_names" = some (some (.ref f26))) (l26 : K.lookup f26 = some ⟨oc26, od26, .func (PySem.W.fnOf "_law_names" "_law_names" (defArgs s__law_names) (defBody s__law_names) (defScope s__law_names) .none kV26 dc26 pm26 an26 cd26 ct26), sl26⟩) (c26 : PySem.W.codeIn K cd26 "_law_names" = true) (k26 : PySem.W.keepIn K (.ref f26) = true)
    (a27 : PySem.W.nsIn K mainGlobals "_law_palette" = some (some (.ref f27))) (l27 : K.lookup f27 = some ⟨oc27, od27, .func (PySem.W.fnOf "_law_palette" "_law_palette" (defArgs s__law_palette) (defBody s__law_palette) (defScope s__law_palette) .none kV27 dc27 pm27 an27 cd27 ct27), sl27⟩) (c27 : PySem.W.codeIn K cd27 "_law_palette" = true) (k27 : PySem.W.keepIn K (.ref f27) = true)
    (a28 : PySem.W.nsIn K mainGlobals "_law_wash" = some (some (.ref f28))) (l28 : K.lookup f28 = some ⟨oc28, od28, .func (PySem.W.fnOf "_law_wash" "_law_wash" (defArgs s__law_wash) (defBody s__law_wash) (defScope s__law_wash) .none kV28 dc28 pm28 an28 cd28 ct28), sl28⟩) (c28 : PySem.W.codeIn K cd28 "_law_wash" = true) (k28 : PySem.W.keepIn K (.ref f28) = true)
    (a29 : PySem.W.nsIn K mainGlobals "_law_hours" = some (some (.ref f29))) (l29 : K.lookup f29 = some ⟨oc29, od29, .func (PySem.W.fnOf "_law_hours" "_law_hours" (defArgs s__law_hours) (defBody s__law_hours) (defScope s__law_hours) .none kV29 dc29 pm29 an29 cd29 ct29), sl29⟩) (c29 : PySem.W.codeIn K cd29 "_law_hours" = true) (k29 : PySem.W.keepIn K (.ref f29) = true)
    (a30 : PySem.W.nsIn K mainGlobals "_law_turns" = some (some (.ref f30))) (l30 : K.lookup f30 = some ⟨oc30, od30, .func (PySem.W.fnOf "_law_turns" "_law_turns" (defArgs s__law_turns) (defBody s__law_turns) (defScope s__law_turns) .none kV30 dc30 pm30 an30 cd30 ct30), sl30⟩) (c30 : PySem.W.codeIn K cd30 "_law_turns" = true) (k30 : PySem.W.keepIn K (.ref f30) = true)
    (a31 : PySem.W.nsIn K mainGlobals "_law_same" = some (some (.ref f31))) (l31 : K.lookup f31 = some ⟨oc31, od31, .func (PySem.W.fnOf "_law_same" "_law_same" (defArgs s__law_same) (defBody s__law_same) (defScope s__law_same) .none kV31 dc31 pm31 an31 cd31 ct31), sl31⟩) (c31 : PySem.W.codeIn K cd31 "_law_same" = true) (k31 : PySem.W.keepIn K (.ref f31) = true)
    (a32 : PySem.W.nsIn K mainGlobals "_law_broken" = some (some (.ref f32))) (l32 : K.lookup f32 = some ⟨oc32, od32, .func (PySem.W.fnOf "_law_broken" "_law_broken" (defArgs s__law_broken) (defBody s__law_broken) (defScope s__law_broken) .none kV32 dc32 pm32 an32 cd32 ct32), sl32⟩) (c32 : PySem.W.codeIn K cd32 "_law_broken" = true) (k32 : PySem.W.keepIn K (.ref f32) = true)
    (a33 : PySem.W.nsIn K mainGlobals "_law_when" = some (some (.ref f33))) (l33 : K.lookup f33 = some ⟨oc33, od33, .func (PySem.W.fnOf "_law_when" "_law_when" (defArgs s__law_when) (defBody s__law_when) (defScope s__law_when) .none kV33 dc33 pm33 an33 cd33 ct33), sl33⟩) (c33 : PySem.W.codeIn K cd33 "_law_when" = true) (k33 : PySem.W.keepIn K (.ref f33) = true)
    (a34 : PySem.W.nsIn K mainGlobals "_law_warmth" = some (some (.ref f34))) (l34 : K.lookup f34 = some ⟨oc34, od34, .func (PySem.W.fnOf "_law_warmth" "_law_warmth" (defArgs s__law_warmth) (defBody s__law_warmth) (defScope s__law_warmth) .none kV34 dc34 pm34 an34 cd34 ct34), sl34⟩) (c34 : PySem.W.codeIn K cd34 "_law_warmth" = true) (k34 : PySem.W.keepIn K (.ref f34) = true)
    (a35 : PySem.W.nsIn K mainGlobals "_law_again_right" = some (some (.ref f35))) (l35 : K.lookup f35 = some ⟨oc35, od35, .func (PySem.W.fnOf "_law_again_right" "_law_again_right" (defArgs s__law_again_right) (defBody s__law_again_right) (defScope s__law_again_right) .none kV35 dc35 pm35 an35 cd35 ct35), sl35⟩) (c35 : PySem.W.codeIn K cd35 "_law_again_right" = true) (k35 : PySem.W.keepIn K (.ref f35) = true)
    (a36 : PySem.W.nsIn K mainGlobals "_law_warmer_right" = some (some (.ref f36))) (l36 : K.lookup f36 = some ⟨oc36, od36, .func (PySem.W.fnOf "_law_warmer_right" "_law_warmer_right" (defArgs s__law_warmer_right) (defBody s__law_warmer_right) (defScope s__law_warmer_right) .none kV36 dc36 pm36 an36 cd36 ct36), sl36⟩) (c36 : PySem.W.codeIn K cd36 "_law_warmer_right" = true) (k36 : PySem.W.keepIn K (.ref f36) = true)
    (a37 : PySem.W.nsIn K mainGlobals "_law_two_right" = some (some (.ref f37))) (l37 : K.lookup f37 = some ⟨oc37, od37, .func (PySem.W.fnOf "_law_two_right" "_law_two_right" (defArgs s__law_two_right) (defBody s__law_two_right) (defScope s__law_two_right) .none kV37 dc37 pm37 an37 cd37 ct37), sl37⟩) (c37 : PySem.W.codeIn K cd37 "_law_two_right" = true) (k37 : PySem.W.keepIn K (.ref f37) = true)
    (a38 : PySem.W.nsIn K mainGlobals "_law_right" = some (some (.ref f38))) (l38 : K.lookup f38 = some ⟨oc38, od38, .func (PySem.W.fnOf "_law_right" "_law_right" (defArgs s__law_right) (defBody s__law_right) (defScope s__law_right) .none kV38 dc38 pm38 an38 cd38 ct38), sl38⟩) (c38 : PySem.W.codeIn K cd38 "_law_right" = true) (k38 : PySem.W.keepIn K (.ref f38) = true)
    (a39 : PySem.W.nsIn K mainGlobals "law" = some (some (.ref f39))) (l39 : K.lookup f39 = some ⟨oc39, od39, .func (PySem.W.fnOf "law" "law" (defArgs s_law) (defBody s_law) (defScope s_law) .none kV39 dc39 pm39 an39 cd39 ct39), sl39⟩) (c39 : PySem.W.codeIn K cd39 "law" = true) (k39 : PySem.W.keepIn K (.ref f39) = true)
    (z1 : PySem.W.nsIn K mainGlobals "len" = some none)
    (z2 : PySem.W.nsIn K mainGlobals "divmod" = some none)
    (z3 : PySem.W.nsIn K mainGlobals "range" = some none)
    (z4 : PySem.W.nsIn K mainGlobals "sum" = some none)
    (z5 : PySem.W.nsIn K mainGlobals "all" = some none)
    (z6 : PySem.W.nsIn K mainGlobals "any" = some none)
    (z7 : PySem.W.nsIn K mainGlobals "isinstance" = some none)
    (z8 : PySem.W.nsIn K mainGlobals "str" = some none)
    (z9 : PySem.W.nsIn K mainGlobals "int" = some none)
    (z10 : PySem.W.nsIn K mainGlobals "list" = some none)
    (z11 : PySem.W.nsIn K mainGlobals "tuple" = some none)
    (z12 : PySem.W.nsIn K mainGlobals "bool" = some none)
    (z13 : PySem.W.nsIn K mainGlobals "zip" = some none)
    (z14 : PySem.W.nsIn K mainGlobals "set" = some none)
    (z15 : PySem.W.nsIn K mainGlobals "sorted" = some none)
    (z16 : PySem.W.nsIn K mainGlobals "enumerate" = some none)
    (z17 : PySem.W.nsIn K mainGlobals "repr" = some none)
    (z18 : PySem.W.nsIn K mainGlobals "min" = some none)
    (z19 : PySem.W.nsIn K mainGlobals "max" = some none)
    (z20 : PySem.W.nsIn K mainGlobals "abs" = some none)
    (y1 : PySem.W.nsIn K mainGlobals "LAST_HOUR" = some (some (.int 1000000 tc1)))
    (yW : PySem.W.nsIn K mainGlobals "WORDS" = some (some (.ref WW)))
    (lW : K.lookup WW = some ⟨.type "tuple", odW, .seq #[.str "filled" tw0, .str "melting" tw1, .str "ready" tw2, .str "worked" tw3, .str "washed" tw4, .str "out" tw5] nW, slW⟩)
    : ∃ fd : FuncData, (∀ (s : Shared) (v : Value), BindsTo s fd ⟨[v], []⟩ [("_law_script", v)]) ∧ ∀ base : Heap, K.In base → base.Ns mainGlobals mg → FnG l.prog w K mg base 17 fa fd ["_law_script"] (spLaw K) := by
  have e := hfa.symm.trans (PySem.W.mg_of X G a39)
  cases e
  have T : Txt mg := ⟨PySem.W.mg_none_of X G z1, PySem.W.mg_none_of X G z2, PySem.W.mg_none_of X G z3, PySem.W.mg_none_of X G z4, PySem.W.mg_none_of X G z5, PySem.W.mg_none_of X G z6, PySem.W.mg_none_of X G z7, PySem.W.mg_none_of X G z8, PySem.W.mg_none_of X G z9, PySem.W.mg_none_of X G z10, PySem.W.mg_none_of X G z11, PySem.W.mg_none_of X G z12, PySem.W.mg_none_of X G z13, PySem.W.mg_none_of X G z14, PySem.W.mg_none_of X G z15, PySem.W.mg_none_of X G z16, PySem.W.mg_none_of X G z17, PySem.W.mg_none_of X G z18, PySem.W.mg_none_of X G z19, PySem.W.mg_none_of X G z20⟩
  have F1 := fun_mk (st := s_is_number) l1 c1 k1
  have b1 := F1.binds (ps := ["thing", "low", "high"]) fun _ _ _ _ _ _ us hl => match us, hl with | [_, _, _], _ => rfl
  have g1 := PySem.W.mg_of X G a1
  have F2 := fun_mk (st := s_is_row) l2 c2 k2
  have b2 := F2.binds (ps := ["thing", "size"]) fun _ _ _ _ _ _ us hl => match us, hl with | [_, _], _ => rfl
  have g2 := PySem.W.mg_of X G a2
  have F3 := fun_mk (st := s_is_rising) l3 c3 k3
  have b3 := F3.binds (ps := ["keys"]) fun _ _ _ _ _ _ us hl => match us, hl with | [_], _ => rfl
  have g3 := PySem.W.mg_of X G a3
  have F4 := fun_mk (st := s_is_told) l4 c4 k4
  have b4 := F4.binds (ps := ["thing", "told"]) fun _ _ _ _ _ _ us hl => match us, hl with | [_, _], _ => rfl
  have g4 := PySem.W.mg_of X G a4
  have F5 := fun_mk (st := s_holds_truth) l5 c5 k5
  have b5 := F5.binds (ps := ["thing"]) fun _ _ _ _ _ _ us hl => match us, hl with | [_], _ => rfl
  have g5 := PySem.W.mg_of X G a5
  have F6 := fun_mk (st := s_colour_names) l6 c6 k6
  have b6 := F6.binds (ps := ["palette"]) fun _ _ _ _ _ _ us hl => match us, hl with | [_], _ => rfl
  have g6 := PySem.W.mg_of X G a6
  have F7 := fun_mk (st := s_colour_row) l7 c7 k7
  have b7 := F7.binds (ps := ["palette", "colour"]) fun _ _ _ _ _ _ us hl => match us, hl with | [_, _], _ => rfl
  have g7 := PySem.W.mg_of X G a7
  have F8 := fun_mk (st := s_wash_for) l8 c8 k8
  have b8 := F8.binds (ps := ["palette", "ahead", "behind"]) fun _ _ _ _ _ _ us hl => match us, hl with | [_, _, _], _ => rfl
  have g8 := PySem.W.mg_of X G a8
  have F9 : FunV K "ready_at" s_ready_at [.int 0] f9 _ := ⟨⟨_, _, _, _, _, _, _, _, _, _, rfl, l9, c9, .inr ⟨(by intro z; cases z), T9, _, [_], _, rfl, t9, rfl, .cons (⟨_, rfl⟩) (.nil)⟩, .inl rfl⟩, k9⟩
  obtain ⟨ds9_0, v9_0, b9_0⟩ := FunD.binds1 (ps := ["palette", "colour", "at"]) F9 3 1 (by intro z; cases z) rfl (fun T kV doc pm an cdv ct us its hu hi => match us, hu, its, hi with | [_, _, _], _, [_], _ => ⟨_, rfl, rfl⟩)
  obtain ⟨ds9_1, v9_1, b9_1⟩ := FunD.binds1 (ps := ["palette", "colour", "at"]) F9 2 0 (by intro z; cases z) rfl (fun T kV doc pm an cdv ct us its hu hi => match us, hu, its, hi with | [_, _], _, [_], _ => ⟨_, rfl, rfl⟩)
  have g9 := PySem.W.mg_of X G a9
  have F10 : FunV K "broken" s_broken [.int 24] f10 _ := ⟨⟨_, _, _, _, _, _, _, _, _, _, rfl, l10, c10, .inr ⟨(by intro z; cases z), T10, _, [_], _, rfl, t10, rfl, .cons (⟨_, rfl⟩) (.nil)⟩, .inl rfl⟩, k10⟩
  obtain ⟨ds10_0, v10_0, b10_0⟩ := FunD.binds1 (ps := ["palette", "turns", "hour", "warm"]) F10 4 1 (by intro z; cases z) rfl (fun T kV doc pm an cdv ct us its hu hi => match us, hu, its, hi with | [_, _, _, _], _, [_], _ => ⟨_, rfl, rfl⟩)
  obtain ⟨ds10_1, v10_1, b10_1⟩ := FunD.binds1 (ps := ["palette", "turns", "hour", "warm"]) F10 3 0 (by intro z; cases z) rfl (fun T kV doc pm an cdv ct us its hu hi => match us, hu, its, hi with | [_, _, _], _, [_], _ => ⟨_, rfl, rfl⟩)
  have g10 := PySem.W.mg_of X G a10
  have F11 := fun_mk (st := s_shows_broken) l11 c11 k11
  have b11 := F11.binds (ps := ["palette", "turns", "hour", "warm", "thing"]) fun _ _ _ _ _ _ us hl => match us, hl with | [_, _, _, _, _], _ => rfl
  have g11 := PySem.W.mg_of X G a11
  have F12 := fun_mk (st := s_last_warm) l12 c12 k12
  have b12 := F12.binds (ps := ["palette", "turns", "hour", "number"]) fun _ _ _ _ _ _ us hl => match us, hl with | [_, _, _, _], _ => rfl
  have g12 := PySem.W.mg_of X G a12
  have F13 := fun_mk (st := s_first_behind) l13 c13 k13
  have b13 := F13.binds (ps := ["turns", "hour"]) fun _ _ _ _ _ _ us hl => match us, hl with | [_, _], _ => rfl
  have g13 := PySem.W.mg_of X G a13
  have F14 := fun_mk (st := s_put_behind) l14 c14 k14
  have b14 := F14.binds (ps := ["palette", "turns", "since"]) fun _ _ _ _ _ _ us hl => match us, hl with | [_, _, _], _ => rfl
  have g14 := PySem.W.mg_of X G a14
  have F15 := fun_mk (st := s_put_later) l15 c15 k15
  have b15 := F15.binds (ps := ["palette", "turn", "since"]) fun _ _ _ _ _ _ us hl => match us, hl with | [_, _, _], _ => rfl
  have g15 := PySem.W.mg_of X G a15
  have F16 := fun_mk (st := s_is_turns) l16 c16 k16
  have b16 := F16.binds (ps := ["palette", "thing"]) fun _ _ _ _ _ _ us hl => match us, hl with | [_, _], _ => rfl
  have g16 := PySem.W.mg_of X G a16
  have F17 := fun_mk (st := s_is_turn) l17 c17 k17
  have b17 := F17.binds (ps := ["palette", "thing"]) fun _ _ _ _ _ _ us hl => match us, hl with | [_, _], _ => rfl
  have g17 := PySem.W.mg_of X G a17
  have F18 := fun_mk (st := s_fault_of) l18 c18 k18
  have b18 := F18.binds (ps := ["palette", "turns"]) fun _ _ _ _ _ _ us hl => match us, hl with | [_, _], _ => rfl
  have g18 := PySem.W.mg_of X G a18
  have F19 := fun_mk (st := s_fault_between) l19 c19 k19
  have b19 := F19.binds (ps := ["palette", "ahead", "turn"]) fun _ _ _ _ _ _ us hl => match us, hl with | [_, _, _], _ => rfl
  have g19 := PySem.W.mg_of X G a19
  have F20 := fun_mk (st := s_fault_within) l20 c20 k20
  have b20 := F20.binds (ps := ["palette", "turn"]) fun _ _ _ _ _ _ us hl => match us, hl with | [_, _], _ => rfl
  have g20 := PySem.W.mg_of X G a20
  have F21 := fun_mk (st := s_stretches) l21 c21 k21
  have b21 := F21.binds (ps := ["palette", "turns", "first", "last"]) fun _ _ _ _ _ _ us hl => match us, hl with | [_, _, _, _], _ => rfl
  have g21 := PySem.W.mg_of X G a21
  have F22 := fun_mk (st := s_marks_of) l22 c22 k22
  have b22 := F22.binds (ps := ["palette", "turns"]) fun _ _ _ _ _ _ us hl => match us, hl with | [_, _], _ => rfl
  have g22 := PySem.W.mg_of X G a22
  have F23 := fun_mk (st := s_washing_behind) l23 c23 k23
  have b23 := F23.binds (ps := ["palette", "turns", "number"]) fun _ _ _ _ _ _ us hl => match us, hl with | [_, _, _], _ => rfl
  have g23 := PySem.W.mg_of X G a23
  have F24 := fun_mk (st := s__law_box) l24 c24 k24
  have b24 := F24.binds (ps := ["_law_script", "_law_k"]) fun _ _ _ _ _ _ us hl => match us, hl with | [_, _], _ => rfl
  have g24 := PySem.W.mg_of X G a24
  have F25 := fun_mk (st := s__law_take) l25 c25 k25
  have b25 := F25.binds (ps := ["_law_box_here", "_law_many"]) fun _ _ _ _ _ _ us hl => match us, hl with | [_, _], _ => rfl
  have g25 := PySem.W.mg_of X G a25
  have F26 := fun_mk (st := s__law_names) l26 c26 k26
  have b26 := F26.binds (ps := ["_law_box_here", "_law_many"]) fun _ _ _ _ _ _ us hl => match us, hl with | [_, _], _ => rfl
  have g26 := PySem.W.mg_of X G a26
  have F27 := fun_mk (st := s__law_palette) l27 c27 k27
  have b27 := F27.binds (ps := ["_law_box_here", "_law_most"]) fun _ _ _ _ _ _ us hl => match us, hl with | [_, _], _ => rfl
  have g27 := PySem.W.mg_of X G a27
  have F28 := fun_mk (st := s__law_wash) l28 c28 k28
  have b28 := F28.binds (ps := ["_law_palette_here", "_law_ahead", "_law_behind"]) fun _ _ _ _ _ _ us hl => match us, hl with | [_, _, _], _ => rfl
  have g28 := PySem.W.mg_of X G a28
  have F29 := fun_mk (st := s__law_hours) l29 c29 k29
  have b29 := F29.binds (ps := ["_law_palette_here", "_law_colour"]) fun _ _ _ _ _ _ us hl => match us, hl with | [_, _], _ => rfl
  have g29 := PySem.W.mg_of X G a29
  have F30 := fun_mk (st := s__law_turns) l30 c30 k30
  have b30 := F30.binds (ps := ["_law_box_here", "_law_palette_here", "_law_many"]) fun _ _ _ _ _ _ us hl => match us, hl with | [_, _, _], _ => rfl
  have g30 := PySem.W.mg_of X G a30
  have F31 := fun_mk (st := s__law_same) l31 c31 k31
  have b31 := F31.binds (ps := ["_law_found", "_law_due"]) fun _ _ _ _ _ _ us hl => match us, hl with | [_, _], _ => rfl
  have g31 := PySem.W.mg_of X G a31
  have F32 := fun_mk (st := s__law_broken) l32 c32 k32
  have b32 := F32.binds (ps := ["_law_palette_here", "_law_turns_here", "_law_hour", "_law_warm"]) fun _ _ _ _ _ _ us hl => match us, hl with | [_, _, _, _], _ => rfl
  have g32 := PySem.W.mg_of X G a32
  have F33 := fun_mk (st := s__law_when) l33 c33 k33
  have b33 := F33.binds (ps := ["_law_box_here", "_law_turns_here"]) fun _ _ _ _ _ _ us hl => match us, hl with | [_, _], _ => rfl
  have g33 := PySem.W.mg_of X G a33
  have F34 := fun_mk (st := s__law_warmth) l34 c34 k34
  have b34 := F34.binds (ps := ["_law_box_here"]) fun _ _ _ _ _ _ us hl => match us, hl with | [_], _ => rfl
  have g34 := PySem.W.mg_of X G a34
  have F35 := fun_mk (st := s__law_again_right) l35 c35 k35
  have b35 := F35.binds (ps := ["_law_box_here", "_law_palette_here", "_law_turns_here"]) fun _ _ _ _ _ _ us hl => match us, hl with | [_, _, _], _ => rfl
  have g35 := PySem.W.mg_of X G a35
  have F36 := fun_mk (st := s__law_warmer_right) l36 c36 k36
  have b36 := F36.binds (ps := ["_law_box_here", "_law_palette_here", "_law_turns_here"]) fun _ _ _ _ _ _ us hl => match us, hl with | [_, _, _], _ => rfl
  have g36 := PySem.W.mg_of X G a36
  have F37 := fun_mk (st := s__law_two_right) l37 c37 k37
  have b37 := F37.binds (ps := ["_law_box_here", "_law_palette_here", "_law_one", "_law_other"]) fun _ _ _ _ _ _ us hl => match us, hl with | [_, _, _, _], _ => rfl
  have g37 := PySem.W.mg_of X G a37
  have F38 := fun_mk (st := s__law_right) l38 c38 k38
  have b38 := F38.binds (ps := ["_law_box_here"]) fun _ _ _ _ _ _ us hl => match us, hl with | [_], _ => rfl
  have g38 := PySem.W.mg_of X G a38
  have F39 := fun_mk (st := s_law) l39 c39 k39
  refine ⟨PySem.W.fnOf "law" "law" (defArgs s_law) (defBody s_law) (defScope s_law) .none kV39 dc39 pm39 an39 cd39 ct39, fun s v => .of_eq rfl, fun base _ _ => ?_⟩
  have L_Wrd : Wrd K mg := ⟨_, PySem.W.mg_of X G yW, fun H => .inr ⟨_, _, _, lW, rfl, rfl, by show 6 ≤ sizeLine; decide, .cons ⟨_, rfl⟩ (.cons ⟨_, rfl⟩ (.cons ⟨_, rfl⟩ (.cons ⟨_, rfl⟩ (.cons ⟨_, rfl⟩ (.cons ⟨_, rfl⟩ (.nil))))))⟩⟩
  have L_Last : Last mg := ⟨_, PySem.W.mg_of X G y1⟩
  have c__law_box : Cl l.prog w K mg base 1 "_law_box" ((spBox K)) := ⟨_, _, _, ok_box F24 T, g24, F24.kp, b24⟩
  have c__law_take : Cl l.prog w K mg base 1 "_law_take" (spTake) := ⟨_, _, _, ok_take F25 T, g25, F25.kp, b25⟩
  have c__law_names : Cl l.prog w K mg base 2 "_law_names" (spNames) := ⟨_, _, _, ok_names F26 T c__law_take, g26, F26.kp, b26⟩
  have c__law_palette : Cl l.prog w K mg base 3 "_law_palette" ((spPalette K)) := ⟨_, _, _, ok_palette F27 T c__law_take c__law_names, g27, F27.kp, b27⟩
  have c__law_wash : Cl l.prog w K mg base 1 "_law_wash" ((spLWash K)) := ⟨_, _, _, ok_lwash F28, g28, F28.kp, b28⟩
  have c__law_turns : Cl l.prog w K mg base 2 "_law_turns" ((spTurns K)) := ⟨_, _, _, ok_lwturns F30 T c__law_take c__law_wash, g30, F30.kp, b30⟩
  have c__law_when : Cl l.prog w K mg base 2 "_law_when" ((spWhen K)) := ⟨_, _, _, ok_when F33 T c__law_take, g33, F33.kp, b33⟩
  have c_first_behind : Cl l.prog w K mg base 1 "first_behind" ((spFb K)) := ⟨_, _, _, ok_fb F13 T, g13, F13.kp, b13⟩
  have c_colour_row : Cl l.prog w K mg base 1 "colour_row" ((spColour K)) := ⟨_, _, _, ok_colour F7, g7, F7.kp, b7⟩
  have c_wash_for : Cl l.prog w K mg base 2 "wash_for" ((spWash K)) := ⟨_, _, _, ok_wash F8 c_colour_row, g8, F8.kp, b8⟩
  have d_ready_at : ClD l.prog w K mg base 2 "ready_at" [.int 0] ((spReady K)) := ⟨_, _, _, _, ok_ready F9 c_colour_row, g9, F9.kp, b9_1, v9_1⟩
  have e_ready_at : ClD l.prog w K mg base 2 "ready_at" [] ((spReady K)) := ⟨_, _, _, _, ok_ready F9 c_colour_row, g9, F9.kp, b9_0, v9_0⟩
  have c_put_later : Cl l.prog w K mg base 3 "put_later" ((spPl K)) := ⟨_, _, _, ok_pl F15 T e_ready_at, g15, F15.kp, b15⟩
  have c_put_behind : Cl l.prog w K mg base 4 "put_behind" ((spPb K)) := ⟨_, _, _, ok_pb F14 T c_wash_for c_put_later, g14, F14.kp, b14⟩
  have d_broken : ClD l.prog w K mg base 5 "broken" [.int 24] ((spBroken K)) := ⟨_, _, _, _, ok_broken F10 T c_first_behind c_put_behind, g10, F10.kp, b10_1, v10_1⟩
  have e_broken : ClD l.prog w K mg base 5 "broken" [] ((spBroken K)) := ⟨_, _, _, _, ok_broken F10 T c_first_behind c_put_behind, g10, F10.kp, b10_0, v10_0⟩
  have c__law_hours : Cl l.prog w K mg base 1 "_law_hours" ((spLHours K)) := ⟨_, _, _, ok_lhours F29, g29, F29.kp, b29⟩
  have c__law_broken : Cl l.prog w K mg base 2 "_law_broken" ((spLBroken K)) := ⟨_, _, _, ok_lbroken F32 T c__law_hours c__law_wash, g32, F32.kp, b32⟩
  have c__law_same : Cl l.prog w K mg base 5 "_law_same" (spSame K 4) := ⟨_, _, _, ok_same F31 T b31 g31 4, g31, F31.kp, b31⟩
  have c_holds_truth : Cl l.prog w K mg base 12 "holds_truth" (spHt K 11) := ⟨_, _, _, ok_ht F5 T b5 g5 11, g5, F5.kp, b5⟩
  have c_is_told : Cl l.prog w K mg base 13 "is_told" ((spIsTold K)) := ⟨_, _, _, ok_told F4 T c_holds_truth, g4, F4.kp, b4⟩
  have c_shows_broken : Cl l.prog w K mg base 14 "shows_broken" ((spShows K)) := ⟨_, _, _, ok_shows F11 T e_broken c_is_told, g11, F11.kp, b11⟩
  have c_is_row : Cl l.prog w K mg base 1 "is_row" ((spRow K)) := ⟨_, _, _, ok_row F2 T, g2, F2.kp, b2⟩
  have c_colour_names : Cl l.prog w K mg base 1 "colour_names" ((spCn K)) := ⟨_, _, _, ok_cn F6 T, g6, F6.kp, b6⟩
  have c_is_number : Cl l.prog w K mg base 1 "is_number" ((spNum K)) := ⟨_, _, _, ok_num F1 T, g1, F1.kp, b1⟩
  have c_is_turn : Cl l.prog w K mg base 2 "is_turn" ((spTurn K)) := ⟨_, _, _, ok_turn F17 T L_Last c_is_row c_colour_names c_is_number, g17, F17.kp, b17⟩
  have c_is_rising : Cl l.prog w K mg base 1 "is_rising" ((spRis K)) := ⟨_, _, _, ok_ris F3 T, g3, F3.kp, b3⟩
  have c_is_turns : Cl l.prog w K mg base 3 "is_turns" ((spIsTurns K)) := ⟨_, _, _, ok_turns F16 T c_is_turn c_is_rising, g16, F16.kp, b16⟩
  have c_washing_behind : Cl l.prog w K mg base 3 "washing_behind" ((spWbh K)) := ⟨_, _, _, ok_wbh F23 T c_wash_for, g23, F23.kp, b23⟩
  have c_marks_of : Cl l.prog w K mg base 4 "marks_of" ((spMarks K)) := ⟨_, _, _, ok_marks F22 T L_Wrd c_colour_row c_washing_behind e_ready_at, g22, F22.kp, b22⟩
  have c_stretches : Cl l.prog w K mg base 5 "stretches" ((spStr K)) := ⟨_, _, _, ok_str F21 T c_marks_of, g21, F21.kp, b21⟩
  have c_fault_between : Cl l.prog w K mg base 3 "fault_between" ((spBtw K)) := ⟨_, _, _, ok_btw F19 T c_wash_for, g19, F19.kp, b19⟩
  have c_fault_within : Cl l.prog w K mg base 3 "fault_within" ((spWit K)) := ⟨_, _, _, ok_wit F20 T e_ready_at, g20, F20.kp, b20⟩
  have c_fault_of : Cl l.prog w K mg base 4 "fault_of" ((spFault K)) := ⟨_, _, _, ok_fault F18 T c_fault_between c_fault_within, g18, F18.kp, b18⟩
  have c__law_again_right : Cl l.prog w K mg base 15 "_law_again_right" ((spAgain K)) := ⟨_, _, _, ok_again F35 T c__law_take c__law_when e_broken c__law_broken c__law_same c_shows_broken c_is_turns c_stretches c_fault_of, g35, F35.kp, b35⟩
  have c_last_warm : Cl l.prog w K mg base 4 "last_warm" ((spLast K)) := ⟨_, _, _, ok_last F12 T c_first_behind c_wash_for d_ready_at, g12, F12.kp, b12⟩
  have c__law_warmer_right : Cl l.prog w K mg base 6 "_law_warmer_right" ((spWarmer K)) := ⟨_, _, _, ok_warmer F36 T c__law_take c__law_when e_broken c_last_warm, g36, F36.kp, b36⟩
  have c__law_warmth : Cl l.prog w K mg base 2 "_law_warmth" (spWarmth) := ⟨_, _, _, ok_warmth F34 T c__law_take, g34, F34.kp, b34⟩
  have c__law_two_right : ClG l.prog w K mg base 6 "_law_two_right" [] ((spTwo K)) := ⟨_, _, _, [], ok_two F37 T c__law_take c__law_when c__law_warmth e_broken, g37, F37.kp, b37, .nil⟩
  have c__law_right : ClG l.prog w K mg base 16 "_law_right" [] (spRight) := ⟨_, _, _, [], ok_right F38 T c__law_take c__law_palette c__law_turns c__law_again_right c__law_warmer_right c__law_two_right, g38, F38.kp, b38, .nil⟩
  exact ok_law F39 T c__law_box c__law_right
end Pot
open PySem PySem.W PyProof.Rows
set_option maxRecDepth 100000 in
set_option maxHeartbeats 0 in
theorem PySem.Challenge.cw_potround_k34_whole_pots_that_break_again_holds : PySem.Challenge.rw_potround_k34_whole_pots_that_break_again.Holds := by
  w_on; o_law; k_head; (case hw => w_witness2)
  k_fill
  refine Pot.walkG (l := PySem.Challenge.rw_potround_k34_whole_pots_that_break_again) (n := 63) (k := 17) (x := "_law_script") (sp := fun w => Pot.spLaw _) rfl (by decide) rfl ⟨rfl, by decide, by decide⟩ (fun w h Y => PySem.W.kIn_of Y) ?F (fun _ _ a ns hl _ hS => ⟨a, ns, rfl, hS, hl, fun _ => rfl⟩)
  case F =>
    intro w mg fa h KX G hmg
    refine' Pot.all_mk KX G hmg ?a1 ?l1 ?c1 ?k1 ?a2 ?l2 ?c2 ?k2 ?a3 ?l3 ?c3 ?k3 ?a4 ?l4 ?c4 ?k4 ?a5 ?l5 ?c5 ?k5 ?a6 ?l6 ?c6 ?k6 ?a7 ?l7 ?c7 ?k7 ?a8 ?l8 ?c8 ?k8 ?a9 ?l9 ?c9 ?k9 ?t9 ?a10 ?l10 ?c10 ?k10 ?t10 ?a11 ?l11 ?c11 ?k11 ?a12 ?l12 ?c12 ?k12 ?a13 ?l13 ?c13 ?k13 ?a14 ?l14 ?c14 ?k14 ?a15 ?l15 ?c15 ?k15 ?a16 ?l16 ?c16 ?k16 ?a17 ?l17 ?c17 ?k17 ?a18 ?l18 ?c18 ?k18 ?a19 ?l19 ?c19 ?k19 ?a20 ?l20 ?c20 ?k20 ?a21 ?l21 ?c21 ?k21 ?a22 ?l22 ?c22 ?k22 ?a23 ?l23 ?c23 ?k23 ?a24 ?l24 ?c24 ?k24 ?a25 ?l25 ?c25 ?k25 ?a26 ?l26 ?c26 ?k26 ?a27 ?l27 ?c27 ?k27 ?a28 ?l28 ?c28 ?k28 ?a29 ?l29 ?c29 ?k29 ?a30 ?l30 ?c30 ?k30 ?a31 ?l31 ?c31 ?k31 ?a32 ?l32 ?c32 ?k32 ?a33 ?l33 ?c33 ?k33 ?a34 ?l34 ?c34 ?k34 ?a35 ?l35 ?c35 ?k35 ?a36 ?l36 ?c36 ?k36 ?a37 ?l37 ?c37 ?k37 ?a38 ?l38 ?c38 ?k38 ?a39 ?l39 ?c39 ?k39 ?z1 ?z2 ?z3 ?z4 ?z5 ?z6 ?z7 ?z8 ?z9 ?z10 ?z11 ?z12 ?z13 ?z14 ?z15 ?z16 ?z17 ?z18 ?z19 ?z20 ?y1 ?yW ?lW
    (case a1 => k_is)
    (case l1 => k_is)
    (case c1 => k_is)
    (case k1 => k_is)
    (case a2 => k_is)
    (case l2 => k_is)
    (case c2 => k_is)
    (case k2 => k_is)
    (case a3 => k_is)
    (case l3 => k_is)
    (case c3 => k_is)
    (case k3 => k_is)
    (case a4 => k_is)
    (case l4 => k_is)
    (case c4 => k_is)
    (case k4 => k_is)
    (case a5 => k_is)
    (case l5 => k_is)
    (case c5 => k_is)
    (case k5 => k_is)
    (case a6 => k_is)
    (case l6 => k_is)
    (case c6 => k_is)
    (case k6 => k_is)
    (case a7 => k_is)
    (case l7 => k_is)
    (case c7 => k_is)
    (case k7 => k_is)
    (case a8 => k_is)
    (case l8 => k_is)
    (case c8 => k_is)
    (case k8 => k_is)
    (case a9 => k_is)
    (case l9 => k_is)
    (case c9 => k_is)
    (case k9 => k_is)
    (case t9 => k_is)
    (case a10 => k_is)
    (case l10 => k_is)
    (case c10 => k_is)
    (case k10 => k_is)
    (case t10 => k_is)
    (case a11 => k_is)
    (case l11 => k_is)
    (case c11 => k_is)
    (case k11 => k_is)
    (case a12 => k_is)
    (case l12 => k_is)
    (case c12 => k_is)
    (case k12 => k_is)
    (case a13 => k_is)
    (case l13 => k_is)
    (case c13 => k_is)
    (case k13 => k_is)
    (case a14 => k_is)
    (case l14 => k_is)
    (case c14 => k_is)
    (case k14 => k_is)
    (case a15 => k_is)
    (case l15 => k_is)
    (case c15 => k_is)
    (case k15 => k_is)
    (case a16 => k_is)
    (case l16 => k_is)
    (case c16 => k_is)
    (case k16 => k_is)
    (case a17 => k_is)
    (case l17 => k_is)
    (case c17 => k_is)
    (case k17 => k_is)
    (case a18 => k_is)
    (case l18 => k_is)
    (case c18 => k_is)
    (case k18 => k_is)
    (case a19 => k_is)
    (case l19 => k_is)
    (case c19 => k_is)
    (case k19 => k_is)
    (case a20 => k_is)
    (case l20 => k_is)
    (case c20 => k_is)
    (case k20 => k_is)
    (case a21 => k_is)
    (case l21 => k_is)
    (case c21 => k_is)
    (case k21 => k_is)
    (case a22 => k_is)
    (case l22 => k_is)
    (case c22 => k_is)
    (case k22 => k_is)
    (case a23 => k_is)
    (case l23 => k_is)
    (case c23 => k_is)
    (case k23 => k_is)
    (case a24 => k_is)
    (case l24 => k_is)
    (case c24 => k_is)
    (case k24 => k_is)
    (case a25 => k_is)
    (case l25 => k_is)
    (case c25 => k_is)
    (case k25 => k_is)
    (case a26 => k_is)
    (case l26 => k_is)
    (case c26 => k_is)
    (case k26 => k_is)
    (case a27 => k_is)
    (case l27 => k_is)
    (case c27 => k_is)
    (case k27 => k_is)
    (case a28 => k_is)
    (case l28 => k_is)
    (case c28 => k_is)
    (case k28 => k_is)
    (case a29 => k_is)
    (case l29 => k_is)
    (case c29 => k_is)
    (case k29 => k_is)
    (case a30 => k_is)
    (case l30 => k_is)
    (case c30 => k_is)
    (case k30 => k_is)
    (case a31 => k_is)
    (case l31 => k_is)
    (case c31 => k_is)
    (case k31 => k_is)
    (case a32 => k_is)
    (case l32 => k_is)
    (case c32 => k_is)
    (case k32 => k_is)
    (case a33 => k_is)
    (case l33 => k_is)
    (case c33 => k_is)
    (case k33 => k_is)
    (case a34 => k_is)
    (case l34 => k_is)
    (case c34 => k_is)
    (case k34 => k_is)
    (case a35 => k_is)
    (case l35 => k_is)
    (case c35 => k_is)
    (case k35 => k_is)
    (case a36 => k_is)
    (case l36 => k_is)
    (case c36 => k_is)
    (case k36 => k_is)
    (case a37 => k_is)
    (case l37 => k_is)
    (case c37 => k_is)
    (case k37 => k_is)
    (case a38 => k_is)
    (case l38 => k_is)
    (case c38 => k_is)
    (case k38 => k_is)
    (case a39 => k_is)
    (case l39 => k_is)
    (case c39 => k_is)
    (case k39 => k_is)
    (case z1 => k_is)
    (case z2 => k_is)
    (case z3 => k_is)
    (case z4 => k_is)
    (case z5 => k_is)
    (case z6 => k_is)
    (case z7 => k_is)
    (case z8 => k_is)
    (case z9 => k_is)
    (case z10 => k_is)
    (case z11 => k_is)
    (case z12 => k_is)
    (case z13 => k_is)
    (case z14 => k_is)
    (case z15 => k_is)
    (case z16 => k_is)
    (case z17 => k_is)
    (case z18 => k_is)
    (case z19 => k_is)
    (case z20 => k_is)
    (case y1 => k_is)
    (case yW => k_is)
    (case lW => k_is)
