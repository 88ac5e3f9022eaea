import PyProof.Rows.All
import Wide.All
import OpenK.AllK
import Wide.FinOn
import HandS.ForMost
import HandS.Strs
import HandS.SetFor
import HandS.Zip
import PyProof.ReprRoads
import HandS.FStrTup
import HandS.ForExc
import HandS.IsInst
import HandS.Evl
import HandS.Conv
import HandS.Flow
import HandS.Style
import HandS.Sort
import HandS.Walk
import HandS.Codes
import HandS.StrMore
import HandS.TupAny
import HandS.Defaults
import KE.KEqSeq
import HandS.More
import HandS.WideBits
import PyProof.SetRoads
import HandS.Deep
import PyProof.StrBlock2
import KE.GoesNew
import KE.SortData
import PyProof.Rows.StrCase
import PyProof.Rows.ReprOcc
import PyProof.FitsInt
import PyProof.Rows.SortShellAny
import KE.KTupSum
import PySem.Challenge.RW_potround_k14_hours_of_each_word
set_option Elab.async false
set_option linter.all false
set_option maxRecDepth 100000
namespace Pot
open PySem PySem.Spec PyProof.Rows L2 PySem.W PySem.Calls
/-! ### set(xs) of a list of ints -/
/-- the object that set() makes first -/
abbrev emptySet (w : World) : Obj := { cls := .type "set", dict := none, data := .set #[] 0 (.fresh 0 0 (!w.params.followText "set-order")) }
section
variable {P : Program} {w : World} {A : Around} {E : Value → Shared → Prop} {s : Shared}
/-- what is wanted behind the filling -/
def Filled (w : World) (s : Shared) (ns : List Int) (s' : Shared) : Prop := ∃ h' tk c, s' = { s with heap := h', toks := tk } ∧ SetR w h' s.heap.objs.size (fun j => decide (j ∈ ns)) c ∧ c ≤ ns.length ∧ ∀ b o, s.heap.get? b = some o → h'.get? b = some o
set_option maxHeartbeats 4000000 in
theorem call_set_li {l : Addr} {items : Array Value} (ns : List Int) {Q : Value → Shared → Prop} (hh : A.handled = none) (hl : s.heap.IsList l items) (hit : IntsAre items.toList ns) (hb : ns.length + 1 < scanBound)
    (hq : ∀ s', Filled w s ns s' → Q (.ref s.heap.objs.size) s') : wpAny (model P w) A (call (.type "set") [.ref l]) Q E s := by
  have size : items.size = ns.length := by
    rw [← Array.length_toList]; exact IntsAre.length hit
  have made := F.called_set.made
  have below := F.called_set.sub
  obtain ⟨_, _, chain⟩ := F.called_set.mro
  have nt := F.called_set.notType
  have cc := F.called_set.canCreate
  have ck := F.typeCall_set_1 (.ref l)
  refine wpAny_call (codeAny_of_tree (show wpAny _ _ (callAny (.type "set") _) _ _ _ from wpAny_pure ⟨Code.quiet_builtin _ (by decide +kernel), codeAny_builtin F.entry_type_call ?_⟩))
  rw [Around.under_plain (weight_type_call_type "set" [.ref l] []) rfl]
  repeat (any_goals (first | assumption | wp_step))
  refine codeAny_mono (code_set_led1 (.ref l) (E := E) (Q₁ := fun obj z => obj = .ref s.heap.objs.size ∧ z = { s with heap := s.heap.push (emptySet w) }) ⟨rfl, rfl⟩) fun r z hr => ?_
  rcases r with _ | fl
  case error => exact hr
  cases fl <;> first | exact hr.elim | skip
  obtain ⟨rfl, rfl⟩ := hr
  have at0 : (s.heap.push (emptySet w)).get? s.heap.objs.size = some (emptySet w) := Heap.get?_push_size _ rfl
  have ty0 : Shared.TypeIs { s with heap := s.heap.push (emptySet w) } (.ref s.heap.objs.size) "set" := ⟨_, at0, rfl⟩
  have li := F.called_set.init.lookup
  have bi := F.called_set.init.bind (.ref s.heap.objs.size)
  repeat (any_goals (first | assumption | wp_step))
  refine codeAny_mono (codeAny_call_builtin (R := wants (fun r z => r = .none ∧ Filled w s ns z) E) F.called_set.init.plain F.entry_set_init (check_set_init_1 ty0 ?_)) fun r z hz => ?_
  · obtain ⟨⟨_, od, _, os⟩, hol, hcl, nl, hdl⟩ := hl
    simp only at hcl hdl
    subst hcl
    subst hdl
    have keep : (s.heap.push (emptySet w)).get? l = some { cls := .type "list", dict := od, data := .seq items nl, slots := os } := Heap.get?_push_of_some _ hol
    have s1 := F.sub_list_set
    have s2 := F.sub_list_frozenset
    have s3 : (Value.type "list" == Value.type "dict") = false := by decide
    have isl : (s.heap.push (emptySet w)).IsList l items := ⟨_, keep, rfl, nl, rfl⟩
    unfold Builtin.«set.__init__» noKeywords Builtin.Frozenset.updateFrom
    generalize hPI : pyIter = PI
    wp_walk
    subst hPI
    refine wpAny_pyIter_list isl (wpAny_bind (wpAny_runValue ?_))
    have lt : l < s.heap.objs.size := Heap.lt_size hol
    have sz : (s.heap.push (emptySet w)).objs.size = s.heap.objs.size + 1 := Heap.size_push ..
    have ne1 : l ≠ (s.heap.push (emptySet w)).objs.size := by rw [sz]; exact Nat.ne_of_lt (Nat.lt_succ_of_lt lt)
    have ne2 : s.heap.objs.size ∉ [(s.heap.push (emptySet w)).objs.size, l] := by
      rw [sz]
      intro z
      rcases List.mem_cons.mp z with z | z
      · exact absurd z (Nat.ne_of_lt (Nat.lt_succ_self _))
      · exact absurd (List.mem_singleton.mp z) (Nat.ne_of_gt lt)
    have each : ∀ (i : Nat) (v : Value), items[i]? = some v → ∃ k t, ns[i]? = some k ∧ v = .int k t := fun i v hv => by
      have hi : i < ns.length := size ▸ (Array.getElem?_eq_some_iff.mp hv).1
      obtain ⟨t, e⟩ := IntsAre.int_at hit i v (by rw [Array.getElem?_toList]; exact hv)
      exact ⟨ns[i], t, List.getElem?_eq_getElem hi, by rw [e, List.getD_eq_getElem?_getD, List.getElem?_eq_getElem hi]; rfl⟩
    refine set_update_ints ((Walks.list (show A.in1.in1.in1.handled = none by simp [hh]) _ l ne1 items).toS) s.heap.objs.size ne2 ns size hb each (items.size - 0) 0 _ (by omega) (Nat.zero_le _) ⟨⟨_, Heap.get?_push_size _ rfl, rfl, rfl⟩, isl.push _⟩ ⟨0, Nat.le_refl 0, setR_new_at (Heap.get?_push_of_some _ at0)⟩ fun s' c hm hc hS => ?_
    obtain ⟨h', g, d, tk, o⟩ := s'
    cases (show g = s.gens from hm.gens)
    cases (show d = s.drawn from hm.drawn)
    cases (show o = s.os from hm.os)
    refine (show wpAny _ _ _ _ _ _ from wpAny_pure (show wpAny _ _ (ret Value.none) _ _ _ from wpAny_pure ⟨rfl, h', tk, c, rfl, hS, size ▸ hc, fun b o e => ?_⟩))
    have hb0 : b < s.heap.objs.size := Heap.lt_size e
    refine hm.heap b o (fun z => ?_) (Heap.get?_push_of_some _ (Heap.get?_push_of_some _ e))
    rcases List.mem_cons.mp z with z | z
    · exact absurd z (Nat.ne_of_lt hb0)
    · exact absurd ((List.mem_singleton.mp z).trans sz) (Nat.ne_of_lt (Nat.lt_succ_of_lt hb0))
  · rcases r with _ | fl
    case error => exact hz
    cases fl <;> first | exact hz.elim | skip
    obtain ⟨rfl, f⟩ := hz
    obtain ⟨h', tk, c, rfl, hS, hc, k⟩ := id f
    repeat (any_goals (first | assumption | wp_step))
    exact hq _ ⟨_, _, _, rfl, hS, hc, k⟩
end
section
variable {X : Cx}
/-- set(xs), at most 60 ints: a set of just these -/
def rSetLi (K : PySem.W.Frag) (w : World) : List V → Hp → VK → Prop := fun xs H Q => ∃ (a : Addr) (ns : List Int), xs = [V.ref a] ∧ SqL K H a (ns.map V.int) ∧ ns.length ≤ 1000 ∧
  ∀ (p : Addr) (c : Nat), H p = none → c ≤ ns.length → Q (.ref p) (upd H p (SetO w p (fun k => decide (k ∈ ns)) c))
theorem cr_setLi (hc : X.calm = true) : CallR X (.type "set") (rSetLi X.K X.w) := by
  intro pins s σ H vs us Q I r h
  obtain ⟨a, ns, rfl, hS, hl, q⟩ := h
  rw [Vals.ref1 r]
  obtain ⟨its, rv, pl, hz⟩ := I.list hS
  refine call_set_li ns (I.ok.hd hc) pl.isList (by simpa using Vals.ints rv) (by unfold scanBound; omega) fun s' f => ?_
  obtain ⟨h', tk, c, rfl, R, hcn, k⟩ := f
  have hn : H s.heap.objs.size = none := I.hok.fresh (Nat.le_refl _)
  have J : Inv X pins σ (upd H s.heap.objs.size (SetO X.w s.heap.objs.size (fun k => decide (k ∈ ns)) c)) { s with heap := h', toks := tk } := I.laid (t' := tk) k (Nat.le_refl _) (setO_new R)
  exact ⟨.ref s.heap.objs.size, _, J, rfl, q _ _ hn hcn⟩
end
end Pot

namespace Pot
open PySem PySem.Spec PyProof.Rows L2
/-! ### defs that are called where no text of a thing is under way -/
structure FnG (P : Program) (w : World) (K : PySem.W.Frag) (mg : Str → Option Value) (base : Heap) (k : Nat) (f : Addr) (fd : FuncData) (ps : List Str) (sp : Sp) : Prop where
  many : ∀ vs H Q E, sp vs H Q E → vs.length = ps.length
  does : ∀ (A : Around) (outer : List Env) (s : Shared) (H : Hp) (args : Args) (us : List Value) (vs : List V) (Q : VK), A.guards = some [] → Room k A → Env0 P w K mg base A outer s H →
    BindsTo s fd args (ps.zip us) → Vals vs us → sp vs H Q E0 → codeAny (model P w) A (.call (.ref f) args) (CR CX0 outer P w H s Q E0) s
section
variable {P : Program} {w : World} {K : PySem.W.Frag} {mg : Str → Option Value} {base : Heap}
theorem FnG.of {k : Nat} {f : Addr} {fd : FuncData} {ps : List Str} {sp : Sp} (F : FnOk P w K mg base CX0 k f fd ps sp) : FnG P w K mg base k f fd ps sp :=
  ⟨F.len, fun A outer s H args us vs Q _ hr e hb r h => F.run A outer s H args us vs Q E0 hr e hb r h⟩
theorem okG {x qual : Str} {st : Stmt} {f : Addr} {fd : FuncData} {N ps : List Str} {k : Nat} {sp : Sp} (F : Fun K x qual st f fd) (S : FnScope N ps (defScope st)) (many : ∀ vs H Q E, sp vs H Q E → vs.length = ps.length)
    (body : ∀ (cdv : Value) (A : Around) (outer : List Env) (s : Shared) (H : Hp) (vs : List V) (Q : VK), A.guards = some [] → Room k (A.deeper (envOfC qual (defScope st) s.heap.objs.size f cdv)) → sp vs H Q E0 →
      ∃ t, PSs (cxOf CX0 P w K mg base N qual (defScope st) f cdv A outer s H E0).nox (defBody st) t ∧ t { nx := fun _ H' => Q .non H', rt := Q } (start N vs) H) : FnG P w K mg base (k + 1) f fd ps sp := by
  obtain ⟨oc, od, kV, doc, pm, an, cdv, ct, osl, rfl, at_, code⟩ := F.ex
  refine ⟨many, fun A outer s H args us vs Q gd room e0 bind rel want => ?_⟩
  have kin : K.In s.heap := e0.mod.kin.keeps fun b o e => (e0.bs b o e).1
  have nolim : s.heap.NoLimit := e0.mod.nolimit.keeps fun b o e => (e0.bs b o e).1
  refine codeAny_call_function room.depth (kin _ _ at_) rfl S.co S.gen rfl (PySem.W.codeRec_of kin code) (bind _ _ _ _ (wpAny_newFunctionEnv_cells S.kind (fun y hy => ?_) fun env he s1 x => ?_))
  · obtain ⟨n, v⟩ := y
    exact (S.par n (List.of_mem_zip hy).1).imp id fun q => ⟨q, PySem.W.cellsFrom_some _ _ _ (.inl q)⟩
  · subst he
    obtain ⟨t, ht, hq⟩ := body cdv A outer s H vs Q gd (room.deeper _) want
    have I : Inv (cxOf CX0 P w K mg base N qual (defScope st) f cdv A outer s H E0) [] (start N vs) H s1 := inv_start S room.hd e0 (many _ _ _ _ want) rel x
    refine ⟨nolim.keeps x.toInCall.keep, codeAny_func (wpAny_mono (ht.nox.run [] s1 (start N vs) H _ I hq) (fun fl s' hs => ?_) fun _ _ z => z)⟩
    cases fl with
    | ret u =>
      obtain ⟨v, σ', H', J, rv, q⟩ := hs
      exact ⟨v, H', J.os, J.bare, J.base, J.hok, rv, q⟩
    | next =>
      obtain ⟨σ', H', J, q⟩ := hs
      exact ⟨V.non, H', J.os, J.bare, J.base, J.hok, rfl, q⟩
    | brk => obtain ⟨_, _, _, q⟩ := hs; exact q.elim
    | cont => obtain ⟨_, _, _, q⟩ := hs; exact q.elim
/-! calls -/
/-- a def that may be called by its name where no text is under way -/
def ClG (P : Program) (w : World) (K : PySem.W.Frag) (mg : Str → Option Value) (base : Heap) (k : Nat) (x : Str) (ds : List V) (sp : Sp) : Prop :=
  ∃ (f : Addr) (fd : FuncData) (ps : List Str) (dus : List Value), FnG P w K mg base k f fd ps sp ∧ mg x = some (.ref f) ∧ PySem.W.keepIn K (.ref f) = true ∧ Binds K fd ps dus ∧ Vals ds dus
theorem pe_clG {X : Cx} {k j : Nat} {x : Str} {ds : List V} {sp : Sp} {e : Expr} {es : List Expr} {t : TA} {p pos : Pos} (c : ClG X.prog X.w X.K X.mg X.base k x ds sp) (hr : Room j X.A) (gd : X.A.guards = some []) (hk : k ≤ j) (hg : Gl X x) (ha : PA X (e :: es) t)
    (hdb : (x == ("__debug__" : Str)) = false := by decide) (he : starEach (e :: es) X.env = (false, eval e X.env) :: starEach es X.env := by rfl) (hpl : (backTo pos (starEach es X.env)).any (·.1) = false := by rfl) :
    PE X (.Call (.Name x p) (e :: es) [] pos) (tCall sp ds E0 t) := by
  obtain ⟨f, fd, ps, dus, G, named, kept, binds, dv⟩ := c
  refine ⟨fun pins s σ H Q I h => wpAny_Call_Name_kw (ld_glob I hg named (PySem.W.callWith_K (h₀ := X.base) I.ok.mod.kin kept (thn (ha.run pos pins s σ H _ I h) fun us s1 hh => ?_) he hpl) hdb)⟩
  obtain ⟨vs, H1, I1, r, q⟩ := hh
  refine ⟨I1.kIn, ?_⟩
  have rel := r.append dv
  have n : (us ++ dus).length = ps.length := rel.length ▸ G.many _ _ _ _ q
  refine wpAny_call (codeAny_mono (G.does X.A X.stack s1 H1 ⟨us, []⟩ (us ++ dus) (vs ++ ds) Q gd (hr.mono hk) I1.env0 (binds s1 us I1.kIn n) rel q) fun res s' hq => ?_)
  rcases res with _ | fl
  case error => exact (show False from hq).elim
  cases fl <;> first | exact I1.after hq | exact (show False from hq).elim
/-! the law's own call -/
theorem law_callG {mb : Str → Option Value} {k : Nat} {fa a : Addr} {fd : FuncData} {x : Str} {sp : Sp} {s : Shared} {vs : List Value} {ns : List Int} (kin : K.In s.heap) (glob : s.heap.Ns mainGlobals mg) (blt : s.heap.Ns builtinsNs mb)
    (boot : ∀ y : Str, y ≠ "__name__" → mb y = bootBuiltins y) (lim : s.heap.NoLimit) (gens : s.gens = #[]) (obj : s.heap.get? a = some { cls := .type "list", data := .seq vs.toArray }) (whole : IntsAre vs ns) (small : ns.length ≤ sizeLine) (room : Room k callerA)
    (F : ∀ base : Heap, K.In base → base.Ns mainGlobals mg → FnG P w K mg base k fa fd [x] sp) (bind : ∀ (s : Shared) (u : Value), BindsTo s fd ⟨[u], []⟩ [(x, u)])
    (want : ∀ H : Hp, Only H → SqL K H a (ns.map V.int) → sp [.ref a] H (fun v _ => v = .bl true) E0) :
    codeAny (model P w) callerA (.call (.ref fa) ⟨[.ref a], []⟩) (fun r s' => r = .ok (.ret (.bool true)) ∧ OldK s.heap s'.heap ∧ s'.os = s.os ∧ AllBare s'.gens) s := by
  have rv := vals_ints whole
  have nv := whole.length
  -- which heap is told: the script, locked, where it isn't one of the written part
  obtain ⟨H, only, seq, fine, alone, apart⟩ : ∃ H : Hp, Only H ∧ SqL K H a (ns.map V.int) ∧ HOk P w H s.heap ∧ (∀ b u, H b = some u → b = a) ∧ (∀ u, H a = some u → K.lookup a = none) := by
    cases lk : K.lookup a with
    | some o =>
      have same := kin a o lk
      rw [obj] at same
      cases same
      exact ⟨fun _ => none, fun _ => .inl rfl, .inr ⟨_, vs.toArray, _, lk, rfl, rfl, rfl, by rw [List.size_toArray, nv]; exact small, by simpa using rv⟩, (fun b u z => nomatch (show (none : Option HO) = some u from z)), (fun b u z => nomatch (show (none : Option HO) = some u from z)), fun u z => nomatch (show (none : Option HO) = some u from z)⟩
    | none =>
      have hit : ∀ b u, (if b = a then some (HO.frz { cls := .type "list", data := .seq vs.toArray } (.lst (ns.map V.int))) else none) = some u → b = a ∧ u = .frz { cls := .type "list", data := .seq vs.toArray } (.lst (ns.map V.int)) := fun b u z => by
        split at z
        · cases z; exact ⟨‹_›, rfl⟩
        · cases z
      refine ⟨fun b => if b = a then some (.frz { cls := .type "list", data := .seq vs.toArray } (.lst (ns.map V.int))) else none, fun b => ?_, .inl (.inr ⟨_, if_pos rfl⟩), fun b u z => ?_, fun b u z => (hit b u z).1, fun _ _ => rfl⟩
      · by_cases hb : b = a
        · exact .inr ⟨_, _, if_pos hb⟩
        · exact .inl (if_neg hb)
      · obtain ⟨rfl, rfl⟩ := hit b u z
        exact ⟨obj, by rw [List.length_map]; exact small, vs, _, rv, obj⟩
  have hid : ∀ {b : Addr} {o : Obj}, s.heap.get? b = some o → (b = a → H a = none) → (hidT s.heap H).get? b = some o := fun {b o} e n => hidT_get e (by
    cases q : H b with
    | none => rfl
    | some u =>
      have e2 := alone b u q
      subst e2
      rw [n rfl] at q
      cases q)
  have kinB : K.In (hidT s.heap H) := fun b o e => hid (kin b o e) fun z => by
    subst z
    cases q : H b with
    | none => rfl
    | some u => rw [apart u q] at e; cases e
  have ns_ : ∀ {b : Addr} {m : Str → Option Value}, s.heap.Ns b m → (hidT s.heap H).Ns b m := fun {b m} h => by
    obtain ⟨o, es, ep, e, d, r⟩ := h
    refine ⟨o, es, ep, hid e fun z => ?_, d, r⟩
    subst z
    rw [obj] at e
    cases e
    exact nomatch (show Data.seq vs.toArray _ = Data.dict es ep from d)
  have md : Mod K mg (hidT s.heap H) := ⟨kinB, ns_ glob, ⟨mb, ns_ blt, boot⟩, by obtain ⟨mc, h1, h2⟩ := lim; exact ⟨mc, ns_ h1, h2⟩⟩
  have e0 : Env0 P w K mg (hidT s.heap H) callerA [] s H := ⟨rfl, md, fun b o e => of_hidT e, Nat.le_of_eq (hidT_size _ _), trivial, (fun b hb => nomatch (show b ∈ ([] : List Addr) from hb)), fine, .of_eq gens⟩
  refine codeAny_mono ((F _ kinB (ns_ glob)).does callerA [] s H ⟨[.ref a], []⟩ [.ref a] [.ref a] _ rfl room e0 (bind s (.ref a)) (.cons rfl .nil) (want H only seq)) fun res s' h => ?_
  rcases res with _ | fl
  case error => exact (show False from h).elim
  cases fl <;> first | exact (show False from h).elim | skip
  obtain ⟨v, H', os, bare, un, fine', rel, q⟩ := h
  cases (show v = .bl true from q)
  cases (show _ = Value.bool true from rel)
  refine ⟨rfl, OldK.of_keep fun b o e => ?_, os, bare⟩
  cases q : H b with
  | none => exact un.keep b o e q (fun z => nomatch (show b ∈ ([] : List Addr) from z)) (fun z => nomatch z)
  | some u =>
    rcases only b with z | ⟨ob, xs, z⟩
    · rw [q] at z; cases z
    · obtain ⟨e1, _⟩ := fine b _ z
      obtain ⟨e2, _⟩ := fine' b _ (un.frzs b ob _ z)
      rw [e] at e1; cases e1
      exact e2
end
theorem walkG {l : PySem.W.OpenLaw} {n k : Nat} {q : Program} {loose : List Str} {XP : (Str → Option Value) → Heap → Prop} {YP : World → Heap → Prop} {d : DefRec} {K : Params → PySem.W.Frag} {sp : World → Sp} {x : Str}
    (most : l.most = some n) (fits : n ≤ sizeLine) (plain : d.params.defaults = []) (room : Room k callerA) (part : ∀ (w : World) (h : Heap), YP w h → (K w.params).In h)
    (F : ∀ (w : World) (mg : Str → Option Value) (fa : Addr) (h : Heap), (K w.params).In h → h.Ns mainGlobals mg → mg d.name = some (.ref fa) →
      ∃ fd : FuncData, (∀ (s : Shared) (u : Value), BindsTo s fd ⟨[u], []⟩ [(x, u)]) ∧ ∀ base : Heap, (K w.params).In base → base.Ns mainGlobals mg → FnG l.prog w (K w.params) mg base k fa fd [x] (sp w))
    (want : ∀ (w : World) (H : Hp) (a : Addr) (ns : List Int), ns.length ≤ n → Only H → SqL (K w.params) H a (ns.map V.int) → sp w [.ref a] H (fun v _ => v = .bl true) E0) :
    PySem.W.WalkO q loose XP YP l.row.toRowW d [] (fun f vs => PySem.call f vs) := by
  refine Att.attach_call most plain fun w s₀ s₁ mg mb fa o pm cd doc a vs ns G Y _ _ _ named obj whole len gens => ?_
  obtain ⟨fd, bind, hF⟩ := F w mg fa _ (part w _ Y) G.T.g named
  exact law_callG (part w _ Y) G.T.g G.T.b G.T.builtins G.T.nolimit gens obj whole (Nat.le_trans len fits) room hF bind fun H only seq => want w H a ns len only seq
end Pot

namespace Pot
open PySem PySem.Spec PyProof.Rows L2
/-! ### repr of what is made of numbers, texts, truths, None, lists and tuples -/
section
variable {K : PySem.W.Frag}
mutual
theorem dp_noDict {H : Hp} : ∀ {v : V} {d : PyData}, Dp K H v d → d.hasDict = false
  | _, _, .non => rfl
  | _, _, .bl _ => rfl
  | _, _, .int _ => rfl
  | _, _, .str _ => rfl
  | _, _, .lst _ a => dpAll_noDict a
  | _, _, .tup _ a => dpAll_noDict a
theorem dpAll_noDict {H : Hp} : ∀ {vs : List V} {ds : List PyData}, DpAll K H vs ds → PyData.hasDictAll ds = false
  | _, _, .nil => rfl
  | _, _, .cons h t => by
    show (PyData.hasDict _ || PyData.hasDictAll _) = false
    rw [dp_noDict h, dpAll_noDict t]
    rfl
end
/-- how long its text may be, told roughly -/
def costAll : List PyData → Nat
  | [] => 0
  | x :: xs => cost x + 2 + costAll xs
where cost : PyData → Nat
  | .none => 4
  | .bool _ => 5
  | .int _ => 1921
  | .str x => 10 * x.length + 2
  | .list xs => costAll xs + 3
  | .tuple xs => costAll xs + 3
  | .dict _ => 0
/-- what repr is asked of here: its texts of plain signs -/
def fineAll : List PyData → Prop
  | [] => True
  | x :: xs => fine x ∧ fineAll xs
where fine : PyData → Prop
  | .none => True
  | .bool _ => True
  | .int i => i.natAbs.log2 < 1920
  | .str x => ∀ c ∈ x.cps.toList, c < 16 ^ 8
  | .list xs => fineAll xs
  | .tuple xs => fineAll xs
  | .dict _ => False
theorem from_len : ∀ (ts : List Str) (k : Nat) (acc : Str), (textFrom k acc ts).length ≤ acc.length + piled ts
  | [], k, acc => by rw [piled_nil]; exact Nat.le_refl _
  | t :: r, k, acc => by
    have ih := from_len r (k + 1)
    rw [piled_cons]
    unfold textFrom
    refine Nat.le_trans (ih _) ?_
    rw [strLen_append]
    split
    · rw [strLen_append]
      have e : (", " : Str).length = 2 := by decide +kernel
      omega
    · rw [strLen_append]
      have e : ("" : Str).length = 0 := by decide +kernel
      omega
theorem list_len (ts : List Str) : (listText ts).length ≤ piled ts + 2 := by
  unfold listText
  rw [strLen_append]
  have h := from_len ts 0 "["
  have e1 : ("[" : Str).length = 1 := by decide +kernel
  have e2 : ("]" : Str).length = 1 := by decide +kernel
  omega
mutual
theorem shown_len : ∀ d : PyData, fineAll.fine d → d.shown.length ≤ costAll.cost d
  | .none, _ => by decide +kernel
  | .bool b, _ => by cases b <;> decide +kernel
  | .int i, h => PyProof.Rows.int_text_len_1921 h
  | .str x, h => StrLaws.reprText_len x h
  | .list xs, h => Nat.le_trans (list_len _) (Nat.add_le_add (piled_len xs h) (by decide))
  | .tuple xs, h => Nat.le_trans (fmt_text _) (Nat.add_le_add (piled_len xs h) (by decide))
  | .dict _, h => h.elim
theorem piled_len : ∀ ds : List PyData, fineAll ds → piled (PyData.shownAll ds) ≤ costAll ds
  | [], _ => Nat.le_refl _
  | x :: xs, h => by
    have h1 := shown_len x h.1
    have h2 := piled_len xs h.2
    show piled (x.shown :: PyData.shownAll xs) ≤ costAll.cost x + 2 + costAll xs
    rw [piled_cons]
    omega
end
mutual
theorem fine_show : ∀ d : PyData, fineAll.fine d → d.showable = true
  | .none, _ => rfl
  | .bool _, _ => rfl
  | .int i, h => decide_eq_true h
  | .str _, _ => rfl
  | .list xs, h => fineAll_show xs h
  | .tuple xs, h => fineAll_show xs h
  | .dict _, h => h.elim
theorem fineAll_show : ∀ ds : List PyData, fineAll ds → PyData.showableAll ds = true
  | [], _ => rfl
  | x :: xs, h => by
    show (PyData.showable x && PyData.showableAll xs) = true
    rw [fine_show x h.1, fineAll_show xs h.2]
    rfl
end
end
section
variable {X : Cx}
def rRepr (K : PySem.W.Frag) : List V → Hp → VK → Prop := fun xs H Q => ∃ (a : Addr) (d : PyData), xs = [V.ref a] ∧ Dp K H (.ref a) d ∧ fineAll.fine d ∧ d.depth ≤ 60 ∧ costAll.cost d ≤ 16777216 ∧ Q (.str d.shown) H
theorem cr_repr (gd : X.A.guards = some []) (hu : X.A.units + 64 < cLine) : CallR X (.builtin "repr") (rRepr X.K) := by
  intro pins s σ H vs us Q I r h
  obtain ⟨a, d, rfl, dp, sh, dep, sz, q⟩ := h
  rw [Vals.ref1 r]
  obtain ⟨as, rd⟩ := Dp.reads I d (.ref a) (.ref a) dp rfl
  refine repr_of_reads' rd (fine_show d sh) (fun z => ?_) gd (by omega) (fun _ _ e => e) (fun h' u tk k => ⟨.str d.shown, H, I.kept k, ⟨u, rfl⟩, q⟩) (Nat.le_trans (shown_len d sh) (by rw [sizeLine_eq]; exact sz))
  rw [dp_noDict dp] at z
  cases z
end
end Pot

/-! The rules whose readings name the written part, with it as a letter of its own. -/
namespace Pot
open PySem PySem.Spec PyProof.Rows L2
section
variable {X : Cx} {K : PySem.W.Frag}
theorem kx_list (h : X.K = K := by rfl) : IxR X (rIxL K) := h ▸ ix_list
theorem kx_tup (h : X.K = K := by rfl) : IxR X (rIxT K) := h ▸ ix_tup
theorem kl_list (h : X.K = K := by rfl) : SlR X (rSlL K) := h ▸ sl_list
theorem kl_tup (h : X.K = K := by rfl) : SlR X (rSlA K) := h ▸ sl_tupA
theorem ko_in (h : X.K = K := by rfl) : OpR X (compareOp .In) (rIn K false) := h ▸ op_in_seq
theorem ko_eq (hu : X.A.units + 64 < cLine) (h : X.K = K := by rfl) : OpR X (compareOp .Eq) (rEqD K) := h ▸ op_eqD hu
theorem ko_ne (hu : X.A.units + 64 < cLine) (h : X.K = K := by rfl) : OpR X (compareOp .NotEq) (rNeD K) := h ▸ op_neD hu
def rLen (K : PySem.W.Frag) : List V → Hp → VK → Prop := fun xs H Q => ∃ x n, xs = [x] ∧ LenV K x H n ∧ Q (.int n) H
theorem kc_len (h : X.K = K := by rfl) : CallR X (.builtin "len") (rLen K) := by subst h; exact call_len
def rListOf (K : PySem.W.Frag) : List V → Hp → VK → Prop := fun xs H Q => ∃ p ys, xs = [.ref p] ∧ (SqL K H p ys ∨ SqT K H p ys) ∧ ∀ l, H l = none → Q (.ref l) (upd H l (.lst ys))
theorem kc_list (h : X.K = K := by rfl) : CallR X (.type "list") (rListOf K) := by subst h; exact call_list_of
def rTupleOf (K : PySem.W.Frag) : List V → Hp → VK → Prop := fun xs H Q => ∃ p ys, xs = [.ref p] ∧ ((SqL K H p ys ∧ ∀ l, H l = none → Q (.ref l) (upd H l (.tup ys))) ∨ (SqT K H p ys ∧ Q (.ref p) H))
theorem kc_tuple (h : X.K = K := by rfl) : CallR X (.type "tuple") (rTupleOf K) := by subst h; exact call_tuple_of
theorem kc_sum (hc : X.calm = true := by rfl) (h : X.K = K := by rfl) : CallR X (.builtin "sum") (rSum K) := h ▸ cr_sum hc
theorem kc_all (hc : X.calm = true := by rfl) (h : X.K = K := by rfl) : CallR X (.builtin "all") (rAll K) := h ▸ cr_all hc
theorem kc_any (hc : X.calm = true := by rfl) (h : X.K = K := by rfl) : CallR X (.builtin "any") (rAny K) := h ▸ cr_any hc
theorem kc_sorted (h : X.K = K := by rfl) : CallR X (.builtin "sorted") (rSorted K) := h ▸ cr_sorted
theorem kc_sortedS (h : X.K = K := by rfl) : CallR X (.builtin "sorted") (rSortedS K) := h ▸ cr_sortedS
theorem kc_isi (h : X.K = K := by rfl) : CallR X (.builtin "isinstance") (rIsi K) := h ▸ call_isi
theorem kc_isiT (h : X.K = K := by rfl) : CallR X (.builtin "isinstance") (rIsiT K) := h ▸ call_isiT
theorem kc_repr (gd : X.A.guards = some []) (hu : X.A.units + 64 < cLine) (h : X.K = K := by rfl) : CallR X (.builtin "repr") (rRepr K) := h ▸ cr_repr gd hu
theorem kc_setLi {w : World} (hc : X.calm = true := by rfl) (h : X.K = K := by rfl) (hw : X.w = w := by rfl) : CallR X (.type "set") (rSetLi K w) := by subst h; subst hw; exact cr_setLi hc
theorem kc_sortedSet {w : World} (hc : X.calm = true := by rfl) (hw : X.w = w := by rfl) : CallR X (.builtin "sorted") (rSortedSet w) := hw ▸ cr_sortedSet hc
theorem ki_list {tg l : Expr} {tl : TE} (hl : PE X l tl) (h : X.K = K := by rfl) : PI X tg l (iList K tl) := h ▸ pi_list hl
theorem ki_tup {tg l : Expr} {tl : TE} (hl : PE X l tl) (h : X.K = K := by rfl) : PI X tg l (iTup K tl) := h ▸ pi_tup hl
theorem ki_zip {e e2 : Expr} {ta : TA} {p pos tpos : Pos} {elts : List Expr} {kk : Nat} (hg : Gl X "zip") (hm : X.mg "zip" = none) (ha : PA X [e, e2] ta) (hs : starEach [e, e2] X.env = (false, eval e X.env) :: starEach [e2] X.env := by rfl)
    (hpl : (backTo pos (starEach [e2] X.env)).any (·.1) = false := by rfl) (h : X.K = K := by rfl) : PI X (.Tuple elts kk tpos) (.Call (.Name "zip" p) [e, e2] [] pos) (RZ.iZipA K ta) := h ▸ RZ.pi_zipA hg hm ha hs hpl
theorem ki_enum {e : Expr} {ta : TA} {p pos tpos : Pos} {elts : List Expr} {kk : Nat} (hg : Gl X "enumerate") (hm : X.mg "enumerate" = none) (ha : PA X [e] ta) (hs : starEach [e] X.env = [(false, eval e X.env)] := by rfl) (h : X.K = K := by rfl)
    : PI X (.Tuple elts kk tpos) (.Call (.Name "enumerate" p) [e] [] pos) (iEnum K ta) := h ▸ pi_enum hg hm ha hs
theorem kg_tup {pos : Pos} {es : List Expr} {k : Nat} {t : TGs} {n : Nat} (h : PGs X es t) (hc : X.calm = true := by rfl) (hn : (assignEach es X.env).length = n := by rfl) (hst : (assignEach es X.env).findIdx? (·.1) = none := by rfl) (hk : X.K = K := by rfl) : PG X (.Tuple es k pos) (gTup K n t) := hk ▸ pg_tup hc h hn hst
def tTru (K : PySem.W.Frag) (ta : TE) : TT := fun σ H Q => ta σ H fun x H' => ∃ k, TruV K x H' k ∧ Q k H'
theorem kt_truth {a : Expr} {ta : TE} (ha : PE X a ta) (he : ∀ whole, isTrue a X.env whole = (do let v ← whole; standAt a.pos; holding [v] (truthy v)) := by intro _; rfl) (h : X.K = K := by rfl) : PT X a (tTru K ta) := by subst h; exact pt_truth ha he
def rJoin (K : PySem.W.Frag) : V → List V → Hp → VK → Prop := fun x xs H Q => ∃ a p, ∃ ys : List Str, x = .str a ∧ xs = [.ref p] ∧ (SqL K H p (ys.map V.str) ∨ SqT K H p (ys.map V.str)) ∧ (ys.map (·.length)).sum + ys.length * a.length ≤ 16777216 ∧ Q (.str (Txt.join a ys)) H
theorem ke_join {o e : Expr} {to te : TE} {apos pos : Pos} (ho : PE X o to) (he : PE X e te) (hs : starEach [e] X.env = [(false, eval e X.env)] := by rfl) (hbase : attributeBase o "join" X.env (eval o X.env) = eval o X.env := by rfl) (hline : (apos.endLine == pos.line) = true := by rfl) (h : X.K = K := by rfl) :
    PE X (.Call (.Attribute o "join" apos) [e] [] pos) (tM1 (rJoin K) to te) := by subst h; exact pe_join ho he hs hbase hline
theorem pss_never {st : List Stmt} : PSs X st (fun _ _ _ => False) := ⟨fun _ _ _ _ _ _ h => h.elim⟩
theorem ps_never {st : Stmt} : PS X st (fun _ _ _ => False) := ⟨fun _ _ _ _ _ _ h => h.elim⟩
theorem pe_never {e : Expr} : PE X e (fun _ _ _ => False) := ⟨fun _ _ _ _ _ _ h => h.elim⟩
theorem tYes_at {σ : L2.St} {H : Hp} {Q : Bool → Hp → Prop} (h : Q true H) : tYes σ H Q := h
end
end Pot

namespace Pot
open PySem PySem.Spec PyProof.Rows L2
theorem nodup_le {α : Type} [BEq α] [LawfulBEq α] : ∀ {ks l : List α}, ks.Nodup → (∀ k ∈ ks, k ∈ l) → ks.length ≤ l.length
  | [], _, _, _ => Nat.zero_le _
  | k :: ks, l, h, s => by
    have hk := s k List.mem_cons_self
    have h2 := (List.nodup_cons.mp h)
    have := nodup_le (ks := ks) (l := l.erase k) h2.2 fun x hx => by
      have ne : x ≠ k := fun e => h2.1 (e ▸ hx)
      exact (List.mem_erase_of_ne ne).mpr (s x (List.mem_cons_of_mem _ hx))
    rw [List.length_erase_of_mem hk] at this
    have : 0 < l.length := List.length_pos_of_mem hk
    simp only [List.length_cons]
    omega
section
variable {X : Cx} {K : PySem.W.Frag}
theorem ko_notIn (h : X.K = K := by rfl) : OpR X (compareOp .NotIn) (rIn K true) := h ▸ op_notIn_seq
/-- set(xs) of ints: how many members it has -/
def rSetLj (K : PySem.W.Frag) (w : World) : List V → Hp → VK → Prop := fun xs H Q => ∃ (a : Addr) (ns : List Int), xs = [V.ref a] ∧ SqL K H a (ns.map V.int) ∧ ns.length ≤ 4000 ∧
  ∀ (p : Addr) (ks : List Int), H p = none → ks.Nodup → (∀ k, k ∈ ks ↔ k ∈ ns) → Q (.ref p) (upd H p (SetO w p (fun k => decide (k ∈ ns)) ks.length))
theorem cr_setLj (hc : X.calm = true) : CallR X (.type "set") (rSetLj X.K X.w) := by
  intro pins s σ H vs us Q I r h
  obtain ⟨a, ns, rfl, hS, hl, q⟩ := h
  rw [Vals.ref1 r]
  obtain ⟨its, rv, pl, hz⟩ := I.list hS
  refine call_set_li ns (I.ok.hd hc) pl.isList (by simpa using Vals.ints rv) (by unfold scanBound; omega) fun s' f => ?_
  obtain ⟨h', tk, c, rfl, R, hcn, k⟩ := f
  have hn : H s.heap.objs.size = none := I.hok.fresh (Nat.le_refl _)
  have J : Inv X pins σ (upd H s.heap.objs.size (SetO X.w s.heap.objs.size (fun k => decide (k ∈ ns)) c)) { s with heap := h', toks := tk } := I.laid (t' := tk) k (Nat.le_refl _) (setO_new R)
  obtain ⟨o, es, ep, t, _, _, _, _, nod, mem, _, _, size, _⟩ := R
  have q2 := q s.heap.objs.size (es.toList.map keyOf) hn nod fun k => by rw [← mem k, decide_eq_true_eq]
  rw [List.length_map, Array.length_toList, size] at q2
  exact ⟨.ref s.heap.objs.size, _, J, rfl, q2⟩
theorem kc_setLj {w : World} (hc : X.calm = true := by rfl) (h : X.K = K := by rfl) (hw : X.w = w := by rfl) : CallR X (.type "set") (rSetLj K w) := by subst h; subst hw; exact cr_setLj hc
end
end Pot

namespace Pot
open PySem PySem.Spec PyProof.Rows L2
section
variable {X : Cx} {K : PySem.W.Frag}
/-- len of a set of ints -/
def rLenSet (w : World) : List V → Hp → VK → Prop := fun xs H Q => ∃ (a : Addr) (S : Int → Bool) (n : Nat), xs = [V.ref a] ∧ H a = some (SetO w a S n) ∧ Q (.int n) H
theorem cr_lenSet : CallR X (.builtin "len") (rLenSet X.w) := by
  intro pins s σ H vs us Q I r h
  obtain ⟨a, S, n, rfl, ha, q⟩ := h
  rw [Vals.ref1 r]
  obtain ⟨o, es, ep, t, ho, hex, hd, _, _, _, hb, hf, rfl, _⟩ := setO_get I ha
  exact PySem.call_len_set ho hex hd hf (by unfold scanBound at hb; omega) ⟨.int _, H, I.tok _, ⟨_, rfl⟩, q⟩
theorem kc_lenSet {w : World} (hw : X.w = w := by rfl) : CallR X (.builtin "len") (rLenSet w) := by subst hw; exact cr_lenSet
/-- repr of any data -/
def rReprA (K : PySem.W.Frag) : List V → Hp → VK → Prop := fun xs H Q => ∃ (x : V) (d : PyData), xs = [x] ∧ Dp K H x d ∧ fineAll.fine d ∧ d.depth ≤ 60 ∧ costAll.cost d ≤ 16777216 ∧ Q (.str d.shown) H
theorem cr_reprA (gd : X.A.guards = some []) (hu : X.A.units + 64 < cLine) : CallR X (.builtin "repr") (rReprA X.K) := by
  intro pins s σ H vs us Q I r h
  obtain ⟨x, d, rfl, dp, sh, dep, sz, q⟩ := h
  obtain ⟨u, rfl, rx⟩ := vals1 r
  have sz2 := Nat.le_trans (shown_len d sh) (by rw [sizeLine_eq]; exact sz : costAll.cost d ≤ sizeLine)
  cases x with
  | ref a =>
    cases rx
    obtain ⟨as, rd⟩ := Dp.reads I d (.ref a) (.ref a) dp rfl
    refine repr_of_reads' rd (fine_show d sh) (fun z => ?_) gd (by omega) (fun _ _ e => e) (fun h' u tk k => ⟨.str d.shown, H, I.kept k, ⟨u, rfl⟩, q⟩) sz2
    rw [dp_noDict dp] at z
    cases z
  | int i =>
    cases dp
    obtain ⟨t, rfl⟩ := rx
    exact PySem.P.repr_of_int sh ⟨.str _, H, I.tok _, ⟨_, rfl⟩, q⟩
  | str z =>
    cases dp
    obtain ⟨t, rfl⟩ := rx
    exact PySem.P.repr_of_str ⟨.str _, H, I.tok _, ⟨_, rfl⟩, q⟩ sz2
  | bl b =>
    cases dp
    cases rx
    refine PySem.P.repr_of_bool ⟨.str _, H, I.tok _, ⟨_, rfl⟩, ?_⟩
    exact q
  | non =>
    cases dp
    cases rx
    exact PySem.P.repr_of_none ⟨.str _, H, I.tok _, ⟨_, rfl⟩, q⟩
  | _ => cases dp
theorem kc_reprA (gd : X.A.guards = some []) (hu : X.A.units + 64 < cLine) (h : X.K = K := by rfl) : CallR X (.builtin "repr") (rReprA K) := h ▸ cr_reprA gd hu
end
theorem short_of {α : Type} [DecidableEq α] : ∀ {ns : List α}, ¬ ns.Nodup → ∃ ns' : List α, ns'.length < ns.length ∧ ∀ k ∈ ns, k ∈ ns'
  | [], h => (h List.nodup_nil).elim
  | x :: ns, h => by
    by_cases hx : x ∈ ns
    · exact ⟨ns, by simp, fun k hk => by
        rcases List.mem_cons.mp hk with e | e
        · rw [e]; exact hx
        · exact e⟩
    · obtain ⟨ns', l, s⟩ := short_of (ns := ns) fun hn => h (List.nodup_cons.mpr ⟨hx, hn⟩)
      exact ⟨x :: ns', by simp only [List.length_cons]; omega, fun k hk => by
        rcases List.mem_cons.mp hk with e | e
        · rw [e]; exact List.mem_cons_self
        · exact List.mem_cons_of_mem _ (s k e)⟩
theorem set_count {ks ns : List Int} (hk : ks.Nodup) (h : ∀ k, k ∈ ks ↔ k ∈ ns) : ks.length ≤ ns.length ∧ (ks.length = ns.length ↔ ns.Nodup) := by
  have le := nodup_le hk fun k x => (h k).mp x
  refine ⟨le, fun e => ?_, fun hn => Nat.le_antisymm le (nodup_le hn fun k x => (h k).mpr x)⟩
  by_cases hn : ns.Nodup
  · exact hn
  · obtain ⟨ns', l, s⟩ := short_of hn
    have := nodup_le hk fun k x => s k ((h k).mp x)
    omega
end Pot

namespace Pot
open PySem PySem.Spec PyProof.Rows L2
section
variable {X : Cx} {K : PySem.W.Frag}
theorem ko_inD (hu : X.A.units + 65 < cLine) (h : X.K = K := by rfl) : OpR X (compareOp .In) (rInD K) := h ▸ op_inD hu
theorem ko_notInD (hu : X.A.units + 65 < cLine) (h : X.K = K := by rfl) : OpR X (compareOp .NotIn) (rNotInD K) := h ▸ op_notInD hu
/-- a text thrice -/
def rRep3 : R2 := fun x y H Q => ∃ z : Str, x = .str z ∧ y = .int 3 ∧ z.length ≤ 100000 ∧ ∀ z' : Str, z'.length ≤ 3 * z.length → (∀ c ∈ z'.cps.toList, c ∈ z.cps.toList) → Q (.str z') H
theorem mul3_len (z : Str) : (Txt.mul z 3).length ≤ 3 * z.length ∧ ∀ c ∈ (Txt.mul z 3).cps.toList, c ∈ z.cps.toList := by
  unfold Txt.mul
  rw [if_neg (show ¬ (3 : Int) < 1 by decide)]
  split
  · exact ⟨by omega, fun c h => h⟩
  · constructor
    · show Array.size _ ≤ _
      simp [List.replicate]
      show z.cps.size + (z.cps.size + z.cps.size) ≤ 3 * z.cps.size
      omega
    · intro c h
      simp [List.replicate] at h
      simpa using h
theorem op_rep3 : OpR X (binaryOp .Mult) rRep3 := by
  intro pins sh sg H xv yv v1 u1 Q I r1 r2 h
  obtain ⟨z, rfl, rfl, hz, q⟩ := h
  obtain ⟨tk1, rfl⟩ := r1
  obtain ⟨tk2, rfl⟩ := r2
  have m3 := mul3_len z
  refine SB.mul ⟨by decide, fun _ _ hh => ?_, fun _ _ => ?_⟩ (fun tt kk => ⟨.str (Txt.mul z 3), H, I.tok _, ⟨_, rfl⟩, q _ m3.1 m3.2⟩)
  · have : ((2 : Int) ^ 63 - 1) / 3 = 3074457345618258602 := by decide
    omega
  · have e : (3 : Int).toNat = 3 := rfl
    rw [e]
    show decide _ = false
    refine decide_eq_false ?_
    have := sizeLine_eq
    omega
end
end Pot

namespace Pot
open PySem PySem.Spec PyProof.Rows L2
open Sem (wp)
/-! ### enumerate of a list or a tuple -/
set_option maxHeartbeats 1000000 in
theorem en_new {v : Value} {ob : Obj} {Ok : Heap → Prop} (B : Begins v ob Ok) :
    Meets (Builtin.«enumerate.__new__» ⟨[.type "enumerate", v], []⟩) (fun _ R s => Ok s.heap ∧ R (.ok (.ret (.ref (s.heap.push ob).objs.size))) { s with heap := (s.heap.push ob).push { cls := .type "enumerate", data := .fields #[.none, .bool false, .ref s.heap.objs.size, rawInt 0, .none, .none] } }) :=
  .of_wp fun prog w A R st hst => by
    obtain ⟨hp, gl, dd, tt, oo⟩ := st; obtain ⟨ok1, fin⟩ := hst; have isub := sub_enumerate
    have go : ∀ {A1 : Around} {E1 : Value → Shared → Prop} {Q1 : Value → Shared → Prop}, Q1 (.ref hp.objs.size) ⟨hp.push ob, gl, dd, tt, oo⟩ → wpAny (model prog w) A1 (pyIter v) Q1 E1 ⟨hp, gl, dd, tt, oo⟩ := fun z => B.iter prog w _ _ ⟨hp, gl, dd, tt, oo⟩ _ ok1 z
    wp_walk using go
    refine wpAny_stack_any fun stk => wpAny_pure ?_
    split
    · rename_i cc _ _ _ _ _; cases (cc == Value.type "enumerate") <;> (wp_walk using go; exact ⟨_, rfl, fin⟩)
    · wp_walk using go; exact ⟨_, rfl, fin⟩
/-- some untracked cells written, nothing new -/
theorem inv_ch {X : Cx} {pins : List (Addr × Obj)} {σ : L2.St} {H : Hp} {s : Shared} {h2 : Heap} {tk : Nat} {ch : List Addr} (I : Inv X pins σ H s) (kp : ∀ b o, b ∉ ch → s.heap.get? b = some o → h2.get? b = some o) (fo : ∀ b ∈ ch, FpOk X pins H b) :
    Inv X pins σ H { s with heap := h2, toks := tk } := by
  have out : ∀ c u, H c = some u → c ∉ ch := fun c u e z => by have := (fo c z).1; rw [this] at e; cases e
  refine I.step (g' := s.gens) (d' := s.drawn) (ch := ch) (fun c hc => let ⟨_, a2, _, a4, a5, a6⟩ := fo c hc; ⟨a4, a2, a5, a6⟩) (fun c o _ _ n e _ => kp c o n e) (fun c o _ _ n e _ => ⟨o.slots, kp c o n e⟩) (fun _ _ _ _ z => z) (fun c o n e => ⟨o, kp c o n e⟩) (fun _ _ z => z) (fun _ _ _ z => z) (fun c ps e => ⟨#[], by rw [e]; simp⟩) (fun mm hm => ?_) (fun c u e => ?_) I.bare
  · obtain ⟨o, e1, e2, ho, rest⟩ := hm; exact ⟨o, e1, e2, kp _ o (fun z => (fo _ z).2.1 rfl) ho, rest⟩
  · refine (I.hok c u e).stay (fun c2 v hc q => kp c2 v ?_ q) (fun _ z => z) fun _ _ z => z
    rcases hc with z | z
    · rw [z]; exact out c u e
    · exact out c2 _ z
def ItT (K : PySem.W.Frag) (a : Addr) : It :=
  ⟨fun i H => ∃ (xs : List V) (x : V), SqT K H a xs ∧ xs[i]? = some x, fun i H v H' => ∃ T x, v = .ref T ∧ H T = none ∧ H' = upd H T (.tup [.int (i : Nat), x]) ∧ ∀ xs, SqT K H a xs → xs[i]? = some x, fun i H => ∃ xs : List V, SqT K H a xs ∧ xs.length ≤ i⟩
/-- an iterator of a tuple that has come to its end -/
theorem drawsEnd {prog : Program} {w : World} {A : Around} (hh : A.handled = none) (it t : Addr) (items : Array Value) (i : Nat) (hi : items[i]? = none) :
    Draws prog w A it [it, t] i (fun _ _ => False) (fun j h => j = i ∧ h.IsTupleIter it t j ∧ h.IsTuple t items) where
  live := fun _ _ st => let ⟨o, ho, _⟩ := st.2.1; ⟨o, ho⟩
  frame := fun _ _ _ st hk => ⟨st.1, st.2.1.at fun o e => hk it (by simp) o e, st.2.2.at fun o e => hk t (by simp) o e⟩
  item := fun j _ _ _ hj st _ => absurd st.1 (Nat.ne_of_lt hj)
  done := fun s Q E st hE => wpAny_nextOf_tuple_end hh st.2.1 st.2.2 hi hE
theorem turn_enT {P : Program} {w : World} {K : PySem.W.Frag} {elts : List Expr} {kk : Nat} {tpos : Pos} (a e it : Addr) (ne1 : e ≠ it) :
    Turn P w K (.Tuple elts kk tpos) (ItT K a) [e, it] e (fun i h => (∃ old, IsEnum h e it (0 + ((i : Nat) : Int)) old) ∧ h.IsTupleIter it a i) where
  mem := by simp
  obj := fun i h st b hb => by
    obtain ⟨⟨old, he⟩, ⟨o, ho, hc, hd⟩⟩ := st
    rcases List.mem_cons.mp hb with z | z
    · rw [z]; exact ⟨_, he, fun v q => nomatch q⟩
    · rw [List.mem_singleton.mp z]; exact ⟨o, ho, fun v q => by rw [hd] at q; cases q⟩
  keep := fun i h h' st k => let ⟨⟨old, he⟩, hi⟩ := st; ⟨⟨old, k e (by simp) _ he⟩, hi.at fun o q => k it (by simp) o q⟩
  item := by
    intro X q1 q2 q3 hc i pins s σ H E I hf st hg; subst q1 q2 q3
    obtain ⟨⟨old, he⟩, hit⟩ := st
    obtain ⟨xs, x, hq, hx⟩ := hg
    obtain ⟨its, vals_, p, _⟩ := I.tuple hq
    obtain ⟨u, hu, ru⟩ := vals_.get hx
    have at_ : its.toArray[i]? = some u := by simpa using hu
    have hlt : i < its.toArray.size := (Array.getElem?_eq_some_iff.mp at_).1
    have nt : ∀ b ∈ [e, it], a ≠ b := fun b hb z => by
      obtain ⟨o, ho, cl, _⟩ := p
      rcases List.mem_cons.mp hb with y | y
      · rw [z, y] at ho
        rw [show s.heap.get? e = _ from he] at ho; cases ho; injection cl with cl; exact absurd cl (by decide)
      · rw [z, List.mem_singleton.mp y] at ho
        obtain ⟨o2, ho2, cl2, _⟩ := hit
        rw [ho2] at ho; cases ho
        rw [cl2] at cl; injection cl with cl; exact absurd cl (by decide)
    have G := GoesN.enumFrom (elts := elts) (x1 := kk) (pos := tpos) 0 (Draws.tuple (prog := X.prog) (w := X.w) (A := X.A.in1) (I.ok.hd hc) it a (nt it (by simp)) its.toArray) e ne1 (by simp [ne1, (nt e (by simp)).symm]) (by simp)
    refine G.goes i s _ _ hlt ⟨⟨old, he⟩, hit, p⟩ fun v h2 tk hY st2 hk _ => ?_
    obtain ⟨T, t, u2, rfl, hn, hu2, hT⟩ := hY
    have eu : u2 = u := Option.some.inj (hu2.symm.trans at_)
    subst eu
    rw [Int.zero_add] at hT
    have new : ObjOk X.prog X.w (upd H T (.tup [.int (i : Nat), x])) h2 T (.tup [.int (i : Nat), x]) := ⟨by show 2 ≤ sizeLine; decide, [.int i t, u2], .cons ⟨_, rfl⟩ (.cons ru .nil), hT⟩
    have I1 : Inv X pins σ (upd H T (.tup [.int (i : Nat), x])) { s with heap := h2, toks := tk } := I.turnedNew (ch := [e, it]) (fun b ob hb q => hk b ob hb q) hf hn new
    refine ⟨.ref T, _, I1, rfl, ⟨T, x, rfl, I.hok.fresh hn, rfl, fun ys hy => by rw [I.tuple_inj hy hq]; exact hx⟩, ⟨st2.1, st2.2.1⟩, fun b hb => ?_⟩
    have hb0 := (hf b hb).1
    have hbT : b ≠ T := by
      rcases List.mem_cons.mp hb with y | y
      · rw [y]; exact Nat.ne_of_lt (Nat.lt_of_lt_of_le (Heap.lt_size he) hn)
      · rw [List.mem_singleton.mp y]
        obtain ⟨o2, ho2, _⟩ := hit
        exact Nat.ne_of_lt (Nat.lt_of_lt_of_le (Heap.lt_size ho2) hn)
    rw [upd_ne hbT]; exact hb0
  done := by
    intro X q1 q2 q3 hc i pins s σ H E I hf st hg; subst q1 q2 q3
    obtain ⟨⟨old, he⟩, hit⟩ := st
    obtain ⟨xs, hq, hx⟩ := hg
    obtain ⟨its, vals_, p, _⟩ := I.tuple hq
    have hl := vals_.length
    have nt : ∀ b ∈ [e, it], a ≠ b := fun b hb z => by
      obtain ⟨o, ho, cl, _⟩ := p
      rcases List.mem_cons.mp hb with y | y
      · rw [z, y] at ho
        rw [show s.heap.get? e = _ from he] at ho; cases ho; injection cl with cl; exact absurd cl (by decide)
      · rw [z, List.mem_singleton.mp y] at ho
        obtain ⟨o2, ho2, cl2, _⟩ := hit
        rw [ho2] at ho; cases ho
        rw [cl2] at cl; injection cl with cl; exact absurd cl (by decide)
    have G := GoesN.enumFrom (elts := elts) (x1 := kk) (pos := tpos) 0 (drawsEnd (prog := X.prog) (w := X.w) (A := X.A.in1) (I.ok.hd hc) it a its.toArray i (by simp; omega)) e ne1 (by simp [ne1, (nt e (by simp)).symm]) (by simp)
    exact G.stops s _ _ ⟨⟨old, he⟩, rfl, hit, p⟩ fun h2 tk hk _ => inv_ch I hk hf
  self := fun _ _ _ _ _ st fin => let ⟨⟨_, he⟩, _⟩ := st; wpAny_pyIter_enum he fin
/-- enumerate(v), v a list or a tuple -/
def iEnA (K : PySem.W.Frag) (ta : TA) : TI := fun σ H R => ta σ H fun vs H1 => ∃ a xs, vs = [.ref a] ∧ ((SqL K H1 a xs ∧ R (Ite K a) H1) ∨ (SqT K H1 a xs ∧ R (ItT K a) H1))
theorem pi_enA {X : Cx} {e : Expr} {ta : TA} {p pos tpos : Pos} {elts : List Expr} {kk : Nat} (hg : Gl X "enumerate") (hm : X.mg "enumerate" = none) (ha : PA X [e] ta) (hs : starEach [e] X.env = [(false, eval e X.env)] := by rfl) :
    PI X (.Tuple elts kk tpos) (.Call (.Name "enumerate" p) [e] [] pos) (iEnA X.K ta) := by
  refine ⟨fun pins s σ H R I hi => ?_⟩
  refine Call_ (ld_blt I hg hm boot_enumerate (PyProof.Rows.callWith_type1 (thn (ha.run pos pins s σ H _ I hi) fun us s1 ⟨vs, H1, I1, r1, q1⟩ => ?_) hs rfl))
  obtain ⟨a, xs, ex, q⟩ := q1
  subst ex
  cases r1 with
  | cons r rr =>
    cases rr; cases r
    rcases q with ⟨hq, q⟩ | ⟨hq, q⟩
    · obtain ⟨its, rv, p2, hz⟩ := I1.list hq
      refine call_enumerate_list p2.isList fun h2 he hit hsz hk => wpAny_pyIter_enum he ?_
      refine ⟨s1.heap.objs.size + 1, [s1.heap.objs.size + 1, s1.heap.objs.size], _, _, H1, rfl, I1.kept (t' := s1.toks) hk, turn_enum a (s1.heap.objs.size + 1) s1.heap.objs.size, ⟨⟨.none, he⟩, hit, Nat.succ_ne_self _⟩, fun b hb => ?_, q⟩
      have hge : s1.heap.objs.size ≤ b := by
        rcases List.mem_cons.mp hb with z | z
        · rw [z]; exact Nat.le_add_right _ _
        · rw [List.mem_singleton.mp z]; exact Nat.le_refl _
      exact I1.fpOk hge (I1.hok.fresh hge)
    · obtain ⟨its, rv, p2, hz⟩ := I1.tuple hq
      refine callType_new F.called_enumerate (by decide) (F.typeCall_enumerate_1 _) (F.newCall_enumerate_1 _) (fun obj => F.args_object_init_2 obj _) F.entry_enumerate_new (en_new (begins_tuple a its.toArray)) ⟨p2, ?_⟩
      have sz : (s1.heap.push { cls := .type "tuple_iterator", data := .fields #[.ref a, .int 0 0] }).objs.size = s1.heap.objs.size + 1 := Heap.size_push ..
      show _ ∧ _
      rw [sz]
      have he : IsEnum ((s1.heap.push { cls := .type "tuple_iterator", data := .fields #[.ref a, .int 0 0] }).push { cls := .type "enumerate", data := .fields #[.none, .bool false, .ref s1.heap.objs.size, rawInt 0, .none, .none] }) (s1.heap.objs.size + 1) s1.heap.objs.size (0 + ((0 : Nat) : Int)) .none := by
        have g := Heap.get?_push_size (s1.heap.push { cls := .type "tuple_iterator", data := .fields #[.ref a, .int 0 0] }) (o := { cls := .type "enumerate", data := .fields #[.none, .bool false, .ref s1.heap.objs.size, rawInt 0, .none, .none] }) rfl
        rw [sz] at g; exact g
      refine ⟨⟨_, he, rfl⟩, wpAny_pyIter_enum he ⟨s1.heap.objs.size + 1, [s1.heap.objs.size + 1, s1.heap.objs.size], _, _, H1, rfl, I1.kept (t' := s1.toks) (fun b o z => Heap.get?_push_of_some _ (Heap.get?_push_of_some _ z)), turn_enT a (s1.heap.objs.size + 1) s1.heap.objs.size (Nat.succ_ne_self _), ⟨⟨.none, he⟩, ⟨_, Heap.get?_push_of_some _ (Heap.get?_push_size _ rfl), rfl, rfl⟩⟩, fun b hb => ?_, q⟩⟩
      have hge : s1.heap.objs.size ≤ b := by
        rcases List.mem_cons.mp hb with z | z
        · rw [z]; exact Nat.le_add_right _ _
        · rw [List.mem_singleton.mp z]; exact Nat.le_refl _
      exact I1.fpOk hge (I1.hok.fresh hge)
theorem walk_enT {K : PySem.W.Frag} {a : Addr} {xs : List V} : Walk (ItT K a) xs.length (fun H => SqT K H a xs) (YPair (fun i => some (.int (i : Nat))) (fun i => xs[i]?)) := by
  refine ⟨fun i _ hi hs => ⟨xs, xs[i], hs, by simp [hi]⟩, fun _ hs => ⟨xs, hs, Nat.le_refl _⟩, fun i H v H2 _ hs y => ?_⟩
  obtain ⟨T, x, e1, e2, e3, e4⟩ := y
  exact ⟨T, .int (i : Nat), x, e1, e2, e3, rfl, e4 xs hs⟩
theorem ko_catA {X : Cx} {K : PySem.W.Frag} (h : X.K = K := by rfl) : OpR X (binaryOp .Add) (rCatA K) := h ▸ op_catA
theorem ki_enA {X : Cx} {K : PySem.W.Frag} {e : Expr} {ta : TA} {p pos tpos : Pos} {elts : List Expr} {kk : Nat} (hg : Gl X "enumerate") (hm : X.mg "enumerate" = none) (ha : PA X [e] ta) (hs : starEach [e] X.env = [(false, eval e X.env)] := by rfl) (h : X.K = K := by rfl)
    : PI X (.Tuple elts kk tpos) (.Call (.Name "enumerate" p) [e] [] pos) (iEnA K ta) := h ▸ pi_enA hg hm ha hs
end Pot

namespace Pot
open PySem PySem.Spec PyProof.Rows L2
open Sem (wp)
/-! ### zip of three lists of one length -/
def It3 (K : PySem.W.Frag) (a b c : Addr) : It :=
  ⟨fun i H => ∃ (xs ys zs : List V) (x y z : V), SqL K H a xs ∧ SqL K H b ys ∧ SqL K H c zs ∧ xs[i]? = some x ∧ ys[i]? = some y ∧ zs[i]? = some z,
   fun i H v H2 => ∃ T x y z, v = .ref T ∧ H T = none ∧ H2 = upd H T (.tup [x, y, z]) ∧ (∀ xs, SqL K H a xs → xs[i]? = some x) ∧ (∀ ys, SqL K H b ys → ys[i]? = some y) ∧ ∀ zs, SqL K H c zs → zs[i]? = some z,
   fun i H => ∃ xs ys zs : List V, SqL K H a xs ∧ SqL K H b ys ∧ SqL K H c zs ∧ xs.length ≤ i ∧ ys.length ≤ i ∧ zs.length ≤ i⟩
/-- an iterator of a list that has come to its end -/
theorem drawsEndL {prog : Program} {w : World} {A : Around} (hh : A.handled = none) (it t : Addr) (items : Array Value) (i : Nat) (hi : items[i]? = none) :
    Draws prog w A it [it, t] i (fun _ _ => False) (fun j h => j = i ∧ h.IsListIter it t j ∧ h.IsList t items) where
  live := fun _ _ st => let ⟨o, ho, _⟩ := st.2.1; ⟨o, ho⟩
  frame := fun _ _ _ st hk => ⟨st.1, st.2.1.at fun o e => hk it (by simp) o e, st.2.2.at fun o e => hk t (by simp) o e⟩
  item := fun j _ _ _ hj st _ => absurd st.1 (Nat.ne_of_lt hj)
  done := fun s Q E st hE => wpAny_nextOf_list_end hh st.2.1 st.2.2 hi hE
theorem turn_z3 {P : Program} {w : World} {K : PySem.W.Frag} {elts : List Expr} {kk : Nat} {tpos : Pos} {a b c z TI TO i1 i2 i3 : Addr} (D : ZipSep3 z TI TO i1 i2 i3 [i1, a] [i2, b] [i3, c]) (n1 : a ≠ i1) (n2 : b ≠ i2) (n3 : c ≠ i3) :
    Turn P w K (.Tuple elts kk tpos) (It3 K a b c) [z, TI, TO, i1, i2, i3] z (fun i h => IsZip h z TI TO .none ∧ IsTupOf3 h TI (.ref i1) (.ref i2) (.ref i3) ∧ (∃ x y u, IsTupOf3 h TO x y u) ∧ h.IsListIter i1 a i ∧ h.IsListIter i2 b i ∧ h.IsListIter i3 c i) where
  mem := by simp
  obj := fun i h st m hm => by
    obtain ⟨hz, hTI, ⟨x, y, u, hTO⟩, ⟨o1, e1, _, d1⟩, ⟨o2, e2, _, d2⟩, ⟨o3, e3, _, d3⟩⟩ := st
    simp only [List.mem_cons, List.not_mem_nil, or_false] at hm
    rcases hm with e | e | e | e | e | e
    · subst e; exact ⟨_, hz, fun v q => nomatch q⟩
    · subst e; exact ⟨_, hTI, fun v q => nomatch q⟩
    · subst e; exact ⟨_, hTO, fun v q => nomatch q⟩
    · subst e; exact ⟨o1, e1, fun v q => by rw [d1] at q; cases q⟩
    · subst e; exact ⟨o2, e2, fun v q => by rw [d2] at q; cases q⟩
    · subst e; exact ⟨o3, e3, fun v q => by rw [d3] at q; cases q⟩
  keep := fun i h h2 st k => by
    obtain ⟨hz, hTI, ⟨x, y, u, hTO⟩, g1, g2, g3⟩ := st
    exact ⟨k z (by simp) _ hz, k TI (by simp) _ hTI, ⟨x, y, u, k TO (by simp) _ hTO⟩, g1.at fun o q => k i1 (by simp) o q, g2.at fun o q => k i2 (by simp) o q, g3.at fun o q => k i3 (by simp) o q⟩
  item := by
    intro X q1 q2 q3 hc i pins s σ H E I hf st hg; subst q1 q2 q3
    obtain ⟨hz, hTI, ⟨x0, y0, u0, hTO⟩, g1, g2, g3⟩ := st
    obtain ⟨xs, ys, us, x, y, u, hqa, hqb, hqc, hx, hy, hu⟩ := hg
    obtain ⟨its1, vs1, p1, _⟩ := I.list hqa
    obtain ⟨its2, vs2, p2, _⟩ := I.list hqb
    obtain ⟨its3, vs3, p3, _⟩ := I.list hqc
    obtain ⟨w1, hw1, r1⟩ := vs1.get hx
    obtain ⟨w2, hw2, r2⟩ := vs2.get hy
    obtain ⟨w3, hw3, r3⟩ := vs3.get hu
    have at1 : its1.toArray[i]? = some w1 := by simpa using hw1
    have at2 : its2.toArray[i]? = some w2 := by simpa using hw2
    have at3 : its3.toArray[i]? = some w3 := by simpa using hw3
    have l1 : i < its1.toArray.size := (Array.getElem?_eq_some_iff.mp at1).1
    have l2 : i < its2.toArray.size := (Array.getElem?_eq_some_iff.mp at2).1
    have l3 : i < its3.toArray.size := (Array.getElem?_eq_some_iff.mp at3).1
    have hh := I.ok.hd hc
    have G := GoesN.zip3 (elts := elts) (x1 := kk) (pos := tpos) D (Draws.list (prog := X.prog) (w := X.w) (A := X.A.in1) hh i1 a n1 its1.toArray) (Draws.list (prog := X.prog) (w := X.w) (A := X.A.in1) hh i2 b n2 its2.toArray) (Draws.list (prog := X.prog) (w := X.w) (A := X.A.in1) hh i3 c n3 its3.toArray)
    refine G.goes i s _ _ (by omega) ⟨hz, hTI, ⟨x0, y0, u0, hTO⟩, ⟨g1, p1.isList⟩, ⟨g2, p2.isList⟩, ⟨g3, p3.isList⟩⟩ fun v h2 tk hY st2 hk _ => ?_
    obtain ⟨T, t1, t2, t3, rfl, hn, e1, e2, e3, hT⟩ := hY
    cases Option.some.inj (e1.symm.trans at1)
    cases Option.some.inj (e2.symm.trans at2)
    cases Option.some.inj (e3.symm.trans at3)
    have new : ObjOk X.prog X.w (upd H T (.tup [x, y, u])) h2 T (.tup [x, y, u]) := ⟨by show 3 ≤ sizeLine; decide, [w1, w2, w3], .cons r1 (.cons r2 (.cons r3 .nil)), hT⟩
    have I1 : Inv X pins σ (upd H T (.tup [x, y, u])) { s with heap := h2, toks := tk } := I.turnedNew (ch := [z, TI, TO, i1, i2, i3]) (fun m ob hm q => hk m ob (fun e => hm (by simp only [List.mem_cons, List.not_mem_nil, or_false] at e ⊢; rcases e with e | e | e | e | e <;> simp [e])) q) hf hn new
    refine ⟨.ref T, _, I1, rfl, ⟨T, x, y, u, rfl, I.hok.fresh hn, rfl, fun l hl => by rw [I.list_inj hl hqa]; exact hx, fun l hl => by rw [I.list_inj hl hqb]; exact hy, fun l hl => by rw [I.list_inj hl hqc]; exact hu⟩, ⟨st2.1, st2.2.1, st2.2.2.1, st2.2.2.2.1.1, st2.2.2.2.2.1.1, st2.2.2.2.2.2.1⟩, fun m hm => ?_⟩
    have hm0 := (hf m hm).1
    have live : ∃ o, s.heap.get? m = some o := by
      obtain ⟨o1, f1, _⟩ := g1
      obtain ⟨o2, f2, _⟩ := g2
      obtain ⟨o3, f3, _⟩ := g3
      simp only [List.mem_cons, List.not_mem_nil, or_false] at hm
      rcases hm with e | e | e | e | e | e
      · subst e; exact ⟨_, hz⟩
      · subst e; exact ⟨_, hTI⟩
      · subst e; exact ⟨_, hTO⟩
      · subst e; exact ⟨_, f1⟩
      · subst e; exact ⟨_, f2⟩
      · subst e; exact ⟨_, f3⟩
    obtain ⟨o, ho⟩ := live
    rw [upd_ne (Nat.ne_of_lt (Nat.lt_of_lt_of_le (Heap.lt_size ho) hn))]; exact hm0
  done := by
    intro X q1 q2 q3 hc i pins s σ H E I hf st hg; subst q1 q2 q3
    obtain ⟨hz, hTI, ⟨x0, y0, u0, hTO⟩, g1, g2, g3⟩ := st
    obtain ⟨xs, ys, us, hqa, hqb, hqc, hx, hy, hu⟩ := hg
    obtain ⟨its1, vs1, p1, _⟩ := I.list hqa
    obtain ⟨its2, vs2, p2, _⟩ := I.list hqb
    obtain ⟨its3, vs3, p3, _⟩ := I.list hqc
    have m1 := vs1.length
    have m2 := vs2.length
    have m3 := vs3.length
    have hh := I.ok.hd hc
    have G := GoesN.zip3 (elts := elts) (x1 := kk) (pos := tpos) D (drawsEndL (prog := X.prog) (w := X.w) (A := X.A.in1) hh i1 a its1.toArray i (by simp; omega)) (drawsEndL (prog := X.prog) (w := X.w) (A := X.A.in1) hh i2 b its2.toArray i (by simp; omega)) (drawsEndL (prog := X.prog) (w := X.w) (A := X.A.in1) hh i3 c its3.toArray i (by simp; omega))
    rw [Nat.min_self, Nat.min_self] at G
    exact G.stops s _ _ ⟨hz, hTI, ⟨x0, y0, u0, hTO⟩, ⟨rfl, g1, p1.isList⟩, ⟨rfl, g2, p2.isList⟩, ⟨rfl, g3, p3.isList⟩⟩ fun h2 tk hk _ => inv_ch (ch := [z, TI, TO, i1, i2, i3]) I (fun m o hm q => hk m o (fun e => hm (by simp only [List.mem_cons, List.not_mem_nil, or_false] at e ⊢; rcases e with e | e | e | e | e <;> simp [e])) q) hf
  self := fun _ _ _ _ _ st fin => wpAny_pyIter_zip st.1 fin
def iZip3 (K : PySem.W.Frag) (ta : TA) : TI := fun σ H R => ta σ H fun vs H1 => ∃ a b c xs ys zs, vs = [.ref a, .ref b, .ref c] ∧ SqL K H1 a xs ∧ SqL K H1 b ys ∧ SqL K H1 c zs ∧ R (It3 K a b c) H1
theorem pi_zip3 {X : Cx} {e e2 e3 : Expr} {ta : TA} {p pos tpos : Pos} {elts : List Expr} {kk : Nat} (hg : Gl X "zip") (hm : X.mg "zip" = none) (ha : PA X [e, e2, e3] ta)
    (hs : starEach [e, e2, e3] X.env = (false, eval e X.env) :: starEach [e2, e3] X.env := by rfl) (hpl : (backTo pos (starEach [e2, e3] X.env)).any (·.1) = false := by rfl) :
    PI X (.Tuple elts kk tpos) (.Call (.Name "zip" p) [e, e2, e3] [] pos) (iZip3 X.K ta) := by
  refine ⟨fun pins s σ H R I hi => ?_⟩
  refine Call_ (ld_blt I hg hm PyProof.Rows.boot_zip (PyProof.Rows.callWith_type1 (thn (ha.run pos pins s σ H _ I hi) fun us s1 ⟨vs, H1, I1, r1, q1⟩ => ?_) hs hpl))
  obtain ⟨a, b, c, xs, ys, zs, ex, qa, qb, qc, q⟩ := q1
  subst ex
  cases r1 with
  | cons ra rr =>
    cases rr with
    | cons rb rr =>
      cases rr with
      | cons rc rr =>
        cases rr; cases ra; cases rb; cases rc
        obtain ⟨its1, _, p1, _⟩ := I1.list qa
        obtain ⟨its2, _, p2, _⟩ := I1.list qb
        obtain ⟨its3, _, p3, _⟩ := I1.list qc
        refine zip_begins3 (begins_list a its1.toArray) (begins_list b its2.toArray) (begins_list c its3.toArray) p1.isList p2.isList p3.isList fun h2 hz hTI hTO f1 f2 f3 hsz hk => wpAny_pyIter_zip hz ?_
        have below : ∀ {l : Addr} {its : List Value} {n : Nat}, s1.heap.get? l = some { cls := .type "list", data := .seq its.toArray n } → ∀ m ∈ [l], m < s1.heap.objs.size := fun h m hm => by rw [List.mem_singleton.mp hm]; exact Heap.lt_size h
        refine ⟨s1.heap.objs.size + 5, [s1.heap.objs.size + 5, s1.heap.objs.size + 3, s1.heap.objs.size + 4, s1.heap.objs.size, s1.heap.objs.size + 1, s1.heap.objs.size + 2], _, _, H1, rfl, I1.kept (t' := s1.toks) hk, turn_z3 (zip_sep3 (N := s1.heap.objs.size) (fp1 := [a]) (fp2 := [b]) (fp3 := [c]) ?_ ?_ ?_) ?_ ?_ ?_, ⟨hz, hTI, ⟨_, _, _, hTO⟩, ⟨_, f1, rfl, rfl⟩, ⟨_, f2, rfl, rfl⟩, ⟨_, f3, rfl, rfl⟩⟩, fun m hm => ?_, q⟩
        · exact fun m hm => by rw [List.mem_singleton.mp hm]; exact p1.lt
        · exact fun m hm => by rw [List.mem_singleton.mp hm]; exact p2.lt
        · exact fun m hm => by rw [List.mem_singleton.mp hm]; exact p3.lt
        · exact Nat.ne_of_lt p1.lt
        · exact Nat.ne_of_lt (Nat.lt_of_lt_of_le p2.lt (Nat.le_add_right _ _))
        · exact Nat.ne_of_lt (Nat.lt_of_lt_of_le p3.lt (Nat.le_add_right _ _))
        · have hge : s1.heap.objs.size ≤ m := by
            simp only [List.mem_cons, List.not_mem_nil, or_false] at hm
            rcases hm with e | e | e | e | e | e <;> (rw [e]; first | exact Nat.le_refl _ | exact Nat.le_add_right _ _)
          exact I1.fpOk hge (I1.hok.fresh hge)
theorem ki_zip3 {X : Cx} {K : PySem.W.Frag} {e e2 e3 : Expr} {ta : TA} {p pos tpos : Pos} {elts : List Expr} {kk : Nat} (hg : Gl X "zip") (hm : X.mg "zip" = none) (ha : PA X [e, e2, e3] ta)
    (hs : starEach [e, e2, e3] X.env = (false, eval e X.env) :: starEach [e2, e3] X.env := by rfl) (hpl : (backTo pos (starEach [e2, e3] X.env)).any (·.1) = false := by rfl) (h : X.K = K := by rfl) :
    PI X (.Tuple elts kk tpos) (.Call (.Name "zip" p) [e, e2, e3] [] pos) (iZip3 K ta) := h ▸ pi_zip3 hg hm ha hs hpl
def Y3 (f g k : Nat → Option V) : Nat → Hp → V → Hp → Prop := fun i H v H2 => ∃ T x y z, v = .ref T ∧ H T = none ∧ H2 = upd H T (.tup [x, y, z]) ∧ f i = some x ∧ g i = some y ∧ k i = some z
theorem walk_z3 {K : PySem.W.Frag} {a b c : Addr} {xs ys zs : List V} (h1 : ys.length = xs.length) (h2 : zs.length = xs.length) : Walk (It3 K a b c) xs.length (fun H => SqL K H a xs ∧ SqL K H b ys ∧ SqL K H c zs) (Y3 (fun i => xs[i]?) (fun i => ys[i]?) (fun i => zs[i]?)) := by
  refine ⟨fun i _ hi hs => ⟨xs, ys, zs, xs[i], ys[i]'(by omega), zs[i]'(by omega), hs.1, hs.2.1, hs.2.2, by simp [hi], by simp [show i < ys.length by omega], by simp [show i < zs.length by omega]⟩, fun _ hs => ⟨xs, ys, zs, hs.1, hs.2.1, hs.2.2, by omega, by omega, by omega⟩, fun i H v H2 _ hs y => ?_⟩
  obtain ⟨T, x, y, z, e1, e2, e3, e4, e5, e6⟩ := y
  exact ⟨T, x, y, z, e1, e2, e3, e4 xs hs.1, e5 ys hs.2.1, e6 zs hs.2.2⟩
end Pot

namespace Pot
open PySem PySem.Spec PyProof.Rows L2
open PySem.Calls
open PySem.W (sortingHeap copyHeap sortLe alike alikeAll keyToks keyToksAll dataLt dataKind KatLex SortsAt sortVals dataType EachIs)
/-! ### sorted of rows that are told apart by parts that can be compared -/
/-- up to the first part in which they differ, that one too, two rows are alike -/
def okCmp : List PyData → List PyData → Bool
  | x :: xs, y :: ys => alike x y && (!PyData.eqv x y || okCmp xs ys)
  | [], [] => true
  | _, _ => false
section
variable {prog : Program} {w : World} {A : Around} {s : Shared}
theorem kat_ok {b fin : Bool} {Q : Bool → Shared → Prop} : ∀ (xs ys : List PyData) (i : Nat) (vs ws : List Value) (as bs : List Addr), ReadsAll s.heap vs xs as → ReadsAll s.heap ws ys bs → okCmp xs ys = true → A.units + min (PyData.depthAll xs) (PyData.depthAll ys) < cLine → (b = true → i = 0 → ∀ x r t, xs = x :: r → x ≠ .tuple t) → fin = decide (xs.length < ys.length) →
    Q (PyProof.Rows.lexLt itemOrd (keyToksAll xs) (keyToksAll ys)) s → KatLex prog w A b fin Q (vs.zip ws) i s := by
  intro xs
  induction xs with
  | nil =>
    intro ys i vs ws as bs ra rb ok hu hb hf hq
    have := PySem.W.katLex_alike (prog := prog) (w := w) (A := A) (s := s) (b := b) (fin := fin) (Q := Q) [] ys i vs ws as bs ra rb
    cases ys with
    | nil => exact this rfl hu hb hf hq
    | cons y ys => cases ok
  | cons x xs ih =>
    intro ys i vs ws as bs ra rb ok hu hb hf hq
    cases ys with
    | nil => cases ok
    | cons y ys =>
      obtain ⟨al, nx⟩ := Bool.and_eq_true_iff.mp ok
      have hf2 : fin = decide (xs.length < ys.length) := by rw [hf]; simp only [List.length_cons, Nat.add_lt_add_iff_right]
      cases ra with
      | cons r rs =>
        cases rb with
        | cons r2 rs2 =>
          rw [List.zip_cons_cons]
          refine PySem.W.kat_cons (PySem.W.eqAt_alike x y A s _ _ _ _ r r2 al (SeqAt.room_head hu) prog w _ _ ?_)
          cases ex : PyData.eqv x y with
          | true =>
            rw [PySem.W.dataLt_all_yes al ex] at hq
            rw [ex] at nx
            exact PySem.W.kat_yes (ih ys (i + 1) _ _ _ _ rs rs2 nx (SeqAt.room_tail hu) (fun _ h0 => absurd h0 (Nat.succ_ne_zero i)) hf2 hq)
          | false =>
            rw [PySem.W.dataLt_all_no al ex] at hq
            refine PySem.W.kat_no (PySem.W.oneLt_alike (fun hbi t => ?_) r r2 al (PySem.W.ne_none_of al ex) (SeqAt.room_head hu) hq)
            obtain ⟨b1, b2⟩ := Bool.and_eq_true_iff.mp hbi
            exact hb b1 (by simpa using b2) x xs t rfl
theorem key_of {h : Heap} {ds : List PyData} {v : Value} {d : PyData} {as : List Addr} (hd : d ∈ ds) (r : Reads h v d as) : (dataKind h ds).keyOf v = some (keyToks d) := by
  have ex : ∃ e, e ∈ ds ∧ ∃ bs, Reads h v e bs := ⟨d, hd, as, r⟩
  have eq1 : (dataKind h ds).keyOf v = some (keyToks ex.choose) := dif_pos ex
  obtain ⟨_, bs, r2⟩ := ex.choose_spec
  rw [eq1, (Reads.unique r2 _ _ r).1]
/-- rows that can be sorted: tuples with a first part, the first parts alike, each two comparable -/
structure RowsCmp (ds : List PyData) : Prop where
  form : ∀ d ∈ ds, ∃ x r, d = .tuple (x :: r)
  first : ∀ x r x2 r2, PyData.tuple (x :: r) ∈ ds → PyData.tuple (x2 :: r2) ∈ ds → alike x x2 = true
  cmp : ∀ xs ys, PyData.tuple xs ∈ ds → PyData.tuple ys ∈ ds → okCmp xs ys = true
theorem sorts_rows {vs : List Value} {ds : List PyData} (e : EachIs (fun v d => ∃ as, Reads s.heap v d as) vs ds) (W : RowsCmp ds) (hu : ∀ d, d ∈ ds → A.units + d.depth < cLine) : SortsAt prog w A s (dataKind s.heap ds) vs := by
  refine ⟨fun v hv => ?_, ?_⟩
  · obtain ⟨d, hd, as, r⟩ := e.left v hv
    exact ⟨_, key_of hd r⟩
  · cases hds : ds with
    | nil =>
      rw [hds] at e
      cases e
      exact ⟨general', fun E x y a b Q ha _ _ => (by obtain ⟨d, _, hd, _⟩ := PySem.W.dataKind_inv ha; exact absurd hd (by simp)), fun h2 => absurd h2 (by simp)⟩
    | cons d0 ds0 =>
      rw [← hds]
      have m0 : d0 ∈ ds := by rw [hds]; exact List.mem_cons_self
      obtain ⟨x0, r0, e0⟩ := W.form d0 m0
      have m0 : PyData.tuple (x0 :: r0) ∈ ds := by rw [← e0]; exact m0
      refine ⟨tuples' (dataType x0 != Value.type "tuple"), ?_, fun h2 E Q hq => ?_⟩
      · intro E x y a b Q ha hb hq
        obtain ⟨d, as, hd, ra, rfl⟩ := PySem.W.dataKind_inv ha
        obtain ⟨d2, as2, hd2, rb, rfl⟩ := PySem.W.dataKind_inv hb
        obtain ⟨x1, r1, rfl⟩ := W.form d hd
        obtain ⟨x2, r2, rfl⟩ := W.form d2 hd2
        have room : A.units + min (PyData.tuple (x1 :: r1)).depth (PyData.tuple (x2 :: r2)).depth < cLine := Nat.lt_of_le_of_lt (Nat.add_le_add_left (Nat.min_le_left _ _) _) (hu _ hd)
        have hq2 : Q (dataLt (.tuple (x1 :: r1)) (.tuple (x2 :: r2))) s := hq
        rw [PySem.W.dataLt_tuple] at hq2
        cases ra with
        | @tuple l o us n _ _ h1 h2 h3 h4 =>
          cases rb with
          | @tuple l2 o2 us2 n2 _ _ k1 k2 k3 k4 =>
            have z1 : us.size = (x1 :: r1).length := by simpa using SeqAt.ReadsAll.length _ _ _ h4
            have z2 : us2.size = (x2 :: r2).length := by simpa using SeqAt.ReadsAll.length _ _ _ k4
            refine PySem.W.kat_lt h1 h3 k1 k3 (kat_ok (prog := prog) (w := w) (A := A) (s := s) (x1 :: r1) (x2 :: r2) 0 _ _ _ _ h4 k4 (W.cmp _ _ hd hd2) (by have := SeqAt.room_in room; omega) (fun hb1 _ xx rr t ex => ?_) (by rw [z1, z2]) hq2)
            obtain ⟨rfl, rfl⟩ := List.cons.inj ex
            rw [← PySem.W.dataType_alike (W.first _ _ _ _ hd m0)] at hb1
            exact PySem.W.dataType_tuple hb1 t
      · obtain ⟨fs, t1, t2, t3⟩ := PySem.W.each_katTups e W.form
        refine PySem.W.kat_kind (T := dataType x0) t1 (by omega) (fun f hf => ?_) (beq_self_eq_true _) hq
        obtain ⟨xx, rr, as, m1, m2⟩ := t3 f hf
        rw [← PySem.W.dataType_alike (W.first _ _ _ _ m1 m0)]
        exact PySem.W.looks_reads m2
end
theorem perm_lift {α β : Type} (f : α → β) {out l : List β} (h : out.Perm l) : ∀ L : List α, L.map f = l → ∃ L2 : List α, L2.Perm L ∧ L2.map f = out := by
  induction h with
  | nil => intro L e; exact ⟨L, .refl _, e⟩
  | cons x _ ih =>
    intro L e
    cases L with
    | nil => cases e
    | cons y L =>
      obtain ⟨e1, e2⟩ := List.cons.inj e
      obtain ⟨L2, p2, m2⟩ := ih L e2
      exact ⟨y :: L2, p2.cons y, by rw [List.map_cons, m2, e1]⟩
  | swap x y l =>
    intro L e
    match L, e with
    | a :: b :: L, e =>
      obtain ⟨e1, e2⟩ := List.cons.inj e
      obtain ⟨e2, e3⟩ := List.cons.inj e2
      exact ⟨b :: a :: L, .swap a b L, by rw [List.map_cons, List.map_cons, e1, e2, e3]⟩
  | trans _ _ ih1 ih2 =>
    intro L e
    obtain ⟨L2, p2, m2⟩ := ih2 L e
    obtain ⟨L3, p3, m3⟩ := ih1 L2 m2
    exact ⟨L3, p3.trans p2, m3⟩
section
variable {X : Cx} {K : PySem.W.Frag}
theorem each_reads {pins : List (Addr × Obj)} {σ : L2.St} {H : Hp} {s : Shared} (I : Inv X pins σ H s) : ∀ {xs : List V} {its : List Value} {ds : List PyData}, Vals xs its → DpAll X.K H xs ds → ∃ L : List (Value × V × PyData), L.map (·.1) = its ∧ L.map (·.2.1) = xs ∧ L.map (·.2.2) = ds ∧ ∀ t ∈ L, RelV t.2.1 t.1 ∧ Dp X.K H t.2.1 t.2.2
  | _, _, _, .nil, .nil => ⟨[], rfl, rfl, rfl, fun _ h => (List.not_mem_nil h).elim⟩
  | _, _, _, .cons (a := x) (b := u) r rs, .cons (d := d) p ps => by
    obtain ⟨L, h1, h2, h3, h4⟩ := each_reads I rs ps
    refine ⟨(u, x, d) :: L, by rw [List.map_cons, h1], by rw [List.map_cons, h2], by rw [List.map_cons, h3], fun t ht => ?_⟩
    rcases List.mem_cons.mp ht with e | e
    · rw [e]; exact ⟨r, p⟩
    · exact h4 t e
/-- sorted of a list of rows: a new list of the same ones -/
def rSortedR (K : PySem.W.Frag) : List V → Hp → VK → Prop := fun vs H Q => ∃ (a : Addr) (xs : List V) (ds : List PyData), vs = [V.ref a] ∧ SqL K H a xs ∧ DpAll K H xs ds ∧ RowsCmp ds ∧ (∀ d ∈ ds, d.depth ≤ 60) ∧
  ∀ (zs : List V) (es : List PyData) (p : Addr), DpAll K H zs es → es.Perm ds → H p = none → Q (.ref p) (upd H p (.lst zs))
theorem cr_sortedR (hu : X.A.units + 70 < cLine) : CallR X (.builtin "sorted") (rSortedR X.K) := by
  intro pins s σ H vs0 us0 Q I r h
  obtain ⟨a, xs, ds, rfl, hs, da, W, dep, q⟩ := h
  obtain ⟨its, rv, hl, hz⟩ := I.list hs
  rw [Vals.ref1 r]
  obtain ⟨L, e1, e2, e3, all⟩ := each_reads I rv da
  have er : EachIs (fun v d => ∃ as, Reads s.heap v d as) its ds := by
    rw [← e1, ← e3]
    clear e1 e2 e3
    induction L with
    | nil => exact .nil
    | cons t L ih =>
      have ht := all t List.mem_cons_self
      exact .cons (Dp.reads I _ _ _ ht.2 ht.1) (ih fun x hx => all x (List.mem_cons_of_mem _ hx))
  have ll : its.length = xs.length := by rw [← e1, ← e2, List.length_map, List.length_map]
  have ln : its.length ≤ sizeLine := by rw [ll]; exact hz
  have er' : EachIs (fun v d => ∃ as, Reads (sortingHeap (copyHeap s.heap its) (s.heap.objs.size + 1) its) v d as) its ds := er.mono fun _ _ ⟨as, r⟩ => ⟨as, PyProof.Rows.Reads.keeps (fun _ _ => PySem.W.sorting_copy_old) r⟩
  have S := sorts_rows (prog := X.prog) (w := X.w) (A := X.A.in1.in1) (s := { s with heap := sortingHeap (copyHeap s.heap its) (s.heap.objs.size + 1) its }) er' W (fun d hd => by have := dep d hd; simp only [Around.in1]; omega)
  refine PySem.W.sorted_vals hl.isList S ln ?_
  generalize eo : sortVals _ false its its = out
  have po : out.Perm its := by
    rw [← eo]
    unfold sortVals
    have := (List.mergeSort_perm (its.zip its) (sortLe (dataKind (sortingHeap (copyHeap s.heap its) (s.heap.objs.size + 1) its) ds).toKeyOrd false fun p : Keyed => PySem.W.keyD (dataKind (sortingHeap (copyHeap s.heap its) (s.heap.objs.size + 1) its) ds) p.1)).map Prod.snd
    rw [List.map_snd_zip (Nat.le_refl _)] at this
    exact this
  obtain ⟨L2, p2, m2⟩ := perm_lift (·.1) po L e1
  have rv2 : Vals (L2.map (·.2.1)) out := by
    rw [← m2]
    clear m2
    have hh : ∀ t ∈ L2, RelV t.2.1 t.1 := fun t ht => (all t (p2.mem_iff.mp ht)).1
    clear p2
    induction L2 with
    | nil => exact .nil
    | cons t L2 ih => exact .cons (hh t List.mem_cons_self) (ih fun x hx => hh x (List.mem_cons_of_mem _ hx))
  have dp2 : DpAll X.K H (L2.map (·.2.1)) (L2.map (·.2.2)) := by
    have hh : ∀ t ∈ L2, Dp X.K H t.2.1 t.2.2 := fun t ht => (all t (p2.mem_iff.mp ht)).2
    clear p2 m2 rv2
    induction L2 with
    | nil => exact .nil
    | cons t L2 ih => exact .cons (hh t List.mem_cons_self) (ih fun x hx => hh x (List.mem_cons_of_mem _ hx))
  have pd : (L2.map (·.2.2)).Perm ds := by rw [← e3]; exact p2.map _
  obtain ⟨ep, hat⟩ := PyProof.Rows.sortedAll_at s.heap its out.toArray
  have fr : H (s.heap.objs.size + 1) = none := I.hok.fresh (Nat.le_succ _)
  exact ⟨.ref _, upd H (s.heap.objs.size + 1) (.lst (L2.map (·.2.1))), I.laid (t' := s.toks) (fun _ _ => PyProof.Rows.sortedAll_old) (Nat.le_succ _) ⟨by rw [List.length_map, p2.length_eq, ← List.length_map (f := fun x : Value × V × PyData => x.1), e1]; exact ln, out, ep, rv2, hat⟩, rfl, q _ _ _ dp2 pd fr⟩
theorem kc_sortedR (hu : X.A.units + 70 < cLine) (h : X.K = K := by rfl) : CallR X (.builtin "sorted") (rSortedR K) := h ▸ cr_sortedR hu
end
end Pot

namespace Pot
open PySem PySem.Spec PyProof.Rows L2
/-! ### a op1 b op2 c op3 d op4 e as a test -/
def tChain4 (r1 r2 r3 r4 : R2) (ta tb tc td te : TE) : TT := fun σ H Q => ta σ H fun x H1 => tb σ H1 fun y H2 => r1 x y H2 fun z H3 => ∃ k, z = .bl k ∧
  (if k = true then tc σ H3 fun y2 H4 => r2 y y2 H4 fun z H5 => ∃ k, z = .bl k ∧
    (if k = true then td σ H5 fun y3 H6 => r3 y2 y3 H6 fun z H7 => ∃ k, z = .bl k ∧
      (if k = true then te σ H7 fun y4 H8 => r4 y3 y4 H8 fun z H9 => ∃ k, z = .bl k ∧ Q k H9 else Q false H7) else Q false H5) else Q false H3)
theorem pt_chain4 {X : Cx} {a b c d e : Expr} {ta tb tc td te : TE} {pos : Pos} {o1 o2 o3 o4 : CmpOp} {r1 r2 r3 r4 : R2} (h1 : OpR X (compareOp o1) r1) (h2 : OpR X (compareOp o2) r2) (h3 : OpR X (compareOp o3) r3) (h4 : OpR X (compareOp o4) r4)
    (ha : PE X a ta) (hb : PE X b tb) (hc : PE X c tc) (hd : PE X d td) (he : PE X e te)
    (hm : lastMarks [o1, o2, o3, o4] [b, c, d, e] = false := by with_unfolding_all rfl) : PT X (.Compare a [o1, o2, o3, o4] [b, c, d, e] pos) (tChain4 r1 r2 r3 r4 ta tb tc td te) := by
  refine ⟨fun pins s σ H Q I h => ?_⟩
  refine isTrue_chain (thn (ha.run pins s σ H _ I h) fun v s1 ⟨x, H1, I1, x1, q1⟩ => test_link (thn (hb.run pins s1 σ H1 _ I1 q1) fun u s2 ⟨y, H2, I2, x2, q2⟩ =>
    thn (h1 pins s2 σ H2 x y v u _ I2 x1 x2 q2) fun d s3 ⟨z, H3, I3, x3, k, e, q3⟩ => ?_)) hm
  subst e
  cases x3
  refine wpAny_truthy_bool ?_
  cases k with
  | false => exact ite_ff ⟨H3, I3, q3⟩
  | true =>
    refine ite_tt (test_link (thn (hc.run pins s3 σ H3 _ I3 q3) fun u2 s4 ⟨y2, H4, I4, x4, q4⟩ =>
      thn (h2 pins s4 σ H4 y y2 u u2 _ I4 x2 x4 q4) fun d s5 ⟨z, H5, I5, x5, k, e, q5⟩ => ?_))
    subst e
    cases x5
    refine wpAny_truthy_bool ?_
    cases k with
    | false => exact ite_ff ⟨H5, I5, q5⟩
    | true =>
      refine ite_tt (test_link (thn (hd.run pins s5 σ H5 _ I5 q5) fun u3 s6 ⟨y3, H6, I6, x6, q6⟩ =>
        thn (h3 pins s6 σ H6 y2 y3 u2 u3 _ I6 x4 x6 q6) fun d s7 ⟨z, H7, I7, x7, k, e, q7⟩ => ?_))
      subst e
      cases x7
      refine wpAny_truthy_bool ?_
      cases k with
      | false => exact ite_ff ⟨H7, I7, q7⟩
      | true =>
        refine ite_tt (test_last (thn (he.run pins s7 σ H7 _ I7 q7) fun u4 s8 ⟨y4, H8, I8, x8, q8⟩ =>
          thn (h4 pins s8 σ H8 y3 y4 u3 u4 _ I8 x6 x8 q8) fun d s9 ⟨z, H9, I9, x9, k, e, q9⟩ => ?_))
        subst e
        cases x9
        exact wpAny_truthy_bool ⟨H9, I9, q9⟩
end Pot

namespace Pot
open PySem PySem.Spec PyProof.Rows L2
/-- built-in names that the module gives no other meaning -/
structure Txt (mg : Str → Option Value) : Prop where
  len : mg "len" = none
  divmod : mg "divmod" = none
  range : mg "range" = none
  sum : mg "sum" = none
  all : mg "all" = none
  any : mg "any" = none
  isinstance : mg "isinstance" = none
  str : mg "str" = none
  int : mg "int" = none
  list : mg "list" = none
  tuple : mg "tuple" = none
  bool : mg "bool" = none
  zip : mg "zip" = none
  set : mg "set" = none
  sorted : mg "sorted" = none
  enumerate : mg "enumerate" = none
  repr : mg "repr" = none
  min : mg "min" = none
  max : mg "max" = none
  abs : mg "abs" = none
/-- a def that may be called by its name: what it keeps, at which level -/
def Cl (P : Program) (w : World) (K : PySem.W.Frag) (mg : Str → Option Value) (base : Heap) (k : Nat) (x : Str) (sp : Sp) : Prop :=
  ∃ (f : Addr) (fd : FuncData) (ps : List Str), FnOk P w K mg base CX0 k f fd ps sp ∧ mg x = some (.ref f) ∧ PySem.W.keepIn K (.ref f) = true ∧ Binds K fd ps []
theorem pe_cl {X : Cx} {k j : Nat} {x : Str} {sp : Sp} {e : Expr} {es : List Expr} {t : TA} {p pos : Pos} (c : Cl X.prog X.w X.K X.mg X.base k x sp) (hr : Room j X.A) (hk : k ≤ j) (hg : Gl X x) (ha : PA X (e :: es) t) (hdb : (x == ("__debug__" : Str)) = false := by decide)
    (he : starEach (e :: es) X.env = (false, eval e X.env) :: starEach es X.env := by rfl) (hpl : (backTo pos (starEach es X.env)).any (·.1) = false := by rfl) : PE X (.Call (.Name x p) (e :: es) [] pos) (tCall sp [] E0 t) := by
  obtain ⟨f, fd, ps, G, hm, kp, b⟩ := c
  exact pe_call G (hr.mono hk) hg hm kp b .nil pass0 ha hdb he hpl
/-! ### the drawing state -/
def dS (c : Addr) (t : Int) : List (Key × V) := [(Sum.inr "cells", .ref c), (Sum.inr "turn", .int t)]
/-- at d stands a state of the law: its cells at c, its turn at most n -/
def StAt (H : Hp) (d c : Addr) (n : Nat) : Prop := d ≠ c ∧ ∃ (xs : List Int) (t : Int),
  H d = some (.dK (dS c t)) ∧ H c = some (.lst (xs.map V.int)) ∧ xs ≠ [] ∧ xs.length ≤ 63 ∧ 0 ≤ t ∧ t ≤ n
/-- all that was tracked stands, but d and c -/
def Kp (d c : Addr) (H H' : Hp) : Prop := ∀ b o, b ≠ d → b ≠ c → H b = some o → H' b = some o
theorem Kp.refl (d c : Addr) (H : Hp) : Kp d c H H := fun _ _ _ _ e => e
theorem Kp.trans {d c : Addr} {H H1 H2 : Hp} (a : Kp d c H H1) (b : Kp d c H1 H2) : Kp d c H H2 := fun x o h1 h2 e => b x o h1 h2 (a x o h1 h2 e)
theorem Kp.of {d c : Addr} {H H' : Hp} (s : Same H H') : Kp d c H H' := fun x o _ _ e => s x o e
theorem same_upd {H : Hp} {p : Addr} {o : HO} (h : H p = none) : Same H (upd H p o) := fun b x e => by
  rw [upd_ne (ne_of_none e h)]
  exact e
theorem same_put {H H' : Hp} {p : Addr} {o : HO} (s : Same H H') (h : H p = none) : Same H (upd H' p o) := fun b x e => by
  rw [upd_ne (ne_of_none e h)]
  exact s b x e
theorem kp_put {d c : Addr} {H H' : Hp} {p : Addr} {o : HO} (s : Kp d c H H') (h : H p = none) : Kp d c H (upd H' p o) := fun b x h1 h2 e => by
  rw [upd_ne (ne_of_none e h)]
  exact s b x h1 h2 e
theorem StAt.mono {H : Hp} {d c : Addr} {n m : Nat} (h : StAt H d c n) (k : n ≤ m) : StAt H d c m := by
  obtain ⟨h0, xs, t, h1, h2, h3, h4, h5, h6⟩ := h
  exact ⟨h0, xs, t, h1, h2, h3, h4, h5, by omega⟩
theorem StAt.same {H H' : Hp} {d c : Addr} {n : Nat} (h : StAt H d c n) (s : Same H H') : StAt H' d c n := by
  obtain ⟨h0, xs, t, h1, h2, h3, h4, h5, h6⟩ := h
  exact ⟨h0, xs, t, s _ _ h1, s _ _ h2, h3, h4, h5, h6⟩
theorem Kp.free {d c : Addr} {H H' : Hp} {n : Nat} {l : Addr} (k : Kp d c H H') (s : StAt H' d c n) (h : H' l = none) : H l = none := by
  obtain ⟨_, xs, t, h1, h2, _⟩ := s
  have n1 : l ≠ d := (ne_of_none h1 h).symm
  have n2 : l ≠ c := (ne_of_none h2 h).symm
  cases e : H l with
  | none => rfl
  | some o =>
    rw [k l o n1 n2 e] at h
    cases h
theorem StAt.ne1 {H : Hp} {d c : Addr} {n : Nat} {l : Addr} (s : StAt H d c n) (h : H l = none) : d ≠ l := by
  obtain ⟨_, xs, t, h1, h2, _⟩ := s
  exact ne_of_none h1 h
theorem StAt.ne2 {H : Hp} {d c : Addr} {n : Nat} {l : Addr} (s : StAt H d c n) (h : H l = none) : c ≠ l := by
  obtain ⟨_, xs, t, h1, h2, _⟩ := s
  exact ne_of_none h2 h
theorem StAt.put {H : Hp} {d c : Addr} {n : Nat} {l : Addr} {o : HO} (s : StAt H d c n) (n1 : d ≠ l) (n2 : c ≠ l) : StAt (upd H l o) d c n := by
  obtain ⟨h0, xs, t, h1, h2, h3, h4, h5, h6⟩ := s
  exact ⟨h0, xs, t, by rw [upd_ne n1]; exact h1, by rw [upd_ne n2]; exact h2, h3, h4, h5, h6⟩
theorem val_turn (c : Addr) (t : Int) : valV (dS c t) (Sum.inr "turn") = some (.int t) := by
  have e : ¬ ((Sum.inr (Str.ofString "cells") : Key) = Sum.inr (Str.ofString "turn")) := by decide +kernel
  unfold dS; rw [valV_neg e, valV_pos rfl]
theorem val_cells (c : Addr) (t : Int) : valV (dS c t) (Sum.inr "cells") = some (.ref c) := by
  unfold dS; rw [valV_pos rfl]
theorem put_turn (c : Addr) (t u : Int) : putK (dS c t) (Sum.inr "turn") (.int u) = dS c u := by
  have e : ¬ ((Sum.inr (Str.ofString "cells") : Key) = Sum.inr (Str.ofString "turn")) := by decide +kernel
  unfold putK dS
  simp [e]

theorem dget_turn {H : Hp} {d c : Addr} {t : Int} (h : H d = some (.dK (dS c t))) : DGet H d (.str "turn") (some (.int t)) := by
  rw [← val_turn c t]; exact DGet.k (k := Sum.inr "turn") h
theorem dget_cells {H : Hp} {d c : Addr} {t : Int} (h : H d = some (.dK (dS c t))) : DGet H d (.str "cells") (some (.ref c)) := by
  rw [← val_cells c t]; exact DGet.k (k := Sum.inr "cells") h
theorem dput_turn {H : Hp} {d c : Addr} {t : Int} (u : Int) (h : H d = some (.dK (dS c t))) : DPut H d (.str "turn") (.int u) (upd H d (.dK (dS c u))) := by
  rw [← put_turn c t u]; exact DPut.k (k := Sum.inr "turn") h (by show 2 < sizeLine; decide)
theorem ge18 (x : Int) : (decide ((10 : Int) ^ (18 : Int).toNat ≤ x) = true) ↔ 1000000000000000000 ≤ x := by
  have e : (10 : Int) ^ (18 : Int).toNat = 1000000000000000000 := by decide
  rw [e, decide_eq_true_eq]
theorem cmul_mod (a b : Int) {m : Int} (h0 : 0 < m) (h1 : m < 2 ^ 64) : CMul (a % m) b := by
  have p := Int.emod_nonneg a (show m ≠ 0 by omega)
  have q := Int.emod_lt_of_pos a h0
  exact .inl ⟨by omega, by omega⟩
theorem mod_at {xs : List Int} {u : Int} (hx : xs ≠ []) : ∃ (j : Nat) (y : Int), u % ((xs.map V.int).length : Int) = (j : Int) ∧ j < xs.length ∧ xs[j]? = some y := by
  have h0 : 0 < xs.length := List.length_pos_iff.mpr hx
  rw [List.length_map]
  have a := Int.emod_nonneg u (show (xs.length : Int) ≠ 0 by omega)
  have b := Int.emod_lt_of_pos u (show (0 : Int) < (xs.length : Int) by omega)
  refine ⟨(u % (xs.length : Int)).toNat, xs[(u % (xs.length : Int)).toNat]'(by omega), by omega, by omega, ?_⟩
  exact List.getElem?_eq_getElem _

section
variable {K : PySem.W.Frag}
theorem cut63 {xs : List V} (h : xs.length ≤ 63) : cutV xs none (some 63) = xs := by
  unfold cutV
  rw [HT.sIx_none, show HT.sIx xs.length xs.length (some 63) = min 63 xs.length from HT.sIx_nat xs.length xs.length 63, Nat.min_eq_right h]
  simp
theorem dp_ints {H : Hp} (ns : List Int) : DpAll K H (ns.map V.int) (ns.map PyData.int) := by
  induction ns with
  | nil => exact .nil
  | cons n r ih => exact .cons (.int n) ih
theorem same_tup {H H' : Hp} {a : Addr} {xs : List V} (e : Same H H') (h : SqT K H a xs) : SqT K H' a xs := by
  rcases h with (h | ⟨o, h⟩) | h
  · exact .inl (.inl (e _ _ h))
  · exact .inl (.inr ⟨o, e _ _ h⟩)
  · exact .inr h
mutual
theorem dp_same {H H' : Hp} (s : Same H H') : ∀ {v : V} {d : PyData}, Dp K H v d → Dp K H' v d
  | _, _, .non => .non
  | _, _, .bl b => .bl b
  | _, _, .int i => .int i
  | _, _, .str x => .str x
  | _, _, .lst h a => .lst (s.seq h) (dpAll_same s a)
  | _, _, .tup h a => .tup (same_tup s h) (dpAll_same s a)
theorem dpAll_same {H H' : Hp} (s : Same H H') : ∀ {vs : List V} {ds : List PyData}, DpAll K H vs ds → DpAll K H' vs ds
  | _, _, .nil => .nil
  | _, _, .cons h t => .cons (dp_same s h) (dpAll_same s t)
end
theorem dpAll_len {H : Hp} : ∀ {vs : List V} {ds : List PyData}, DpAll K H vs ds → vs.length = ds.length
  | _, _, .nil => rfl
  | _, _, .cons _ t => by rw [List.length_cons, List.length_cons, dpAll_len t]
theorem dpAll_at {H : Hp} : ∀ {vs : List V} {ds : List PyData} {i : Nat} {v : V}, DpAll K H vs ds → vs[i]? = some v → ∃ d, ds[i]? = some d ∧ Dp K H v d
  | _, _, _, _, .nil, h => by simp at h
  | _, _, 0, _, .cons h _, e => ⟨_, rfl, by cases e; exact h⟩
  | _, _, i + 1, _, .cons _ t, e => dpAll_at (i := i) t e
theorem depth_at : ∀ {ds : List PyData} {i : Nat} {d : PyData}, ds[i]? = some d → d.depth ≤ PyData.depthAll ds
  | [], _, _, h => by simp at h
  | x :: r, 0, d, h => by cases h; unfold PyData.depthAll; exact Nat.le_max_left ..
  | x :: r, i + 1, d, h => by
    have := depth_at (ds := r) (i := i) (d := d) h
    unfold PyData.depthAll
    exact Nat.le_trans this (Nat.le_max_right ..)
theorem tyx_list {H : Hp} {a : Addr} {xs : List V} (h : SqL K H a xs) : TyX K H (.ref a) (.type "list") := by
  rcases h with (h | ⟨o, h⟩) | ⟨o, its, n, h1, h2, _⟩
  · exact .base (.lst h)
  · exact .base (.frz h)
  · exact .kList h1 h2
theorem tyx_tup {H : Hp} {a : Addr} {xs : List V} (h : SqT K H a xs) : TyX K H (.ref a) (.type "tuple") := by
  rcases h with (h | ⟨o, h⟩) | ⟨o, its, n, h1, h2, _⟩
  · exact .base (.tup h)
  · exact .fTuple h
  · exact .kTuple h1 h2
theorem walk_zipT {a b : Addr} {xs ys : List V} {n : Nat} (hn : n = min xs.length ys.length) : Walk (RZ.ItzT K a b) n (fun H => SqT K H a xs ∧ SqT K H b ys) (YPair (fun i => xs[i]?) (fun i => ys[i]?)) := by
  subst hn
  refine ⟨fun i _ hi q => ?_, fun _ q => ⟨xs, ys, q.1, q.2, by omega⟩, fun i H v H' _ q y => ?_⟩
  · exact ⟨xs, ys, xs[i]'(by omega), ys[i]'(by omega), q.1, q.2, List.getElem?_eq_getElem _, List.getElem?_eq_getElem _⟩
  · obtain ⟨T, x, z, e1, e2, e3, e4, e5⟩ := y
    exact ⟨T, x, z, e1, e2, e3, e4 xs q.1, e5 ys q.2⟩
/-- the longest list within -/
def widAll : List PyData → Nat
  | [] => 0
  | x :: xs => max (wid x) (widAll xs)
where wid : PyData → Nat
  | .list xs => max xs.length (widAll xs)
  | .tuple xs => max xs.length (widAll xs)
  | _ => 0
theorem wid_at : ∀ {ds : List PyData} {i : Nat} {d : PyData}, ds[i]? = some d → widAll.wid d ≤ widAll ds
  | [], _, _, h => by simp at h
  | x :: r, 0, d, h => by cases h; unfold widAll; exact Nat.le_max_left ..
  | x :: r, i + 1, d, h => by
    have := wid_at (ds := r) (i := i) (d := d) h
    unfold widAll
    exact Nat.le_trans this (Nat.le_max_right ..)
theorem depth_ints (ns : List Int) : (PyData.list (ns.map PyData.int)).depth = 1 := by
  have h : ∀ l : List Int, PyData.depthAll (l.map PyData.int) = 0 := by
    intro l
    induction l with
    | nil => rfl
    | cons x r ih =>
      show max 0 (PyData.depthAll (r.map PyData.int)) = 0
      rw [ih]
      rfl
  show PyData.depthAll (ns.map PyData.int) + 1 = 1
  rw [h]
theorem wid_ints (ns : List Int) : widAll.wid (PyData.list (ns.map PyData.int)) = ns.length := by
  have h : ∀ l : List Int, widAll (l.map PyData.int) = 0 := by
    intro l
    induction l with
    | nil => rfl
    | cons x r ih =>
      show max 0 (widAll (r.map PyData.int)) = 0
      rw [ih]
      rfl
  show max (ns.map PyData.int).length (widAll (ns.map PyData.int)) = ns.length
  rw [h, List.length_map, Nat.max_zero]
theorem flat_ints (ns : List Int) : (ns.map V.int).all flatV = true := by
  rw [List.all_eq_true]
  intro x hx
  obtain ⟨k, _, rfl⟩ := List.mem_map.mp hx
  rfl
end
section
variable {P : Program} {w : World} {K : PySem.W.Frag} {mg : Str → Option Value} {base : Heap}
/-- a def with values that may be left out -/
abbrev FunV (K : PySem.W.Frag) (x : Str) (st : Stmt) (dvs : List V) (f : Addr) (fd : FuncData) : Prop := FunD K x x (defArgs st) (defBody st) (defScope st) dvs [] f fd
theorem okD {x : Str} {st : Stmt} {dvs : List V} {f : Addr} {fd : FuncData} {N ps : List Str} {k : Nat} {sp : Sp} (F : FunV K x st dvs f fd) (S : FnScope N ps (defScope st)) (len : ∀ vs H Q E, sp vs H Q E → vs.length = ps.length)
    (body : ∀ (cdv : Value) (A : Around) (outer : List Env) (s : Shared) (H : Hp) (vs : List V) (Q : VK) (E : XK), Room k (A.deeper (envOfC x (defScope st) s.heap.objs.size f cdv)) → sp vs H Q E →
      ∃ t, PSs (cxOf CX0 P w K mg base N x (defScope st) f cdv A outer s H E).nox (defBody st) t ∧ t { nx := fun _ H' => Q .non H', rt := Q } (start N vs) H) : FnOk P w K mg base CX0 (k + 1) f fd ps sp :=
  FunD.ok F S len fun cdv A outer s H vs Q E hr h => by
    obtain ⟨t, ht, hq⟩ := body cdv A outer s H vs Q E hr h
    exact ⟨t, ht.nox, hq⟩
/-- a def that may be called by its name, the values ds being left out -/
def ClD (P : Program) (w : World) (K : PySem.W.Frag) (mg : Str → Option Value) (base : Heap) (k : Nat) (x : Str) (ds : List V) (sp : Sp) : Prop :=
  ∃ (f : Addr) (fd : FuncData) (ps : List Str) (dus : List Value), FnOk P w K mg base CX0 k f fd ps sp ∧ mg x = some (.ref f) ∧ PySem.W.keepIn K (.ref f) = true ∧ Binds K fd ps dus ∧ Vals ds dus
theorem pe_cd {X : Cx} {k j : Nat} {x : Str} {ds : List V} {sp : Sp} {e : Expr} {es : List Expr} {t : TA} {p pos : Pos} (c : ClD X.prog X.w X.K X.mg X.base k x ds sp) (hr : Room j X.A) (hk : k ≤ j) (hg : Gl X x) (ha : PA X (e :: es) t) (hdb : (x == ("__debug__" : Str)) = false := by decide)
    (he : starEach (e :: es) X.env = (false, eval e X.env) :: starEach es X.env := by rfl) (hpl : (backTo pos (starEach es X.env)).any (·.1) = false := by rfl) : PE X (.Call (.Name x p) (e :: es) [] pos) (tCall sp ds E0 t) := by
  obtain ⟨f, fd, ps, dus, G, hm, kp, b, dv⟩ := c
  exact pe_call G (hr.mono hk) hg hm kp b dv pass0 ha hdb he hpl
theorem Cl.mono {k j : Nat} {x : Str} {sp : Sp} (c : Cl P w K mg base k x sp) (h : k ≤ j) : Cl P w K mg base j x sp := by
  obtain ⟨f, fd, ps, G, r⟩ := c
  exact ⟨f, fd, ps, G.mono h, r⟩
end
end Pot

namespace Pot
open PySem PySem.Spec PyProof.Rows L2
/-! ### a box of three numbers from which is drawn, and all that stands beside it -/
def Bx (H : Hp) (b : Addr) : Prop := ∃ x y z : Int, H b = some (.lst [.int x, .int y, .int z])
/-- the heap without some -/
def off (H : Hp) (S : List Addr) : Hp := fun x => if x ∈ S then none else H x
theorem off_in {H : Hp} {S : List Addr} {x : Addr} (h : x ∈ S) : off H S x = none := if_pos h
theorem off_out {H : Hp} {S : List Addr} {x : Addr} (h : x ∉ S) : off H S x = H x := if_neg h
theorem off_mem {H : Hp} {S : List Addr} {x : Addr} {o : HO} (h : off H S x = some o) : x ∉ S := fun e => by rw [off_in e] at h; cases h
theorem off_sub {H : Hp} {S : List Addr} : Same (off H S) H := fun x o h => by
  have n := off_mem h
  rw [off_out n] at h; exact h
theorem off_mono {H : Hp} {S T : List Addr} (h : ∀ x ∈ T, x ∈ S) : Same (off H S) (off H T) := fun x o e => by
  have n := off_mem e
  rw [off_out n] at e
  rw [off_out fun z => n (h x z)]; exact e
/-- what stands beside S stands -/
abbrev Sm (S : List Addr) (H H' : Hp) : Prop := Same (off H S) (off H' S)
theorem sm_mono {H H' : Hp} {S T : List Addr} (h : ∀ x ∈ T, x ∈ S) (s : Sm T H H') : Sm S H H' := fun x o e => by
  have n := off_mem e
  rw [off_out n] at e ⊢
  have n2 : x ∉ T := fun z => n (h x z)
  have := s x o (by rw [off_out n2]; exact e)
  rw [off_out n2] at this; exact this
theorem sm_one {H H' : Hp} {S : List Addr} {b : Addr} (h : b ∈ S) (s : Sm [b] H H') : Sm S H H' := sm_mono (fun x hx => by rw [List.mem_singleton.mp hx]; exact h) s
theorem sm_of {H H' : Hp} {S : List Addr} (s : Same H H') : Sm S H H' := fun x o h => by
  have n := off_mem h
  rw [off_out n] at h ⊢; exact s x o h
theorem sm_put {H : Hp} {S : List Addr} {p : Addr} {o : HO} (h : H p = none) : Sm S H (upd H p o) := sm_of (same_upd h)
theorem sm_wr {H : Hp} {S : List Addr} {p : Addr} {o : HO} (h : p ∈ S) : Sm S H (upd H p o) := fun x u e => by
  have n := off_mem e
  rw [off_out n] at e ⊢
  have ne : x ≠ p := fun z => n (by rw [z]; exact h)
  rw [upd_ne ne]; exact e
theorem at_off {H : Hp} {S : List Addr} {x : Addr} {o : HO} (h : off H S x = some o) : H x = some o := off_sub x o h
theorem Bx.bx {H : Hp} {b : Addr} (B : Bx H b) : Bx H b := B
theorem Bx.ne {H : Hp} {b p : Addr} (B : Bx H b) (h : H p = none) : p ≠ b := fun e => by
  obtain ⟨x, y, z, B⟩ := B
  rw [e, B] at h; cases h
theorem Bx.same {H H' : Hp} {b : Addr} (B : Bx H b) (s : Same H H') : Bx H' b := by
  obtain ⟨x, y, z, B⟩ := B
  exact ⟨x, y, z, s _ _ B⟩
theorem Bx.put {H : Hp} {b p : Addr} {o : HO} (B : Bx H b) (h : H p = none) : Bx (upd H p o) b := B.same (same_upd h)
theorem Bx.wr {H : Hp} {b p : Addr} {o : HO} (B : Bx H b) (h : p ≠ b) : Bx (upd H p o) b := by
  obtain ⟨x, y, z, B⟩ := B
  exact ⟨x, y, z, by rw [upd_ne h.symm]; exact B⟩
/-- all of S are there -/
def Live (S : List Addr) (H : Hp) : Prop := ∀ s ∈ S, H s ≠ none
theorem Live.same {S : List Addr} {H H' : Hp} (L : Live S H) (s : Same H H') : Live S H' := fun x hx e => by
  cases h : H x with
  | none => exact L x hx h
  | some o => rw [s x o h] at e; cases e
theorem Live.box {S : List Addr} {H H' : Hp} {b : Addr} (L : Live S H) (B : Bx H' b) (s : Sm [b] H H') : Live S H' := fun x hx e => by
  by_cases hb : x = b
  · obtain ⟨_, _, _, B⟩ := B
    rw [hb, B] at e; cases e
  · have n : x ∉ [b] := fun z => hb (List.mem_singleton.mp z)
    cases h : H x with
    | none => exact L x hx h
    | some o =>
      have := s x o (by rw [off_out n]; exact h)
      rw [off_out n, e] at this; cases this
theorem Live.put {S : List Addr} {H : Hp} {p : Addr} {o : HO} (L : Live S H) (h : H p = none) : Live S (upd H p o) := L.same (same_upd h)
theorem Live.wr {S : List Addr} {H : Hp} {p : Addr} {o : HO} (L : Live S H) : Live S (upd H p o) := fun x hx e => by
  by_cases hp : x = p
  · rw [hp, upd_same] at e; cases e
  · rw [upd_ne hp] at e; exact L x hx e
theorem Live.one {H : Hp} {b : Addr} (B : Bx H b) : Live [b] H := fun x hx e => by
  obtain ⟨_, _, _, B⟩ := B
  rw [List.mem_singleton.mp hx, B] at e; cases e
theorem Live.out {S : List Addr} {H : Hp} {p : Addr} (L : Live S H) (h : H p = none) : p ∉ S := fun z => L p z h
theorem Live.cons {S : List Addr} {H : Hp} {p : Addr} {o : HO} (L : Live S H) (h : H p = some o) : Live (p :: S) H := fun x hx e => by
  rcases List.mem_cons.mp hx with z | z
  · rw [z, h] at e; cases e
  · exact L x z e
theorem off_new {H : Hp} {S : List Addr} {p : Addr} {o : HO} (L : Live S H) (h : H p = none) : off (upd H p o) S p = some o := by
  rw [off_out (L.out h)]; exact upd_same
theorem off_upd {H : Hp} {S : List Addr} {p : Addr} {o : HO} (h : p ∉ S) : off (upd H p o) S p = some o := by
  rw [off_out h]; exact upd_same
section
variable {K : PySem.W.Frag}
theorem sq_off {H : Hp} {S : List Addr} {a : Addr} {xs : List V} (h : SqL K (off H S) a xs) : SqL K H a xs := off_sub.seq h
theorem sqt_off {H : Hp} {S : List Addr} {a : Addr} {xs : List V} (h : SqT K (off H S) a xs) : SqT K H a xs := same_tup off_sub h
theorem dp_off {H : Hp} {S : List Addr} {v : V} {d : PyData} (h : Dp K (off H S) v d) : Dp K H v d := dp_same off_sub h
/-- a new list is none of S, beside which the rest stands as it was -/
theorem off_fresh {H : Hp} {S : List Addr} {p : Addr} {o : HO} (h : H p = none) : off (upd H p o) (p :: S) = off H S := by
  funext x; unfold off
  by_cases e : x = p
  · subst e
    rw [if_pos List.mem_cons_self, h]
    split <;> rfl
  · have : (x ∈ p :: S) ↔ x ∈ S := by rw [List.mem_cons]; exact ⟨fun z => z.resolve_left e, .inr⟩
    by_cases m : x ∈ S
    · rw [if_pos m, if_pos (this.mpr m)]
    · rw [if_neg m, if_neg fun z => m (this.mp z), upd_ne e]
end
/-! ### what is made of numbers, texts, truths, None, lists and tuples -/
/-- numbers within m, texts of at most 2000 signs -/
def gdAll (m : Nat) : List PyData → Prop
  | [] => True
  | x :: xs => gd m x ∧ gdAll m xs
where gd (m : Nat) : PyData → Prop
  | .none => True
  | .bool _ => True
  | .int i => i.natAbs ≤ m
  | .str x => x.length ≤ 2000 ∧ ∀ c ∈ x.cps.toList, c < 1114112
  | .list xs => gdAll m xs
  | .tuple xs => gdAll m xs
  | .dict _ => False
abbrev gd (m : Nat) (d : PyData) : Prop := gdAll.gd m d
theorem gdAll_iff {m : Nat} : ∀ {ds : List PyData}, gdAll m ds ↔ ∀ d ∈ ds, gd m d
  | [] => ⟨fun _ _ h => (List.not_mem_nil h).elim, fun _ => trivial⟩
  | x :: xs => by
    constructor
    · intro h d hd
      rcases List.mem_cons.mp hd with e | e
      · rw [e]; exact h.1
      · exact gdAll_iff.mp h.2 d e
    · intro h
      exact ⟨h x List.mem_cons_self, gdAll_iff.mpr fun d hd => h d (List.mem_cons_of_mem _ hd)⟩
mutual
theorem gd_mono {m n : Nat} (h : m ≤ n) : ∀ d : PyData, gd m d → gd n d
  | .none, _ => trivial
  | .bool _, _ => trivial
  | .int i, g => Nat.le_trans g h
  | .str _, g => g
  | .list xs, g => gdAll_mono h xs g
  | .tuple xs, g => gdAll_mono h xs g
  | .dict _, g => g.elim
theorem gdAll_mono {m n : Nat} (h : m ≤ n) : ∀ ds : List PyData, gdAll m ds → gdAll n ds
  | [], _ => trivial
  | x :: xs, g => ⟨gd_mono h x g.1, gdAll_mono h xs g.2⟩
end
theorem log_small' {i : Int} (h : i.natAbs ≤ 2000000) : i.natAbs.log2 < 1920 := by
  by_cases z : i.natAbs = 0
  · rw [z]; decide
  · have := (Nat.log2_lt z).mpr (show i.natAbs < 2 ^ 21 from Nat.lt_of_le_of_lt h (by decide))
    omega
mutual
theorem gd_fine {m : Nat} (h : m ≤ 2000000) : ∀ d : PyData, gd m d → fineAll.fine d
  | .none, _ => trivial
  | .bool _, _ => trivial
  | .int i, g => log_small' (Nat.le_trans g h)
  | .str _, g => fun c hc => Nat.lt_trans (g.2 c hc) (by decide)
  | .list xs, g => gdAll_fine h xs g
  | .tuple xs, g => gdAll_fine h xs g
  | .dict _, g => g.elim
theorem gdAll_fine {m : Nat} (h : m ≤ 2000000) : ∀ ds : List PyData, gdAll m ds → fineAll ds
  | [], _ => trivial
  | x :: xs, g => ⟨gd_fine h x g.1, gdAll_fine h xs g.2⟩
end
theorem costAll_app (xs ys : List PyData) : costAll (xs ++ ys) = costAll xs + costAll ys := by
  induction xs with
  | nil => simp [costAll]
  | cons x xs ih => simp only [List.cons_append, costAll, ih]; omega
theorem cost_mem {ds : List PyData} {d : PyData} (h : d ∈ ds) : costAll.cost d + 2 ≤ costAll ds := by
  induction ds with
  | nil => exact (List.not_mem_nil h).elim
  | cons x xs ih =>
    show _ ≤ costAll.cost x + 2 + costAll xs
    rcases List.mem_cons.mp h with e | e
    · rw [e]; omega
    · have := ih e; omega
theorem len_cost : ∀ ds : List PyData, 2 * ds.length ≤ costAll ds
  | [] => Nat.le_refl _
  | x :: xs => by
    have := len_cost xs
    show 2 * (xs.length + 1) ≤ costAll.cost x + 2 + costAll xs
    omega
theorem depthAll_iff {D : Nat} : ∀ {ds : List PyData}, PyData.depthAll ds ≤ D ↔ ∀ d ∈ ds, d.depth ≤ D
  | [] => ⟨fun _ _ h => (List.not_mem_nil h).elim, fun _ => Nat.zero_le _⟩
  | x :: xs => by
    show max x.depth (PyData.depthAll xs) ≤ D ↔ _
    rw [Nat.max_le, depthAll_iff (ds := xs)]
    constructor
    · rintro ⟨h1, h2⟩ d hd
      rcases List.mem_cons.mp hd with e | e
      · rw [e]; exact h1
      · exact h2 d e
    · intro h
      exact ⟨h x List.mem_cons_self, fun d hd => h d (List.mem_cons_of_mem _ hd)⟩
/-- rows of parts: of numbers within m, their cost, how deep and how wide each -/
structure Ths (m C D W : Nat) (ds : List PyData) : Prop where
  g : ∀ d ∈ ds, gd m d
  c : costAll ds ≤ C
  d : ∀ d ∈ ds, d.depth ≤ D
  w : ∀ d ∈ ds, widAll.wid d ≤ W
/-- a thing: of numbers within m, its cost, how deep, how wide -/
structure Th (m C D W : Nat) (dd : PyData) : Prop where
  g : gd m dd
  c : costAll.cost dd ≤ C
  d : dd.depth ≤ D
  w : widAll.wid dd ≤ W
theorem widAll_iff {D : Nat} : ∀ {ds : List PyData}, widAll ds ≤ D ↔ ∀ d ∈ ds, widAll.wid d ≤ D
  | [] => ⟨fun _ _ h => (List.not_mem_nil h).elim, fun _ => Nat.zero_le _⟩
  | x :: xs => by
    show max (widAll.wid x) (widAll xs) ≤ D ↔ _
    rw [Nat.max_le, widAll_iff (ds := xs)]
    constructor
    · rintro ⟨h1, h2⟩ d hd
      rcases List.mem_cons.mp hd with e | e
      · rw [e]; exact h1
      · exact h2 d e
    · intro h
      exact ⟨h x List.mem_cons_self, fun d hd => h d (List.mem_cons_of_mem _ hd)⟩
section
variable {m n C E D F W U : Nat} {d x : PyData} {ds xs ys : List PyData}
theorem Th.mono (h : Th m C D W d) (a : m ≤ n) (b : C ≤ E) (c : D ≤ F) (e : W ≤ U) : Th n E F U d := ⟨gd_mono a d h.g, Nat.le_trans h.c b, Nat.le_trans h.d c, Nat.le_trans h.w e⟩
theorem Ths.mono (h : Ths m C D W ds) (a : m ≤ n) (b : C ≤ E) (c : D ≤ F) (e : W ≤ U) : Ths n E F U ds := ⟨fun x hx => gd_mono a x (h.g x hx), Nat.le_trans h.c b, fun x hx => Nat.le_trans (h.d x hx) c, fun x hx => Nat.le_trans (h.w x hx) e⟩
theorem Ths.app (h : Ths m C D W xs) (k : Ths m E D W ys) : Ths m (C + E) D W (xs ++ ys) :=
  ⟨fun d hd => (List.mem_append.mp hd).elim (h.g d) (k.g d), by rw [costAll_app]; exact Nat.add_le_add h.c k.c, fun d hd => (List.mem_append.mp hd).elim (h.d d) (k.d d), fun d hd => (List.mem_append.mp hd).elim (h.w d) (k.w d)⟩
theorem Ths.nil : Ths m 0 D W [] := ⟨fun _ h => (List.not_mem_nil h).elim, Nat.le_refl _, fun _ h => (List.not_mem_nil h).elim, fun _ h => (List.not_mem_nil h).elim⟩
theorem Ths.one (h : Th m C D W x) : Ths m (C + 2) D W [x] :=
  ⟨fun d hd => by rw [List.mem_singleton.mp hd]; exact h.g, by show costAll.cost x + 2 + 0 ≤ _; have := h.c; omega, fun d hd => by rw [List.mem_singleton.mp hd]; exact h.d, fun d hd => by rw [List.mem_singleton.mp hd]; exact h.w⟩
theorem Ths.mem (h : Ths m C D W ds) (e : d ∈ ds) : Th m C D W d := ⟨h.g d e, by have := cost_mem e; have := h.c; omega, h.d d e, h.w d e⟩
theorem Ths.len (h : Ths m C D W ds) : 2 * ds.length ≤ C := Nat.le_trans (len_cost ds) h.c
theorem Ths.list (h : Ths m C D W ds) (l : ds.length ≤ W) : Th m (C + 3) (D + 1) W (.list ds) :=
  ⟨gdAll_iff.mpr h.g, by show costAll ds + 3 ≤ _; have := h.c; omega, by show PyData.depthAll ds + 1 ≤ _; have := depthAll_iff.mpr h.d; omega, by show max ds.length (widAll ds) ≤ W; exact Nat.max_le.mpr ⟨l, widAll_iff.mpr h.w⟩⟩
theorem Ths.tuple (h : Ths m C D W ds) (l : ds.length ≤ W) : Th m (C + 3) (D + 1) W (.tuple ds) :=
  ⟨gdAll_iff.mpr h.g, by show costAll ds + 3 ≤ _; have := h.c; omega, by show PyData.depthAll ds + 1 ≤ _; have := depthAll_iff.mpr h.d; omega, by show max ds.length (widAll ds) ≤ W; exact Nat.max_le.mpr ⟨l, widAll_iff.mpr h.w⟩⟩
theorem Th.ofList (h : Th m C D W (.list ds)) : Ths m (C - 3) (D - 1) W ds ∧ ds.length ≤ W ∧ 3 ≤ C ∧ 1 ≤ D := by
  have h1 : costAll ds + 3 ≤ C := h.c
  have h2 : PyData.depthAll ds + 1 ≤ D := h.d
  have h3 : max ds.length (widAll ds) ≤ W := h.w
  exact ⟨⟨gdAll_iff.mp h.g, by omega, depthAll_iff.mp (by omega), widAll_iff.mp (Nat.le_trans (Nat.le_max_right ..) h3)⟩, Nat.le_trans (Nat.le_max_left ..) h3, by omega, by omega⟩
theorem Th.ofTuple (h : Th m C D W (.tuple ds)) : Ths m (C - 3) (D - 1) W ds ∧ ds.length ≤ W ∧ 3 ≤ C ∧ 1 ≤ D := by
  have h1 : costAll ds + 3 ≤ C := h.c
  have h2 : PyData.depthAll ds + 1 ≤ D := h.d
  have h3 : max ds.length (widAll ds) ≤ W := h.w
  exact ⟨⟨gdAll_iff.mp h.g, by omega, depthAll_iff.mp (by omega), widAll_iff.mp (Nat.le_trans (Nat.le_max_right ..) h3)⟩, Nat.le_trans (Nat.le_max_left ..) h3, by omega, by omega⟩
theorem costAll_take (n : Nat) (ds : List PyData) : costAll (ds.take n) ≤ costAll ds := by
  have := costAll_app (ds.take n) (ds.drop n)
  rw [List.take_append_drop] at this; omega
theorem costAll_drop (n : Nat) (ds : List PyData) : costAll (ds.drop n) ≤ costAll ds := by
  have := costAll_app (ds.take n) (ds.drop n)
  rw [List.take_append_drop] at this; omega
theorem costAll_rev : ∀ ds : List PyData, costAll ds.reverse = costAll ds
  | [] => rfl
  | x :: xs => by rw [List.reverse_cons, costAll_app, costAll_rev xs]; show _ + (costAll.cost x + 2 + 0) = costAll.cost x + 2 + costAll xs; omega
theorem Ths.sub (h : Ths m C D W ds) (s : ∀ x ∈ xs, x ∈ ds) (c : costAll xs ≤ C) : Ths m C D W xs := ⟨fun d hd => h.g d (s d hd), c, fun d hd => h.d d (s d hd), fun d hd => h.w d (s d hd)⟩
theorem Ths.take (h : Ths m C D W ds) (n : Nat) : Ths m C D W (ds.take n) := h.sub (fun d hd => List.mem_of_mem_take hd) (Nat.le_trans (costAll_take n ds) h.c)
theorem Ths.drop (h : Ths m C D W ds) (n : Nat) : Ths m C D W (ds.drop n) := h.sub (fun d hd => List.mem_of_mem_drop hd) (Nat.le_trans (costAll_drop n ds) h.c)
theorem Ths.rev (h : Ths m C D W ds) : Ths m C D W ds.reverse := h.sub (fun d hd => List.mem_reverse.mp hd) (by rw [costAll_rev]; exact h.c)
theorem costAll_set : ∀ (ds : List PyData) (i : Nat) (x : PyData), costAll (ds.set i x) ≤ costAll ds + (costAll.cost x + 2)
  | [], _, _ => Nat.zero_le _
  | y :: ys, 0, x => by show costAll.cost x + 2 + costAll ys ≤ costAll.cost y + 2 + costAll ys + _; omega
  | y :: ys, i + 1, x => by
    have := costAll_set ys i x
    show costAll.cost y + 2 + costAll (ys.set i x) ≤ costAll.cost y + 2 + costAll ys + _
    omega
theorem Ths.set {i : Nat} (h : Ths m C D W ds) (k : Th m E D W x) : Ths m (C + E + 2) D W (ds.set i x) :=
  ⟨fun d hd => (List.mem_or_eq_of_mem_set hd).elim (h.g d) fun e => by rw [e]; exact k.g, Nat.le_trans (costAll_set ds i x) (by have := h.c; have := k.c; omega), fun d hd => (List.mem_or_eq_of_mem_set hd).elim (h.d d) fun e => by rw [e]; exact k.d, fun d hd => (List.mem_or_eq_of_mem_set hd).elim (h.w d) fun e => by rw [e]; exact k.w⟩
end
section
variable {K : PySem.W.Frag} {H : Hp}
theorem dpAll_app' : ∀ {xs ys : List V} {ds es : List PyData}, DpAll K H xs ds → DpAll K H ys es → DpAll K H (xs ++ ys) (ds ++ es)
  | _, _, _, _, .nil, h => h
  | _, _, _, _, .cons h t, h2 => .cons h (dpAll_app' t h2)
theorem dpAll_take : ∀ {xs : List V} {ds : List PyData} (n : Nat), DpAll K H xs ds → DpAll K H (xs.take n) (ds.take n)
  | _, _, 0, _ => .nil
  | _, _, _ + 1, .nil => .nil
  | _, _, n + 1, .cons h t => .cons h (dpAll_take n t)
theorem dpAll_drop : ∀ {xs : List V} {ds : List PyData} (n : Nat), DpAll K H xs ds → DpAll K H (xs.drop n) (ds.drop n)
  | _, _, 0, h => h
  | _, _, _ + 1, .nil => .nil
  | _, _, n + 1, .cons _ t => dpAll_drop n t
theorem dpAll_rev : ∀ {xs : List V} {ds : List PyData}, DpAll K H xs ds → DpAll K H xs.reverse ds.reverse
  | _, _, .nil => .nil
  | _, _, .cons h t => by rw [List.reverse_cons, List.reverse_cons]; exact dpAll_app' (dpAll_rev t) (.cons h .nil)
theorem dpAll_set : ∀ {xs : List V} {ds : List PyData} {i : Nat} {v : V} {d : PyData}, DpAll K H xs ds → Dp K H v d → DpAll K H (xs.set i v) (ds.set i d)
  | _, _, _, _, _, .nil, _ => .nil
  | _, _, 0, _, _, .cons _ t, k => .cons k t
  | _, _, _ + 1, _, _, .cons h t, k => .cons h (dpAll_set t k)
/-- a slice of a row of parts -/
theorem dp_cut {xs : List V} {ds : List PyData} {lo hi : Option Int} {m C D W : Nat} (h : DpAll K H xs ds) (t : Ths m C D W ds) : ∃ es, DpAll K H (cutV xs lo hi) es ∧ Ths m C D W es ∧ es.length ≤ ds.length := by
  unfold cutV
  exact ⟨_, dpAll_take _ (dpAll_drop _ h), (t.drop _).take _, by rw [List.length_take, List.length_drop]; omega⟩
theorem dp_lst' {v : V} {ds : List PyData} (h : Dp K H v (.list ds)) : ∃ a xs, v = .ref a ∧ SqL K H a xs ∧ DpAll K H xs ds := by
  cases h with
  | lst h a => exact ⟨_, _, rfl, h, a⟩
end
end Pot
namespace Pot
open PySem PySem.Spec PyProof.Rows L2
theorem sm_at {H H' : Hp} {S : List Addr} {x : Addr} {o : HO} (s : Sm S H H') (n : x ∉ S) (h : H x = some o) : H' x = some o := by
  have := s x o (by rw [off_out n]; exact h)
  rw [off_out n] at this; exact this
theorem sm1_at {H H' : Hp} {b x : Addr} {o : HO} (s : Sm [b] H H') (n : x ≠ b) (h : H x = some o) : H' x = some o := sm_at s (fun z => n (List.mem_singleton.mp z)) h
theorem smp {H H' : Hp} {S : List Addr} {p : Addr} {o : HO} (s : Sm S H H') (h : H p = none) : Sm S H (upd H' p o) := fun x u e => by
  have n := off_mem e
  have ne : x ≠ p := fun z => by
    rw [off_out n, z, h] at e; cases e
  have := s x u e
  rw [off_out n] at this ⊢
  rw [upd_ne ne]; exact this
theorem sm_free {H H' : Hp} {b l : Addr} (s : Sm [b] H H') (B : Bx H' b) (h : H' l = none) : H l = none := by
  have nb := B.ne h
  have n : l ∉ [b] := fun z => nb (List.mem_singleton.mp z)
  cases e : H l with
  | none => rfl
  | some o => rw [sm_at s n e] at h; cases h
theorem cut_map {α : Type} (f : α → V) (ns : List α) (lo hi : Option Int) : cutV (ns.map f) lo hi = ((ns.drop (HT.sIx ns.length 0 lo)).take (HT.sIx ns.length ns.length hi - HT.sIx ns.length 0 lo)).map f := by
  unfold cutV
  rw [List.length_map, List.map_take, List.map_drop]
theorem cut_head {xs : List V} {k : Nat} : cutV xs none (some (k : Int)) = xs.take k := by
  unfold cutV
  rw [HT.sIx_none, HT.sIx_nat, List.drop_zero, Nat.sub_zero]
  by_cases h : k ≤ xs.length
  · rw [Nat.min_eq_left h]
  · rw [Nat.min_eq_right (by omega), List.take_length, List.take_of_length_le (by omega)]
theorem cut_tail {xs : List V} {k : Nat} : cutV xs (some (k : Int)) none = xs.drop k := by
  unfold cutV
  rw [HT.sIx_none, HT.sIx_nat]
  by_cases h : k ≤ xs.length
  · rw [Nat.min_eq_left h, List.take_of_length_le (by rw [List.length_drop]; exact Nat.le_refl _)]
  · rw [Nat.min_eq_right (by omega), Nat.sub_self, List.take_zero, List.drop_of_length_le (by omega)]
end Pot
namespace Pot
open PySem PySem.Spec PyProof.Rows L2
section
variable {K : PySem.W.Frag} {H : Hp} {t : Addr} {d : PyData} {ds : List PyData}
theorem seq_dp {x : V} (h : Dp K H x d) (e : d = .list ds ∨ d = .tuple ds) : ∃ t zs, x = .ref t ∧ (SqL K H t zs ∨ SqT K H t zs) ∧ DpAll K H zs ds := by
  rcases e with rfl | rfl
  · cases h with
    | lst h a => exact ⟨_, _, rfl, .inl h, a⟩
  · cases h with
    | tup h a => exact ⟨_, _, rfl, .inr h, a⟩
theorem len_dp (h : Dp K H (.ref t) d) (e : d = .list ds ∨ d = .tuple ds) : LenV K (.ref t) H ds.length := by
  rcases e with rfl | rfl
  · cases h with
    | lst h a => exact .inl ⟨_, h, (dpAll_len a).symm⟩
  · cases h with
    | tup h a => exact .inr ⟨_, h, (dpAll_len a).symm⟩
theorem Th.parts {m C D W : Nat} (h : Th m C D W d) (e : d = .list ds ∨ d = .tuple ds) : Ths m (C - 3) (D - 1) W ds ∧ ds.length ≤ W ∧ 3 ≤ C ∧ 1 ≤ D := by
  rcases e with rfl | rfl
  · exact h.ofList
  · exact h.ofTuple
end
theorem sm_in {H H' : Hp} {S : List Addr} {x : Addr} {o : HO} (s : Sm S H H') (h : off H S x = some o) : off H' S x = some o := s x o h
end Pot
namespace Pot
open PySem PySem.Spec PyProof.Rows L2
theorem costAll_set_eq : ∀ {ds : List PyData} {i : Nat} {x y : PyData}, ds[i]? = some y → costAll (ds.set i x) + costAll.cost y = costAll ds + costAll.cost x
  | [], _, _, _, h => by simp at h
  | z :: zs, 0, x, y, h => by
    have e : z = y := by simpa using h
    subst e
    show costAll.cost x + 2 + costAll zs + costAll.cost z = costAll.cost z + 2 + costAll zs + costAll.cost x
    omega
  | z :: zs, i + 1, x, y, h => by
    have := costAll_set_eq (ds := zs) (i := i) (x := x) (y := y) (by simpa using h)
    show costAll.cost z + 2 + costAll (zs.set i x) + costAll.cost y = costAll.cost z + 2 + costAll zs + costAll.cost x
    omega
theorem codes_ofString (s : String) : ∀ c ∈ (Str.ofString s).cps.toList, c < 1114112 := by
  intro c hc
  rw [Str.ofString_eq_toList] at hc
  have : c ∈ s.toList.map Char.toNat := by simpa using hc
  obtain ⟨ch, _, rfl⟩ := List.mem_map.mp this
  have v := ch.valid
  have e : ch.toNat = ch.val.toNat := rfl
  rcases v with v | ⟨_, v⟩
  · have : ch.val.toNat < 0xD800 := v
    omega
  · have : ch.val.toNat < 0x110000 := v
    omega
theorem th_text {i : Int} (h : i.natAbs ≤ 2000000) {m : Nat} : Th m 19212 0 0 (.str (toString i)) := by
  have l : (Str.ofString (toString i)).length ≤ 1921 := PyProof.Rows.int_text_len_1921 (log_small' h)
  exact ⟨⟨by omega, codes_ofString _⟩, by show 10 * (Str.ofString (toString i)).length + 2 ≤ 19212; omega, Nat.le_refl _, Nat.le_refl _⟩
end Pot

namespace Pot
open PySem PySem.Spec PyProof.Rows L2
/-! ### kinds of data -/
def tyD : PyData → String
  | .none => "NoneType"
  | .bool _ => "bool"
  | .int _ => "int"
  | .str _ => "str"
  | .list _ => "list"
  | .tuple _ => "tuple"
  | .dict _ => "dict"
def isIntD : PyData → Bool
  | .int _ => true
  | .bool _ => true
  | _ => false
def isBoolD : PyData → Bool
  | .bool _ => true
  | _ => false
def isStrD : PyData → Bool
  | .str _ => true
  | _ => false
def isListD : PyData → Bool
  | .list _ => true
  | _ => false
def isTupD : PyData → Bool
  | .tuple _ => true
  | _ => false
section
variable {K : PySem.W.Frag} {H : Hp} {x : V} {d : PyData} {Q : VK}
theorem tyx_dp (h : Dp K H x d) : TyX K H x (.type (tyD d)) := by
  cases h with
  | non => exact .base .non
  | bl b => exact .base (.bl b)
  | int i => exact .base (.int i)
  | str z => exact .base (.str z)
  | lst h _ => exact tyx_list h
  | tup h _ => exact tyx_tup h
theorem kit_int (h : Dp K H x d) : PySem.W.kitOne K (.type (tyD d)) (.type "int") = some (isIntD d) := by
  cases h with
  | non => exact kit_ty (show kitB "NoneType" "int" = some false by decide +kernel)
  | bl _ => exact kit_ty (show kitB "bool" "int" = some true by decide +kernel)
  | int _ => exact kit_ty (show kitB "int" "int" = some true by decide +kernel)
  | str _ => exact kit_ty (show kitB "str" "int" = some false by decide +kernel)
  | lst _ _ => exact kit_ty (show kitB "list" "int" = some false by decide +kernel)
  | tup _ _ => exact kit_ty (show kitB "tuple" "int" = some false by decide +kernel)
theorem kit_bool (h : Dp K H x d) : PySem.W.kitOne K (.type (tyD d)) (.type "bool") = some (isBoolD d) := by
  cases h with
  | non => exact kit_ty (show kitB "NoneType" "bool" = some false by decide +kernel)
  | bl _ => exact kit_ty (show kitB "bool" "bool" = some true by decide +kernel)
  | int _ => exact kit_ty (show kitB "int" "bool" = some false by decide +kernel)
  | str _ => exact kit_ty (show kitB "str" "bool" = some false by decide +kernel)
  | lst _ _ => exact kit_ty (show kitB "list" "bool" = some false by decide +kernel)
  | tup _ _ => exact kit_ty (show kitB "tuple" "bool" = some false by decide +kernel)
theorem kit_str (h : Dp K H x d) : PySem.W.kitOne K (.type (tyD d)) (.type "str") = some (isStrD d) := by
  cases h with
  | non => exact kit_ty (show kitB "NoneType" "str" = some false by decide +kernel)
  | bl _ => exact kit_ty (show kitB "bool" "str" = some false by decide +kernel)
  | int _ => exact kit_ty (show kitB "int" "str" = some false by decide +kernel)
  | str _ => exact kit_ty (show kitB "str" "str" = some true by decide +kernel)
  | lst _ _ => exact kit_ty (show kitB "list" "str" = some false by decide +kernel)
  | tup _ _ => exact kit_ty (show kitB "tuple" "str" = some false by decide +kernel)
theorem kit_list (h : Dp K H x d) : PySem.W.kitOne K (.type (tyD d)) (.type "list") = some (isListD d) := by
  cases h with
  | non => exact kit_ty (show kitB "NoneType" "list" = some false by decide +kernel)
  | bl _ => exact kit_ty (show kitB "bool" "list" = some false by decide +kernel)
  | int _ => exact kit_ty (show kitB "int" "list" = some false by decide +kernel)
  | str _ => exact kit_ty (show kitB "str" "list" = some false by decide +kernel)
  | lst _ _ => exact kit_ty (show kitB "list" "list" = some true by decide +kernel)
  | tup _ _ => exact kit_ty (show kitB "tuple" "list" = some false by decide +kernel)
theorem kit_tup (h : Dp K H x d) : PySem.W.kitOne K (.type (tyD d)) (.type "tuple") = some (isTupD d) := by
  cases h with
  | non => exact kit_ty (show kitB "NoneType" "tuple" = some false by decide +kernel)
  | bl _ => exact kit_ty (show kitB "bool" "tuple" = some false by decide +kernel)
  | int _ => exact kit_ty (show kitB "int" "tuple" = some false by decide +kernel)
  | str _ => exact kit_ty (show kitB "str" "tuple" = some false by decide +kernel)
  | lst _ _ => exact kit_ty (show kitB "list" "tuple" = some false by decide +kernel)
  | tup _ _ => exact kit_ty (show kitB "tuple" "tuple" = some true by decide +kernel)
theorem kit_lt (h : Dp K H x d) : PySem.W.kitAny K (.type (tyD d)) [.type "list", .type "tuple"] = some (isListD d || isTupD d) := by
  cases h <;> rfl
end
/-! ### numbers within bounds -/
def numD (lo hi : Int) : PyData → Bool
  | .int i => decide (lo ≤ i) && decide (i ≤ hi)
  | _ => false
def toI : PyData → Int
  | .int i => i
  | _ => 0
theorem numD_int {lo hi : Int} : ∀ {d : PyData}, numD lo hi d = true → d = .int (toI d) ∧ lo ≤ toI d ∧ toI d ≤ hi
  | .int i, h => by
    obtain ⟨h1, h2⟩ := Bool.and_eq_true_iff.mp (show (decide (lo ≤ i) && decide (i ≤ hi)) = true from h)
    exact ⟨rfl, of_decide_eq_true h1, of_decide_eq_true h2⟩
/-- rising -/
def risI : List Int → Bool
  | a :: b :: r => decide (a < b) && risI (b :: r)
  | _ => true
def risD (lo hi : Int) : PyData → Bool
  | .list ds => ds.all (numD lo hi) && risI (ds.map toI)
  | _ => false
theorem risI_pair : ∀ {ns : List Int}, risI ns = true ↔ ns.Pairwise (· < ·)
  | [] => by simp [risI]
  | [a] => by simp [risI]
  | a :: b :: r => by
    have ih := risI_pair (ns := b :: r)
    show (decide (a < b) && risI (b :: r)) = true ↔ _
    rw [Bool.and_eq_true_iff, decide_eq_true_eq, ih]
    constructor
    · rintro ⟨h1, h2⟩
      refine List.pairwise_cons.mpr ⟨fun x hx => ?_, h2⟩
      rcases List.mem_cons.mp hx with e | e
      · rw [e]; exact h1
      · exact Int.lt_trans h1 ((List.pairwise_cons.mp h2).1 x e)
    · intro h
      obtain ⟨h1, h2⟩ := List.pairwise_cons.mp h
      exact ⟨h1 b List.mem_cons_self, h2⟩
theorem nums_of {lo hi : Int} {ds : List PyData} (h : ds.all (numD lo hi) = true) : ds = (ds.map toI).map PyData.int ∧ ∀ k ∈ ds.map toI, lo ≤ k ∧ k ≤ hi := by
  rw [List.all_eq_true] at h
  constructor
  · rw [List.map_map]
    conv => lhs; rw [← List.map_id ds]
    exact List.map_congr_left fun d hd => (numD_int (h d hd)).1
  · intro k hk
    obtain ⟨d, hd, rfl⟩ := List.mem_map.mp hk
    exact (numD_int (h d hd)).2
section
variable {K : PySem.W.Frag} {H : Hp}
theorem dp_intsV : ∀ {xs : List V} {ns : List Int}, DpAll K H xs (ns.map PyData.int) → xs = ns.map V.int
  | [], [], _ => rfl
  | [], _ :: _, h => by cases h
  | _ :: _, [], h => by cases h
  | x :: xs, n :: ns, h => by
    cases h with
    | cons h t => cases h; rw [dp_intsV t]; rfl
end
/-- of a row that rises just the same: a row in which all stand in order, none twice -/
theorem sorted_uniq : ∀ {xs ys : List Int}, xs.Pairwise (· < ·) → ys.Pairwise (· < ·) → (∀ k, k ∈ xs ↔ k ∈ ys) → xs = ys
  | [], [], _, _, _ => rfl
  | [], y :: ys, _, _, h => by have := (h y).mpr List.mem_cons_self; simp at this
  | x :: xs, [], _, _, h => by have := (h x).mp List.mem_cons_self; simp at this
  | x :: xs, y :: ys, h1, h2, h => by
    rw [List.pairwise_cons] at h1 h2
    have e : x = y := by
      rcases List.mem_cons.mp ((h x).mp List.mem_cons_self) with e | e
      · exact e
      · rcases List.mem_cons.mp ((h y).mpr List.mem_cons_self) with e2 | e2
        · exact e2.symm
        · have := h2.1 x e; have := h1.1 y e2; omega
    subst e
    have : xs = ys := sorted_uniq h1.2 h2.2 fun k => by
      constructor
      · intro hk
        rcases List.mem_cons.mp ((h k).mp (List.mem_cons_of_mem _ hk)) with e | e
        · have := h1.1 k hk; omega
        · exact e
      · intro hk
        rcases List.mem_cons.mp ((h k).mpr (List.mem_cons_of_mem _ hk)) with e | e
        · have := h2.1 k hk; omega
        · exact e
    rw [this]
theorem eqv_ints : ∀ xs ys : List Int, PyData.eqv (.list (xs.map PyData.int)) (.list (ys.map PyData.int)) = decide (xs = ys)
  | [], [] => rfl
  | [], _ :: _ => rfl
  | _ :: _, [] => rfl
  | x :: xs, y :: ys => by
    have ih := eqv_ints xs ys
    show (PyData.eqv (.int x) (.int y) && PyData.eqvAll (xs.map PyData.int) (ys.map PyData.int)) = _
    rw [show PyData.eqvAll (xs.map PyData.int) (ys.map PyData.int) = decide (xs = ys) from ih]
    show ((x == y) && _) = _
    by_cases h : x = y
    · subst h; simp
    · simp [h]
/-- thing == sorted(set(thing)): just where it rises -/
theorem eq_sorted {ns zs : List Int} (h : zs.Pairwise (· < ·)) (m : ∀ k, k ∈ zs ↔ k ∈ ns) : decide (ns = zs) = risI ns := by
  by_cases e : ns = zs
  · rw [decide_eq_true e, e]; exact (risI_pair.mpr h).symm
  · rw [decide_eq_false e]
    cases hr : risI ns with
    | false => rfl
    | true => exact absurd (sorted_uniq (risI_pair.mp hr) h fun k => (m k).symm) e
theorem nodup_60 {ks : List Int} (h : ks.Nodup) (b : ∀ k ∈ ks, 0 ≤ k ∧ k ≤ 60) : ks.length < 64 := by
  have := nodup_le (l := (List.range 61).map fun (i : Nat) => (i : Int)) h fun k hk => by
    obtain ⟨h0, h1⟩ := b k hk
    exact List.mem_map.mpr ⟨k.toNat, List.mem_range.mpr (by omega), by omega⟩
  rw [List.length_map, List.length_range] at this
  omega
end Pot
namespace Pot
open PySem PySem.Spec PyProof.Rows L2
/-! ### a comprehension that changes nothing that stood: out i is what is told up to turn i -/
def PvL (H1 : Hp) (D : Addr) (out : Nat → List V) (i : Nat) (H2 : Hp) : Prop := Same H1 H2 ∧ H2 D = some (.lst (out i))
section
variable {H1 H2 H3 : Hp} {D : Addr} {out : Nat → List V} {i : Nat} {y : V}
theorem pv_start (nD : H1 D = none) (e : out 0 = []) : PvL H1 D out 0 (upd H1 D (.lst [])) := ⟨same_upd nD, by rw [e]; exact upd_same⟩
theorem pv_put (nD : H1 D = none) (p : PvL H1 D out i H2) (s : Same H2 H3) (e : out (i + 1) = out i ++ [y]) (l : (out i).length < sizeLine) : ∃ acc, H3 D = some (.lst acc) ∧ acc.length < sizeLine ∧ PvL H1 D out (i + 1) (upd H3 D (.lst (acc ++ [y]))) :=
  ⟨out i, s _ _ p.2, l, same_put (p.1.trans s) nD, by rw [e]; exact upd_same⟩
theorem pv_skip (p : PvL H1 D out i H2) (s : Same H2 H3) (e : out (i + 1) = out i) : PvL H1 D out (i + 1) H3 := ⟨p.1.trans s, by rw [e]; exact s _ _ p.2⟩
end
theorem take_map {α : Type} (f : α → V) {l : List α} {i : Nat} {x : α} (h : l[i]? = some x) : (l.take (i + 1)).map f = (l.take i).map f ++ [f x] := by
  rw [List.take_add_one, h, List.map_append]; rfl
theorem take_len_lt {α : Type} {f : α → V} {l : List α} {i : Nat} (h : i < 100000) : ((l.take i).map f).length < sizeLine := by
  rw [List.length_map, List.length_take, sizeLine_eq]; omega
theorem take_len_le {α : Type} {f : α → V} {l : List α} {i : Nat} (h : l.length < 100000) : ((l.take i).map f).length < sizeLine := by
  rw [List.length_map, List.length_take, sizeLine_eq]; omega
/-- each below the next -/
def rb : List Int → List Bool
  | a :: b :: r => decide (a < b) :: rb (b :: r)
  | _ => []
theorem rb_all : ∀ ns : List Int, (rb ns).all id = risI ns
  | [] => rfl
  | [_] => rfl
  | a :: b :: r => by show (decide (a < b) && (rb (b :: r)).all id) = _; rw [rb_all (b :: r)]; rfl
theorem rb_len : ∀ ns : List Int, (rb ns).length = ns.length - 1
  | [] => rfl
  | [_] => rfl
  | a :: b :: r => by show (rb (b :: r)).length + 1 = _; rw [rb_len (b :: r)]; simp
theorem rb_at : ∀ {ns : List Int} {i : Nat} {x y : Int}, ns[i]? = some x → ns[i + 1]? = some y → (rb ns)[i]? = some (decide (x < y))
  | [], _, _, _, h, _ => by simp at h
  | [_], i, _, _, _, h => by simp at h
  | a :: b :: r, 0, x, y, h, k => by
    have e1 : a = x := by simpa using h
    have e2 : b = y := by simpa using k
    subst e1 e2; rfl
  | a :: b :: r, i + 1, x, y, h, k => rb_at (ns := b :: r) (i := i) (by simpa using h) (by simpa using k)
/-- what is told of each of some data -/
theorem all_map {ds : List PyData} {f : PyData → Bool} : (ds.map f).all id = ds.all f := by
  rw [List.all_map]; rfl
end Pot
namespace Pot
open PySem PySem.Spec PyProof.Rows L2
theorem pv_end {H1 H2 : Hp} {D : Addr} {out : Nat → List V} {n : Nat} {zs : List V} (p : PvL H1 D out n H2) (e : out n = zs) : Same H1 H2 ∧ H2 D = some (.lst zs) := ⟨p.1, by rw [← e]; exact p.2⟩
theorem take_all {α : Type} {f : α → V} {l : List α} {n : Nat} (h : l.length ≤ n) : (l.take n).map f = l.map f := by rw [List.take_of_length_le h]
end Pot

namespace Pot
open PySem PySem.Spec PyProof.Rows L2
/-! ### palettes as data -/
abbrev Col := Str × Int × Int × Int
abbrev Wsh := Str × Str × Option Int
def colD (c : Col) : PyData := .tuple [.str c.1, .int c.2.1, .int c.2.2.1, .int c.2.2.2]
def optD : Option Int → PyData
  | none => .none
  | some i => .int i
def washD (r : Wsh) : PyData := .tuple [.str r.1, .str r.2.1, optD r.2.2]
def palD (cs : List Col) (ws : List Wsh) : PyData := .tuple [.tuple (cs.map colD), .tuple (ws.map washD)]
def optV : Option Int → V
  | none => .non
  | some i => .int i
def namV : Option Str → V
  | none => .non
  | some z => .str z
/-- the washing between two: the first row that tells -/
def washF (ws : List Wsh) (a : Option Str) (b : Str) : Option Int := match ws with
  | [] => some 0
  | r :: ws => if some r.1 = a ∧ r.2.1 = b then r.2.2 else washF ws a b
/-- the washing of a row -/
def sumF (ws : List Wsh) : Option Str → List Str → Int → Option Int
  | _, [], h => some h
  | a, b :: r, h => match washF ws a b with
    | none => none
    | some k => sumF ws (some b) r (h + k)
section
variable {K : PySem.W.Frag} {H : Hp}
theorem dp_tup {v : V} {ds : List PyData} (h : Dp K H v (.tuple ds)) : ∃ a xs, v = .ref a ∧ SqT K H a xs ∧ DpAll K H xs ds := by
  cases h with
  | tup h a => exact ⟨_, _, rfl, h, a⟩
theorem dp_lst {v : V} {ds : List PyData} (h : Dp K H v (.list ds)) : ∃ a xs, v = .ref a ∧ SqL K H a xs ∧ DpAll K H xs ds := by
  cases h with
  | lst h a => exact ⟨_, _, rfl, h, a⟩
theorem dp_str {v : V} {z : Str} (h : Dp K H v (.str z)) : v = .str z := by cases h; rfl
theorem dp_int {v : V} {z : Int} (h : Dp K H v (.int z)) : v = .int z := by cases h; rfl
theorem dp_opt {v : V} : ∀ {z : Option Int}, Dp K H v (optD z) → v = optV z
  | none, h => by cases h; rfl
  | some i, h => by cases h; rfl
theorem opt_dp : ∀ (z : Option Int), Dp K H (optV z) (optD z)
  | none => .non
  | some i => .int i
theorem dp_two {xs : List V} {d e : PyData} (h : DpAll K H xs [d, e]) : ∃ x y, xs = [x, y] ∧ Dp K H x d ∧ Dp K H y e := by
  cases h with
  | cons h1 t => cases t with
    | cons h2 t => cases t; exact ⟨_, _, rfl, h1, h2⟩
theorem dp_three {xs : List V} {d e f : PyData} (h : DpAll K H xs [d, e, f]) : ∃ x y z, xs = [x, y, z] ∧ Dp K H x d ∧ Dp K H y e ∧ Dp K H z f := by
  cases h with
  | cons h1 t => obtain ⟨y, z, rfl, h2, h3⟩ := dp_two t; exact ⟨_, _, _, rfl, h1, h2, h3⟩
theorem dp_four {xs : List V} {d e f g : PyData} (h : DpAll K H xs [d, e, f, g]) : ∃ x y z u, xs = [x, y, z, u] ∧ Dp K H x d ∧ Dp K H y e ∧ Dp K H z f ∧ Dp K H u g := by
  cases h with
  | cons h1 t => obtain ⟨y, z, u, rfl, h2, h3, h4⟩ := dp_three t; exact ⟨_, _, _, _, rfl, h1, h2, h3, h4⟩
/-- a colour's tuple -/
theorem col_dp {v : V} {c : Col} (h : Dp K H v (colD c)) : ∃ a, v = .ref a ∧ SqT K H a [.str c.1, .int c.2.1, .int c.2.2.1, .int c.2.2.2] := by
  obtain ⟨a, xs, rfl, hs, ha⟩ := dp_tup h
  obtain ⟨x, y, z, u, rfl, h1, h2, h3, h4⟩ := dp_four ha
  rw [dp_str h1, dp_int h2, dp_int h3, dp_int h4] at hs
  exact ⟨a, rfl, hs⟩
theorem wash_dp {v : V} {r : Wsh} (h : Dp K H v (washD r)) : ∃ a, v = .ref a ∧ SqT K H a [.str r.1, .str r.2.1, optV r.2.2] := by
  obtain ⟨a, xs, rfl, hs, ha⟩ := dp_tup h
  obtain ⟨x, y, z, rfl, h1, h2, h3⟩ := dp_three ha
  rw [dp_str h1, dp_str h2, dp_opt h3] at hs
  exact ⟨a, rfl, hs⟩
/-- a palette in the heap -/
theorem pal_dp {v : V} {cs : List Col} {ws : List Wsh} (h : Dp K H v (palD cs ws)) :
    ∃ p c w xs ys, v = .ref p ∧ SqT K H p [.ref c, .ref w] ∧ SqT K H c xs ∧ DpAll K H xs (cs.map colD) ∧ SqT K H w ys ∧ DpAll K H ys (ws.map washD) := by
  obtain ⟨p, zs, rfl, hp, hz⟩ := dp_tup h
  obtain ⟨x, y, rfl, h1, h2⟩ := dp_two hz
  obtain ⟨c, xs, rfl, hc, hx⟩ := dp_tup h1
  obtain ⟨w, ys, rfl, hw, hy⟩ := dp_tup h2
  exact ⟨p, c, w, xs, ys, rfl, hp, hc, hx, hw, hy⟩
theorem dpAll_map_at {α : Type} {f : α → PyData} {xs : List V} {l : List α} {i : Nat} {x : V} (h : DpAll K H xs (l.map f)) (e : xs[i]? = some x) : ∃ y, l[i]? = some y ∧ Dp K H x (f y) := by
  obtain ⟨d, g, p⟩ := dpAll_at h e
  rw [List.getElem?_map] at g
  obtain ⟨y, hy, rfl⟩ := Option.map_eq_some_iff.mp g
  exact ⟨y, hy, p⟩
theorem dpAll_map_len {α : Type} {f : α → PyData} {xs : List V} {l : List α} (h : DpAll K H xs (l.map f)) : xs.length = l.length := by
  rw [dpAll_len h, List.length_map]
end
theorem decS {a b : Str} : decide (V.str a = V.str b) = decide (a = b) := by
  by_cases h : a = b
  · subst h; rw [decide_eq_true rfl, decide_eq_true rfl]
  · rw [decide_eq_false h, decide_eq_false fun z => h (V.str.inj z)]
/-- behind rows that don't tell -/
theorem washF_skip {a : Option Str} {b : Str} : ∀ {ws : List Wsh} {i : Nat}, (∀ j r, j < i → ws[j]? = some r → ¬ (some r.1 = a ∧ r.2.1 = b)) → washF ws a b = washF (ws.drop i) a b
  | ws, 0, _ => rfl
  | [], i + 1, _ => rfl
  | r :: ws, i + 1, h => by
    show (if some r.1 = a ∧ r.2.1 = b then r.2.2 else washF ws a b) = washF (ws.drop i) a b
    rw [if_neg (h 0 r (Nat.succ_pos _) rfl)]
    exact washF_skip (a := a) (b := b) (ws := ws) (i := i) fun j q hj e => h (j + 1) q (Nat.succ_lt_succ hj) e
theorem washF_at {a : Option Str} {b : Str} {ws : List Wsh} {i : Nat} {r : Wsh} (h : ∀ j r, j < i → ws[j]? = some r → ¬ (some r.1 = a ∧ r.2.1 = b)) (e : ws[i]? = some r) (hr : some r.1 = a ∧ r.2.1 = b) : washF ws a b = r.2.2 := by
  rw [washF_skip h, List.drop_eq_getElem_cons (List.getElem?_eq_some_iff.mp e).1, (List.getElem?_eq_some_iff.mp e).2]
  unfold washF
  rw [if_pos hr]
theorem washF_none {a : Option Str} {b : Str} {ws : List Wsh} (h : ∀ j r, j < ws.length → ws[j]? = some r → ¬ (some r.1 = a ∧ r.2.1 = b)) : washF ws a b = some 0 := by
  rw [washF_skip h, List.drop_length]
  rfl
/-! ### data without lists stays while the law draws -/
def noLAll : List PyData → Prop
  | [] => True
  | x :: xs => noL x ∧ noLAll xs
where noL : PyData → Prop
  | .list _ => False
  | .dict _ => False
  | .tuple xs => noLAll xs
  | _ => True
section
variable {K : PySem.W.Frag}
theorem kp_tup {d c : Addr} {H H' : Hp} {n : Nat} {a : Addr} {xs : List V} (st : StAt H d c n) (k : Kp d c H H') (h : SqT K H a xs) : SqT K H' a xs := by
  obtain ⟨_, ys, t, h1, h2, _⟩ := st
  have go : ∀ o, (H a = some (.tup xs) ∨ H a = some (.frz o (.tup xs))) → a ≠ d ∧ a ≠ c := fun o e => by
    constructor
    · intro z; subst z; rw [h1] at e; rcases e with e | e <;> cases e
    · intro z; subst z; rw [h2] at e; rcases e with e | e <;> cases e
  rcases h with (h | ⟨o, h⟩) | h
  · have g := go ⟨.none, none, .fields #[], #[]⟩ (.inl h); exact .inl (.inl (k _ _ g.1 g.2 h))
  · have g := go o (.inr h); exact .inl (.inr ⟨o, k _ _ g.1 g.2 h⟩)
  · exact .inr h
mutual
theorem dp_kp {d c : Addr} {H H' : Hp} {n : Nat} (st : StAt H d c n) (k : Kp d c H H') : ∀ {v : V} {e : PyData}, noLAll.noL e → Dp K H v e → Dp K H' v e
  | _, _, _, .non => .non
  | _, _, _, .bl b => .bl b
  | _, _, _, .int i => .int i
  | _, _, _, .str x => .str x
  | _, _, h, .lst _ _ => h.elim
  | _, _, h, .tup s a => .tup (kp_tup st k s) (dpAll_kp st k h a)
theorem dpAll_kp {d c : Addr} {H H' : Hp} {n : Nat} (st : StAt H d c n) (k : Kp d c H H') : ∀ {vs : List V} {es : List PyData}, noLAll es → DpAll K H vs es → DpAll K H' vs es
  | _, _, _, .nil => .nil
  | _, _, h, .cons x t => .cons (dp_kp st k h.1 x) (dpAll_kp st k h.2 t)
end
mutual
theorem dp_go {H H' : Hp} (go : ∀ a us, SqT K H a us → SqT K H' a us) : ∀ {v : V} {e : PyData}, noLAll.noL e → Dp K H v e → Dp K H' v e
  | _, _, _, .non => .non
  | _, _, _, .bl b => .bl b
  | _, _, _, .int i => .int i
  | _, _, _, .str x => .str x
  | _, _, h, .lst _ _ => h.elim
  | _, _, h, .tup s a => .tup (go _ _ s) (dpAll_go go h a)
theorem dpAll_go {H H' : Hp} (go : ∀ a us, SqT K H a us → SqT K H' a us) : ∀ {vs : List V} {es : List PyData}, noLAll es → DpAll K H vs es → DpAll K H' vs es
  | _, _, _, .nil => .nil
  | _, _, h, .cons x t => .cons (dp_go go h.1 x) (dpAll_go go h.2 t)
end
theorem noL_map {α : Type} {f : α → PyData} (h : ∀ x, noLAll.noL (f x)) : ∀ l : List α, noLAll (l.map f)
  | [] => trivial
  | x :: r => ⟨h x, noL_map h r⟩
theorem noL_col (c : Col) : noLAll.noL (colD c) := ⟨trivial, trivial, trivial, trivial, trivial⟩
theorem noL_wash (r : Wsh) : noLAll.noL (washD r) := ⟨trivial, trivial, by cases r.2.2 <;> trivial, trivial⟩
theorem noL_pal (cs : List Col) (ws : List Wsh) : noLAll.noL (palD cs ws) := ⟨noL_map noL_col cs, noL_map noL_wash ws, trivial⟩
theorem dpAll_app {H : Hp} : ∀ {xs ys : List V} {ds es : List PyData}, DpAll K H xs ds → DpAll K H ys es → DpAll K H (xs ++ ys) (ds ++ es)
  | _, _, _, _, .nil, h => h
  | _, _, _, _, .cons h t, h2 => .cons h (dpAll_app t h2)
end
/-! ### how long a palette's text may be -/
structure PalOk (cs : List Col) (ws : List Wsh) : Prop where
  nc : cs.length ≤ 20
  nw : ws.length ≤ 60
  cn : ∀ c ∈ cs, c.1.length ≤ 9 ∧ (∀ x ∈ c.1.cps.toList, x < 1114112) ∧ c.2.1.natAbs < 10000 ∧ c.2.2.1.natAbs < 10000 ∧ c.2.2.2.natAbs < 10000
  wn : ∀ r ∈ ws, (r.1.length ≤ 9 ∧ ∀ x ∈ r.1.cps.toList, x < 1114112) ∧ (r.2.1.length ≤ 9 ∧ ∀ x ∈ r.2.1.cps.toList, x < 1114112) ∧ ∀ i, r.2.2 = some i → i.natAbs < 10000
theorem PalOk.addC {cs : List Col} {ws : List Wsh} {c : Col} (h : PalOk cs ws) (n : cs.length < 20) (ok : c.1.length ≤ 9 ∧ (∀ x ∈ c.1.cps.toList, x < 1114112) ∧ c.2.1.natAbs < 10000 ∧ c.2.2.1.natAbs < 10000 ∧ c.2.2.2.natAbs < 10000) : PalOk (cs ++ [c]) ws :=
  ⟨by rw [List.length_append]; exact n, h.nw, fun x hx => (List.mem_append.mp hx).elim (h.cn x) fun z => by rw [List.mem_singleton.mp z]; exact ok, h.wn⟩
theorem PalOk.addW {cs : List Col} {ws : List Wsh} {r : Wsh} (h : PalOk cs ws) (n : ws.length < 60) (ok : (r.1.length ≤ 9 ∧ ∀ x ∈ r.1.cps.toList, x < 1114112) ∧ (r.2.1.length ≤ 9 ∧ ∀ x ∈ r.2.1.cps.toList, x < 1114112) ∧ ∀ i, r.2.2 = some i → i.natAbs < 10000) : PalOk cs (ws ++ [r]) :=
  ⟨h.nc, by rw [List.length_append]; exact n, h.cn, fun x hx => (List.mem_append.mp hx).elim (h.wn x) fun z => by rw [List.mem_singleton.mp z]; exact ok⟩
theorem log_small {i : Int} (h : i.natAbs < 10000) : i.natAbs.log2 < 1920 := by
  by_cases z : i.natAbs = 0
  · rw [z]; decide
  · have := (Nat.log2_lt z).mpr (show i.natAbs < 2 ^ 14 from Nat.lt_of_lt_of_le h (by decide))
    omega
theorem fineAll_map {α : Type} {f : α → PyData} : ∀ {l : List α}, (∀ x ∈ l, fineAll.fine (f x)) → fineAll (l.map f)
  | [], _ => trivial
  | x :: r, h => ⟨h x List.mem_cons_self, fineAll_map fun y hy => h y (List.mem_cons_of_mem _ hy)⟩
theorem costAll_map {α : Type} {f : α → PyData} {b : Nat} : ∀ {l : List α}, (∀ x ∈ l, costAll.cost (f x) ≤ b) → costAll (l.map f) ≤ l.length * (b + 2)
  | [], _ => Nat.zero_le _
  | x :: r, h => by
    have h1 := h x List.mem_cons_self
    have h2 := costAll_map (l := r) fun y hy => h y (List.mem_cons_of_mem _ hy)
    show costAll.cost (f x) + 2 + costAll (r.map f) ≤ (r.length + 1) * (b + 2)
    rw [Nat.succ_mul]
    omega
theorem depthAll_map {α : Type} {f : α → PyData} {b : Nat} : ∀ {l : List α}, (∀ x ∈ l, (f x).depth ≤ b) → PyData.depthAll (l.map f) ≤ b
  | [], _ => Nat.zero_le _
  | x :: r, h => by
    show max (f x).depth (PyData.depthAll (r.map f)) ≤ b
    exact Nat.max_le.mpr ⟨h x List.mem_cons_self, depthAll_map fun y hy => h y (List.mem_cons_of_mem _ hy)⟩
theorem fine_col {c : Col} (h : c.1.length ≤ 9 ∧ (∀ x ∈ c.1.cps.toList, x < 1114112) ∧ c.2.1.natAbs < 10000 ∧ c.2.2.1.natAbs < 10000 ∧ c.2.2.2.natAbs < 10000) : fineAll.fine (colD c) :=
  ⟨fun x hx => Nat.lt_trans (h.2.1 x hx) (by decide), log_small h.2.2.1, log_small h.2.2.2.1, log_small h.2.2.2.2, trivial⟩
theorem fine_opt {o : Option Int} (h : ∀ i, o = some i → i.natAbs < 10000) : fineAll.fine (optD o) := by
  cases o with
  | none => trivial
  | some i => exact log_small (h i rfl)
theorem pal_fine {cs : List Col} {ws : List Wsh} (h : PalOk cs ws) : fineAll.fine (palD cs ws) :=
  ⟨fineAll_map fun c hc => fine_col (h.cn c hc), fineAll_map fun r hr => ⟨fun x hx => Nat.lt_trans ((h.wn r hr).1.2 x hx) (by decide), fun x hx => Nat.lt_trans ((h.wn r hr).2.1.2 x hx) (by decide), fine_opt (h.wn r hr).2.2, trivial⟩, trivial⟩
theorem cost_opt (o : Option Int) : costAll.cost (optD o) ≤ 1921 := by
  cases o with
  | none => decide
  | some i => exact Nat.le_refl _
theorem pal_cost {cs : List Col} {ws : List Wsh} (h : PalOk cs ws) : costAll.cost (palD cs ws) ≤ 1000000 := by
  have h1 : costAll (cs.map colD) ≤ cs.length * (10000 + 2) := costAll_map fun c hc => by
    have := (h.cn c hc).1
    show (10 * c.1.length + 2) + 2 + (1921 + 2 + (1921 + 2 + (1921 + 2 + 0))) + 3 ≤ 10000
    omega
  have h2 : costAll (ws.map washD) ≤ ws.length * (10000 + 2) := costAll_map fun r hr => by
    have a := (h.wn r hr).1.1
    have b := (h.wn r hr).2.1.1
    have c := cost_opt r.2.2
    show (10 * r.1.length + 2) + 2 + ((10 * r.2.1.length + 2) + 2 + (costAll.cost (optD r.2.2) + 2 + 0)) + 3 ≤ 10000
    omega
  have h3 := Nat.mul_le_mul_right 10002 h.nc
  have h4 := Nat.mul_le_mul_right 10002 h.nw
  show (costAll (cs.map colD) + 3) + 2 + ((costAll (ws.map washD) + 3) + 2 + 0) + 3 ≤ 1000000
  omega
theorem depth_opt (o : Option Int) : (optD o).depth = 0 := by cases o <;> rfl
theorem pal_depth (cs : List Col) (ws : List Wsh) : (palD cs ws).depth ≤ 3 := by
  have h1 : PyData.depthAll (cs.map colD) ≤ 1 := depthAll_map fun c _ => by show 1 ≤ 1; decide
  have h2 : PyData.depthAll (ws.map washD) ≤ 1 := depthAll_map fun r _ => by
    show max 0 (max 0 (max (optD r.2.2).depth 0)) + 1 ≤ 1
    rw [depth_opt]
    decide
  show max (PyData.depthAll (cs.map colD) + 1) (max (PyData.depthAll (ws.map washD) + 1) 0) + 1 ≤ 3
  omega
end Pot

namespace Pot
open PySem PySem.Spec PyProof.Rows L2
theorem Ths.parts2 {m C E D W a b : Nat} {ds es : List PyData} (h : Ths m C D W ds) (hab : a ≤ b) (k : Ths m E D W es) : Ths m (C + E) D W (ds.take a ++ es ++ ds.drop b) := by
  have mem : ∀ d, d ∈ ds.take a ++ es ++ ds.drop b → d ∈ ds ∨ d ∈ es := fun d hd => by
    rcases List.mem_append.mp hd with z | z
    · rcases List.mem_append.mp z with y | y
      · exact .inl (List.mem_of_mem_take y)
      · exact .inr y
    · exact .inl (List.mem_of_mem_drop z)
  refine ⟨fun d hd => (mem d hd).elim (h.g d) (k.g d), ?_, fun d hd => (mem d hd).elim (h.d d) (k.d d), fun d hd => (mem d hd).elim (h.w d) (k.w d)⟩
  rw [costAll_app, costAll_app]
  have e := costAll_app (ds.take a) (ds.drop a)
  rw [List.take_append_drop] at e
  have e2 : ds.drop b = (ds.drop a).drop (b - a) := by rw [List.drop_drop]; congr 1; omega
  have e3 := costAll_drop (b - a) (ds.drop a)
  rw [← e2] at e3
  have := h.c
  have := k.c
  omega
end Pot

namespace Pot
open PySem PySem.Spec PyProof.Rows L2
/-! ### words of letters -/
/-- at most n letters a to z -/
def Wd (n : Nat) (z : Str) : Prop := z.length ≤ n ∧ ∀ c ∈ z.cps.toList, 97 ≤ c ∧ c ≤ 122
theorem Wd.mono {n m : Nat} {z : Str} (h : Wd n z) (k : n ≤ m) : Wd m z := ⟨Nat.le_trans h.1 k, h.2⟩
theorem wd_add {n m : Nat} {a b : Str} (h : Wd n a) (k : Wd m b) : Wd (n + m) (a ++ b) := by
  refine ⟨by rw [strLen_append]; exact Nat.add_le_add h.1 k.1, fun c hc => ?_⟩
  have e : (a ++ b).cps.toList = a.cps.toList ++ b.cps.toList := by
    show (a.cps ++ b.cps).toList = _
    simp
  rw [e] at hc
  exact (List.mem_append.mp hc).elim (h.2 c) (k.2 c)
def az : List Nat := [97, 98, 99, 100, 101, 102, 103, 104, 105, 106, 107, 108, 109, 110, 111, 112, 113, 114, 115, 116, 117, 118, 119, 120, 121, 122]
theorem az_cps : (Str.ofString "abcdefghijklmnopqrstuvwxyz").cps.toList = az := by decide +kernel
theorem az_at : ∀ k : Nat, k < 26 → atI az ((k : Nat) : Int) = some (97 + k) := by unfold az; decide
theorem az_ix {i : Int} (h0 : 0 ≤ i) (h1 : i < 26) : atI (Str.ofString "abcdefghijklmnopqrstuvwxyz").cps.toList i = some (97 + i.toNat) := by
  rw [az_cps]
  have h := az_at i.toNat (by omega)
  rw [show ((i.toNat : Nat) : Int) = i by omega] at h
  exact h
theorem wd_sign {c : Nat} (h0 : 97 ≤ c) (h1 : c ≤ 122) : Wd 1 ⟨#[c]⟩ := ⟨Nat.le_refl _, fun d hd => by
  have e : d = c := by simpa using hd
  subst e; exact ⟨h0, h1⟩⟩
theorem wd_letter {i : Int} (h0 : 0 ≤ i) (h1 : i < 26) : Wd 1 ⟨#[97 + i.toNat]⟩ := wd_sign (by omega) (by omega)
theorem wd_nil : Wd 0 Str.empty := ⟨Nat.le_refl _, fun c hc => by have : c ∈ ([] : List Nat) := hc; simp at this⟩
theorem wd_join : ∀ {ys : List Str}, (∀ y ∈ ys, Wd 1 y) → Wd ys.length (Str.join Str.empty ys)
  | [], _ => wd_nil
  | [x], h => h x List.mem_cons_self
  | x :: y :: r, h => by
    have ih := wd_join (ys := y :: r) fun z hz => h z (List.mem_cons_of_mem _ hz)
    show Wd _ (x ++ Str.empty ++ Str.join Str.empty (y :: r))
    have h1 := wd_add (wd_add (h x List.mem_cons_self) wd_nil) ih
    exact h1.mono (by simp only [List.length_cons]; omega)
theorem cut_mem {z : Str} {lo hi : Option Int} {c : Nat} (h : c ∈ (cutS z lo hi).cps.toList) : c ∈ z.cps.toList := by
  unfold cutS at h
  have h2 : c ∈ (z.cps.toList.drop (HT.sIx z.length 0 lo)).take (HT.sIx z.length z.length hi - HT.sIx z.length 0 lo) := by simpa using h
  exact List.mem_of_mem_drop (List.mem_of_mem_take h2)
theorem cut_len (z : Str) (lo hi : Option Int) : (cutS z lo hi).length ≤ HT.sIx z.length z.length hi - HT.sIx z.length 0 lo := by
  unfold cutS
  show (List.toArray _).size ≤ _
  rw [List.size_toArray]
  exact List.length_take_le ..
theorem wd_head {n k : Nat} {z : Str} (h : Wd n z) : Wd k (cutS z none (some (k : Int))) := by
  refine ⟨Nat.le_trans (cut_len z none (some (k : Int))) ?_, fun c hc => h.2 c (cut_mem hc)⟩
  rw [HT.sIx_nat]
  omega
theorem wd_tail {n k : Nat} {z : Str} (h : Wd n z) : Wd (z.length - k) (cutS z (some (k : Int)) none) := by
  refine ⟨Nat.le_trans (cut_len z (some (k : Int)) none) ?_, fun c hc => h.2 c (cut_mem hc)⟩
  rw [HT.sIx_nat, HT.sIx_none]
  omega
theorem wd_cut {n : Nat} {z : Str} {lo hi : Option Int} (h : Wd n z) : Wd n (cutS z lo hi) := by
  refine ⟨Nat.le_trans (cut_len z lo hi) ?_, fun c hc => h.2 c (cut_mem hc)⟩
  have := HT.sIx_le z.length z.length (Nat.le_refl _) hi
  have := h.1
  omega
theorem wd_small {n : Nat} {z : Str} (h : Wd n z) (k : n ≤ 1000) : z.length ≤ sizeLine := Nat.le_trans h.1 (Nat.le_trans k (by decide))
theorem wd_codes {n : Nat} {z : Str} (h : Wd n z) : ∀ x ∈ z.cps.toList, x < 1114112 := fun x hx => by have := (h.2 x hx).2; omega
section
variable {K : PySem.W.Frag}
theorem kp_seq {d c l : Addr} {H H' : Hp} {xs : List V} (k : Kp d c H H') (n1 : l ≠ d) (n2 : l ≠ c) (h : SqL K H l xs) : SqL K H' l xs := by
  rcases h with (h | ⟨o, h⟩) | h
  · exact .inl (.inl (k _ _ n1 n2 h))
  · exact .inl (.inr ⟨o, k _ _ n1 n2 h⟩)
  · exact .inr h
end
end Pot

namespace Pot
open PySem PySem.Spec PyProof.Rows L2
/-- a row that tells of these two -/
def mat (a : Option Str) (b : Str) (r : Wsh) : Bool := decide (some r.1 = a) && decide (r.2.1 = b)
def namD : Option Str → PyData
  | none => .none
  | some z => .str z
theorem washF_filter (a : Option Str) (b : Str) : ∀ ws : List Wsh, washF ws a b = match ws.filter (mat a b) with
    | [] => some 0
    | r :: _ => r.2.2
  | [] => rfl
  | r :: ws => by
    show (if some r.1 = a ∧ r.2.1 = b then r.2.2 else washF ws a b) = _
    rw [List.filter_cons]
    by_cases h : some r.1 = a ∧ r.2.1 = b
    · have e : mat a b r = true := by unfold mat; rw [decide_eq_true h.1, decide_eq_true h.2]; rfl
      rw [if_pos h, if_pos e]
    · have e : ¬ mat a b r = true := by
        unfold mat
        rw [Bool.and_eq_true, decide_eq_true_eq, decide_eq_true_eq]
        exact h
      rw [if_neg h, if_neg e]
      exact washF_filter a b ws
theorem str_beq (x y : Str) : (x == y) = decide (x = y) := by
  by_cases h : x = y
  · subst h; rw [decide_eq_true rfl]; exact beq_self_eq_true x
  · rw [decide_eq_false h]; exact beq_false_of_ne h
theorem eqv_mat (a : Option Str) (b : Str) (r : Wsh) : PyData.eqv (.tuple [.str r.1, .str r.2.1]) (.tuple [namD a, .str b]) = mat a b r := by
  unfold mat
  cases a with
  | none =>
    rw [decide_eq_false (by intro z; cases z)]
    rfl
  | some z =>
    show ((r.1 == z) && ((r.2.1 == b) && true)) = _
    rw [str_beq, str_beq, Bool.and_true]
    congr 1
    by_cases h : r.1 = z
    · rw [decide_eq_true h, decide_eq_true (by rw [h])]
    · rw [decide_eq_false h, decide_eq_false fun q => h (Option.some.inj q)]
section
variable {K : PySem.W.Frag} {H : Hp}
theorem nam_dp : ∀ a : Option Str, Dp K H (namV a) (namD a)
  | none => .non
  | some z => .str z
theorem dpAll_opts : ∀ l : List Wsh, DpAll K H (l.map fun r => optV r.2.2) (l.map fun r => optD r.2.2)
  | [] => .nil
  | r :: l => .cons (opt_dp r.2.2) (dpAll_opts l)
end
/-- signs that there are -/
def Sg (z : Str) : Prop := ∀ x ∈ z.cps.toList, x < 1114112
theorem strOk_len {z : Str} (h : Sg z) : PyData.strOk z = true := by
  unfold PyData.strOk
  rw [Array.all_eq_true_iff_forall_mem]
  intro x hx
  exact decide_eq_true (h x (Array.mem_toList_iff.mpr hx))
theorem shaped_two {x y : Str} (h : Sg x) (k : Sg y) : SeqAt.shaped (.tuple [.str x, .str y]) = true := by
  show (PyData.strOk x && (PyData.strOk y && true)) && decide (max 0 (max 0 0) + 1 ≤ 64) = true
  rw [strOk_len h, strOk_len k]
  rfl
theorem shaped_nam {a : Option Str} {y : Str} (h : ∀ z, a = some z → Sg z) (k : Sg y) : SeqAt.shaped (.tuple [namD a, .str y]) = true := by
  cases a with
  | none =>
    show (true && (PyData.strOk y && true)) && decide (max 0 (max 0 0) + 1 ≤ 64) = true
    rw [strOk_len k]
    rfl
  | some z => exact shaped_two (h z rfl) k
theorem shaped_opts (l : List Wsh) : SeqAt.shaped (.list (l.map fun r => optD r.2.2)) = true := by
  have h1 : ∀ l : List Wsh, PyData.canLayAll0 (l.map fun r => optD r.2.2) = true := by
    intro l
    induction l with
    | nil => rfl
    | cons r l ih =>
      show (PyData.canLay0 (optD r.2.2) && PyData.canLayAll0 (l.map fun r => optD r.2.2)) = true
      rw [ih]
      cases r.2.2 <;> rfl
  have h2 : PyData.depthAll (l.map fun r => optD r.2.2) ≤ 0 := depthAll_map fun r _ => by rw [depth_opt]; exact Nat.le_refl _
  show (PyData.canLayAll0 (l.map fun r => optD r.2.2) && decide (PyData.depthAll (l.map fun r => optD r.2.2) + 1 ≤ 64)) = true
  rw [h1, decide_eq_true (by omega)]
  rfl
end Pot

namespace Pot
open PySem PySem.Spec PyProof.Rows L2
/-! ### a box of three numbers whose last is at most n -/
def Bq (H : Hp) (b : Addr) (n : Nat) : Prop := ∃ x y z : Int, H b = some (.lst [.int x, .int y, .int z]) ∧ 0 ≤ z ∧ z ≤ n
section
variable {H H' : Hp} {b p : Addr} {n m : Nat} {o : HO}
theorem Bq.bx (B : Bq H b n) : Bx H b := by
  obtain ⟨x, y, z, h, _⟩ := B
  exact ⟨x, y, z, h⟩
theorem Bq.same (B : Bq H b n) (s : Same H H') : Bq H' b n := by
  obtain ⟨x, y, z, h, h2⟩ := B
  exact ⟨x, y, z, s _ _ h, h2⟩
theorem Bq.put (B : Bq H b n) (h : H p = none) : Bq (upd H p o) b n := B.same (same_upd h)
theorem Bq.wr (B : Bq H b n) (h : p ≠ b) : Bq (upd H p o) b n := by
  obtain ⟨x, y, z, e, h2⟩ := B
  exact ⟨x, y, z, by rw [upd_ne h.symm]; exact e, h2⟩
theorem Bq.mono (B : Bq H b n) (h : n ≤ m) : Bq H b m := by
  obtain ⟨x, y, z, e, h1, h2⟩ := B
  exact ⟨x, y, z, e, h1, by omega⟩
theorem Bq.ne (B : Bq H b n) (h : H p = none) : p ≠ b := B.bx.ne h
theorem Live.q (B : Bq H b n) : Live [b] H := Live.one B.bx
end
theorem b01 (k : Bool) : -(2 ^ 64 : Int) < (if k = true then 1 else 0) ∧ (if k = true then 1 else 0) < (2 ^ 64 : Int) := by cases k <;> decide
theorem CDivW.of {i j : Int} (h0 : 0 < j) (h1 : j < 2 ^ 64) : CDivW i j := by
  refine ⟨h0, ?_⟩
  have z : j.natAbs ≠ 0 := by omega
  have := (Nat.log2_lt z).mpr (show j.natAbs < 2 ^ 64 by omega)
  omega
mutual
theorem gd_lay {m : Nat} : ∀ d : PyData, gd m d → d.canLay0 = true
  | .none, _ => rfl
  | .bool _, _ => rfl
  | .int _, _ => rfl
  | .str x, g => by
    show x.cps.all (fun c => decide (c < 0x110000)) = true
    rw [← Array.all_toList, List.all_eq_true]
    exact fun c hc => decide_eq_true (g.2 c hc)
  | .list xs, g => gdAll_lay xs g
  | .tuple xs, g => gdAll_lay xs g
  | .dict _, g => g.elim
theorem gdAll_lay {m : Nat} : ∀ ds : List PyData, gdAll m ds → PyData.canLayAll0 ds = true
  | [], _ => rfl
  | x :: xs, g => by
    show (x.canLay0 && PyData.canLayAll0 xs) = true
    rw [gd_lay x g.1, gdAll_lay xs g.2]; rfl
end
theorem Th.shaped {m C D W : Nat} {d : PyData} (h : Th m C D W d) (hD : D ≤ 64) : SeqAt.shaped d = true := by
  unfold SeqAt.shaped
  rw [gd_lay d h.g, decide_eq_true (Nat.le_trans h.d hD)]; rfl
theorem gd_shaped {m : Nat} {d : PyData} (h : gd m d) (hD : d.depth ≤ 64) : SeqAt.shaped d = true := by
  unfold SeqAt.shaped
  rw [gd_lay d h, decide_eq_true hD]; rfl
end Pot

namespace Pot
open PySem PySem.Spec PyProof.Rows L2
/-! ### a box of three numbers: the second below 2 ^ 62, the last at most n -/
def Bp (H : Hp) (b : Addr) (n : Nat) : Prop := ∃ x y z : Int, H b = some (.lst [.int x, .int y, .int z]) ∧ 0 ≤ z ∧ z ≤ n ∧ 0 ≤ y ∧ y < 2 ^ 62
section
variable {H H' : Hp} {b p : Addr} {n m : Nat} {o : HO}
theorem Bp.bx (B : Bp H b n) : Bx H b := by
  obtain ⟨x, y, z, h, _⟩ := B
  exact ⟨x, y, z, h⟩
theorem Bp.same (B : Bp H b n) (s : Same H H') : Bp H' b n := by
  obtain ⟨x, y, z, h, h2⟩ := B
  exact ⟨x, y, z, s _ _ h, h2⟩
theorem Bp.put (B : Bp H b n) (h : H p = none) : Bp (upd H p o) b n := B.same (same_upd h)
theorem Bp.wr (B : Bp H b n) (h : p ≠ b) : Bp (upd H p o) b n := by
  obtain ⟨x, y, z, e, h2⟩ := B
  exact ⟨x, y, z, by rw [upd_ne h.symm]; exact e, h2⟩
theorem Bp.mono (B : Bp H b n) (h : n ≤ m) : Bp H b m := by
  obtain ⟨x, y, z, e, h1, h2, h3⟩ := B
  exact ⟨x, y, z, e, h1, by omega, h3⟩
theorem Bp.ne (B : Bp H b n) (h : H p = none) : p ≠ b := B.bx.ne h
theorem Live.pw (B : Bp H b n) : Live [b] H := Live.one B.bx
end
end Pot

namespace Pot
open PySem PySem.Spec PyProof.Rows L2
/-! ### the names of cluster C: unlike each other -/
def Nm (z : Str) : Prop := Wd 8 z ∧ 0 < z.length
def ltN (x : Int) : Str := ⟨#[97 + x.toNat]⟩
theorem str_app (a b : Str) : (a ++ b).cps.toList = a.cps.toList ++ b.cps.toList := by
  show (a.cps ++ b.cps).toList = _
  simp
theorem str_eq {a b : Str} (h : a = b) : a.cps.toList = b.cps.toList := by rw [h]
theorem ltN_list (x : Int) : (ltN x).cps.toList = [97 + x.toNat] := rfl
theorem ltN_len (x : Int) : (ltN x).length = 1 := rfl
def vlN (fi stp : Int) (i : Nat) : Int := (fi + stp * (0 + (i : Int))) % 676
def bsN (hd tl : Str) (fi stp : Int) (i : Nat) : Str := hd ++ ltN (vlN fi stp i / 26) ++ ltN (vlN fi stp i % 26) ++ tl
def nmN (hd tl : Str) (fi stp lo : Int) (i : Nat) : Str := if lo = 1 ∧ i % 2 = 1 then bsN hd tl fi stp (i - 1) ++ ltN ((fi + (0 + (i : Int))) % 26) else bsN hd tl fi stp i
def StpN (s : Int) : Prop := s = 1 ∨ s = 3 ∨ s = 5 ∨ s = 7 ∨ s = 25 ∨ s = 675
theorem vlN_pos (fi stp : Int) (i : Nat) : 0 ≤ vlN fi stp i ∧ vlN fi stp i < 676 := ⟨Int.emod_nonneg _ (by decide), Int.emod_lt_of_pos _ (by decide)⟩
theorem bsN_len (hd tl : Str) (fi stp : Int) (i : Nat) : (bsN hd tl fi stp i).length = hd.length + 2 + tl.length := by
  unfold bsN
  rw [strLen_append, strLen_append, strLen_append, ltN_len, ltN_len]
theorem bsN_wd {hd tl : Str} (h1 : Wd 3 hd) (h2 : Wd 2 tl) (fi stp : Int) (i : Nat) : Wd 7 (bsN hd tl fi stp i) ∧ 0 < (bsN hd tl fi stp i).length := by
  have := vlN_pos fi stp i
  refine ⟨wd_add (wd_add (wd_add h1 (wd_letter (by omega) (by omega))) (wd_letter (by omega) (by omega))) h2, ?_⟩
  rw [bsN_len]; omega
theorem nmN_nm {hd tl : Str} (h1 : Wd 3 hd) (h2 : Wd 2 tl) (fi stp lo : Int) (i : Nat) : Nm (nmN hd tl fi stp lo i) := by
  unfold nmN
  have l0 : 0 ≤ (fi + (0 + (i : Int))) % 26 := Int.emod_nonneg _ (by decide)
  have l1 : (fi + (0 + (i : Int))) % 26 < 26 := Int.emod_lt_of_pos _ (by decide)
  by_cases h : lo = 1 ∧ i % 2 = 1
  · rw [if_pos h]
    have b := bsN_wd h1 h2 fi stp (i - 1)
    exact ⟨wd_add b.1 (wd_letter l0 l1), by rw [strLen_append]; have := b.2; omega⟩
  · rw [if_neg h]
    have b := bsN_wd h1 h2 fi stp i
    exact ⟨b.1.mono (by decide), b.2⟩
theorem stp_inj {fi stp : Int} (s : StpN stp) {i j : Nat} (hi : i < 12) (hj : j < 12) (h : vlN fi stp i = vlN fi stp j) : i = j := by
  unfold vlN at h
  rcases s with rfl | rfl | rfl | rfl | rfl | rfl <;> omega
theorem stp_inj26 {fi stp : Int} (s : StpN stp) {i j : Nat} (hi : i < 12) (hj : j < 12) (h : (fi + stp * (0 + (i : Int))) % 26 = (fi + stp * (0 + (j : Int))) % 26) : i = j := by
  rcases s with rfl | rfl | rfl | rfl | rfl | rfl <;> omega
theorem bsN_inj {hd tl : Str} {fi stp : Int} (s : StpN stp) {i j : Nat} (hi : i < 12) (hj : j < 12) (h : bsN hd tl fi stp i = bsN hd tl fi stp j) : i = j := by
  have h2 := str_eq h
  unfold bsN at h2
  simp only [str_app, ltN_list, List.append_assoc, List.append_cancel_left_eq, List.cons_append, List.nil_append, List.cons.injEq] at h2
  have a := vlN_pos fi stp i
  have b := vlN_pos fi stp j
  exact stp_inj (fi := fi) s hi hj (by omega)
theorem nmN_inj {hd tl : Str} {fi stp lo : Int} (s : StpN stp) {i j : Nat} (hi : i < 12) (hj : j < 12) (h : nmN hd tl fi stp lo i = nmN hd tl fi stp lo j) : i = j := by
  unfold nmN at h
  by_cases c1 : lo = 1 ∧ i % 2 = 1 <;> by_cases c2 : lo = 1 ∧ j % 2 = 1
  · rw [if_pos c1, if_pos c2] at h
    have h2 := str_eq h
    rw [str_app, str_app] at h2
    have l : (bsN hd tl fi stp (i - 1)).cps.toList.length = (bsN hd tl fi stp (j - 1)).cps.toList.length := by
      have e1 := bsN_len hd tl fi stp (i - 1)
      have e2 := bsN_len hd tl fi stp (j - 1)
      rw [Array.length_toList, Array.length_toList]
      exact e1.trans e2.symm
    have h3 := (List.append_inj h2 l).1
    have h4 : bsN hd tl fi stp (i - 1) = bsN hd tl fi stp (j - 1) := by
      cases e1 : bsN hd tl fi stp (i - 1) with
      | mk x => cases e2 : bsN hd tl fi stp (j - 1) with
        | mk y =>
          rw [e1, e2] at h3
          exact congrArg Str.mk (Array.toList_inj.mp h3)
    have := bsN_inj s (i := i - 1) (j := j - 1) (by omega) (by omega) h4
    omega
  · rw [if_pos c1, if_neg c2] at h
    have := congrArg Str.length h
    rw [strLen_append, bsN_len, bsN_len, ltN_len] at this
    omega
  · rw [if_neg c1, if_pos c2] at h
    have := congrArg Str.length h
    rw [strLen_append, bsN_len, bsN_len, ltN_len] at this
    omega
  · rw [if_neg c1, if_neg c2] at h
    exact bsN_inj s hi hj h
theorem nodup_map_range {f : Nat → Str} {m : Nat} (h : ∀ i j, i < m → j < m → f i = f j → i = j) : ((List.range m).map f).Nodup := by
  rw [List.Nodup, List.pairwise_map]
  refine List.Pairwise.imp_of_mem (fun {a b} ha hb hab e => ?_) (List.nodup_range (n := m))
  exact hab (h a b (List.mem_range.mp ha) (List.mem_range.mp hb) e)
theorem nmN_nodup {hd tl : Str} {fi stp lo : Int} (s : StpN stp) {m : Nat} (hm : m ≤ 12) : ((List.range m).map (nmN hd tl fi stp lo)).Nodup :=
  nodup_map_range fun i j hi hj h => nmN_inj s (by omega) (by omega) h
theorem letN_nodup {fi stp : Int} (s : StpN stp) {m : Nat} (hm : m ≤ 12) : ((List.range m).map fun i : Nat => ltN ((fi + stp * (0 + (i : Int))) % 26)).Nodup :=
  nodup_map_range fun i j hi hj h => by
    have h2 := str_eq h
    rw [ltN_list, ltN_list] at h2
    have h3 := (List.cons.inj h2).1
    have a0 : 0 ≤ (fi + stp * (0 + (i : Int))) % 26 := Int.emod_nonneg _ (by decide)
    have b0 : 0 ≤ (fi + stp * (0 + (j : Int))) % 26 := Int.emod_nonneg _ (by decide)
    exact stp_inj26 (fi := fi) s (by omega) (by omega) (by omega)
def wordsN : List Str := ["never", "at", "undo", "slots", "done", "wash", "pot", "kind", "fill", "gather", "team", "colour"]
theorem words_eq : Txt.split (Str.ofString "never at undo slots done wash pot kind fill gather team colour") (Str.ofString " ") = wordsN := by decide +kernel
theorem words_nm : ∀ z ∈ wordsN, Nm z := by
  unfold Nm Wd wordsN
  decide +kernel
theorem words_nodup : ∀ j : Nat, j < 12 → ((wordsN ++ wordsN).drop j |>.take 12).Nodup := by
  unfold wordsN
  decide +kernel
theorem words_cut {j m : Nat} (hj : j < 12) (hm : m ≤ 12) : ((wordsN ++ wordsN).drop j |>.take m).Nodup ∧ ((wordsN ++ wordsN).drop j |>.take m).length = m ∧ ∀ z ∈ ((wordsN ++ wordsN).drop j |>.take m), Nm z := by
  refine ⟨?_, ?_, fun z hz => ?_⟩
  · have := words_nodup j hj
    have e : ((wordsN ++ wordsN).drop j |>.take m) = (((wordsN ++ wordsN).drop j |>.take 12).take m) := by rw [List.take_take, Nat.min_eq_left hm]
    rw [e]
    exact this.sublist (List.take_sublist _ _)
  · rw [List.length_take, List.length_drop, List.length_append]
    show min m (12 + 12 - j) = m
    omega
  · have := List.mem_of_mem_drop (List.mem_of_mem_take hz)
    exact (List.mem_append.mp this).elim (words_nm z) (words_nm z)
theorem wd1_sum : ∀ {l : List Str}, (∀ y ∈ l, Wd 1 y) → (l.map (·.length)).sum ≤ l.length
  | [], _ => Nat.le_refl _
  | a :: r, h => by
    have h1 := (h a List.mem_cons_self).1
    have h2 := wd1_sum (l := r) fun y hy => h y (List.mem_cons_of_mem _ hy)
    simp only [List.map_cons, List.sum_cons, List.length_cons]
    omega
end Pot

namespace Pot
open PySem PySem.Spec PyProof.Rows L2
/-! ### the palettes of cluster C -/
structure PalC (cs : List Col) (ws : List Wsh) : Prop where
  ok : PalOk cs ws
  ne : 0 < cs.length
  le : cs.length ≤ 12
  ch : ∀ c ∈ cs, 1 ≤ c.2.1 ∧ c.2.1 ≤ 20 ∧ 0 ≤ c.2.2.1 ∧ c.2.2.1 ≤ 99
  wa : ∀ r ∈ ws, ∀ i, r.2.2 = some i → 0 ≤ i ∧ i ≤ 99
  wd : ∀ c ∈ cs, Nm c.1
  nd : (cs.map (·.1)).Nodup
  wp : (ws.map fun r => (r.1, r.2.1)).Nodup
  wn : ∀ r ∈ ws, r.1 ≠ r.2.1
/-- what stands while a palette is made: the names at N, colours at C, washes at W -/
structure PMc (K : PySem.W.Frag) (H0 : Hp) (b C W N : Addr) (ns : List Str) (n : Nat) (xs us : List V) (cs : List Col) (ws : List Wsh) (H : Hp) : Prop where
  st : Bp H b n
  sm : Sm [b] H0 H
  hN : off H [C, W, b] N = some (.lst (ns.map V.str))
  hC : H C = some (.lst xs)
  dC : DpAll K (off H [C, W, b]) xs (cs.map colD)
  hW : H W = some (.lst us)
  dW : DpAll K (off H [C, W, b]) us (ws.map washD)
structure PAc (H0 : Hp) (b C W : Addr) : Prop where
  Cb : C ≠ b
  Wb : W ≠ b
  CW : C ≠ W
  nC : H0 C = none
  nW : H0 W = none
section
variable {K : PySem.W.Frag} {H0 H H' : Hp} {b C W N p : Addr} {ns : List Str} {n m : Nat} {xs us : List V} {cs : List Col} {ws : List Wsh} {o : HO}
theorem PMc.live (P : PMc K H0 b C W N ns n xs us cs ws H) : Live [C, W, b] H := ((Live.pw P.st).cons P.hW).cons P.hC
theorem PMc.drawn (P : PMc K H0 b C W N ns n xs us cs ws H) (a : PAc H0 b C W) (st : Bp H' b m) (s : Sm [b] H H') : PMc K H0 b C W N ns m xs us cs ws H' :=
  have s2 : Sm [C, W, b] H H' := sm_one (by simp) s
  ⟨st, P.sm.trans s, s2 _ _ P.hN, sm1_at s a.Cb P.hC, dpAll_same s2 P.dC, sm1_at s a.Wb P.hW, dpAll_same s2 P.dW⟩
theorem PMc.same (P : PMc K H0 b C W N ns n xs us cs ws H) (s : Same H H') : PMc K H0 b C W N ns n xs us cs ws H' :=
  have s2 : Sm [C, W, b] H H' := sm_of s
  ⟨P.st.same s, P.sm.trans (sm_of s), s2 _ _ P.hN, s _ _ P.hC, dpAll_same s2 P.dC, s _ _ P.hW, dpAll_same s2 P.dW⟩
theorem PMc.put (P : PMc K H0 b C W N ns n xs us cs ws H) (h : H p = none) : PMc K H0 b C W N ns n xs us cs ws (upd H p o) := P.same (same_upd h)
theorem PMc.mono (P : PMc K H0 b C W N ns n xs us cs ws H) (h : n ≤ m) : PMc K H0 b C W N ns m xs us cs ws H := ⟨P.st.mono h, P.sm, P.hN, P.hC, P.dC, P.hW, P.dW⟩
theorem PMc.colour (P : PMc K H0 b C W N ns n xs us cs ws H) (a : PAc H0 b C W) {v : V} {r : Col} (hv : Dp K (off H [C, W, b]) v (colD r)) : PMc K H0 b C W N ns n (xs ++ [v]) us (cs ++ [r]) ws (upd H C (.lst (xs ++ [v]))) :=
  have s2 : Sm [C, W, b] H (upd H C (.lst (xs ++ [v]))) := sm_wr (by simp)
  ⟨P.st.wr a.Cb, smp P.sm a.nC, s2 _ _ P.hN, upd_same, by rw [List.map_append]; exact dpAll_same s2 (dpAll_app P.dC (.cons hv .nil)), by rw [upd_ne a.CW.symm]; exact P.hW, dpAll_same s2 P.dW⟩
theorem PMc.wash (P : PMc K H0 b C W N ns n xs us cs ws H) (a : PAc H0 b C W) {v : V} {r : Wsh} (hv : Dp K (off H [C, W, b]) v (washD r)) : PMc K H0 b C W N ns n xs (us ++ [v]) cs (ws ++ [r]) (upd H W (.lst (us ++ [v]))) :=
  have s2 : Sm [C, W, b] H (upd H W (.lst (us ++ [v]))) := sm_wr (by simp)
  ⟨P.st.wr a.Wb, smp P.sm a.nW, s2 _ _ P.hN, by rw [upd_ne a.CW]; exact P.hC, dpAll_same s2 P.dC, upd_same, by rw [List.map_append]; exact dpAll_same s2 (dpAll_app P.dW (.cons hv .nil))⟩
end
theorem rows_cols (cs : List Col) : RowsCmp (cs.map colD) := by
  refine ⟨fun d hd => ?_, fun x r x2 r2 h1 h2 => ?_, fun xs ys h1 h2 => ?_⟩
  · obtain ⟨c, _, rfl⟩ := List.mem_map.mp hd
    exact ⟨_, _, rfl⟩
  · obtain ⟨c, _, e⟩ := List.mem_map.mp h1
    obtain ⟨c2, _, e2⟩ := List.mem_map.mp h2
    obtain ⟨rfl, _⟩ := List.cons.inj (PyData.tuple.inj e)
    obtain ⟨rfl, _⟩ := List.cons.inj (PyData.tuple.inj e2)
    rfl
  · obtain ⟨c, _, e⟩ := List.mem_map.mp h1
    obtain ⟨c2, _, e2⟩ := List.mem_map.mp h2
    rw [← PyData.tuple.inj e, ← PyData.tuple.inj e2]
    have a1 : ∀ x y : Str, PySem.W.alike (.str x) (.str y) = true := fun _ _ => rfl
    have a2 : ∀ x y : Int, PySem.W.alike (.int x) (.int y) = true := fun _ _ => rfl
    simp only [okCmp, a1, a2, Bool.true_and, Bool.or_true, Bool.and_true]
theorem depth_col (c : Col) : (colD c).depth ≤ 60 := by
  show PyData.depthAll _ + 1 ≤ 60
  simp only [PyData.depthAll, PyData.depth]
  omega
theorem depth_wash (r : Wsh) : (washD r).depth ≤ 60 := by
  show PyData.depthAll _ + 1 ≤ 60
  cases h : r.2.2 <;> (simp only [PyData.depthAll, PyData.depth, optD]; omega)
theorem alike_opt (o : Option Int) : PySem.W.alike (optD o) (optD o) = true := by cases o <;> rfl
theorem pair_eq {ws : List Wsh} (h : (ws.map fun r => (r.1, r.2.1)).Nodup) {r r2 : Wsh} (h1 : r ∈ ws) (h2 : r2 ∈ ws) (e1 : r.1 = r2.1) (e2 : r.2.1 = r2.2.1) : r = r2 := by
  obtain ⟨i, hi, rfl⟩ := List.getElem_of_mem h1
  obtain ⟨j, hj, rfl⟩ := List.getElem_of_mem h2
  have := (List.getElem_inj (i := i) (j := j) (h₀ := by rw [List.length_map]; exact hi) (h₁ := by rw [List.length_map]; exact hj) h).mp (by rw [List.getElem_map, List.getElem_map]; exact Prod.ext e1 e2)
  subst this; rfl
theorem rows_wash {ws : List Wsh} (h : (ws.map fun r => (r.1, r.2.1)).Nodup) : RowsCmp (ws.map washD) := by
  refine ⟨fun d hd => ?_, fun x r x2 r2 h1 h2 => ?_, fun xs ys h1 h2 => ?_⟩
  · obtain ⟨c, _, rfl⟩ := List.mem_map.mp hd
    exact ⟨_, _, rfl⟩
  · obtain ⟨c, _, e⟩ := List.mem_map.mp h1
    obtain ⟨c2, _, e2⟩ := List.mem_map.mp h2
    obtain ⟨rfl, _⟩ := List.cons.inj (PyData.tuple.inj e)
    obtain ⟨rfl, _⟩ := List.cons.inj (PyData.tuple.inj e2)
    rfl
  · obtain ⟨c, m1, e⟩ := List.mem_map.mp h1
    obtain ⟨c2, m2, e2⟩ := List.mem_map.mp h2
    rw [← PyData.tuple.inj e, ← PyData.tuple.inj e2]
    have a1 : ∀ x y : Str, PySem.W.alike (.str x) (.str y) = true := fun _ _ => rfl
    simp only [okCmp, a1, Bool.true_and, Bool.or_true, Bool.and_true]
    cases e1 : PyData.eqv (.str c.1) (.str c2.1) with
    | false => rfl
    | true =>
      cases e3 : PyData.eqv (.str c.2.1) (.str c2.2.1) with
      | false => rfl
      | true =>
        have x1 : c.1 = c2.1 := by simpa [PyData.eqv] using e1
        have x2 : c.2.1 = c2.2.1 := by simpa [PyData.eqv] using e3
        rw [pair_eq h m1 m2 x1 x2, alike_opt]; rfl
section
variable {K : PySem.W.Frag}
theorem go_offB {H : Hp} {b : Addr} {n : Nat} (B : Bp H b n) (a : Addr) (us : List V) (h : SqT K H a us) : SqT K (off H [b]) a us := by
  obtain ⟨x, y, z, h1, _⟩ := B
  have go : ∀ o, (H a = some (.tup us) ∨ H a = some (.frz o (.tup us))) → a ∉ [b] := fun o e z => by
    rw [List.mem_singleton] at z; subst z; rw [h1] at e; rcases e with e | e <;> cases e
  rcases h with (h | ⟨o, h⟩) | h
  · exact .inl (.inl (by rw [off_out (go ⟨.none, none, .fields #[], #[]⟩ (.inl h))]; exact h))
  · exact .inl (.inr ⟨o, by rw [off_out (go o (.inr h))]; exact h⟩)
  · exact .inr h
theorem dp_offB {H : Hp} {b : Addr} {n : Nat} {v : V} {e : PyData} (B : Bp H b n) (h : noLAll.noL e) (p : Dp K H v e) : Dp K (off H [b]) v e := dp_go (go_offB B) h p
theorem dpAll_offB {H : Hp} {b : Addr} {n : Nat} {vs : List V} {es : List PyData} (B : Bp H b n) (h : noLAll es) (p : DpAll K H vs es) : DpAll K (off H [b]) vs es := dpAll_go (go_offB B) h p
end
theorem div_mod_inj {m i j : Nat} (h1 : i / m = j / m) (h2 : i % m = j % m) : i = j := by
  have a := Nat.div_add_mod i m
  have b := Nat.div_add_mod j m
  rw [h1, h2] at a
  omega
end Pot

namespace Pot
open PySem PySem.Spec PyProof.Rows L2
/-! ### a list that is filled while there is drawn, things beside it that stay -/
structure Acc (K : PySem.W.Frag) (H0 : Hp) (b R : Addr) (fs : List (V × PyData)) (n : Nat) (us : List V) (ds : List PyData) (H : Hp) : Prop where
  st : Bp H b n
  sm : Sm [b] H0 H
  Rb : R ≠ b
  nR : H0 R = none
  fr : ∀ p ∈ fs, Dp K (off H [R, b]) p.1 p.2
  hR : H R = some (.lst us)
  dR : DpAll K (off H [R, b]) us ds
section
variable {K : PySem.W.Frag} {H0 H H' : Hp} {b R p : Addr} {fs : List (V × PyData)} {n m : Nat} {us : List V} {ds : List PyData} {o : HO}
theorem Acc.live (M : Acc K H0 b R fs n us ds H) : Live [R, b] H := (Live.pw M.st).cons M.hR
theorem Acc.drawn (M : Acc K H0 b R fs n us ds H) (st : Bp H' b m) (s : Sm [b] H H') : Acc K H0 b R fs m us ds H' :=
  have s2 : Sm [R, b] H H' := sm_one (by simp) s
  ⟨st, M.sm.trans s, M.Rb, M.nR, fun q hq => dp_same s2 (M.fr q hq), sm1_at s M.Rb M.hR, dpAll_same s2 M.dR⟩
theorem Acc.same (M : Acc K H0 b R fs n us ds H) (s : Same H H') : Acc K H0 b R fs n us ds H' :=
  have s2 : Sm [R, b] H H' := sm_of s
  ⟨M.st.same s, M.sm.trans (sm_of s), M.Rb, M.nR, fun q hq => dp_same s2 (M.fr q hq), s _ _ M.hR, dpAll_same s2 M.dR⟩
theorem Acc.put (M : Acc K H0 b R fs n us ds H) (h : H p = none) : Acc K H0 b R fs n us ds (upd H p o) := M.same (same_upd h)
theorem Acc.mono (M : Acc K H0 b R fs n us ds H) (h : n ≤ m) : Acc K H0 b R fs m us ds H := ⟨M.st.mono h, M.sm, M.Rb, M.nR, M.fr, M.hR, M.dR⟩
theorem Acc.app (M : Acc K H0 b R fs n us ds H) {v : V} {d : PyData} (hv : Dp K (off H [R, b]) v d) : Acc K H0 b R fs n (us ++ [v]) (ds ++ [d]) (upd H R (.lst (us ++ [v]))) :=
  have s2 : Sm [R, b] H (upd H R (.lst (us ++ [v]))) := sm_wr (by simp)
  ⟨M.st.wr M.Rb, smp M.sm M.nR, M.Rb, M.nR, fun q hq => dp_same s2 (M.fr q hq), upd_same, dpAll_same s2 (dpAll_app M.dR (.cons hv .nil))⟩
/-- the list is new -/
theorem Acc.start (B : Bp H b n) (s : Sm [b] H0 H) (h : H R = none) (fr : ∀ p ∈ fs, Dp K (off H [b]) p.1 p.2) : Acc K H0 b R fs n [] [] (upd H R (.lst [])) :=
  ⟨B.put h, s.trans (sm_put h), B.ne h, sm_free s B.bx h, fun q hq => by
    have e : off (upd H R (.lst [])) [R, b] = off H [b] := off_fresh h
    rw [e]; exact fr q hq, upd_same, .nil⟩
theorem Acc.new (M : Acc K H0 b R fs n us ds H) (h : H p = none) : off (upd H p o) [R, b] p = some o := off_new M.live h
/-- the list done: a thing among the others -/
theorem Acc.done (M : Acc K H0 b R fs n us ds H) : Dp K (off H [b]) (.ref R) (.list ds) :=
  .lst (SqL.of (by rw [off_out (by simpa using M.Rb)]; exact M.hR)) (dpAll_same (off_mono (by simp)) M.dR)
theorem Acc.kept (M : Acc K H0 b R fs n us ds H) {q : V × PyData} (h : q ∈ fs) : Dp K (off H [b]) q.1 q.2 := dp_same (off_mono (by simp)) (M.fr q h)
end
theorem e106 : (10 : Int) ^ (6 : Int).toNat = 1000000 := by decide
end Pot

namespace Pot
open PySem PySem.Spec PyProof.Rows L2
section
variable {K : PySem.W.Frag}
/-! ### bounds of drawn data, its texts too -/
def txAll (n : Nat) : List PyData → Prop
  | [] => True
  | x :: xs => tx n x ∧ txAll n xs
where tx (n : Nat) : PyData → Prop
  | .str x => x.length ≤ n ∧ ∀ c ∈ x.cps.toList, c < 128
  | .list xs => txAll n xs
  | .tuple xs => txAll n xs
  | _ => True
abbrev tx (n : Nat) (d : PyData) : Prop := txAll.tx n d
theorem txAll_iff {n : Nat} : ∀ {ds : List PyData}, txAll n ds ↔ ∀ d ∈ ds, tx n d
  | [] => ⟨fun _ _ h => (List.not_mem_nil h).elim, fun _ => trivial⟩
  | x :: xs => ⟨fun h d hd => (List.mem_cons.mp hd).elim (fun e => by rw [e]; exact h.1) fun e => txAll_iff.mp h.2 d e, fun h => ⟨h x List.mem_cons_self, txAll_iff.mpr fun d hd => h d (List.mem_cons_of_mem _ hd)⟩⟩
mutual
theorem tx_mono {n k : Nat} (h : n ≤ k) : ∀ d : PyData, tx n d → tx k d
  | .none, _ => trivial
  | .bool _, _ => trivial
  | .int _, _ => trivial
  | .str x, g => ⟨Nat.le_trans g.1 h, g.2⟩
  | .list xs, g => txAll_mono h xs g
  | .tuple xs, g => txAll_mono h xs g
  | .dict _, _ => trivial
theorem txAll_mono {n k : Nat} (h : n ≤ k) : ∀ ds : List PyData, txAll n ds → txAll k ds
  | [], _ => trivial
  | x :: xs, g => ⟨tx_mono h x g.1, txAll_mono h xs g.2⟩
end
structure Bd (n m C D W : Nat) (d : PyData) : Prop where
  t : Th m C D W d
  x : tx n d
structure Bds (n m C D W : Nat) (ds : List PyData) : Prop where
  t : Ths m C D W ds
  x : ∀ d ∈ ds, tx n d
section
variable {n m C D W n' m' C' D' W' : Nat} {d x : PyData} {ds es xs ys : List PyData}
theorem Bd.mono (h : Bd n m C D W d) (a : n ≤ n') (b : m ≤ m') (c : C ≤ C') (e : D ≤ D') (f : W ≤ W') : Bd n' m' C' D' W' d := ⟨h.t.mono b c e f, tx_mono a d h.x⟩
theorem Bds.mono (h : Bds n m C D W ds) (a : n ≤ n') (b : m ≤ m') (c : C ≤ C') (e : D ≤ D') (f : W ≤ W') : Bds n' m' C' D' W' ds := ⟨h.t.mono b c e f, fun d hd => tx_mono a d (h.x d hd)⟩
theorem Bds.nil : Bds n m 0 D W [] := ⟨Ths.nil, fun _ h => (List.not_mem_nil h).elim⟩
theorem Bds.app (h : Bds n m C D W xs) (k : Bds n m C' D W ys) : Bds n m (C + C') D W (xs ++ ys) := ⟨h.t.app k.t, fun d hd => (List.mem_append.mp hd).elim (h.x d) (k.x d)⟩
theorem Bds.one (h : Bd n m C D W x) : Bds n m (C + 2) D W [x] := ⟨Ths.one h.t, fun d hd => by rw [List.mem_singleton.mp hd]; exact h.x⟩
theorem Bds.list (h : Bds n m C D W ds) (l : ds.length ≤ W) : Bd n m (C + 3) (D + 1) W (.list ds) := ⟨h.t.list l, txAll_iff.mpr h.x⟩
theorem Bds.tuple (h : Bds n m C D W ds) (l : ds.length ≤ W) : Bd n m (C + 3) (D + 1) W (.tuple ds) := ⟨h.t.tuple l, txAll_iff.mpr h.x⟩
theorem Bd.parts (h : Bd n m C D W d) (e : d = .list ds ∨ d = .tuple ds) : Bds n m (C - 3) (D - 1) W ds ∧ ds.length ≤ W ∧ 3 ≤ C ∧ 1 ≤ D := by
  obtain ⟨a, b⟩ := h.t.parts e
  refine ⟨⟨a, ?_⟩, b⟩
  rcases e with rfl | rfl
  · exact txAll_iff.mp h.x
  · exact txAll_iff.mp h.x
theorem Bds.take (h : Bds n m C D W ds) (k : Nat) : Bds n m C D W (ds.take k) := ⟨h.t.take k, fun d hd => h.x d (List.mem_of_mem_take hd)⟩
theorem Bds.drop (h : Bds n m C D W ds) (k : Nat) : Bds n m C D W (ds.drop k) := ⟨h.t.drop k, fun d hd => h.x d (List.mem_of_mem_drop hd)⟩
theorem Bds.rev (h : Bds n m C D W ds) : Bds n m C D W ds.reverse := ⟨h.t.rev, fun d hd => h.x d (List.mem_reverse.mp hd)⟩
theorem Bds.set {i : Nat} (h : Bds n m C D W ds) (k : Bd n m C' D W x) : Bds n m (C + C' + 2) D W (ds.set i x) := ⟨h.t.set k.t, fun d hd => (List.mem_or_eq_of_mem_set hd).elim (h.x d) fun e => by rw [e]; exact k.x⟩
theorem Bds.mem (h : Bds n m C D W ds) (e : d ∈ ds) : Bd n m C D W d := ⟨h.t.mem e, h.x d e⟩
theorem bd_int {i : Int} (h : i.natAbs ≤ m) : Bd n m 1921 0 0 (.int i) := ⟨⟨h, Nat.le_refl _, Nat.le_refl _, Nat.le_refl _⟩, trivial⟩
theorem bd_bool (b : Bool) : Bd n m 5 0 0 (.bool b) := ⟨⟨trivial, Nat.le_refl _, Nat.le_refl _, Nat.le_refl _⟩, trivial⟩
theorem bd_none : Bd n m 4 0 0 .none := ⟨⟨trivial, Nat.le_refl _, Nat.le_refl _, Nat.le_refl _⟩, trivial⟩
theorem bd_str {z : Str} (h : z.length ≤ n) (h2 : n ≤ 2000) (c : ∀ x ∈ z.cps.toList, x < 128) : Bd n m (10 * n + 2) 0 0 (.str z) := ⟨⟨⟨Nat.le_trans h h2, fun x hx => Nat.lt_trans (c x hx) (by decide)⟩, by show 10 * z.length + 2 ≤ _; omega, Nat.le_refl _, Nat.le_refl _⟩, h, c⟩
end
theorem text_small {i : Int} (h : i.natAbs < 10 ^ 11) : (Str.ofString (toString i)).length ≤ 12 := by
  rw [PySem.ofString_length]
  exact int_text_length_le10 (k := 11) (by decide) h
theorem text_ascii (i : Int) : ∀ c ∈ (Str.ofString (toString i)).cps.toList, c < 128 := by
  intro c hc
  refine Decidable.byContradiction fun h => ?_
  exact PyProof.Rows.int_text_free' c ⟨by omega, by omega⟩ i hc
theorem cut_small (z : Str) (lo hi : Option Int) : (cutS z lo hi).length ≤ z.length := by
  have := cut_len z lo hi
  have h1 : HT.sIx z.length z.length hi ≤ z.length := HT.sIx_le _ _ (Nat.le_refl _) _
  omega
theorem cut_dp {H : Hp} {xs : List V} {ds : List PyData} {n m C D W : Nat} (da : DpAll K H xs ds) (b : Bds n m C D W ds) (lo hi : Option Int) : ∃ ys es, cutV xs lo hi = ys ∧ DpAll K H ys es ∧ Bds n m C D W es ∧ es.length ≤ ds.length ∧ ys.length = es.length := by
  refine ⟨_, (ds.drop (HT.sIx xs.length 0 lo)).take (HT.sIx xs.length xs.length hi - HT.sIx xs.length 0 lo), rfl, ?_, (b.drop _).take _, ?_, ?_⟩
  · exact dpAll_take _ (dpAll_drop _ da)
  · rw [List.length_take, List.length_drop]; omega
  · exact dpAll_len (dpAll_take _ (dpAll_drop _ da))
theorem cut_one (xs : List V) (a : Nat) : (cutV xs (some (a : Int)) (some ((a : Int) + 1))).length ≤ 1 := by
  unfold cutV
  rw [List.length_take, List.length_drop]
  rw [show ((a : Int) + 1) = ((a + 1 : Nat) : Int) by omega, HT.sIx_nat, HT.sIx_nat]
  omega
theorem str_mem_app {a b : Str} {x : Nat} (h : x ∈ (a ++ b).cps.toList) : x ∈ a.cps.toList ∨ x ∈ b.cps.toList := by
  have e : (a ++ b).cps.toList = a.cps.toList ++ b.cps.toList := Array.toList_append
  rw [e] at h
  exact List.mem_append.mp h
abbrev SqA (K : PySem.W.Frag) (H : Hp) (a : Addr) (xs : List V) : Prop := SqL K H a xs ∨ SqT K H a xs
theorem sq_same {H H' : Hp} {a : Addr} {xs : List V} (s : Same H H') (h : SqA K H a xs) : SqA K H' a xs := h.imp s.seq (same_tup s)
theorem sqa_off {H : Hp} {S : List Addr} {a : Addr} {xs : List V} (h : SqA K (off H S) a xs) : SqA K H a xs := sq_same off_sub h
theorem sqa_len {H : Hp} {a : Addr} {xs : List V} (h : SqA K H a xs) : LenV K (.ref a) H xs.length := h.elim (fun h => .inl ⟨_, h, rfl⟩) (fun h => .inr ⟨_, h, rfl⟩)
end
theorem upper_len {z : Str} (h : ∀ c ∈ z.cps.toList, c < 128) : (Txt.upper z).length = z.length := by
  rw [PyProof.Rows.upper_ascii h]
  show (z.cps.map _).size = z.cps.size
  rw [Array.size_map]
theorem upper_small {z : Str} (h : ∀ c ∈ z.cps.toList, c < 128) : ∀ c ∈ (Txt.upper z).cps.toList, c < 128 := by
  rw [PyProof.Rows.upper_ascii h]
  intro c hc
  have hc : c ∈ z.cps.toList.map PyProof.Rows.up1 := by simpa using hc
  obtain ⟨d, hd, rfl⟩ := List.mem_map.mp hc
  have := h d hd
  unfold PyProof.Rows.up1
  split <;> omega
theorem log_smallW {i : Int} (h : i.natAbs ≤ 10 ^ 12) : i.natAbs.log2 < 1920 := by
  by_cases z : i.natAbs = 0
  · rw [z]; decide
  · have := (Nat.log2_lt z).mpr (show i.natAbs < 2 ^ 40 from Nat.lt_of_le_of_lt h (by decide))
    omega
mutual
theorem gd_fineW {m : Nat} (h : m ≤ 10 ^ 12) : ∀ d : PyData, gd m d → fineAll.fine d
  | .none, _ => trivial
  | .bool _, _ => trivial
  | .int i, g => log_smallW (Nat.le_trans g h)
  | .str _, g => fun c hc => Nat.lt_trans (g.2 c hc) (by decide)
  | .list xs, g => gdAll_fineW h xs g
  | .tuple xs, g => gdAll_fineW h xs g
  | .dict _, g => g.elim
theorem gdAll_fineW {m : Nat} (h : m ≤ 10 ^ 12) : ∀ ds : List PyData, gdAll m ds → fineAll ds
  | [], _ => trivial
  | x :: xs, g => ⟨gd_fineW h x g.1, gdAll_fineW h xs g.2⟩
end
theorem Nm.ascii {z : Str} (h : Nm z) : ∀ c ∈ z.cps.toList, c < 128 := fun c hc => by have := (h.1.2 c hc).2; omega
theorem ascii_of {s : String} (h : (Str.ofString s).cps.toList.all (fun c => decide (c < 128)) = true) : ∀ c ∈ (Str.ofString s).cps.toList, c < 128 := fun c hc => of_decide_eq_true (List.all_eq_true.mp h c hc)
theorem ascii_app {a b : Str} (h1 : ∀ x ∈ a.cps.toList, x < 128) (h2 : ∀ x ∈ b.cps.toList, x < 128) : ∀ x ∈ (a ++ b).cps.toList, x < 128 := fun x hx => (str_mem_app hx).elim (h1 x) (h2 x)
theorem ascii_cut {z : Str} (h : ∀ x ∈ z.cps.toList, x < 128) (lo hi : Option Int) : ∀ x ∈ (cutS z lo hi).cps.toList, x < 128 := fun x hx => h x (cut_mem hx)
end Pot

namespace Pot
open PySem PySem.Spec PyProof.Rows L2
/-! ### lists and tuples alike: slices, sums, places -/
section
variable {X : Cx} {K : PySem.W.Frag}
def rSlS' (K : PySem.W.Frag) : V → Option Int → Option Int → Hp → VK → Prop := fun x lo hi H Q => rSlL K x lo hi H Q ∨ rSlA K x lo hi H Q
theorem kl_any (h : X.K = K := by rfl) : SlR X (rSlS' K) := h ▸ SlR.or sl_list sl_tupA
def rCatS' (K : PySem.W.Frag) : R2 := fun x y H Q => rCat x y H Q ∨ rCatA K x y H Q
theorem ko_catS (h : X.K = K := by rfl) : OpR X (binaryOp .Add) (rCatS' K) := h ▸ OpR.or op_cat op_catA
def rIxS' (K : PySem.W.Frag) : R2 := fun x y H Q => rIxL K x y H Q ∨ rIxT K x y H Q
theorem kx_any (h : X.K = K := by rfl) : IxR X (rIxS' K) := h ▸ IxR.or ix_list ix_tup
end
/-- a list's or a tuple's data -/
def seqD (t : Bool) (ds : List PyData) : PyData := if t = true then .tuple ds else .list ds
theorem seqD_t (ds : List PyData) : seqD true ds = .tuple ds := rfl
theorem seqD_l (ds : List PyData) : seqD false ds = .list ds := rfl
theorem seqD_or (t : Bool) (ds : List PyData) : seqD t ds = .list ds ∨ seqD t ds = .tuple ds := by cases t; exact .inl rfl; exact .inr rfl
theorem seqD_tup (t : Bool) (ds : List PyData) : isTupD (seqD t ds) = t := by cases t <;> rfl
theorem seqD_seq (t : Bool) (ds : List PyData) : (isListD (seqD t ds) || isTupD (seqD t ds)) = true := by cases t <;> rfl
def cutL (ds : List PyData) (lo hi : Option Int) : List PyData := (ds.drop (HT.sIx ds.length 0 lo)).take (HT.sIx ds.length ds.length hi - HT.sIx ds.length 0 lo)
theorem cutL_le (ds : List PyData) (lo hi : Option Int) : (cutL ds lo hi).length ≤ ds.length := by
  unfold cutL
  rw [List.length_take, List.length_drop]; omega
theorem cutL_head (ds : List PyData) (a : Nat) : cutL ds none (some (a : Int)) = ds.take a := by
  unfold cutL
  rw [HT.sIx_nat]
  show (ds.drop 0).take (min a ds.length - 0) = _
  rw [List.drop_zero, Nat.sub_zero]
  rcases Nat.le_total a ds.length with h | h
  · rw [Nat.min_eq_left h]
  · rw [Nat.min_eq_right h, List.take_length, List.take_of_length_le h]
theorem cutL_tail (ds : List PyData) (a : Nat) : cutL ds (some (a : Int)) none = ds.drop a := by
  unfold cutL
  rw [HT.sIx_nat]
  show (ds.drop (min a ds.length)).take (ds.length - min a ds.length) = _
  rcases Nat.le_total a ds.length with h | h
  · rw [Nat.min_eq_left h, List.take_of_length_le (by rw [List.length_drop]; exact Nat.le_refl _)]
  · rw [Nat.min_eq_right h, List.drop_length, List.drop_of_length_le h, List.take_nil]
/-- a value that is a list of its own or a tuple -/
def SeqV (K : PySem.W.Frag) (H : Hp) (t : Bool) (y : V) (ds : List PyData) : Prop := ∃ a xs, y = .ref a ∧ DpAll K H xs ds ∧ (if t = true then SqT K H a xs else H a = some (.lst xs))
section
variable {K : PySem.W.Frag} {H H' : Hp} {S : List Addr} {t : Bool} {x y : V} {ds es : List PyData} {lo hi : Option Int} {Q : VK}
theorem SeqV.dp (h : SeqV K H t y ds) : Dp K H y (seqD t ds) := by
  obtain ⟨a, xs, rfl, da, hs⟩ := h
  cases t with
  | true => exact .tup hs da
  | false => exact .lst (SqL.of hs) da
theorem SeqV.same (s : Same H H') (h : SeqV K H t y ds) : SeqV K H' t y ds := by
  obtain ⟨a, xs, rfl, da, hs⟩ := h
  refine ⟨a, xs, rfl, dpAll_same s da, ?_⟩
  cases t with
  | true => exact same_tup s hs
  | false => exact s _ _ hs
theorem sl_seq (lv : Live S H) (d : Dp K (off H S) x (seqD t ds)) (q : ∀ H' y, Same H H' → SeqV K (off H' S) t y (cutL ds lo hi) → Q y H') : rSlS' K x lo hi H Q := by
  cases t with
  | true =>
    obtain ⟨a, xs, rfl, hs, da⟩ := dp_tup d
    have lx := dpAll_len da
    refine .inr ⟨a, xs, rfl, sqt_off hs, fun h => ?_, fun h p np => ?_⟩
    · refine q _ _ (Same.refl _) ⟨a, xs, rfl, ?_, hs⟩
      have e : cutL ds lo hi = ds := by
        unfold cutL
        rw [lx] at h
        rw [h.1, h.2, List.drop_zero, Nat.sub_zero, List.take_length]
      rw [e]; exact da
    · refine q _ _ (same_upd np) ⟨p, _, rfl, ?_, .inl (.inl (off_new lv np))⟩
      unfold cutL
      rw [← lx]
      exact dpAll_same (sm_put np) (dpAll_take _ (dpAll_drop _ da))
  | false =>
    obtain ⟨a, xs, rfl, hs, da⟩ := dp_lst d
    have lx := dpAll_len da
    refine .inl ⟨a, xs, rfl, sq_off hs, fun p np => ?_⟩
    refine q _ _ (same_upd np) ⟨p, _, rfl, ?_, off_new lv np⟩
    unfold cutL
    rw [← lx]
    exact dpAll_same (sm_put np) (dpAll_take _ (dpAll_drop _ da))
theorem cat_seq (lv : Live S H) (d : SeqV K (off H S) t x ds) (e : SeqV K (off H S) t y es) (l : ds.length + es.length ≤ sizeLine) (q : ∀ H' z, Same H H' → SeqV K (off H' S) t z (ds ++ es) → Q z H') : rCatS' K x y H Q := by
  obtain ⟨a, xs, rfl, da, hs⟩ := d
  obtain ⟨b, ys, rfl, db, ht⟩ := e
  have lx := dpAll_len da
  have ly := dpAll_len db
  cases t with
  | true =>
    have hs : SqT K (off H S) a xs := hs
    have ht : SqT K (off H S) b ys := ht
    refine .inr ⟨a, b, xs, ys, rfl, rfl, sqt_off hs, sqt_off ht, by rw [lx, ly]; exact l, fun z => ?_, fun z z2 => ?_, fun z z2 p np => ?_⟩
    · refine q _ _ (Same.refl _) ⟨b, ys, rfl, ?_, ht⟩
      have : ds = [] := List.length_eq_zero_iff.mp (by rw [← lx, z]; rfl)
      rw [this]; exact db
    · refine q _ _ (Same.refl _) ⟨a, xs, rfl, ?_, hs⟩
      have : es = [] := List.length_eq_zero_iff.mp (by rw [← ly, z2]; rfl)
      rw [this, List.append_nil]; exact da
    · exact q _ _ (same_upd np) ⟨p, _, rfl, dpAll_same (sm_put np) (dpAll_app' da db), .inl (.inl (off_new lv np))⟩
  | false =>
    have hs : off H S a = some (.lst xs) := hs
    have ht : off H S b = some (.lst ys) := ht
    exact .inl ⟨a, b, xs, ys, rfl, rfl, at_off hs, at_off ht, by rw [lx, ly]; exact l, fun p np => q _ _ (same_upd np) ⟨p, _, rfl, dpAll_same (sm_put np) (dpAll_app' da db), off_new lv np⟩⟩
theorem ix_seqV {i : Nat} {d : PyData} (h : Dp K (off H S) x (seqD t ds)) (g : ds[i]? = some d) (q : ∀ y, Dp K (off H S) y d → Q y H) : rIxS' K x (.int (i : Nat)) H Q := by
  cases t with
  | true =>
    obtain ⟨a, xs, rfl, hs, da⟩ := dp_tup h
    have lx := dpAll_len da
    have hi : i < xs.length := by rw [lx]; exact (List.getElem?_eq_some_iff.mp g).1
    obtain ⟨d2, g2, dp⟩ := dpAll_at da (List.getElem?_eq_getElem hi)
    rw [g] at g2
    cases g2
    exact .inr ⟨a, xs, _, _, rfl, rfl, sqt_off hs, atI_nat (List.getElem?_eq_getElem hi), q _ dp⟩
  | false =>
    obtain ⟨a, xs, rfl, hs, da⟩ := dp_lst h
    have lx := dpAll_len da
    have hi : i < xs.length := by rw [lx]; exact (List.getElem?_eq_some_iff.mp g).1
    obtain ⟨d2, g2, dp⟩ := dpAll_at da (List.getElem?_eq_getElem hi)
    rw [g] at g2
    cases g2
    exact .inl ⟨a, xs, _, _, rfl, rfl, sq_off hs, atI_nat (List.getElem?_eq_getElem hi), q _ dp⟩
theorem len_seq (h : Dp K (off H S) x (seqD t ds)) : LenV K x H ds.length := by
  cases t with
  | true =>
    obtain ⟨a, xs, rfl, hs, da⟩ := dp_tup h
    rw [← dpAll_len da]
    exact .inr ⟨_, sqt_off hs, rfl⟩
  | false =>
    obtain ⟨a, xs, rfl, hs, da⟩ := dp_lst h
    rw [← dpAll_len da]
    exact .inl ⟨_, sq_off hs, rfl⟩
end
section
variable {n m C D W : Nat} {ds : List PyData}
theorem Bds.cut (h : Bds n m C D W ds) (lo hi : Option Int) : Bds n m C D W (cutL ds lo hi) := (h.drop _).take _
theorem Bd.seq {t : Bool} (h : Bd n m C D W (seqD t ds)) : Bds n m C (D - 1) W ds ∧ ds.length ≤ W := by
  obtain ⟨a, b, c, d⟩ := h.parts (seqD_or t ds)
  exact ⟨a.mono (Nat.le_refl _) (Nat.le_refl _) (Nat.sub_le _ _) (Nat.le_refl _) (Nat.le_refl _), b⟩
theorem Bds.seq {t : Bool} (h : Bds n m C D W ds) (l : ds.length ≤ W) : Bd n m (C + 3) (D + 1) W (seqD t ds) := by
  cases t
  · exact h.list l
  · exact h.tuple l
end
end Pot

namespace Pot
open PySem PySem.Spec PyProof.Rows L2
/-! ### comprehensions that make new things, nothing drawn -/
structure PvD (K : PySem.W.Frag) (H1 : Hp) (S : List Addr) (D : Addr) (ds : Nat → List PyData) (i : Nat) (H2 : Hp) : Prop where
  sm : Same H1 H2
  ex : ∃ us, H2 D = some (.lst us) ∧ DpAll K (off H2 (D :: S)) us (ds i)
section
variable {K : PySem.W.Frag} {H1 H2 H3 : Hp} {S : List Addr} {D : Addr} {ds : Nat → List PyData} {i : Nat} {y x : V} {d : PyData} {xs : List V} {es : List PyData}
theorem same_offD (nD : H1 D = none) (s : Same H1 H2) : Same (off H1 S) (off H2 (D :: S)) := fun a o h => by
  have n := off_mem h
  rw [off_out n] at h
  have ne : a ≠ D := fun z => by rw [z, nD] at h; cases h
  rw [off_out (by intro z; rcases List.mem_cons.mp z with z | z; exact ne z; exact n z)]
  exact s a o h
theorem pd_start (nD : H1 D = none) (e : ds 0 = []) : PvD K H1 S D ds 0 (upd H1 D (.lst [])) := ⟨same_upd nD, [], upd_same, by rw [e]; exact .nil⟩
theorem PvD.live (lv : Live S H1) (p : PvD K H1 S D ds i H2) : Live (D :: S) H2 := by
  obtain ⟨s, us, h, _⟩ := p
  exact (lv.same s).cons h
theorem PvD.keep (nD : H1 D = none) (p : PvD K H1 S D ds i H2) : Same (off H1 S) (off H2 (D :: S)) := same_offD nD p.sm
theorem pd_put (nD : H1 D = none) (p : PvD K H1 S D ds i H2) (s : Same H2 H3) (dy : Dp K (off H3 (D :: S)) y d) (e : ds (i + 1) = ds i ++ [d]) (l : (ds i).length < sizeLine) : ∃ acc, H3 D = some (.lst acc) ∧ acc.length < sizeLine ∧ PvD K H1 S D ds (i + 1) (upd H3 D (.lst (acc ++ [y]))) := by
  obtain ⟨s1, us, h, da⟩ := p
  have sw : Sm (D :: S) H3 (upd H3 D (.lst (us ++ [y]))) := sm_wr List.mem_cons_self
  refine ⟨us, s _ _ h, by rw [dpAll_len da]; exact l, same_put (s1.trans s) nD, _, upd_same, ?_⟩
  rw [e]
  exact dpAll_app (dpAll_same sw (dpAll_same (sm_of s) da)) (.cons (dp_same sw dy) .nil)
theorem pd_skip (p : PvD K H1 S D ds i H2) (s : Same H2 H3) (e : ds (i + 1) = ds i) : PvD K H1 S D ds (i + 1) H3 := by
  obtain ⟨s1, us, h, da⟩ := p
  exact ⟨s1.trans s, us, s _ _ h, by rw [e]; exact dpAll_same (sm_of s) da⟩
theorem PvD.same (p : PvD K H1 S D ds i H2) (s : Same H2 H3) : PvD K H1 S D ds i H3 := by
  obtain ⟨s1, us, h, da⟩ := p
  exact ⟨s1.trans s, us, s _ _ h, dpAll_same (sm_of s) da⟩
/-- a list is filled with another one's things -/
theorem pd_ext {ms ns : List PyData} {us zs : List V} {j : Nat} (nD : H1 D = none) (s : Same H1 H3) (h : H3 D = some (.lst us)) (da : DpAll K (off H3 (D :: S)) us ms) (dz : DpAll K (off H3 (D :: S)) zs ns) : PvD K H1 S D (fun _ => ms ++ ns) j (upd H3 D (.lst (us ++ zs))) := by
  have sw : Sm (D :: S) H3 (upd H3 D (.lst (us ++ zs))) := sm_wr List.mem_cons_self
  exact ⟨same_put s nD, _, upd_same, dpAll_same sw (dpAll_app da dz)⟩
theorem pd_end {n : Nat} (lv : Live S H1) (nD : H1 D = none) (p : PvD K H1 S D ds n H2) (e : ds n = es) : Same H1 H2 ∧ ∃ us, off H2 S D = some (.lst us) ∧ DpAll K (off H2 S) us es := by
  obtain ⟨s, us, h, da⟩ := p
  refine ⟨s, us, by rw [off_out (lv.out nD)]; exact h, ?_⟩
  rw [← e]
  exact dpAll_same (off_mono fun x hx => List.mem_cons_of_mem _ hx) da
end
theorem take_mapD {α : Type} (f : α → PyData) {l : List α} {i : Nat} {x : α} (h : l[i]? = some x) : (l.take (i + 1)).map f = (l.take i).map f ++ [f x] := by
  rw [List.take_add_one, h, List.map_append]; rfl
theorem take_allD {α : Type} {f : α → PyData} {l : List α} {n : Nat} (h : l.length ≤ n) : (l.take n).map f = l.map f := by rw [List.take_of_length_le h]
theorem take_lenD {α : Type} {f : α → PyData} {l : List α} {i : Nat} (h : l.length < 100000) : ((l.take i).map f).length < sizeLine := by
  rw [List.length_map, List.length_take, sizeLine_eq]; omega
theorem filt_yes {α : Type} (f : α → PyData) {p : α → Bool} {l : List α} {i : Nat} {x : α} (h : l[i]? = some x) (hp : p x = true) : ((l.take (i + 1)).filter p).map f = ((l.take i).filter p).map f ++ [f x] := by
  rw [List.take_add_one, h, Option.toList_some, List.filter_append, List.map_append]; simp [hp]
theorem filt_no {α : Type} (f : α → PyData) {p : α → Bool} {l : List α} {i : Nat} {x : α} (h : l[i]? = some x) (hp : p x = false) : ((l.take (i + 1)).filter p).map f = ((l.take i).filter p).map f := by
  rw [List.take_add_one, h, Option.toList_some, List.filter_append, List.map_append]; simp [hp]
theorem filt_len {α : Type} (f : α → PyData) (p : α → Bool) {l : List α} {i : Nat} (h : l.length < 100000) : (((l.take i).filter p).map f).length < sizeLine := by
  rw [List.length_map, sizeLine_eq]
  have h1 := List.length_filter_le p (l.take i)
  have h2 : (l.take i).length ≤ l.length := List.length_take_le' ..
  omega
theorem filt_all {α : Type} (f : α → PyData) (p : α → Bool) {l : List α} {n : Nat} (h : l.length ≤ n) : ((l.take n).filter p).map f = (l.filter p).map f := by rw [List.take_of_length_le h]
theorem go_offL {K : PySem.W.Frag} {H : Hp} {S : List Addr} (hS : ∀ s ∈ S, ∃ xs, H s = some (.lst xs)) (a : Addr) (us : List V) (h : SqT K H a us) : SqT K (off H S) a us := by
  have go : ∀ o, (H a = some (.tup us) ∨ H a = some (.frz o (.tup us))) → a ∉ S := fun o e z => by
    obtain ⟨xs, h1⟩ := hS a z
    rw [h1] at e; rcases e with e | e <;> cases e
  rcases h with (h | ⟨o, h⟩) | h
  · exact .inl (.inl (by rw [off_out (go ⟨.none, none, .fields #[], #[]⟩ (.inl h))]; exact h))
  · exact .inl (.inr ⟨o, by rw [off_out (go o (.inr h))]; exact h⟩)
  · exact .inr h
/-- data without lists stands beside any lists -/
theorem dpAll_offL {K : PySem.W.Frag} {H : Hp} {S : List Addr} {vs : List V} {es : List PyData} (hS : ∀ s ∈ S, ∃ xs, H s = some (.lst xs)) (h : noLAll es) (p : DpAll K H vs es) : DpAll K (off H S) vs es := dpAll_go (go_offL hS) h p
theorem off_nil {H : Hp} : off H [] = H := by
  funext x; unfold off; rw [if_neg (List.not_mem_nil)]
theorem live_nil {H : Hp} : Live [] H := fun _ h => (List.not_mem_nil h).elim
end Pot

namespace Pot
open PySem PySem.Spec PyProof.Rows L2
/-! ### the least and the greatest of a list of numbers -/
section
variable {X : Cx} {K : PySem.W.Frag}
theorem kc_min (hc : X.calm = true := by rfl) (h : X.K = K := by rfl) : CallR X (.builtin "min") (rMin K) := h ▸ cr_min hc
theorem kc_max (hc : X.calm = true := by rfl) (h : X.K = K := by rfl) : CallR X (.builtin "max") (rMax K) := h ▸ cr_max hc
end
end Pot

namespace Pot
open PySem PySem.Spec PyProof.Rows L2
/-! ### dict of a list of pairs, a text thrice to the letter -/
section
variable {X : Cx} {K : PySem.W.Frag}
def Dct (mg : Str → Option Value) : Prop := mg "dict" = none
def rDictP (K : PySem.W.Frag) : List V → Hp → VK → Prop := fun xs H Q => ∃ (a : Addr) (ps : List Addr) (kvs : List (Key × V)), xs = [.ref a] ∧ SqL K H a (ps.map V.ref) ∧ Paired (fun p kv => SqT K H p [kV kv.1, kv.2]) ps kvs ∧ ∀ p, H p = none → Q (.ref p) (upd H p (.dK (mergeK [] kvs)))
theorem kc_dictP (hc : X.calm = true := by rfl) (h : X.K = K := by rfl) : CallR X (.type "dict") (rDictP K) := by subst h; exact call_dictP hc
def rRepE : R2 := fun x y H Q => ∃ z : Str, x = .str z ∧ y = .int 3 ∧ z.length ≤ 100000 ∧ Q (.str (Txt.mul z 3)) H
theorem op_repE : OpR X (binaryOp .Mult) rRepE := by
  intro pins sh sg H xv yv v1 u1 Q I r1 r2 h
  obtain ⟨z, rfl, rfl, hz, q⟩ := h
  obtain ⟨tk1, rfl⟩ := r1
  obtain ⟨tk2, rfl⟩ := r2
  refine SB.mul ⟨by decide, fun _ _ hh => ?_, fun _ _ => ?_⟩ (fun tt kk => ⟨.str (Txt.mul z 3), H, I.tok _, ⟨_, rfl⟩, q⟩)
  · have : ((2 : Int) ^ 63 - 1) / 3 = 3074457345618258602 := by decide
    omega
  · have e : (3 : Int).toNat = 3 := rfl
    rw [e]
    show decide _ = false
    refine decide_eq_false ?_
    have := sizeLine_eq
    omega
end
/-! ### pairs as keys and values -/
theorem putK_new {kvs : List (Key × V)} {k : Key} {v : V} (h : ∀ p ∈ kvs, p.1 ≠ k) : putK kvs k v = kvs ++ [(k, v)] := by
  unfold putK
  rw [if_neg]
  intro z
  obtain ⟨p, hp, e⟩ := List.any_eq_true.mp z
  exact h p hp (of_decide_eq_true e)
theorem merge_nd : ∀ (more kvs : List (Key × V)), ((kvs ++ more).map (·.1)).Nodup → mergeK kvs more = kvs ++ more
  | [], kvs, _ => by show kvs = kvs ++ []; rw [List.append_nil]
  | p :: more, kvs, nd => by
    show mergeK (putK kvs p.1 p.2) more = kvs ++ p :: more
    rw [putK_new]
    · rw [merge_nd more (kvs ++ [(p.1, p.2)]) (by rw [List.append_assoc]; exact nd), List.append_assoc]; rfl
    · intro q hq e
      rw [List.map_append, List.nodup_append] at nd
      exact nd.2.2 q.1 (List.mem_map.mpr ⟨q, hq, rfl⟩) p.1 (List.mem_map.mpr ⟨p, List.mem_cons_self, rfl⟩) e
end Pot

namespace Pot
open PySem PySem.Spec PyProof.Rows L2
/-! ### calls by names alone -/
section
variable {X : Cx} {CX : CXT} {k : Nat} {f : Addr} {fd : FuncData} {ps ks : List Str} {sp : Sp} {E : XK} {x : Str} {p pos : Pos} {kws : List Keyword} {tk : TA} {g : List Value → List Value → List Value} {gV : List V → List V → List V}
theorem pe_callK0 (F : FnOk X.prog X.w X.K X.mg X.base CX k f fd ps sp) (hr : Room k X.A) (hg : Gl X x) (hm : X.mg x = some (.ref f)) (hk : PySem.W.keepIn X.K (.ref f) = true) (hb : KBinds X.K fd ps ks g gV) (hx : Passes CX X E)
    (hkw : PK X kws tk) (hall : (backToKw pos (keywordEach kws X.env)).all (·.1.isSome) = true := by rfl) (hks : (backToKw pos (keywordEach kws X.env)).filterMap (·.1) = ks := by rfl)
    (hdb : (x == ("__debug__" : Str)) = false := by decide)
    (hpl : ((backTo pos (starEach [] X.env)).any (·.1) || (backToKw pos (keywordEach kws X.env)).any (·.1.isNone)) = false := by rfl) :
    PE X (.Call (.Name x p) [] kws pos) (tCallK sp gV E tNil tk) := by
  refine ⟨fun pins s σ H Q I h => ?_⟩
  refine wpAny_Call_Name_kw (ld_glob I hg hm ?_ hdb)
  refine PySem.W.callWith_KW0 (h₀ := X.base) I.ok.mod.kin hk hall (thn (hkw.run pos pins s σ H _ I h) fun ws s2 ⟨zs, H2, I2, rz, q2⟩ => ⟨I2.kIn, ?_⟩) hpl
  rw [hks]
  exact run_fnk F hr hb hx I2 .nil rz q2
end
def ClK (P : Program) (w : World) (K : PySem.W.Frag) (mg : Str → Option Value) (base : Heap) (k : Nat) (x : Str) (ks : List Str) (gV : List V → List V → List V) (sp : Sp) : Prop :=
  ∃ (f : Addr) (fd : FuncData) (ps : List Str) (g : List Value → List Value → List Value), FnOk P w K mg base CX0 k f fd ps sp ∧ mg x = some (.ref f) ∧ PySem.W.keepIn K (.ref f) = true ∧ KBinds K fd ps ks g gV
theorem pe_ck {X : Cx} {k j : Nat} {x : Str} {ks : List Str} {gV : List V → List V → List V} {sp : Sp} {kws : List Keyword} {t : TA} {p pos : Pos} (c : ClK X.prog X.w X.K X.mg X.base k x ks gV sp) (hr : Room j X.A) (hk : k ≤ j) (hg : Gl X x) (ha : PK X kws t)
    (hall : (backToKw pos (keywordEach kws X.env)).all (·.1.isSome) = true := by rfl) (hks : (backToKw pos (keywordEach kws X.env)).filterMap (·.1) = ks := by rfl) (hdb : (x == ("__debug__" : Str)) = false := by decide)
    (hpl : ((backTo pos (starEach [] X.env)).any (·.1) || (backToKw pos (keywordEach kws X.env)).any (·.1.isNone)) = false := by rfl) : PE X (.Call (.Name x p) [] kws pos) (tCallK sp gV E0 tNil t) := by
  obtain ⟨f, fd, ps, g, G, hm, kp, b⟩ := c
  exact pe_callK0 G (hr.mono hk) hg hm kp b pass0 ha hall hks hdb hpl
/-- three, handed in from the last to the first -/
def rev3 {α : Type} : List α → List α → List α
  | [], [a, b, c] => [c, b, a]
  | _, _ => []
theorem kb_rev3 {K : PySem.W.Frag} {x qual : Str} {st : Stmt} {f : Addr} {fd : FuncData} {k1 k2 k3 : Str} (F : Fun K x qual st f fd)
    (h : ∀ (kV doc pm : Value) (an : Option Addr) (cdv ct a b c : Value), bindArgs (PySem.W.fnOf x qual (defArgs st) (defBody st) (defScope st) .none kV doc pm an cdv ct) ⟨[], [(k3, a), (k2, b), (k1, c)]⟩ = pure [(k1, c), (k2, b), (k3, a)]) : KBinds K fd [k1, k2, k3] [k3, k2, k1] rev3 rev3 := by
  obtain ⟨oc, od, kV, doc, pm, an, cdv, ct, osl, rfl, lk, hcd⟩ := F.ex
  refine ⟨fun s us ws _ hl => ?_, fun {vs us zs ws} r rz => ?_⟩
  · match us, ws, hl with
    | [], [a, b, c], _ => exact .of_eq (h kV doc pm an cdv ct a b c)
    | [], [], hl => cases hl
    | [], [_], hl => cases hl
    | [], [_, _], hl => cases hl
    | [], _ :: _ :: _ :: _ :: _, hl => cases hl
    | _ :: _, _, hl => cases hl
  · cases r with
    | nil =>
      cases rz with
      | nil => exact .nil
      | cons a rz =>
        cases rz with
        | nil => exact .nil
        | cons b rz =>
          cases rz with
          | nil => exact .nil
          | cons c rz =>
            cases rz with
            | nil => exact .cons c (.cons b (.cons a .nil))
            | cons _ _ => exact .nil
    | cons _ _ => exact .nil
/-- four, from the last to the first, of a def with defaults -/
def rev4 {α : Type} : List α → List α → List α
  | [], [a, b, c, d] => [d, c, b, a]
  | _, _ => []
theorem kb_rev4D {K : PySem.W.Frag} {x : Str} {st : Stmt} {dvs : List V} {f : Addr} {fd : FuncData} {k1 k2 k3 k4 : Str} (F : FunV K x st dvs f fd) (hd : dvs ≠ [])
    (h : ∀ (T : Addr) (kV doc pm : Value) (an : Option Addr) (cdv ct a b c d : Value) (its : List Value), its.length = dvs.length → ∃ k, bindArgs (PySem.W.fnOf x x (defArgs st) (defBody st) (defScope st) (.ref T) kV doc pm an cdv ct) ⟨[], [(k4, a), (k3, b), (k2, c), (k1, d)]⟩ = seqItems? (.ref T) >>= k ∧ k (some its.toArray) = pure [(k1, d), (k2, c), (k3, b), (k4, a)]) : KBinds K fd [k1, k2, k3, k4] [k4, k3, k2, k1] rev4 rev4 := by
  obtain ⟨oc, od, dV, kV, doc, pm, an, cdv, ct, osl, rfl, lk, hcd, hD, hK⟩ := F.ex
  refine ⟨fun s us ws X hl => ?_, fun {vs us zs ws} r rz => ?_⟩
  · rcases hD with ⟨e, _⟩ | ⟨_, T, o, its, m, rfl, lT, oT, rT⟩
    · exact absurd e hd
    · match us, ws, hl with
      | [], [a, b, c, d], _ =>
        obtain ⟨k, e1, e2⟩ := h T kV doc pm an cdv ct a b c d its rT.length.symm
        refine BindsTo.of_looks fun M => ?_
        show PySem.W.Looks M s.heap (bindArgs _ ⟨[], [(k4, a), (k3, b), (k2, c), (k1, d)]⟩) _
        rw [e1]
        exact looks_items X lT oT (.of_pure e2)
      | [], [], hl => cases hl
      | [], [_], hl => cases hl
      | [], [_, _], hl => cases hl
      | [], [_, _, _], hl => cases hl
      | [], _ :: _ :: _ :: _ :: _ :: _, hl => cases hl
      | _ :: _, _, hl => cases hl
  · cases r with
    | nil =>
      cases rz with
      | nil => exact .nil
      | cons a rz =>
        cases rz with
        | nil => exact .nil
        | cons b rz =>
          cases rz with
          | nil => exact .nil
          | cons c rz =>
            cases rz with
            | nil => exact .nil
            | cons d rz =>
              cases rz with
              | nil => exact .cons d (.cons c (.cons b (.cons a .nil)))
              | cons _ _ => exact .nil
    | cons _ _ => exact .nil
/-! ### a list or a tuple walked -/
def iAnyS (K : PySem.W.Frag) (tl : TE) : TI := fun σ H R => iList K tl σ H R ∨ iTup K tl σ H R
theorem ki_anyS {X : Cx} {K : PySem.W.Frag} {tg l : Expr} {tl : TE} (hl : PE X l tl) (h : X.K = K := by rfl) : PI X tg l (iAnyS K tl) :=
  ⟨fun pins s σ H R I z => z.elim (fun z => (ki_list hl h).run pins s σ H R I z) (fun z => (ki_tup hl h).run pins s σ H R I z)⟩
end Pot

namespace Pot
open PySem PySem.Spec PyProof.Rows L2
/-! ### calls by places and names of a def with five values, two of them with defaults -/
def mix5 {α : Type} : List α → List α → List α
  | [], [a, b, c, d, e] => [e, c, a, d, b]
  | _, _ => []
def pl32 {α : Type} : List α → List α → List α
  | [a, b, c], [d, e] => [a, b, c, d, e]
  | _, _ => []
def pl31 {α : Type} (x : α) : List α → List α → List α
  | [a, b, c], [d] => [a, b, c, x, d]
  | _, _ => []
section
variable {K : PySem.W.Frag} {x : Str} {st : Stmt} {dvs : List V} {f : Addr} {fd : FuncData} {k1 k2 k3 k4 k5 : Str}
theorem kb_mix5 (F : FunV K x st dvs f fd) (hd : dvs ≠ [])
    (h : ∀ (T : Addr) (kV doc pm : Value) (an : Option Addr) (cdv ct a b c d e : Value) (its : List Value), its.length = dvs.length → ∃ k, bindArgs (PySem.W.fnOf x x (defArgs st) (defBody st) (defScope st) (.ref T) kV doc pm an cdv ct) ⟨[], [(k3, a), (k5, b), (k2, c), (k4, d), (k1, e)]⟩ = seqItems? (.ref T) >>= k ∧ k (some its.toArray) = pure [(k1, e), (k2, c), (k3, a), (k4, d), (k5, b)]) : KBinds K fd [k1, k2, k3, k4, k5] [k3, k5, k2, k4, k1] mix5 mix5 := by
  obtain ⟨oc, od, dV, kV, doc, pm, an, cdv, ct, osl, rfl, lk, hcd, hD, hK⟩ := F.ex
  refine ⟨fun s us ws X hl => ?_, fun {vs us zs ws} r rz => ?_⟩
  · rcases hD with ⟨e, _⟩ | ⟨_, T, o, its, m, rfl, lT, oT, rT⟩
    · exact absurd e hd
    · match us, ws, hl with
      | [], [a, b, c, d, e], _ =>
        obtain ⟨k, e1, e2⟩ := h T kV doc pm an cdv ct a b c d e its rT.length.symm
        refine BindsTo.of_looks fun M => ?_
        show PySem.W.Looks M s.heap (bindArgs _ ⟨[], [(k3, a), (k5, b), (k2, c), (k4, d), (k1, e)]⟩) _
        rw [e1]
        exact looks_items X lT oT (.of_pure e2)
      | [], [], hl => cases hl
      | [], [_], hl => cases hl
      | [], [_, _], hl => cases hl
      | [], [_, _, _], hl => cases hl
      | [], [_, _, _, _], hl => cases hl
      | [], _ :: _ :: _ :: _ :: _ :: _ :: _, hl => cases hl
      | _ :: _, _, hl => cases hl
  · match r, rz with
    | .nil, .cons a (.cons b (.cons c (.cons d (.cons e .nil)))) => exact .cons e (.cons c (.cons a (.cons d (.cons b .nil))))
    | .nil, .nil => exact .nil
    | .nil, .cons _ .nil => exact .nil
    | .nil, .cons _ (.cons _ .nil) => exact .nil
    | .nil, .cons _ (.cons _ (.cons _ .nil)) => exact .nil
    | .nil, .cons _ (.cons _ (.cons _ (.cons _ .nil))) => exact .nil
    | .nil, .cons _ (.cons _ (.cons _ (.cons _ (.cons _ (.cons _ _))))) => exact .nil
    | .cons _ _, _ => exact .nil
theorem kb_pl32 (F : FunV K x st dvs f fd) (hd : dvs ≠ [])
    (h : ∀ (T : Addr) (kV doc pm : Value) (an : Option Addr) (cdv ct a b c d e : Value) (its : List Value), its.length = dvs.length → ∃ k, bindArgs (PySem.W.fnOf x x (defArgs st) (defBody st) (defScope st) (.ref T) kV doc pm an cdv ct) ⟨[a, b, c], [(k4, d), (k5, e)]⟩ = seqItems? (.ref T) >>= k ∧ k (some its.toArray) = pure [(k1, a), (k2, b), (k3, c), (k4, d), (k5, e)]) : KBinds K fd [k1, k2, k3, k4, k5] [k4, k5] pl32 pl32 := by
  obtain ⟨oc, od, dV, kV, doc, pm, an, cdv, ct, osl, rfl, lk, hcd, hD, hK⟩ := F.ex
  refine ⟨fun s us ws X hl => ?_, fun {vs us zs ws} r rz => ?_⟩
  · rcases hD with ⟨e, _⟩ | ⟨_, T, o, its, m, rfl, lT, oT, rT⟩
    · exact absurd e hd
    · match us, ws, hl with
      | [a, b, c], [d, e], _ =>
        obtain ⟨k, e1, e2⟩ := h T kV doc pm an cdv ct a b c d e its rT.length.symm
        refine BindsTo.of_looks fun M => ?_
        show PySem.W.Looks M s.heap (bindArgs _ ⟨[a, b, c], [(k4, d), (k5, e)]⟩) _
        rw [e1]
        exact looks_items X lT oT (.of_pure e2)
  · match r, rz with
    | .cons a (.cons b (.cons c .nil)), .cons d (.cons e .nil) => exact .cons a (.cons b (.cons c (.cons d (.cons e .nil))))
    | .nil, _ => exact .nil
    | .cons _ .nil, _ => exact .nil
    | .cons _ (.cons _ .nil), _ => exact .nil
    | .cons _ (.cons _ (.cons _ (.cons _ _))), _ => exact .nil
    | .cons _ (.cons _ (.cons _ .nil)), .nil => exact .nil
    | .cons _ (.cons _ (.cons _ .nil)), .cons _ .nil => exact .nil
    | .cons _ (.cons _ (.cons _ .nil)), .cons _ (.cons _ (.cons _ _)) => exact .nil
theorem kb_pl31 {d1 d2 : V} (F : FunV K x st [d1, d2] f fd)
    (h : ∀ (T : Addr) (kV doc pm : Value) (an : Option Addr) (cdv ct a b c d e1 e2 : Value), ∃ k, bindArgs (PySem.W.fnOf x x (defArgs st) (defBody st) (defScope st) (.ref T) kV doc pm an cdv ct) ⟨[a, b, c], [(k5, d)]⟩ = seqItems? (.ref T) >>= k ∧ k (some #[e1, e2]) = pure [(k1, a), (k2, b), (k3, c), (k4, e1), (k5, d)]) : ∃ g, KBinds K fd [k1, k2, k3, k4, k5] [k5] g (pl31 d1) := by
  obtain ⟨oc, od, dV, kV, doc, pm, an, cdv, ct, osl, rfl, lk, hcd, hD, hK⟩ := F.ex
  rcases hD with ⟨e, _⟩ | ⟨_, T, o, its, m, rfl, lT, oT, rT⟩
  · cases e
  · match its, rT with
    | [e1, e2], .cons r1 (.cons r2 .nil) =>
      refine ⟨pl31 e1, fun s us ws X hl => ?_, fun {vs us zs ws} r rz => ?_⟩
      · match us, ws, hl with
        | [a, b, c], [d], _ =>
          obtain ⟨k, e3, e4⟩ := h T kV doc pm an cdv ct a b c d e1 e2
          refine BindsTo.of_looks fun M => ?_
          show PySem.W.Looks M s.heap (bindArgs _ ⟨[a, b, c], [(k5, d)]⟩) _
          rw [e3]
          exact looks_items X lT oT (.of_pure e4)
      · match r, rz with
        | .cons a (.cons b (.cons c .nil)), .cons d .nil => exact .cons a (.cons b (.cons c (.cons r1 (.cons d .nil))))
        | .nil, _ => exact .nil
        | .cons _ .nil, _ => exact .nil
        | .cons _ (.cons _ .nil), _ => exact .nil
        | .cons _ (.cons _ (.cons _ (.cons _ _))), _ => exact .nil
        | .cons _ (.cons _ (.cons _ .nil)), .nil => exact .nil
        | .cons _ (.cons _ (.cons _ .nil)), .cons _ (.cons _ _) => exact .nil
end
/-- a call by places and names -/
theorem pe_ckP {X : Cx} {k j : Nat} {x : Str} {ks : List Str} {gV : List V → List V → List V} {sp : Sp} {e : Expr} {es : List Expr} {kws : List Keyword} {t tk : TA} {p pos : Pos} (c : ClK X.prog X.w X.K X.mg X.base k x ks gV sp) (hr : Room j X.A) (hk : k ≤ j) (hg : Gl X x) (ha : PA X (e :: es) t) (hkw : PK X kws tk)
    (hall : (backToKw pos (keywordEach kws X.env)).all (·.1.isSome) = true := by rfl) (hks : (backToKw pos (keywordEach kws X.env)).filterMap (·.1) = ks := by rfl) (hdb : (x == ("__debug__" : Str)) = false := by decide) (he : starEach (e :: es) X.env = (false, eval e X.env) :: starEach es X.env := by rfl)
    (hpl : ((backTo pos (starEach (e :: es) X.env)).any (·.1) || (backToKw pos (keywordEach kws X.env)).any (·.1.isNone)) = false := by rfl) : PE X (.Call (.Name x p) (e :: es) kws pos) (tCallK sp gV E0 t tk) := by
  obtain ⟨f, fd, ps, g, G, hm, kp, b⟩ := c
  exact pe_callK G (hr.mono hk) hg hm kp b pass0 ha hkw hall hks hdb he hpl
def rSortedD : List V → Hp → VK → Prop := fun xs H Q => ∃ (a : Addr) (kvs : List (Key × V)) (ks : List Str), xs = [.ref a] ∧ Rd H a (.dK kvs) ∧ kvs.map (·.1) = ks.map Sum.inr ∧ ks.length < 64 ∧
    ∀ ys p, ys.Perm ks → sortedS ys = true → H p = none → Q (.ref p) (upd H p (.lst (ys.map V.str)))
theorem kc_sortedD {X : Cx} (hc : X.calm = true := by rfl) : CallR X (.builtin "sorted") rSortedD := call_sortedD hc
end Pot

namespace Pot
open PySem PySem.Spec PyProof.Rows L2
/-! ### sorted of a set of ints, however many: what the list holds -/
section
variable {P : Program} {w : World} {A : Around} {E : Value → Shared → Prop} {s : Shared} {a : Addr}
theorem sorted_setW {S : Int → Bool} {n : Nat} {Q : Value → Shared → Prop} (R : SetR w s.heap a S n) (hh : A.handled = none) (hn4 : n ≤ 4000)
    (hQ : ∀ s' p (out : Array Value) (c : Nat) (ns : List Int), (∀ b o, s.heap.get? b = some o → s'.heap.get? b = some o) → s'.gens = s.gens → s'.os = s.os → s.heap.objs.size ≤ p →
      s'.heap.get? p = some (seqObj "list" out c) → IntsAre out.toList ns → (∀ k ∈ ns, S k = true) → ns.length = n → Q (.ref p) s') :
    wpAny (model P w) A (call (.builtin "sorted") [.ref a]) Q E s := by
  obtain ⟨o, es, ep, t, ho, hex, hd, g, nd, hm, hb, hf, hn, hr, hl⟩ := R
  refine Calls.call_function_entry kind_sorted plain_sorted entry_sorted (args_sorted1 _) ?_
  unfold Builtin.«sorted»
  refine wpAny_bind (m := checkCount "sorted" 1 1 _) (wpAny_pure ?_)
  refine wpAny_bind (collect_set (A := A.in1) hh ⟨o, ho, hex.1, hd⟩ hf hb hr hl fun s1 vs k1 hz g1 o1 pm => ?_)
  have lv : vs.length = n := (pm.length_eq.trans (by rw [List.length_map, Array.length_toList])).trans hn
  have ls : vs.length ≤ sizeLine := by rw [lv, sizeLine_eq]; omega
  have iv : IntsAre vs (vs.map Builtin.Re.reRawOf) := ints_of vs fun v hv => by
    obtain ⟨e, he, rfl⟩ := List.mem_map.mp (pm.mem_iff.mp hv)
    obtain ⟨k, tk, h1, _⟩ := g e he
    exact ⟨k, tk, h1⟩
  refine wpAny_bind (wpAny_newList ?_ ls)
  have hL : (s1.heap.push (seqObj "list" vs.toArray 0)).get? s1.heap.objs.size = some (seqObj "list" vs.toArray 0) := Heap.get?_push_size _ rfl
  refine wpAny_bind (wpAny_holding (wpAny_call_entry slot_list_sort ⟨_, hL, rfl⟩ entry_list_sort (list_sort_treeAny hL iv ls fun out ns a1 a2 _ => ⟨_, rfl, ?_⟩) (args_list_sort _)))
  obtain ⟨c, hc⟩ := sortedHeap_at (vs := vs) (out := out) hL
  refine wpAny_pure ⟨_, rfl, hQ _ s1.heap.objs.size out c ns (fun b u e => ?_) g1 o1 hz hc a1 (fun k hk => ?_) ?_⟩
  · have h1 := k1 b u e
    have hlt := Heap.lt_size h1
    show (sortedHeap (s1.heap.push (seqObj "list" vs.toArray 0)) s1.heap.objs.size vs out).get? b = some u
    rw [sortedHeap_old (Nat.ne_of_lt hlt) (by rw [size_push']; exact Nat.lt_succ_of_lt hlt)]
    exact Heap.get?_push_of_some _ h1
  · have h2 := a2.mem_iff.mp hk
    obtain ⟨v, hv, rfl⟩ := List.mem_map.mp h2
    obtain ⟨e, he, rfl⟩ := List.mem_map.mp (pm.mem_iff.mp hv)
    exact (hm _).mpr (List.mem_map.mpr ⟨e, he, rfl⟩)
  · rw [a2.length_eq, List.length_map, lv]
end
section
variable {X : Cx}
def rSortedSetW (w : World) : List V → Hp → VK → Prop := fun vs H Q => ∃ (a : Addr) (S : Int → Bool) (n : Nat), vs = [V.ref a] ∧ H a = some (SetO w a S n) ∧ n ≤ 4000 ∧
  ∀ (ns : List Int) (p : Addr), (∀ k ∈ ns, S k = true) → ns.length = n → H p = none → Q (.ref p) (upd H p (.lst (ns.map V.int)))
theorem cr_sortedSetW (hc : X.calm = true) : CallR X (.builtin "sorted") (rSortedSetW X.w) := by
  intro pins s σ H vs us Q I r h
  obtain ⟨a, S, n, rfl, ha, h4, q⟩ := h
  rw [Vals.ref1 r]
  refine sorted_setW (setO_get I ha) (I.ok.hd hc) h4 fun s' p out c ns k g o hp hg hi hs hl => ?_
  have hlen : (ns.map V.int).length ≤ sizeLine := by rw [List.length_map, hl, sizeLine_eq]; omega
  have hn : H p = none := I.hok.fresh hp
  have J : Inv X pins σ (upd H p (.lst (ns.map V.int))) { s with heap := s'.heap, gens := s'.gens, drawn := s'.drawn, toks := s'.toks } :=
    I.call (ch := []) (Un.laid k hp hn) (I.hok.laid k hp ⟨hlen, out.toList, c, vals_of_ints hi, hg⟩) (by rw [g]; exact I.bare) (fun _ z => nomatch z)
  have e : s' = { s with heap := s'.heap, gens := s'.gens, drawn := s'.drawn, toks := s'.toks } := by
    cases s'; cases s; cases o; rfl
  rw [e]
  exact ⟨.ref p, _, J, rfl, q ns p hs hl hn⟩
theorem kc_sortedSetW {w : World} (hc : X.calm = true := by rfl) (hw : X.w = w := by rfl) : CallR X (.builtin "sorted") (rSortedSetW w) := hw ▸ cr_sortedSetW hc
end
end Pot

namespace Pot
open PySem PySem.Spec PyProof.Rows L2
/-- sum of a tuple of numbers -/
def rSumT (K : PySem.W.Frag) : List V → Hp → VK → Prop := fun vs H Q => ∃ (a : Addr) (ns : List Int), vs = [V.ref a] ∧ SqT K H a (ns.map V.int) ∧ Q (.int ns.sum) H
theorem kc_sumT {X : Cx} {K : PySem.W.Frag} (hc : X.calm = true := by rfl) (h : X.K = K := by rfl) : CallR X (.builtin "sum") (rSumT K) := by
  subst h
  intro pins s σ H vs us Q I r z
  obtain ⟨a, ns, rfl, hs, q⟩ := z
  obtain ⟨its, rv, hl, _⟩ := I.tuple hs
  rw [Vals.ref1 r]
  have hi := rv.ints
  obtain ⟨xs, hx⟩ := hi.allInts.items
  have hn : numsOf its.toArray.toList = ns := by rw [show its.toArray.toList = its from rfl, hi.numsOf]
  have hl : s.heap.IsTuple a its.toArray := hl
  rw [hx] at hl hn
  rw [nums_intItems] at hn
  refine PySem.W.ktm_sumG (I.ok.hd hc) hl fun h' tk t' hk => ?_
  rw [preSum_eq, List.take_of_length_le (by simp), hn]
  exact ⟨.int _, H, I.kept hk, ⟨_, rfl⟩, q⟩
/-- four by names: the last, the third, the first, the second -/
def mix4 {α : Type} : List α → List α → List α
  | [], [a, b, c, d] => [c, d, b, a]
  | _, _ => []
theorem kb_mix4 {K : PySem.W.Frag} {x qual : Str} {st : Stmt} {f : Addr} {fd : FuncData} {k1 k2 k3 k4 : Str} (F : Fun K x qual st f fd)
    (h : ∀ (kV doc pm : Value) (an : Option Addr) (cdv ct a b c d : Value), bindArgs (PySem.W.fnOf x qual (defArgs st) (defBody st) (defScope st) .none kV doc pm an cdv ct) ⟨[], [(k4, a), (k3, b), (k1, c), (k2, d)]⟩ = pure [(k1, c), (k2, d), (k3, b), (k4, a)]) : KBinds K fd [k1, k2, k3, k4] [k4, k3, k1, k2] mix4 mix4 := by
  obtain ⟨oc, od, kV, doc, pm, an, cdv, ct, osl, rfl, lk, hcd⟩ := F.ex
  refine ⟨fun s us ws _ hl => ?_, fun {vs us zs ws} r rz => ?_⟩
  · match us, ws, hl with
    | [], [a, b, c, d], _ => exact .of_eq (h kV doc pm an cdv ct a b c d)
    | [], [], hl => cases hl
    | [], [_], hl => cases hl
    | [], [_, _], hl => cases hl
    | [], [_, _, _], hl => cases hl
    | [], _ :: _ :: _ :: _ :: _ :: _, hl => cases hl
    | _ :: _, _, hl => cases hl
  · cases r with
    | nil =>
      cases rz with
      | nil => exact .nil
      | cons a rz =>
        cases rz with
        | nil => exact .nil
        | cons b rz =>
          cases rz with
          | nil => exact .nil
          | cons c rz =>
            cases rz with
            | nil => exact .nil
            | cons d rz =>
              cases rz with
              | nil => exact .cons c (.cons d (.cons b (.cons a .nil)))
              | cons _ _ => exact .nil
    | cons _ _ => exact .nil
end Pot

namespace Pot
open PySem PySem.Spec PyProof.Rows L2
def topS (i : Nat) : Stmt := PySem.Challenge.pw_potround_k14_hours_of_each_word.main.body.getD i (.Pass ⟨0, 0, 0, 0⟩)
section
variable {P : Program} {w : World} {K : PySem.W.Frag} {mg : Str → Option Value} {base : Heap}
abbrev s__law_take : Stmt := topS 14
def n__law_take : List Str := ["_law_box_here", "_law_many", "_law_found", "_law_once"]
theorem sc__law_take : FnScope n__law_take ["_law_box_here", "_law_many"] (defScope s__law_take) := ⟨rfl, rfl, rfl, by decide +kernel, rfl, by decide +kernel, by decide +kernel⟩
/-! ### _law_take -/
def spTake : Sp := fun vs H Q _ => ∃ (b : Addr) (m : Int) (n : Nat), vs = [.ref b, .int m] ∧ 0 < m ∧ m < 1073741824 ∧ Bp H b n ∧ n < 2 ^ 40 ∧
  ∀ H' r, 0 ≤ r → r < m → Bp H' b (n + 1) → Sm [b] H H' → Q (.int r) H'
theorem ok_take {f : Addr} {fd : FuncData} {k : Nat} (F : Fun K "_law_take" "_law_take" s__law_take f fd) (T : Txt mg) :
    FnOk P w K mg base CX0 (k + 1) f fd ["_law_box_here", "_law_many"] spTake := by
  refine F.ok sc__law_take (fun vs H Q E h => ?_) (fun cdv A outer s H vs Q E hr h => ?_)
  · obtain ⟨b, m, n, rfl, _⟩ := h
    rfl
  · obtain ⟨b, m, n, rfl, hm0, hm1, ⟨x, y, z, B, z0, zn, y0, y1⟩, hn, q⟩ := h
    have nd := sc__law_take.nd
    refine ⟨_, (pss_cons (ps_if (pt_cmpR op_gt (pe_ix (kx_list (K := K)) (pv 0) pe_int (fun _ _ => rfl)) pe_int (nomark _))
          (pss_cons (ps_set (i := 2) nd rfl (.inl rfl) (pe_op op_mod (pe_ix (kx_list (K := K)) (pv 0) pe_int (fun _ _ => rfl)) (pv 1)))
          (pss_cons (ps_asg (pe_op op_fdiv (pe_ix (kx_list (K := K)) (pv 0) pe_int (fun _ _ => rfl)) (pv 1)) (pg_sub (pv 0) pe_int set_list))
          (pss_one (ps_ret (pv 2)))))
          pss_nil)
      (pss_cons (ps_asg (pe_op op_add (pe_ix (kx_list (K := K)) (pv 0) pe_int (fun _ _ => rfl)) pe_int) (pg_sub (pv 0) pe_int set_list))
      (pss_cons (ps_set (i := 3) nd rfl (.inl rfl) (pe_op op_mod (pe_op op_pow (pe_op op_add (pe_ix (kx_list (K := K)) (pv 0) pe_int (fun _ _ => rfl)) (pe_op op_mul pe_int (pe_ix (kx_list (K := K)) (pv 0) pe_int (fun _ _ => rfl)))) pe_int) pe_int))
      (pss_one (ps_ret (pe_op op_mod (pe_op op_fdiv (pe_op op_mod (pe_op op_add (pe_op op_mul (pv 3) (pe_op op_add (pe_op op_mod (pv 3) pe_int) pe_int)) (pe_op op_mul (pe_ix (kx_list (K := K)) (pv 0) pe_int (fun _ _ => rfl)) pe_int)) pe_int) pe_int) (pv 1))))))), ?_⟩
    refine ⟨_, rfl, b, _, 0, .int x, rfl, rfl, SqL.of B, rfl, _, _, rfl, rfl, _, rfl, ite2 (fun hb => ?_) (fun hb => ?_)⟩
    · refine ⟨_, rfl, b, _, 0, .int x, rfl, rfl, SqL.of B, rfl, _, rfl, _, _, rfl, rfl, hm0, ?_⟩
      refine ⟨_, rfl, b, _, 0, .int x, rfl, rfl, SqL.of B, rfl, _, rfl, _, _, rfl, rfl, ⟨hm0, hm1⟩, _, rfl, b, _, 0, 0, rfl, rfl, B, rfl, ?_⟩
      refine ⟨_, rfl, ?_⟩
      exact q _ _ (Int.emod_nonneg _ (by omega)) (Int.emod_lt_of_pos _ hm0) ⟨_, _, _, upd_same, z0, by omega, y0, y1⟩ (sm_wr List.mem_cons_self)
    · refine ⟨_, rfl, b, _, 2, .int z, rfl, rfl, SqL.of B, rfl, _, _, rfl, rfl, _, rfl, b, _, 2, 2, rfl, rfl, B, rfl, ?_⟩
      have B2 : upd H b (.lst [.int x, .int y, .int (z + 1)]) b = some (.lst [.int x, .int y, .int (z + 1)]) := upd_same
      have s2 : Sm [b] H (upd H b (.lst [.int x, .int y, .int (z + 1)])) := sm_wr List.mem_cons_self
      show tSeq _ _ _ _ (upd H b (.lst [.int x, .int y, .int (z + 1)]))
      generalize upd H b (.lst [.int x, .int y, .int (z + 1)]) = H2 at B2 s2 ⊢
      have t2 : z + 1 < 2 ^ 41 := by omega
      refine ⟨_, rfl, b, _, 1, .int y, rfl, rfl, SqL.of B2, rfl, _, rfl, b, _, 2, .int (z + 1), rfl, rfl, SqL.of B2, rfl, _, _, rfl, rfl, .inr ⟨by omega, by omega⟩, _, _, rfl, rfl, _, _, rfl, rfl, ⟨by decide, by decide, by omega⟩, _, _, rfl, rfl, (by show (0 : Int) < 2147483647; decide), ?_⟩
      refine ⟨_, rfl, _, rfl, _, _, rfl, rfl, (by show (0 : Int) < 40009; decide), _, _, rfl, rfl, _, _, rfl, rfl, cmul_mod _ _ (by decide) (by decide), _, rfl, b, _, 2, .int (z + 1), rfl, rfl, SqL.of B2, rfl, _, _, rfl, rfl, .inr ⟨by decide, by decide⟩, _, _, rfl, rfl, _, _, rfl, rfl, (by show (0 : Int) < 2147483629; decide), _, _, rfl, rfl, ⟨by decide, by decide⟩, _, rfl, _, _, rfl, rfl, hm0, ?_⟩
      exact q _ _ (Int.emod_nonneg _ (by omega)) (Int.emod_lt_of_pos _ hm0) ⟨_, _, _, B2, by omega, by omega, y0, y1⟩ s2
abbrev s__law_box : Stmt := topS 13
def n__law_box : List Str := ["_law_script", "_law_k", "_law_cell"]
theorem sc__law_box : FnScope n__law_box ["_law_script", "_law_k"] (defScope s__law_box) := ⟨rfl, rfl, rfl, by decide +kernel, rfl, by decide +kernel, by decide +kernel⟩
def spBox (K : PySem.W.Frag) : Sp := fun vs H Q _ => ∃ (a : Addr) (ns : List Int) (k : Nat), vs = [.ref a, .int (k : Nat)] ∧ SqL K H a (ns.map V.int) ∧ k ≤ 63 ∧ ∀ H' b, Same H H' → Bp H' b 0 → H b = none → Q (.ref b) H'
theorem ok_box {f : Addr} {fd : FuncData} {k : Nat} (F : Fun K "_law_box" "_law_box" s__law_box f fd) (T : Txt mg) : FnOk P w K mg base CX0 (k + 1) f fd ["_law_script", "_law_k"] (spBox K) := by
  refine F.ok sc__law_box (fun vs H Q E h => ?_) (fun cdv A outer s H vs Q E hr h => ?_)
  · obtain ⟨a, ns, k, rfl, _⟩ := h
    rfl
  · obtain ⟨a, ns, k, rfl, hS, h63, q⟩ := h
    have nd := sc__law_box.nd
    refine ⟨_, (pss_cons (ps_set (i := 2) nd rfl (.inl rfl) (pe_ifExp (pt_cmpR op_lt (pv 1) (pe_callB (kc_len (K := K)) (by rfl) T.len PySem.boot_len (pa_cons (pv 0) pa_nil)) (nomark _)) (pe_ix (kx_list (K := K)) (pv 0) (pv 1) (fun _ _ => rfl)) pe_int))
      (pss_one (ps_ret (pe_lst (pa_cons (pe_op op_mul (pe_callB call_abs (by rfl) T.abs (by decide +kernel) (pa_cons (pv 2) pa_nil)) (pe_callTy call_int1 (by rfl) T.int (by decide +kernel) (pa_cons (pe_cmpR op_ge (pe_callB call_abs (by rfl) T.abs (by decide +kernel) (pa_cons (pv 2) pa_nil)) (pe_op op_pow pe_int pe_int) (nomark _)) pa_nil))) (pa_cons (pe_op op_add (pe_op op_add (pe_op op_mod (pv 2) pe_int) (pe_op op_mul pe_int (pv 1))) pe_int) (pa_cons pe_int pa_nil))))))), ?_⟩
    refine ⟨_, rfl, _, rfl, _, _, rfl, .inl ⟨_, hS, rfl⟩, _, _, rfl, rfl, _, rfl, ite2 (fun hb => ?_) (fun hb => ?_)⟩
    · have hk : k < ns.length := by have := of_decide_eq_true hb; rw [List.length_map] at this; omega
      refine ⟨_, rfl, _, rfl, a, _, _, _, rfl, rfl, hS, atI_nat (by rw [List.getElem?_map, List.getElem?_eq_getElem hk]; rfl), ?_⟩
      generalize ns[k] = cl
      refine ⟨_, rfl, _, rfl, _, rfl, _, rfl, _, _, rfl, rfl, ⟨by decide, by decide, by decide⟩, _, _, rfl, rfl, .inr ⟨_, rfl, _, _, rfl, rfl, .inr (b01 _), ?_⟩⟩
      refine ⟨_, rfl, _, _, rfl, rfl, (by show (0 : Int) < 2305843009213693951; decide), _, rfl, _, _, rfl, rfl, .inl ⟨by decide, by decide⟩, _, _, rfl, rfl, _, _, rfl, rfl, (by show 3 ≤ sizeLine; decide), fun p np => ?_⟩
      have m0 : 0 ≤ cl % 2305843009213693951 := Int.emod_nonneg _ (by decide)
      have m1 : cl % 2305843009213693951 < 2305843009213693951 := Int.emod_lt_of_pos _ (by decide)
      exact q _ _ (same_upd np) ⟨_, _, _, upd_same, Int.le_refl _, Int.le_refl _, by omega, by omega⟩ np
    · obtain ⟨cl, ec⟩ : ∃ cl : Int, cl = 0 := ⟨_, rfl⟩
      refine ⟨_, rfl, _, rfl, _, rfl, _, rfl, _, _, rfl, rfl, ⟨by decide, by decide, by decide⟩, _, _, rfl, rfl, .inr ⟨_, rfl, _, _, rfl, rfl, .inr (b01 _), ?_⟩⟩
      refine ⟨_, rfl, _, _, rfl, rfl, (by show (0 : Int) < 2305843009213693951; decide), _, rfl, _, _, rfl, rfl, .inl ⟨by decide, by decide⟩, _, _, rfl, rfl, _, _, rfl, rfl, (by show 3 ≤ sizeLine; decide), fun p np => ?_⟩
      have m0 : 0 ≤ cl % 2305843009213693951 := Int.emod_nonneg _ (by decide)
      have m1 : cl % 2305843009213693951 < 2305843009213693951 := Int.emod_lt_of_pos _ (by decide)
      exact q _ _ (same_upd np) ⟨_, _, _, upd_same, Int.le_refl _, Int.le_refl _, by omega, by omega⟩ np

end
end Pot

namespace Pot
open PySem PySem.Spec PyProof.Rows L2
section
variable {P : Program} {w : World} {K : PySem.W.Frag} {mg : Str → Option Value} {base : Heap}
/-! ### _law_names -/
abbrev s__law_names : Stmt := topS 15
def n__law_names : List Str := ["_law_box_here", "_law_many", "_law_letters", "_law_begun", "_law_way", "_law_step", "_law_words", "_law_k", "_law_head", "_law_tail", "_law_longer", "_law_found", "_law_value", "_law_name", "_law_turn"]
theorem sc__law_names : FnScope n__law_names ["_law_box_here", "_law_many"] (defScope s__law_names) := ⟨rfl, rfl, rfl, by decide +kernel, rfl, by decide +kernel, by decide +kernel⟩
def spNames : Sp := fun vs H Q _ => ∃ (b : Addr) (n m : Nat), vs = [.ref b, .int (m : Nat)] ∧ Bp H b n ∧ n + 2000 < 2 ^ 40 ∧ m ≤ 12 ∧
  ∀ (H' : Hp) (L : Addr) (ys : List Str), Bp H' b (n + 20) → Sm [b] H H' → H L = none → H' L = some (.lst (ys.map V.str)) → ys.length = m → (∀ y ∈ ys, Nm y) → ys.Nodup → Q (.ref L) H'
theorem ok_names {f : Addr} {fd : FuncData} {k : Nat} (F : Fun K "_law_names" "_law_names" s__law_names f fd) (T : Txt mg) (c__law_take : Cl P w K mg base (k + 1) "_law_take" spTake) : FnOk P w K mg base CX0 (k + 2) f fd ["_law_box_here", "_law_many"] spNames := by
  refine F.ok sc__law_names (fun vs H Q E h => ?_) (fun cdv A outer s H vs Q E hr h => ?_)
  · obtain ⟨b, n, m, rfl, _⟩ := h
    rfl
  · obtain ⟨b, n, m, rfl, B, hn, hm, q⟩ := h
    have nd := sc__law_names.nd
    /- 0 _law_box_here, 1 _law_many, 2 _law_letters, 3 _law_begun, 4 _law_way, 5 _law_step, 6 _law_words, 7 _law_k, 8 _law_head, 9 _law_tail, 10 _law_longer, 11 _law_found, 12 _law_value, 13 _law_name, 14 _law_turn -/
    refine ⟨_, (pss_cons (ps_asg (pe_tup (pa_cons pe_str (pa_cons (pe_cl c__law_take hr (by omega) (by rfl) (pa_cons (pv 0) (pa_cons pe_int pa_nil))) (pa_cons (pe_cl c__law_take hr (by omega) (by rfl) (pa_cons (pv 0) (pa_cons pe_int pa_nil))) pa_nil)))) (kg_tup (K := K) (n := 3) (pgs_cons (pg_name (i := 2) nd rfl (.inr rfl)) (pgs_cons (pg_name (i := 3) nd rfl (.inr rfl)) (pgs_cons (pg_name (i := 4) nd rfl (.inl rfl)) pgs_nil)))))
      (pss_cons (ps_set (i := 5) nd rfl (.inr rfl) (pe_ix (kx_list (K := K)) (pe_lst (pa_cons pe_int (pa_cons pe_int (pa_cons pe_int (pa_cons pe_int (pa_cons pe_int (pa_cons pe_int pa_nil))))))) (pe_cl c__law_take hr (by omega) (by rfl) (pa_cons (pv 0) (pa_cons pe_int pa_nil))) (fun _ _ => rfl)))
      (pss_cons (ps_if (pt_cmpR op_eq (pv 4) pe_int (nomark _))
          (pss_cons (ps_set (i := 6) nd rfl (.inl rfl) (pe_split pe_str pe_str))
          (pss_one (ps_ret (pe_slice (kl_list (K := K)) (pe_slice (kl_list (K := K)) (pe_op op_cat (pv 6) (pv 6)) (po_some (pe_op op_mod (pv 3) pe_int)) po_none) po_none (po_some (pv 1))))))
          pss_nil)
      (pss_cons (ps_if (pt_cmpR op_eq (pv 4) pe_int (nomark _))
          (pss_one (ps_ret (pe_lc (own := [("_law_k", 7)]) rfl nd (pi_range1 (by rfl) T.range (pa_cons (pv 1) pa_nil)) (blkOk_by (N := n__law_names) (sc := defScope s__law_names) (by decide +kernel)) (fun _ _ _ _ _ => (pg_name (i := 7) nd rfl (.inl rfl))) (fun _ _ _ _ _ => pts_nil) (fun _ _ _ _ _ => (pe_ix ix_str (pv 2) (pe_op op_mod (pe_op op_add (pv 3) (pe_op op_mul (pv 5) (pv 7))) pe_int) (fun _ _ => rfl))))))
          pss_nil)
      (pss_cons (ps_set (i := 8) nd rfl (.inl rfl) (ke_join (K := K) pe_str (pe_lc (own := [("_law_turn", 14)]) rfl nd (pi_range1 (by rfl) T.range (pa_cons (pe_cl c__law_take hr (by omega) (by rfl) (pa_cons (pv 0) (pa_cons pe_int pa_nil))) pa_nil)) (blkOk_by (N := n__law_names) (sc := defScope s__law_names) (by decide +kernel)) (fun _ _ _ _ _ => (pg_name (i := 14) nd rfl (.inl rfl))) (fun _ _ _ _ _ => pts_nil) (fun _ _ _ _ _ => (pe_ix ix_str (pv 2) (pe_cl c__law_take hr (by omega) (by rfl) (pa_cons (pv 0) (pa_cons pe_int pa_nil))) (fun _ _ => rfl))))))
      (pss_cons (ps_set (i := 9) nd rfl (.inl rfl) (ke_join (K := K) pe_str (pe_lc (own := [("_law_turn", 14)]) rfl nd (pi_range1 (by rfl) T.range (pa_cons (pe_cl c__law_take hr (by omega) (by rfl) (pa_cons (pv 0) (pa_cons pe_int pa_nil))) pa_nil)) (blkOk_by (N := n__law_names) (sc := defScope s__law_names) (by decide +kernel)) (fun _ _ _ _ _ => (pg_name (i := 14) nd rfl (.inl rfl))) (fun _ _ _ _ _ => pts_nil) (fun _ _ _ _ _ => (pe_ix ix_str (pv 2) (pe_cl c__law_take hr (by omega) (by rfl) (pa_cons (pv 0) (pa_cons pe_int pa_nil))) (fun _ _ => rfl))))))
      (pss_cons (ps_par (i := 10) (j := 11) rfl nd rfl rfl (by decide) rfl rfl (pa_cons (pe_cl c__law_take hr (by omega) (by rfl) (pa_cons (pv 0) (pa_cons pe_int pa_nil))) (pa_cons (pe_lst pa_nil) pa_nil)) rfl)
      (pss_cons (ps_for PassesOwn.never rfl (pi_range1 (by rfl) T.range (pa_cons (pv 1) pa_nil)) (pg_name (i := 7) nd rfl (.inl rfl))
          (pss_cons (ps_set (i := 12) nd rfl (.inl rfl) (pe_op op_mod (pe_op op_add (pv 3) (pe_op op_mul (pv 5) (pv 7))) pe_int))
          (pss_cons (ps_set (i := 13) nd rfl (.inl rfl) (pe_op op_add_str (pe_op op_add_str (pe_op op_add_str (pv 8) (pe_ix ix_str (pv 2) (pe_op op_fdiv (pv 12) pe_int) (fun _ _ => rfl))) (pe_ix ix_str (pv 2) (pe_op op_mod (pv 12) pe_int) (fun _ _ => rfl))) (pv 9)))
          (pss_cons (ps_if ((pw_and (pt_cmpR op_eq (pv 10) pe_int (nomark _)) (pw_and1 (pt_cmpR op_eq (pe_op op_mod (pv 7) pe_int) pe_int (nomark _))))).pt
              (pss_one (ps_set (i := 13) nd rfl (.inl rfl) (pe_op op_add_str (pe_ix (kx_list (K := K)) (pv 11) (pe_un un_neg pe_int) (fun _ _ => rfl)) (pe_ix ix_str (pv 2) (pe_op op_mod (pe_op op_add (pv 3) (pv 7)) pe_int) (fun _ _ => rfl)))))
              pss_nil)
          (pss_one (ps_expr (pe_bm PySem.F.plainAttrs_list PySem.F.slot_list_append PySem.F.type_list_append mt_append (pv 11) (pa_cons (pv 13) pa_nil))))))))
      (pss_one (ps_ret (pv 11))))))))))), ?_⟩
    have lv := Live.pw B
    have sc : Sm [b] H H := Same.refl _
    obtain ⟨S, eS⟩ : ∃ S, S = [b] := ⟨_, rfl⟩
    have hb : b ∈ S := by rw [eS]; simp
    rw [← eS] at lv
    refine ⟨_, rfl, b, 676, n, rfl, (by decide), (by decide), B, by omega, fun H1 fi f0 f1 B1 s1 => ?_⟩
    have lv := lv.box B1.bx s1
    have sc := sc.trans s1
    have B := B1
    refine ⟨_, rfl, b, 5, _, rfl, (by decide), (by decide), B, by omega, fun H2 wy w0 w1 B2 s2 => ?_⟩
    have lv := lv.box B2.bx s2
    have sc := sc.trans s2
    have B := B2
    refine ⟨(by show 3 ≤ sizeLine; decide), fun t nt => ?_⟩
    have ft := off_new (o := .tup [.str "abcdefghijklmnopqrstuvwxyz", .int fi, .int wy]) lv nt
    have lv := lv.put (o := .tup [.str "abcdefghijklmnopqrstuvwxyz", .int fi, .int wy]) nt
    have B := B.put (o := .tup [.str "abcdefghijklmnopqrstuvwxyz", .int fi, .int wy]) nt
    have sc := sc.trans (sm_put (S := [b]) (o := .tup [.str "abcdefghijklmnopqrstuvwxyz", .int fi, .int wy]) nt)
    generalize upd H2 t (.tup [.str "abcdefghijklmnopqrstuvwxyz", .int fi, .int wy]) = H3 at ft lv B sc  ⊢
    refine ⟨t, _, rfl, .inl (.inl (at_off ft)), rfl, _, _, rfl, _, _, rfl, _, _, rfl, rfl, ?_⟩
    -- step
    refine ⟨(by show 6 ≤ sizeLine; decide), fun z nz => ?_⟩
    have fz := off_new (o := .lst [.int 1, .int 3, .int 5, .int 7, .int 25, .int 675]) lv nz
    have lv := lv.put (o := .lst [.int 1, .int 3, .int 5, .int 7, .int 25, .int 675]) nz
    have B := B.put (o := .lst [.int 1, .int 3, .int 5, .int 7, .int 25, .int 675]) nz
    have sc := sc.trans (sm_put (S := [b]) (o := .lst [.int 1, .int 3, .int 5, .int 7, .int 25, .int 675]) nz)
    generalize upd H3 z (.lst [.int 1, .int 3, .int 5, .int 7, .int 25, .int 675]) = H4 at fz lv B sc  ⊢
    refine ⟨_, rfl, b, 6, _, rfl, (by decide), (by decide), B, by omega, fun H5 r6 b0 b1 B5 s5 => ?_⟩
    have lv := lv.box B5.bx s5
    have sc := sc.trans s5
    have B := B5
    have fz := (sm_one hb s5) _ _ fz
    obtain ⟨stp, es, hs, hs0, hs1⟩ : ∃ stp : Int, atI [V.int 1, .int 3, .int 5, .int 7, .int 25, .int 675] r6 = some (.int stp) ∧ StpN stp ∧ -1000 ≤ stp ∧ stp ≤ 1000 := by
      have h : r6 = 0 ∨ r6 = 1 ∨ r6 = 2 ∨ r6 = 3 ∨ r6 = 4 ∨ r6 = 5 := by omega
      unfold StpN
      rcases h with rfl | rfl | rfl | rfl | rfl | rfl
      · exact ⟨1, rfl, by decide, by decide, by decide⟩
      · exact ⟨3, rfl, by decide, by decide, by decide⟩
      · exact ⟨5, rfl, by decide, by decide, by decide⟩
      · exact ⟨7, rfl, by decide, by decide, by decide⟩
      · exact ⟨25, rfl, by decide, by decide, by decide⟩
      · exact ⟨675, rfl, by decide, by decide, by decide⟩
    refine ⟨z, _, r6, .int stp, rfl, rfl, SqL.of (at_off fz), es, ?_⟩
    have sc0 := sc
    refine ⟨_, rfl, rfl, _, rfl, ite2 (fun hw0 => ?_) (fun hw0 => ?_)⟩
    · -- words
      refine ⟨⟨_, rfl⟩, _, _, rfl, rfl, (by decide +kernel), (by decide +kernel), fun W nW => ?_⟩
      rw [words_eq]
      have fW := off_new (o := .lst (wordsN.map V.str)) lv nW
      have lv := lv.put (o := .lst (wordsN.map V.str)) nW
      have B := B.put (o := .lst (wordsN.map V.str)) nW
      have sc := sc.trans (sm_put (S := [b]) (o := .lst (wordsN.map V.str)) nW)
      generalize upd H5 W (.lst (wordsN.map V.str)) = H6 at fW lv B sc  ⊢
      refine ⟨_, rfl, _, rfl, W, W, _, _, rfl, rfl, at_off fW, at_off fW, (by decide +kernel), fun c1 n1 => ?_⟩
      have fc1 := off_new (o := .lst (wordsN.map V.str ++ wordsN.map V.str)) lv n1
      have lv := lv.put (o := .lst (wordsN.map V.str ++ wordsN.map V.str)) n1
      have B := B.put (o := .lst (wordsN.map V.str ++ wordsN.map V.str)) n1
      have sc := sc.trans (sm_put (S := [b]) (o := .lst (wordsN.map V.str ++ wordsN.map V.str)) n1)
      generalize upd H6 c1 (.lst (wordsN.map V.str ++ wordsN.map V.str)) = H7 at fc1 lv B sc  ⊢
      refine ⟨_, rfl, _, _, rfl, rfl, (by show (0 : Int) < 12; decide), _, rfl, c1, _, rfl, SqL.of (at_off fc1), fun c2 n2 => ?_⟩
      obtain ⟨j, ej, hj⟩ : ∃ j : Nat, fi % 12 = (j : Int) ∧ j < 12 := ⟨(fi % 12).toNat, by omega, by omega⟩
      rw [ej, cut_tail]
      have fc2 := off_new (o := .lst ((wordsN.map V.str ++ wordsN.map V.str).drop j)) lv n2
      have lv := lv.put (o := .lst ((wordsN.map V.str ++ wordsN.map V.str).drop j)) n2
      have B := B.put (o := .lst ((wordsN.map V.str ++ wordsN.map V.str).drop j)) n2
      have sc := sc.trans (sm_put (S := [b]) (o := .lst ((wordsN.map V.str ++ wordsN.map V.str).drop j)) n2)
      generalize upd H7 c2 (.lst ((wordsN.map V.str ++ wordsN.map V.str).drop j)) = H8 at fc2 lv B sc  ⊢
      refine ⟨_, rfl, _, rfl, c2, _, rfl, SqL.of (at_off fc2), fun c3 n3 => ?_⟩
      rw [cut_head]
      have e3 : ((wordsN.map V.str ++ wordsN.map V.str).drop j).take m = ((wordsN ++ wordsN).drop j |>.take m).map V.str := by rw [← List.map_append, List.map_take, List.map_drop]
      rw [e3]
      have wc := words_cut hj hm
      have n30 : H c3 = none := sm_free sc B.bx n3
      exact q _ c3 _ ((B.put n3).mono (by omega)) (sc.trans (sm_put n3)) n30 upd_same wc.2.1 wc.2.2 wc.1
    refine ⟨_, rfl, rfl, _, rfl, ite2 (fun hw1 => ?_) (fun hw1 => ?_)⟩
    · -- letters
      refine ⟨_, rfl, _, rfl, (by omega), (by omega), fun D nD => ?_⟩
      refine lc_it walk_range (PvL H5 D fun i => ((List.range i).map fun j : Nat => ltN ((fi + stp * (0 + (j : Int))) % 26)).map V.str) (pv_start nD rfl) (fun _ _ _ _ => trivial) ?_ ?_
      · rintro i x H6 H7 hi pv ⟨rfl, rfl⟩
        refine ⟨rfl, tYes_at ?_⟩
        rw [if_pos rfl]
        have x0 : 0 ≤ (fi + stp * (0 + (i : Int))) % 26 := Int.emod_nonneg _ (by decide)
        have x1 : (fi + stp * (0 + (i : Int))) % 26 < 26 := Int.emod_lt_of_pos _ (by decide)
        refine ⟨_, rfl, _, rfl, _, rfl, _, rfl, _, _, rfl, rfl, .inl ⟨by omega, by omega⟩, _, _, rfl, rfl, _, _, rfl, rfl, (by show (0 : Int) < 26; decide), ?_⟩
        refine ⟨_, _, _, rfl, rfl, (by decide +kernel), az_ix x0 x1, ?_⟩
        exact pv_put nD pv (Same.refl _) (by rw [List.range_succ, List.map_append, List.map_append]; rfl) (by rw [List.length_map, List.length_map, List.length_range, sizeLine_eq]; omega)
      intro H6 pv
      obtain ⟨s6, hD⟩ := pv_end pv (rfl)
      have e6 : (Int.toNat (m : Int)) = m := Int.toNat_natCast m
      have lv := lv.same s6
      have sc := sc.trans (sm_of (S := [b]) s6)
      have B := B.same s6
      rw [e6] at hD
      refine q _ D _ (B.mono (by omega)) sc (sm_free sc0 B5.bx nD) hD (by rw [List.length_map, List.length_range]) (fun y hy => ?_) (letN_nodup hs hm)
      obtain ⟨j, _, rfl⟩ := List.mem_map.mp hy
      exact ⟨(wd_letter (Int.emod_nonneg _ (by decide)) (Int.emod_lt_of_pos _ (by decide))).mono (by decide), by rw [ltN_len]; decide⟩
    -- head
    refine ⟨⟨_, rfl⟩, _, rfl, b, 4, _, rfl, (by decide), (by decide), B, by omega, fun H6 sn s0 s1 B4 s4 => ⟨_, rfl, (by omega), (by omega), fun D nD => ?_⟩⟩
    have lv := lv.box B4.bx s4
    have sc := sc.trans s4
    have B := B4
    have nDb := B.ne nD
    refine lc_it walk_range (fun i H5 => Bp H5 b (n + 4 + i) ∧ Sm [b] H6 H5 ∧ ∃ ys : List Str, H5 D = some (.lst (ys.map V.str)) ∧ ys.length = i ∧ ∀ y ∈ ys, Wd 1 y) ⟨(B.put nD).mono (by omega), sm_put nD, [], upd_same, rfl, fun _ h => (List.not_mem_nil h).elim⟩ (fun _ _ _ _ => trivial) ?_ ?_
    · rintro i x H5 H6 hi ⟨B5, s5, ys, hL, hy, hw⟩ ⟨rfl, rfl⟩
      refine ⟨rfl, tYes_at ?_⟩
      rw [if_pos rfl]
      refine ⟨_, rfl, _, rfl, b, 26, _, rfl, (by decide), (by decide), B5, by omega, fun H7 r r0 r1 B7 s7 => ?_⟩
      refine ⟨_, r, 97 + r.toNat, rfl, rfl, (by decide +kernel), az_ix r0 r1, _, sm1_at s7 nDb hL, ?_, (B7.wr nDb).mono (by omega), smp (s5.trans s7) nD, ys ++ [⟨#[97 + r.toNat]⟩], ?_, ?_, ?_⟩
      · rw [List.length_map, hy]; exact Nat.lt_of_lt_of_le (show i < 8 by omega) (by decide)
      · rw [upd_same, List.map_append]; rfl
      · rw [List.length_append, hy]; rfl
      · intro y h
        rcases List.mem_append.mp h with h | h
        · exact hw y h
        · rw [List.mem_singleton.mp h]; exact wd_letter r0 r1
    rintro H7 ⟨B5, s5, ys, hD, hy, hw⟩
    have lv := lv.box B5.bx s5
    have sc := sc.trans s5
    have B := B5
    have hy7 : ys.length ≤ 3 := by omega
    refine ⟨_, D, ys, rfl, rfl, .inl (SqL.of hD), ?_, ?_⟩
    · have := wd1_sum hw
      show _ + ys.length * 0 ≤ _
      omega
    have hdW : Wd 3 (Txt.join (Str.ofString "") ys) := by rw [TL.join_eq]; exact (wd_join hw).mono hy7
    have B := B.mono (show _ ≤ n + 4 + 3 by omega)
    generalize Txt.join (Str.ofString "") ys = hd at hdW ⊢
    -- tail
    refine ⟨⟨_, rfl⟩, _, rfl, b, 3, _, rfl, (by decide), (by decide), B, by omega, fun H8 sn s0 s1 B4 s4 => ⟨_, rfl, (by omega), (by omega), fun D nD => ?_⟩⟩
    have lv := lv.box B4.bx s4
    have sc := sc.trans s4
    have B := B4
    have nDb := B.ne nD
    refine lc_it walk_range (fun i H5 => Bp H5 b (n + 4 + 3 + 1 + i) ∧ Sm [b] H8 H5 ∧ ∃ ys : List Str, H5 D = some (.lst (ys.map V.str)) ∧ ys.length = i ∧ ∀ y ∈ ys, Wd 1 y) ⟨(B.put nD).mono (by omega), sm_put nD, [], upd_same, rfl, fun _ h => (List.not_mem_nil h).elim⟩ (fun _ _ _ _ => trivial) ?_ ?_
    · rintro i x H5 H6 hi ⟨B5, s5, ys, hL, hy, hw⟩ ⟨rfl, rfl⟩
      refine ⟨rfl, tYes_at ?_⟩
      rw [if_pos rfl]
      refine ⟨_, rfl, _, rfl, b, 26, _, rfl, (by decide), (by decide), B5, by omega, fun H7 r r0 r1 B7 s7 => ?_⟩
      refine ⟨_, r, 97 + r.toNat, rfl, rfl, (by decide +kernel), az_ix r0 r1, _, sm1_at s7 nDb hL, ?_, (B7.wr nDb).mono (by omega), smp (s5.trans s7) nD, ys ++ [⟨#[97 + r.toNat]⟩], ?_, ?_, ?_⟩
      · rw [List.length_map, hy]; exact Nat.lt_of_lt_of_le (show i < 8 by omega) (by decide)
      · rw [upd_same, List.map_append]; rfl
      · rw [List.length_append, hy]; rfl
      · intro y h
        rcases List.mem_append.mp h with h | h
        · exact hw y h
        · rw [List.mem_singleton.mp h]; exact wd_letter r0 r1
    rintro H9 ⟨B5, s5, ys, hD, hy, hw⟩
    have lv := lv.box B5.bx s5
    have sc := sc.trans s5
    have B := B5
    have hy7 : ys.length ≤ 2 := by omega
    refine ⟨_, D, ys, rfl, rfl, .inl (SqL.of hD), ?_, ?_⟩
    · have := wd1_sum hw
      show _ + ys.length * 0 ≤ _
      omega
    have tlW : Wd 2 (Txt.join (Str.ofString "") ys) := by rw [TL.join_eq]; exact (wd_join hw).mono hy7
    have B := B.mono (show _ ≤ n + 4 + 3 + 1 + 2 by omega)
    generalize Txt.join (Str.ofString "") ys = tl at tlW ⊢
    -- longer, found
    refine ⟨_, rfl, b, 2, _, rfl, (by decide), (by decide), B, by omega, fun H10 lo c0 c1 B10 s10 => ?_⟩
    have lv := lv.box B10.bx s10
    have sc := sc.trans s10
    have B := B10
    refine ⟨Nat.zero_le _, fun L nL => ⟨_, _, rfl, ?_⟩⟩
    have nLb := B.ne nL
    have nL0 : H L = none := sm_free sc B.bx nL
    have fL := off_new (o := .lst []) lv nL
    have lv := lv.put (o := .lst []) nL
    have B := B.put (o := .lst []) nL
    have sc := sc.trans (sm_put (S := [b]) (o := .lst []) nL)
    generalize upd H10 L (.lst []) = H11 at fL lv B sc  ⊢
    have hL := at_off fL
    refine ⟨_, rfl, _, rfl, (by omega), (by omega), ?_⟩
    refine for_it walk_range (fun i σ H12 => ∃ v7 v12 v13, σ = [some (.ref b), some (.int (m : Nat)), some (.str "abcdefghijklmnopqrstuvwxyz"), some (.int fi), some (.int wy), some (.int stp), none, v7, some (.str hd), some (.str tl), some (.int lo), some (.ref L), v12, v13, none] ∧
        Bp H12 b (n + 20) ∧ Sm [b] H H12 ∧ H12 L = some (.lst (((List.range i).map (nmN hd tl fi stp lo)).map V.str)))
      ⟨_, _, _, rfl, B.mono (by omega), sc, hL⟩ (fun _ _ _ _ _ => trivial) ?_ ?_
    · rintro i x σ H12 H13 hi ⟨v7, v12, v13, rfl, B12, s12, hL2⟩ ⟨rfl, rfl⟩
      have hi2 : i < m := by omega
      have vp := vlN_pos fi stp i
      refine ⟨_, rfl, _, rfl, _, rfl, _, _, rfl, rfl, .inl ⟨by omega, by omega⟩, _, _, rfl, rfl, _, _, rfl, rfl, (by show (0 : Int) < 676; decide), ?_⟩
      have h1 := hdW.1
      have h2 := tlW.1
      refine ⟨_, rfl, _, rfl, _, rfl, _, _, rfl, rfl, ⟨by decide, by decide⟩, _, _, _, rfl, rfl, (by decide +kernel), az_ix (show 0 ≤ vlN fi stp i / 26 by omega) (show vlN fi stp i / 26 < 26 by omega), _, _, rfl, rfl, ?_, ?_⟩
      · show _ + 1 ≤ sizeLine
        rw [sizeLine_eq]; omega
      have w2 := wd_add hdW (wd_letter (show 0 ≤ vlN fi stp i / 26 by omega) (show vlN fi stp i / 26 < 26 by omega))
      have l2 := w2.1
      refine ⟨_, rfl, _, rfl, _, _, rfl, rfl, (by show (0 : Int) < 26; decide), _, _, _, rfl, rfl, (by decide +kernel), az_ix (show 0 ≤ vlN fi stp i % 26 by omega) (show vlN fi stp i % 26 < 26 by omega), _, _, rfl, rfl, ?_, ?_⟩
      · show _ + 1 ≤ sizeLine
        rw [sizeLine_eq]
        have := l2
        show (hd ++ (⟨#[97 + (vlN fi stp i / 26).toNat]⟩ : Str)).length + 1 ≤ _
        omega
      have w3 := wd_add w2 (wd_letter (show 0 ≤ vlN fi stp i % 26 by omega) (show vlN fi stp i % 26 < 26 by omega))
      have l3 := w3.1
      refine ⟨_, rfl, _, _, rfl, rfl, ?_, ?_⟩
      · rw [sizeLine_eq]
        show (hd ++ (⟨#[97 + (vlN fi stp i / 26).toNat]⟩ : Str) ++ (⟨#[97 + (vlN fi stp i % 26).toNat]⟩ : Str)).length + tl.length ≤ _
        omega
      show gName 13 (V.str (bsN hd tl fi stp i)) _ _ _
      have small : (((List.range i).map (nmN hd tl fi stp lo)).map V.str).length < sizeLine := by rw [List.length_map, List.length_map, List.length_range, sizeLine_eq]; omega
      have fin : ∀ (nm : Str), nm = nmN hd tl fi stp lo i →
          ∃ v7 v12 v13, [some (V.ref b), some (.int (m : Nat)), some (.str "abcdefghijklmnopqrstuvwxyz"), some (.int fi), some (.int wy), some (.int stp), none, some (.int (0 + (i : Int))), some (.str hd), some (.str tl), some (.int lo), some (.ref L), some (.int (vlN fi stp i)), some (.str nm), none] = [some (V.ref b), some (.int (m : Nat)), some (.str "abcdefghijklmnopqrstuvwxyz"), some (.int fi), some (.int wy), some (.int stp), none, v7, some (.str hd), some (.str tl), some (.int lo), some (.ref L), v12, v13, none] ∧
          Bp (upd H13 L (.lst ((((List.range i).map (nmN hd tl fi stp lo)).map V.str) ++ [.str nm]))) b (n + 20) ∧ Sm [b] H (upd H13 L (.lst ((((List.range i).map (nmN hd tl fi stp lo)).map V.str) ++ [.str nm]))) ∧ upd H13 L (.lst ((((List.range i).map (nmN hd tl fi stp lo)).map V.str) ++ [.str nm])) L = some (.lst (((List.range (i + 1)).map (nmN hd tl fi stp lo)).map V.str)) := by
        intro nm e
        refine ⟨_, _, _, rfl, B12.wr nLb, smp s12 nL0, ?_⟩
        rw [upd_same, List.range_succ, List.map_append, List.map_append, e]
        rfl
      refine ⟨_, rfl, rfl, _, rfl, ite2 (fun h1 => ?_) (fun h1 => iteF ?_)⟩
      · refine ⟨_, rfl, _, _, rfl, rfl, (by show (0 : Int) < 2; decide), rfl, _, rfl, ite2 (fun h2 => ?_) (fun h2 => ?_)⟩
        · have ei : (0 + (i : Int)) % 2 = 1 := V.int.inj (of_decide_eq_true h2)
          have el1 : lo = 1 := V.int.inj (of_decide_eq_true h1)
          have i2 : i % 2 = 1 := by omega
          have el : atI (((List.range i).map (nmN hd tl fi stp lo)).map V.str) (-1) = some (.str (bsN hd tl fi stp (i - 1))) := by
            have e0 : i = (i - 1) + 1 := by omega
            rw [e0, List.range_succ, List.map_append, List.map_append, Nat.add_sub_cancel]
            have e1 : nmN hd tl fi stp lo (i - 1) = bsN hd tl fi stp (i - 1) := by
              unfold nmN
              rw [if_neg (by omega)]
            show atI (_ ++ [V.str (nmN hd tl fi stp lo (i - 1))]) (-1) = _
            rw [e1]
            exact atI_last _ _
          have z0 : 0 ≤ (fi + (0 + (i : Int))) % 26 := Int.emod_nonneg _ (by decide)
          have z1 : (fi + (0 + (i : Int))) % 26 < 26 := Int.emod_lt_of_pos _ (by decide)
          refine ⟨_, rfl, 1, rfl, L, _, -1, _, rfl, rfl, SqL.of hL2, el, _, rfl, _, rfl, _, rfl, _, _, rfl, rfl, _, _, rfl, rfl, (by show (0 : Int) < 26; decide), ?_⟩
          refine ⟨_, _, _, rfl, rfl, (by decide +kernel), az_ix z0 z1, _, _, rfl, rfl, ?_, ?_⟩
          · have := (bsN_wd hdW tlW fi stp (i - 1)).1.1
            show _ + 1 ≤ sizeLine
            rw [sizeLine_eq]
            omega
          refine ⟨_, rfl, .inl ⟨rfl, _, SqL.of hL2⟩, _, rfl, L, _, _, rfl, rfl, hL2, small, fin _ ?_⟩
          unfold nmN
          rw [if_pos ⟨el1, i2⟩]
          rfl
        · have c : ¬ (lo = 1 ∧ i % 2 = 1) := fun z => h2 (decide_eq_true (congrArg V.int (by omega)))
          refine ⟨_, rfl, .inl ⟨rfl, _, SqL.of hL2⟩, _, rfl, L, _, _, rfl, rfl, hL2, small, fin _ ?_⟩
          unfold nmN
          rw [if_neg c]
      have c : ¬ (lo = 1 ∧ i % 2 = 1) := fun z => h1 (decide_eq_true (congrArg V.int z.1))
      refine ⟨_, rfl, .inl ⟨rfl, _, SqL.of hL2⟩, _, rfl, L, _, _, rfl, rfl, hL2, small, fin _ ?_⟩
      unfold nmN
      rw [if_neg c]
    · rintro σ H12 ⟨v7, v12, v13, rfl, B12, s12, hL2⟩
      rw [Int.toNat_natCast] at hL2
      refine ⟨_, rfl, q _ L _ B12 s12 nL0 hL2 (by rw [List.length_map, List.length_range]) (fun y hy => ?_) (nmN_nodup hs hm)⟩
      obtain ⟨j, _, rfl⟩ := List.mem_map.mp hy
      exact nmN_nm hdW tlW fi stp lo j

end
end Pot

namespace Pot
open PySem PySem.Spec PyProof.Rows L2
section
variable {P : Program} {w : World} {K : PySem.W.Frag} {mg : Str → Option Value} {base : Heap}
abbrev s__law_palette : Stmt := topS 16
def n__law_palette : List Str := ["_law_box_here", "_law_most", "_law_names_here", "_law_colours", "_law_washes", "_law_name", "_law_charge", "_law_melt", "_law_k", "_law_pair", "_law_hours_here"]
theorem sc__law_palette : FnScope n__law_palette ["_law_box_here", "_law_most"] (defScope s__law_palette) := ⟨rfl, rfl, rfl, by decide +kernel, rfl, by decide +kernel, by decide +kernel⟩
def spPalette (K : PySem.W.Frag) : Sp := fun vs H Q _ => ∃ (b : Addr) (n : Nat) (most : Int), vs = [.ref b, .int most] ∧ 1 ≤ most ∧ most ≤ 12 ∧ Bp H b n ∧ n + 5000 < 2 ^ 40 ∧
  ∀ (H' : Hp) (v : V) (cs : List Col) (ws : List Wsh), Bp H' b (n + 1500) → Sm [b] H H' → Dp K (off H' [b]) v (palD cs ws) → PalC cs ws → Q v H'
theorem ok_palette {f : Addr} {fd : FuncData} {k : Nat} (F : Fun K "_law_palette" "_law_palette" s__law_palette f fd) (T : Txt mg) (c__law_take : Cl P w K mg base (k + 1) "_law_take" spTake) (c__law_names : Cl P w K mg base (k + 2) "_law_names" spNames) : FnOk P w K mg base CX0 (k + 3) f fd ["_law_box_here", "_law_most"] (spPalette K) := by
  refine F.ok sc__law_palette (fun vs H Q E h => ?_) (fun cdv A outer s H vs Q E hr h => ?_)
  · obtain ⟨b, n, most, rfl, _⟩ := h
    rfl
  · obtain ⟨b, n, most, rfl, m0, m1, hS, hn, q⟩ := h
    have nd := sc__law_palette.nd
    have hu70 : (A.deeper (envOfC (Str.ofString "_law_palette") (defScope s__law_palette) s.heap.objs.size f cdv)).units + 70 < cLine := by have := hr.un; omega
    /- 0 _law_box_here, 1 _law_most, 2 _law_names_here, 3 _law_colours, 4 _law_washes, 5 _law_name, 6 _law_charge, 7 _law_melt, 8 _law_k, 9 _law_pair, 10 _law_hours_here -/
    refine ⟨_, (pss_cons (ps_par3 (i := 2) (j := 3) (l := 4) rfl nd rfl rfl rfl (by decide) (by decide) (by decide) rfl rfl rfl (pa_cons (pe_cl c__law_names hr (by omega) (by rfl) (pa_cons (pv 0) (pa_cons (pe_op op_add pe_int (pe_cl c__law_take hr (by omega) (by rfl) (pa_cons (pv 0) (pa_cons (pv 1) pa_nil)))) pa_nil))) (pa_cons (pe_lst pa_nil) (pa_cons (pe_lst pa_nil) pa_nil))) rfl)
      (pss_cons (ps_for PassesOwn.never rfl (ki_list (K := K) (pv 2)) (pg_name (i := 5) nd rfl (.inl rfl))
          (pss_cons (ps_set (i := 6) nd rfl (.inl rfl) (pe_ix (kx_list (K := K)) (pe_lst (pa_cons pe_int (pa_cons (pe_op op_add pe_int (pe_cl c__law_take hr (by omega) (by rfl) (pa_cons (pv 0) (pa_cons pe_int pa_nil)))) (pa_cons pe_int (pa_cons (pe_op op_add pe_int (pe_cl c__law_take hr (by omega) (by rfl) (pa_cons (pv 0) (pa_cons pe_int pa_nil)))) pa_nil))))) (pe_cl c__law_take hr (by omega) (by rfl) (pa_cons (pv 0) (pa_cons pe_int pa_nil))) (fun _ _ => rfl)))
          (pss_cons (ps_set (i := 7) nd rfl (.inl rfl) (pe_ix (kx_list (K := K)) (pe_lst (pa_cons pe_int (pa_cons (pe_cl c__law_take hr (by omega) (by rfl) (pa_cons (pv 0) (pa_cons pe_int pa_nil))) (pa_cons pe_int (pa_cons (pe_cl c__law_take hr (by omega) (by rfl) (pa_cons (pv 0) (pa_cons pe_int pa_nil))) pa_nil))))) (pe_cl c__law_take hr (by omega) (by rfl) (pa_cons (pv 0) (pa_cons pe_int pa_nil))) (fun _ _ => rfl)))
          (pss_one (ps_expr (pe_bm PySem.F.plainAttrs_list PySem.F.slot_list_append PySem.F.type_list_append mt_append (pv 3) (pa_cons (pe_tup (pa_cons (pv 5) (pa_cons (pv 6) (pa_cons (pv 7) (pa_cons (pe_op op_add pe_int (pe_cl c__law_take hr (by omega) (by rfl) (pa_cons (pv 0) (pa_cons pe_int pa_nil)))) pa_nil))))) pa_nil)))))))
      (pss_cons (ps_for PassesOwn.never rfl (pi_range1 (by rfl) T.range (pa_cons (pe_op op_mul (pe_callB (kc_len (K := K)) (by rfl) T.len PySem.boot_len (pa_cons (pv 2) pa_nil)) (pe_callB (kc_len (K := K)) (by rfl) T.len PySem.boot_len (pa_cons (pv 2) pa_nil))) pa_nil)) (pg_name (i := 8) nd rfl (.inl rfl))
          (pss_cons (ps_set (i := 9) nd rfl (.inl rfl) (pe_tup (pa_cons (pe_ix (kx_list (K := K)) (pv 2) (pe_op op_fdiv (pv 8) (pe_callB (kc_len (K := K)) (by rfl) T.len PySem.boot_len (pa_cons (pv 2) pa_nil))) (fun _ _ => rfl)) (pa_cons (pe_ix (kx_list (K := K)) (pv 2) (pe_op op_mod (pv 8) (pe_callB (kc_len (K := K)) (by rfl) T.len PySem.boot_len (pa_cons (pv 2) pa_nil))) (fun _ _ => rfl)) pa_nil))))
          (pss_one (ps_if ((pw_and (pt_cmpR op_ne (pe_ix (kx_tup (K := K)) (pv 9) pe_int (fun _ _ => rfl)) (pe_ix (kx_tup (K := K)) (pv 9) pe_int (fun _ _ => rfl)) (nomark _)) (pw_and (pt_cmpR op_lt (pe_callB (kc_len (K := K)) (by rfl) T.len PySem.boot_len (pa_cons (pv 4) pa_nil)) pe_int (nomark _)) (pw_and1 (pt_cmpR op_gt (pe_cl c__law_take hr (by omega) (by rfl) (pa_cons (pv 0) (pa_cons pe_int pa_nil))) pe_int (nomark _)))))).pt
              (pss_cons (ps_set (i := 10) nd rfl (.inl rfl) (pe_ix (kx_list (K := K)) (pe_lst (pa_cons pe_int (pa_cons (pe_op op_add pe_int (pe_cl c__law_take hr (by omega) (by rfl) (pa_cons (pv 0) (pa_cons pe_int pa_nil)))) (pa_cons pe_int (pa_cons pe_non (pa_cons (pe_cl c__law_take hr (by omega) (by rfl) (pa_cons (pv 0) (pa_cons pe_int pa_nil))) pa_nil)))))) (pe_cl c__law_take hr (by omega) (by rfl) (pa_cons (pv 0) (pa_cons pe_int pa_nil))) (fun _ _ => rfl)))
              (pss_one (ps_expr (pe_bm PySem.F.plainAttrs_list PySem.F.slot_list_append PySem.F.type_list_append mt_append (pv 4) (pa_cons (pe_op (op_catA) (pv 9) (pe_tup (pa_cons (pv 10) pa_nil))) pa_nil)))))
              pss_nil))))
      (pss_one (ps_ret (pe_tup (pa_cons (pe_callTy (kc_tuple (K := K)) (by rfl) T.tuple (by decide +kernel) (pa_cons (pe_callB (kc_sortedR (K := K) hu70) (by rfl) T.sorted (by decide +kernel) (pa_cons (pv 3) pa_nil)) pa_nil)) (pa_cons (pe_callTy (kc_tuple (K := K)) (by rfl) T.tuple (by decide +kernel) (pa_cons (pe_callB (kc_sortedR (K := K) hu70) (by rfl) T.sorted (by decide +kernel) (pa_cons (pv 4) pa_nil)) pa_nil)) pa_nil)))))))), ?_⟩
    -- names
    refine ⟨_, rfl, _, rfl, _, rfl, b, most, n, rfl, (by omega), (by omega), hS, by omega, fun H1 r1 r10 r11 B1 s1 => ⟨_, _, rfl, rfl, ?_⟩⟩
    obtain ⟨m, em⟩ : ∃ m : Nat, (1 : Int) + r1 = (m : Int) := ⟨(1 + r1).toNat, by omega⟩
    refine ⟨b, n + 1, m, (by show [V.ref b, V.int (1 + r1)] = _; rw [em]), B1, by omega, by omega, fun H2 N ys B2 s2 nN hN ly wy ndy => ?_⟩
    have k2 : Sm [b] H H2 := s1.trans s2
    refine ⟨Nat.zero_le _, fun C nC => ?_⟩
    have Nb : N ≠ b := B1.ne nN
    have nC0 := sm_free k2 B2.bx nC
    have Cb := B2.ne nC
    have NC : N ≠ C := ne_of_none hN nC
    have B3 := B2.put (o := .lst []) nC
    have k3 := k2.trans (sm_put (S := [b]) (o := .lst []) nC)
    have hN := same_upd (o := .lst []) nC _ _ hN
    have hC : upd H2 C (.lst []) C = some (.lst []) := upd_same
    generalize upd H2 C (.lst []) = H3 at B3 k3 hN hC ⊢
    refine ⟨Nat.zero_le _, fun W nW => ⟨_, _, _, rfl, ?_⟩⟩
    have nW0 := sm_free k3 B3.bx nW
    have Wb := B3.ne nW
    have CW : C ≠ W := ne_of_none hC nW
    have NW : N ≠ W := ne_of_none hN nW
    have ap : PAc H b C W := ⟨Cb, Wb, CW, nC0, nW0⟩
    have hN := same_upd (o := .lst []) nW _ _ hN
    have start : PMc K H b C W N ys (n + 21) [] [] [] [] (upd H3 W (.lst [])) :=
      ⟨(B3.put nW).mono (by omega), k3.trans (sm_put nW), by rw [off_out (by simp; exact ⟨NC, NW, Nb⟩)]; exact hN, same_upd nW _ _ hC, .nil, upd_same, .nil⟩
    generalize upd H3 W (.lst []) = H5 at start ⊢
    have ly12 : ys.length ≤ 12 := by omega
    have ly1 : 1 ≤ ys.length := by omega
    -- colours
    refine ⟨_, rfl, N, rfl, ⟨_, SqL.of (at_off start.hN)⟩, ?_⟩
    refine for_it (walk_list (xs := ys.map V.str)) (fun i σ H6 => ∃ v5 v6 v7 xs cs, σ = [some (.ref b), some (.int most), some (.ref N), some (.ref C), some (.ref W), v5, v6, v7, none, none, none] ∧ PMc K H b C W N ys (n + 21 + 7 * i) xs [] cs [] H6 ∧ PalOk cs [] ∧ cs.map (·.1) = ys.take i ∧ cs.length = i ∧ ∀ x ∈ cs, (1 ≤ x.2.1 ∧ x.2.1 ≤ 20 ∧ 0 ≤ x.2.2.1 ∧ x.2.2.1 ≤ 99) ∧ Nm x.1)
      ⟨_, _, _, [], [], rfl, start, ⟨by decide, by decide, fun _ h => (List.not_mem_nil h).elim, fun _ h => (List.not_mem_nil h).elim⟩, rfl, rfl, fun _ h => (List.not_mem_nil h).elim⟩ (fun i σ H6 _ h => by obtain ⟨_, _, _, _, _, _, h, _⟩ := h; exact SqL.of (at_off h.hN)) ?_ ?_
    · rintro i x σ H6 H7 hi ⟨v5, v6, v7, xs, cs, rfl, M, ok, ecs, lcs, ch⟩ ⟨rfl, gx⟩
      rw [List.getElem?_map] at gx
      obtain ⟨z, gz, rfl⟩ := Option.map_eq_some_iff.mp gx
      have nz := wy z (List.mem_of_getElem? gz)
      rw [List.length_map] at hi
      -- charge
      refine ⟨_, rfl, b, 3, _, rfl, (by decide), (by decide), M.st, by omega, fun H8 r3 c80 c81 B8 s8 => ⟨_, _, rfl, rfl, ?_⟩⟩
      have M := M.drawn ap B8 s8
      refine ⟨_, rfl, b, 20, _, rfl, (by decide), (by decide), M.st, by omega, fun H9 r4 c90 c91 B9 s9 => ⟨_, _, rfl, rfl, (by show 4 ≤ sizeLine; decide), fun a1 na1 => ?_⟩⟩
      have M := M.drawn ap B9 s9
      have a1b := M.st.ne na1
      have M := M.put (o := .lst [.int 1, .int (1 + r3), .int 20, .int (1 + r4)]) na1
      have h1 : upd H9 a1 (.lst [.int 1, .int (1 + r3), .int 20, .int (1 + r4)]) a1 = _ := upd_same
      generalize upd H9 a1 (.lst [.int 1, .int (1 + r3), .int 20, .int (1 + r4)]) = H10 at M h1 ⊢
      refine ⟨_, rfl, b, 4, _, rfl, (by decide), (by decide), M.st, by omega, fun H11 r5 c110 c111 B11 s11 => ?_⟩
      obtain ⟨ch_, e1, b10, b11⟩ : ∃ b1 : Int, atI [V.int 1, .int (1 + r3), .int 20, .int (1 + r4)] r5 = some (.int b1) ∧ 1 ≤ b1 ∧ b1 ≤ 20 := by
        have h : r5 = 0 ∨ r5 = 1 ∨ r5 = 2 ∨ r5 = 3 := by omega
        rcases h with rfl | rfl | rfl | rfl
        · exact ⟨_, rfl, by omega, by omega⟩
        · exact ⟨_, rfl, by omega, by omega⟩
        · exact ⟨_, rfl, by omega, by omega⟩
        · exact ⟨_, rfl, by omega, by omega⟩
      refine ⟨a1, _, r5, .int ch_, rfl, rfl, SqL.of (sm1_at s11 a1b h1), e1, ?_⟩
      have M := M.drawn ap B11 s11
      -- melt
      refine ⟨_, rfl, b, 4, _, rfl, (by decide), (by decide), M.st, by omega, fun H12 r6 c120 c121 B12 s12 => ?_⟩
      have M := M.drawn ap B12 s12
      refine ⟨_, rfl, b, 100, _, rfl, (by decide), (by decide), M.st, by omega, fun H13 r7 c130 c131 B13 s13 => ⟨(by show 4 ≤ sizeLine; decide), fun a2 na2 => ?_⟩⟩
      have M := M.drawn ap B13 s13
      have a2b := M.st.ne na2
      have M := M.put (o := .lst [.int 0, .int r6, .int 99, .int r7]) na2
      have h2 : upd H13 a2 (.lst [.int 0, .int r6, .int 99, .int r7]) a2 = _ := upd_same
      generalize upd H13 a2 (.lst [.int 0, .int r6, .int 99, .int r7]) = H14 at M h2 ⊢
      refine ⟨_, rfl, b, 4, _, rfl, (by decide), (by decide), M.st, by omega, fun H15 r8 c150 c151 B15 s15 => ?_⟩
      obtain ⟨me, e2, b20, b21⟩ : ∃ b1 : Int, atI [V.int 0, .int r6, .int 99, .int r7] r8 = some (.int b1) ∧ 0 ≤ b1 ∧ b1 ≤ 99 := by
        have h : r8 = 0 ∨ r8 = 1 ∨ r8 = 2 ∨ r8 = 3 := by omega
        rcases h with rfl | rfl | rfl | rfl
        · exact ⟨_, rfl, by omega, by omega⟩
        · exact ⟨_, rfl, by omega, by omega⟩
        · exact ⟨_, rfl, by omega, by omega⟩
        · exact ⟨_, rfl, by omega, by omega⟩
      refine ⟨a2, _, r8, .int me, rfl, rfl, SqL.of (sm1_at s15 a2b h2), e2, ?_⟩
      have M := M.drawn ap B15 s15
      -- append
      refine ⟨_, rfl, .inl ⟨rfl, _, SqL.of M.hC⟩, _, rfl, _, rfl, _, rfl, _, rfl, b, 999, _, rfl, (by decide), (by decide), M.st, by omega, fun H16 ga g0 g1 B16 s16 => ⟨_, _, rfl, rfl, (by show 4 ≤ sizeLine; decide), fun t nt => ?_⟩⟩
      have M := M.drawn ap B16 s16
      have ft := off_new (o := .tup [.str z, .int ch_, .int me, .int (1 + ga)]) M.live nt
      have M := M.put (o := .tup [.str z, .int ch_, .int me, .int (1 + ga)]) nt
      generalize upd H16 t (.tup [.str z, .int ch_, .int me, .int (1 + ga)]) = H17 at M ft ⊢
      have hv : Dp K (off H17 [C, W, b]) (.ref t) (colD (z, ch_, me, 1 + ga)) := .tup (.inl (.inl ft)) (.cons (.str _) (.cons (.int _) (.cons (.int _) (.cons (.int _) .nil))))
      have lxs : xs.length = i := by rw [dpAll_map_len M.dC]; exact lcs
      refine ⟨C, _, _, rfl, rfl, M.hC, (by rw [lxs]; exact Nat.lt_of_lt_of_le (show i < 12 by omega) (by decide)), ?_⟩
      have M := M.colour ap hv
      refine ⟨_, _, _, _, cs ++ [((z, ch_, me, 1 + ga) : Col)], rfl, M.mono (by omega), ok.addC (c := (z, ch_, me, 1 + ga)) (by omega) ⟨Nat.le_trans nz.1.1 (by decide), wd_codes nz.1, by show ch_.natAbs < 10000; omega, by show me.natAbs < 10000; omega, by show (1 + ga).natAbs < 10000; omega⟩, ?_, by rw [List.length_append, lcs]; rfl, fun x hx => ?_⟩
      · rw [List.map_append, ecs, List.take_add_one, gz]; rfl
      rcases List.mem_append.mp hx with h | h
      · exact ch x h
      · rw [List.mem_singleton.mp h]; exact ⟨⟨b10, b11, b20, b21⟩, nz⟩
    · rintro σ H6 ⟨v5, v6, v7, xs, cs, rfl, M, ok, ecs, lcs, ch⟩
      rw [List.length_map] at lcs
      have M := M.mono (show _ ≤ n + 200 by rw [List.length_map]; omega)
      rw [List.length_map, List.take_length] at ecs
      -- washes
      have eN : (ys.map V.str).length = m := by rw [List.length_map, ly]
      have mm : m * m ≤ 144 := Nat.mul_le_mul (show m ≤ 12 by omega) (show m ≤ 12 by omega)
      have mz : 0 < m := by omega
      have em2 : (m : Int) * (m : Int) = ((m * m : Nat) : Int) := (Int.natCast_mul m m).symm
      refine ⟨_, rfl, _, (m : Nat), rfl, .inl ⟨_, SqL.of (at_off M.hN), eN.symm⟩, _, rfl, _, (m : Nat), rfl, .inl ⟨_, SqL.of (at_off M.hN), eN.symm⟩, _, _, rfl, rfl, .inl ⟨by omega, by omega⟩, _, rfl, ?_⟩
      refine ⟨by omega, by omega, ?_⟩
      have et : ((m : Int) * (m : Int)).toNat = m * m := by rw [em2, Int.toNat_natCast]
      rw [et]
      refine for_it walk_range (fun i σ H7 => ∃ v8 v9 v10 us ws, σ = [some (.ref b), some (.int most), some (.ref N), some (.ref C), some (.ref W), v5, v6, v7, v8, v9, v10] ∧ PMc K H b C W N ys (n + 200 + 4 * i) xs us cs ws H7 ∧ ws.length ≤ 60 ∧ (ws.map fun r => (r.1, r.2.1)).Nodup ∧ ∀ r ∈ ws, (Nm r.1 ∧ Nm r.2.1 ∧ r.1 ≠ r.2.1 ∧ ∀ h, r.2.2 = some h → 0 ≤ h ∧ h ≤ 99) ∧ ∃ j, j < i ∧ ys[j / m]? = some r.1 ∧ ys[j % m]? = some r.2.1)
        ⟨_, _, _, [], [], rfl, M, Nat.zero_le _, List.nodup_nil, fun _ h => (List.not_mem_nil h).elim⟩ (fun _ _ _ _ _ => trivial) ?_ ?_
      · rintro i x σ H7 H8 hi ⟨v8, v9, v10, us, ws, rfl, M, lws, ndw, bws⟩ ⟨rfl, rfl⟩
        have hdv : i / m < m := Nat.div_lt_of_lt_mul hi
        have hmd : i % m < m := Nat.mod_lt _ mz
        have ed : (0 + (i : Int)) / (m : Int) = ((i / m : Nat) : Int) := by rw [Int.zero_add]; rfl
        have eq_ : (0 + (i : Int)) % (m : Int) = ((i % m : Nat) : Int) := by rw [Int.zero_add]; rfl
        obtain ⟨y0, g0⟩ : ∃ y0, ys[i / m]? = some y0 := ⟨_, List.getElem?_eq_getElem (by omega)⟩
        obtain ⟨y1, g1⟩ : ∃ y1, ys[i % m]? = some y1 := ⟨_, List.getElem?_eq_getElem (by omega)⟩
        have i0 : atI (ys.map V.str) ((i / m : Nat) : Int) = some (.str y0) := atI_nat (by rw [List.getElem?_map, g0]; rfl)
        have i1 : atI (ys.map V.str) ((i % m : Nat) : Int) = some (.str y1) := atI_nat (by rw [List.getElem?_map, g1]; rfl)
        refine ⟨_, rfl, _, rfl, _, rfl, _, (m : Nat), rfl, .inl ⟨_, SqL.of (at_off M.hN), eN.symm⟩, _, _, rfl, rfl, ⟨by omega, by omega⟩, N, _, ((i / m : Nat) : Int), _, rfl, congrArg V.int ed, SqL.of (at_off M.hN), i0, ?_⟩
        refine ⟨_, rfl, _, rfl, _, rfl, _, (m : Nat), rfl, .inl ⟨_, SqL.of (at_off M.hN), eN.symm⟩, _, _, rfl, rfl, (by omega), N, _, ((i % m : Nat) : Int), _, rfl, congrArg V.int eq_, SqL.of (at_off M.hN), i1, (by show 2 ≤ sizeLine; decide), fun t nt => ?_⟩
        have ft := off_new (o := .tup [.str y0, .str y1]) M.live nt
        have M := M.put (o := .tup [.str y0, .str y1]) nt
        generalize upd H8 t (.tup [.str y0, .str y1]) = H9 at M ft ⊢
        have tt : SqT K H9 t [.str y0, .str y1] := .inl (.inl (at_off ft))
        have stay : ∀ {H10 : Hp} {v8 v9 v10 : Option V} {n2 : Nat}, PMc K H b C W N ys n2 xs us cs ws H10 → n2 ≤ n + 200 + 4 * (i + 1) → ∃ v8' v9' v10' us ws, [some (V.ref b), some (.int most), some (.ref N), some (.ref C), some (.ref W), v5, v6, v7, v8, v9, v10] = [some (V.ref b), some (.int most), some (.ref N), some (.ref C), some (.ref W), v5, v6, v7, v8', v9', v10'] ∧ PMc K H b C W N ys (n + 200 + 4 * (i + 1)) xs us cs ws H10 ∧ ws.length ≤ 60 ∧ (ws.map fun r => (r.1, r.2.1)).Nodup ∧ ∀ r ∈ ws, (Nm r.1 ∧ Nm r.2.1 ∧ r.1 ≠ r.2.1 ∧ ∀ h, r.2.2 = some h → 0 ≤ h ∧ h ≤ 99) ∧ ∃ j, j < i + 1 ∧ ys[j / m]? = some r.1 ∧ ys[j % m]? = some r.2.1 := by
          intro H10 v8 v9 v10 n2 M2 hn2
          refine ⟨_, _, _, us, ws, rfl, M2.mono hn2, lws, ndw, fun r hr => ?_⟩
          obtain ⟨h1, j, hj, h2⟩ := bws r hr
          exact ⟨h1, j, by omega, h2⟩
        refine ⟨_, rfl, t, _, 0, _, rfl, rfl, tt, rfl, _, rfl, t, _, 1, _, rfl, rfl, tt, rfl, rfl, _, rfl, ite2 (fun c1 => ?_) (fun c1 => iteF (stay M (by omega)))⟩
        have y01 : y0 ≠ y1 := fun z => by rw [z] at c1; simp at c1
        refine ⟨_, rfl, _, us.length, rfl, .inl ⟨_, SqL.of M.hW, rfl⟩, _, _, rfl, rfl, _, rfl, ite2 (fun c2 => ?_) (fun c2 => iteF (stay M (by omega)))⟩
        have lu : us.length = ws.length := dpAll_map_len M.dW
        have l60 : ws.length < 60 := by have := of_decide_eq_true c2; omega
        refine ⟨_, rfl, b, 3, _, rfl, (by decide), (by decide), M.st, by omega, fun H10 r3 _ _ B10 s10 => ⟨_, _, rfl, rfl, _, rfl, ite2 (fun c3 => ?_) (fun c3 => stay (M.drawn ap B10 s10) (by omega))⟩⟩
        have M := M.drawn ap B10 s10
        have ft := (sm_one (S := [C, W, b]) (by simp) s10) _ _ ft
        refine ⟨_, rfl, b, 4, _, rfl, (by decide), (by decide), M.st, by omega, fun H11 r4 r40 r41 B11 s11 => ⟨_, _, rfl, rfl, ?_⟩⟩
        have M := M.drawn ap B11 s11
        have ft := (sm_one (S := [C, W, b]) (by simp) s11) _ _ ft
        refine ⟨_, rfl, b, 100, _, rfl, (by decide), (by decide), M.st, by omega, fun H12 r5 r50 r51 B12 s12 => ⟨(by show 5 ≤ sizeLine; decide), fun a1 na1 => ?_⟩⟩
        have M := M.drawn ap B12 s12
        have ft := (sm_one (S := [C, W, b]) (by simp) s12) _ _ ft
        have a1b := M.st.ne na1
        have ft := (sm_put (S := [C, W, b]) (o := .lst [.int 0, .int (1 + r4), .int 99, .non, .int r5]) na1) _ _ ft
        have M := M.put (o := .lst [.int 0, .int (1 + r4), .int 99, .non, .int r5]) na1
        have h1 : upd H12 a1 (.lst [.int 0, .int (1 + r4), .int 99, .non, .int r5]) a1 = _ := upd_same
        generalize upd H12 a1 (.lst [.int 0, .int (1 + r4), .int 99, .non, .int r5]) = H13 at M h1 ft ⊢
        refine ⟨_, rfl, b, 5, _, rfl, (by decide), (by decide), M.st, by omega, fun H14 r6 r60 r61 B14 s14 => ?_⟩
        obtain ⟨ho, e1, bo⟩ : ∃ ho : Option Int, atI [V.int 0, .int (1 + r4), .int 99, .non, .int r5] r6 = some (optV ho) ∧ ∀ h, ho = some h → 0 ≤ h ∧ h ≤ 99 := by
          have h : r6 = 0 ∨ r6 = 1 ∨ r6 = 2 ∨ r6 = 3 ∨ r6 = 4 := by omega
          rcases h with rfl | rfl | rfl | rfl | rfl
          · exact ⟨some _, rfl, fun h e => by cases e; omega⟩
          · exact ⟨some _, rfl, fun h e => by cases e; omega⟩
          · exact ⟨some _, rfl, fun h e => by cases e; omega⟩
          · exact ⟨none, rfl, fun h e => by cases e⟩
          · exact ⟨some _, rfl, fun h e => by cases e; omega⟩
        refine ⟨a1, _, r6, _, rfl, rfl, SqL.of (sm1_at s14 a1b h1), e1, ?_⟩
        have M := M.drawn ap B14 s14
        have ft := (sm_one (S := [C, W, b]) (by simp) s14) _ _ ft
        refine ⟨_, rfl, .inl ⟨rfl, _, SqL.of M.hW⟩, _, rfl, _, rfl, (by show 1 ≤ sizeLine; decide), fun t2 nt2 => ?_⟩
        have ft2 := off_new (o := .tup [optV ho]) M.live nt2
        have ft := (sm_put (S := [C, W, b]) (o := .tup [optV ho]) nt2) _ _ ft
        have M := M.put (o := .tup [optV ho]) nt2
        generalize upd H14 t2 (.tup [optV ho]) = H15 at M ft ft2 ⊢
        refine ⟨t, t2, _, _, rfl, rfl, .inl (.inl (at_off ft)), .inl (.inl (at_off ft2)), (by show 2 + 1 ≤ sizeLine; decide), (fun z => by cases z), (fun _ z => by cases z), fun _ _ t3 nt3 => ?_⟩
        have ft3 := off_new (o := .tup ([.str y0, .str y1] ++ [optV ho])) M.live nt3
        have M := M.put (o := .tup ([.str y0, .str y1] ++ [optV ho])) nt3
        generalize upd H15 t3 (.tup ([.str y0, .str y1] ++ [optV ho])) = H16 at M ft3 ⊢
        have hv : Dp K (off H16 [C, W, b]) (.ref t3) (washD (y0, y1, ho)) := .tup (.inl (.inl ft3)) (.cons (.str _) (.cons (.str _) (.cons (opt_dp ho) .nil)))
        refine ⟨W, _, _, rfl, rfl, M.hW, (by rw [lu, sizeLine_eq]; omega), ?_⟩
        have M := M.wash ap hv
        refine ⟨_, _, _, _, ws ++ [((y0, y1, ho) : Wsh)], rfl, M.mono (by omega), by rw [List.length_append]; exact l60, ?_, fun r hr => ?_⟩
        · rw [List.map_append, List.nodup_append]
          refine ⟨ndw, by simp, fun p hp p2 hp2 e => ?_⟩
          obtain ⟨r, hr, rfl⟩ := List.mem_map.mp hp
          have e2 : p2 = (y0, y1) := by simpa using hp2
          obtain ⟨_, j, hj, j1, j2⟩ := bws r hr
          rw [e2] at e
          have e3 : r.1 = y0 := congrArg Prod.fst e
          have e4 : r.2.1 = y1 := congrArg Prod.snd e
          rw [e3, ← g0] at j1
          rw [e4, ← g1] at j2
          have q1 := (List.getElem?_inj (i := j / m) (j := i / m) (by rw [ly]; exact Nat.div_lt_of_lt_mul (by omega)) ndy).mp j1
          have q2 := (List.getElem?_inj (i := j % m) (j := i % m) (by rw [ly]; exact Nat.mod_lt _ mz) ndy).mp j2
          have := div_mod_inj q1 q2
          omega
        · rcases List.mem_append.mp hr with h | h
          · obtain ⟨h1, j, hj, h2⟩ := bws r h
            exact ⟨h1, j, by omega, h2⟩
          · rw [List.mem_singleton.mp h]
            exact ⟨⟨wy _ (List.mem_of_getElem? g0), wy _ (List.mem_of_getElem? g1), y01, bo⟩, i, by omega, g0, g1⟩
      · rintro σ H7 ⟨v8, v9, v10, us, ws, rfl, M, lws, ndw, bws⟩
        have M := M.mono (show _ ≤ n + 1000 by omega)
        -- sorted
        refine ⟨_, rfl, C, _, _, rfl, SqL.of M.hC, dpAll_same off_sub M.dC, rows_cols cs, (fun d hd => by obtain ⟨c, _, rfl⟩ := List.mem_map.mp hd; exact depth_col c), fun zs es p1 dz pz np1 => ?_⟩
        obtain ⟨cs2, pc, rfl⟩ := perm_lift colD pz cs rfl
        have M := M.put (o := .lst zs) np1
        have dz := dpAll_same (same_upd (o := .lst zs) np1) dz
        have h1 : upd H7 p1 (.lst zs) p1 = _ := upd_same
        generalize upd H7 p1 (.lst zs) = H8 at M dz h1 ⊢
        refine ⟨p1, _, rfl, .inl ⟨SqL.of h1, fun t1 n1 => ?_⟩⟩
        have M := M.put (o := .tup zs) n1
        have dz := dpAll_same (same_upd (o := .tup zs) n1) dz
        have h2 : upd H8 t1 (.tup zs) t1 = _ := upd_same
        generalize upd H8 t1 (.tup zs) = H9 at M dz h2 ⊢
        refine ⟨_, rfl, W, _, _, rfl, SqL.of M.hW, dpAll_same off_sub M.dW, rows_wash ndw, (fun d hd => by obtain ⟨c, _, rfl⟩ := List.mem_map.mp hd; exact depth_wash c), fun ze es p2 de pe np2 => ?_⟩
        obtain ⟨ws2, pw, rfl⟩ := perm_lift washD pe ws rfl
        have M := M.put (o := .lst ze) np2
        have dz := dpAll_same (same_upd (o := .lst ze) np2) dz
        have de := dpAll_same (same_upd (o := .lst ze) np2) de
        have h2 := same_upd (o := .lst ze) np2 _ _ h2
        have h3 : upd H9 p2 (.lst ze) p2 = _ := upd_same
        generalize upd H9 p2 (.lst ze) = H10 at M dz de h2 h3 ⊢
        refine ⟨p2, _, rfl, .inl ⟨SqL.of h3, fun t2 n2 => ?_⟩⟩
        have M := M.put (o := .tup ze) n2
        have dz := dpAll_same (same_upd (o := .tup ze) n2) dz
        have de := dpAll_same (same_upd (o := .tup ze) n2) de
        have h2 := same_upd (o := .tup ze) n2 _ _ h2
        have h4 : upd H10 t2 (.tup ze) t2 = _ := upd_same
        generalize upd H10 t2 (.tup ze) = H11 at M dz de h2 h4 ⊢
        refine ⟨(by show 2 ≤ sizeLine; decide), fun t3 n3 => ?_⟩
        have M := M.put (o := .tup [.ref t1, .ref t2]) n3
        have dz := dpAll_same (same_upd (o := .tup [.ref t1, .ref t2]) n3) dz
        have de := dpAll_same (same_upd (o := .tup [.ref t1, .ref t2]) n3) de
        have h2 := same_upd (o := .tup [.ref t1, .ref t2]) n3 _ _ h2
        have h4 := same_upd (o := .tup [.ref t1, .ref t2]) n3 _ _ h4
        have h5 : upd H11 t3 (.tup [.ref t1, .ref t2]) t3 = _ := upd_same
        generalize upd H11 t3 (.tup [.ref t1, .ref t2]) = H12 at M dz de h2 h4 h5 ⊢
        have dp : Dp K H12 (.ref t3) (palD cs2 ws2) := .tup (.inl (.inl h5)) (.cons (.tup (.inl (.inl h2)) dz) (.cons (.tup (.inl (.inl h4)) de) .nil))
        have pb : PalC cs2 ws2 := by
          have lc : cs2.length = cs.length := pc.length_eq
          have lw : ws2.length = ws.length := pw.length_eq
          refine ⟨⟨by omega, by omega, fun c hc => ok.cn c (pc.mem_iff.mp hc), fun r hr => ?_⟩, by omega, by omega, fun c hc => (ch c (pc.mem_iff.mp hc)).1, fun r hr => (bws r (pw.mem_iff.mp hr)).1.2.2.2, fun c hc => (ch c (pc.mem_iff.mp hc)).2, ?_, ?_, fun r hr => (bws r (pw.mem_iff.mp hr)).1.2.2.1⟩
          · obtain ⟨⟨n1, n2, _, b2⟩, _⟩ := bws r (pw.mem_iff.mp hr)
            exact ⟨⟨Nat.le_trans n1.1.1 (by decide), wd_codes n1.1⟩, ⟨Nat.le_trans n2.1.1 (by decide), wd_codes n2.1⟩, fun i ei => by have := b2 i ei; omega⟩
          · exact ((pc.map (·.1)).nodup_iff).mpr (by rw [ecs]; exact ndy)
          · exact ((pw.map fun r : Wsh => (r.1, r.2.1)).nodup_iff).mpr ndw
        exact q _ _ cs2 ws2 (M.st.mono (by omega)) M.sm (dp_offB M.st (noL_pal _ _) dp) pb

end
end Pot

namespace Pot
open PySem PySem.Spec PyProof.Rows L2
section
variable {P : Program} {w : World} {K : PySem.W.Frag} {mg : Str → Option Value} {base : Heap}
/-! ### colour_row: the first colour so called -/
abbrev s_colour_row : Stmt := topS 3
def n_colour_row : List Str := ["palette", "colour", "row"]
theorem sc_colour_row : FnScope n_colour_row ["palette", "colour"] (defScope s_colour_row) := ⟨rfl, rfl, rfl, by decide +kernel, rfl, by decide +kernel, by decide +kernel⟩
def colF (cs : List Col) (z : Str) : Option Col := cs.find? fun c => decide (c.1 = z)
def spColour (K : PySem.W.Frag) : Sp := fun vs H Q _ => ∃ (v : V) (cs : List Col) (ws : List Wsh) (z : Str), vs = [v, .str z] ∧ Dp K H v (palD cs ws) ∧ (∃ c ∈ cs, c.1 = z) ∧
  ∀ (x : V) (c : Col), colF cs z = some c → Dp K H x (colD c) → Q x H
theorem ok_colour {f : Addr} {fd : FuncData} {k : Nat} (F : Fun K "colour_row" "colour_row" s_colour_row f fd) : FnOk P w K mg base CX0 (k + 1) f fd ["palette", "colour"] (spColour K) := by
  refine F.ok sc_colour_row (fun vs H Q E h => ?_) (fun cdv A outer s H vs Q E hr h => ?_)
  · obtain ⟨v, cs, ws, z, rfl, _⟩ := h
    rfl
  · obtain ⟨v, cs, ws, z, rfl, hp, hin, q⟩ := h
    have nd := sc_colour_row.nd
    obtain ⟨p, c, w2, xs, ys, rfl, hp, hc, hx, hw, hy⟩ := pal_dp hp
    refine ⟨_, (pss_cons (ps_for PassesOwn.never rfl (ki_tup (K := K) (pe_ix (kx_tup (K := K)) (pv 0) pe_int (fun _ _ => rfl))) (pg_name (i := 2) nd rfl (.inl rfl))
          (pss_one (ps_if (pt_cmpR op_eq (pe_ix (kx_tup (K := K)) (pv 2) pe_int (fun _ _ => rfl)) (pv 1) (nomark _))
              (pss_one (ps_ret (pv 2)))
              pss_nil)))
      (pss_one ps_never)), ?_⟩
    refine ⟨_, rfl, p, _, 0, .ref c, rfl, rfl, hp, rfl, c, rfl, ⟨_, hc⟩, ?_⟩
    refine for_it (walk_tup (xs := xs)) (fun i σ H2 => ∃ v2, σ = [some (.ref p), some (.str z), v2] ∧ H2 = H ∧ ∀ j d, j < i → cs[j]? = some d → d.1 ≠ z) ⟨none, rfl, rfl, fun j d hj => absurd hj (Nat.not_lt_zero _)⟩ (fun i σ H2 _ h => by obtain ⟨_, _, rfl, _⟩ := h; exact hc) ?_ ?_
    · rintro i x σ H2 H3 hi ⟨v2, rfl, rfl, old⟩ ⟨rfl, gx⟩
      obtain ⟨d, gd, dp⟩ := dpAll_map_at hx gx
      obtain ⟨r, rfl, hr2⟩ := col_dp dp
      refine ⟨_, rfl, r, _, 0, _, rfl, rfl, hr2, rfl, _, rfl, rfl, _, rfl, ?_⟩
      rw [decS]
      refine ite2 (fun hb => ?_) (fun hb => ?_)
      · refine ⟨_, rfl, q _ d ?_ dp⟩
        unfold colF
        obtain ⟨hl, e⟩ := List.getElem?_eq_some_iff.mp gd
        rw [List.find?_eq_some_iff_getElem]
        exact ⟨hb, i, hl, e, fun j hj => by
          have := old j _ hj (List.getElem?_eq_getElem (by omega))
          simp [this]⟩
      · refine ⟨_, rfl, rfl, fun j e hj ge => ?_⟩
        by_cases hji : j = i
        · subst hji
          rw [gd] at ge
          cases ge
          exact fun z => hb (decide_eq_true z)
        · exact old j e (by omega) ge
    · rintro σ H2 ⟨v2, rfl, rfl, old⟩
      obtain ⟨d, hd, e⟩ := hin
      obtain ⟨j, hj, rfl⟩ := List.mem_iff_getElem.mp hd
      exact old j _ (by rw [dpAll_map_len hx]; exact hj) (List.getElem?_eq_getElem hj) e
/-! ### wash_for, of colours that are there -/
abbrev s_wash_for : Stmt := topS 4
def n_wash_for : List Str := ["palette", "ahead", "behind", "row"]
theorem sc_wash_for : FnScope n_wash_for ["palette", "ahead", "behind"] (defScope s_wash_for) := ⟨rfl, rfl, rfl, by decide +kernel, rfl, by decide +kernel, by decide +kernel⟩
def spWash (K : PySem.W.Frag) : Sp := fun vs H Q _ => ∃ (v : V) (cs : List Col) (ws : List Wsh) (a : Option Str) (b : Str), vs = [v, namV a, .str b] ∧ Dp K H v (palD cs ws) ∧ (∀ z, a = some z → ∃ c ∈ cs, c.1 = z) ∧ (∃ c ∈ cs, c.1 = b) ∧ Q (optV (washF ws a b)) H
theorem ok_wash {f : Addr} {fd : FuncData} {k : Nat} (F : Fun K "wash_for" "wash_for" s_wash_for f fd) (c_colour_row : Cl P w K mg base (k + 1) "colour_row" (spColour K)) : FnOk P w K mg base CX0 (k + 2) f fd ["palette", "ahead", "behind"] (spWash K) := by
  refine F.ok sc_wash_for (fun vs H Q E h => ?_) (fun cdv A outer s H vs Q E hr h => ?_)
  · obtain ⟨v, cs, ws, a, b, rfl, _⟩ := h
    rfl
  · obtain ⟨v, cs, ws, a, b, rfl, hp0, hin, hib, q⟩ := h
    have nd := sc_wash_for.nd
    obtain ⟨p, c, w2, xs, ys, rfl, hp, hc, hx, hw, hy⟩ := pal_dp hp0
    refine ⟨_, (pss_cons (ps_if (pt_cmpR op_notN (pv 1) pe_non (nomark _))
          (pss_one (ps_expr (pe_cl c_colour_row hr (by omega) (by rfl) (pa_cons (pv 0) (pa_cons (pv 1) pa_nil)))))
          pss_nil)
      (pss_cons (ps_expr (pe_cl c_colour_row hr (by omega) (by rfl) (pa_cons (pv 0) (pa_cons (pv 2) pa_nil))))
      (pss_cons (ps_for PassesOwn.never rfl (ki_tup (K := K) (pe_ix (kx_tup (K := K)) (pv 0) pe_int (fun _ _ => rfl))) (pg_name (i := 3) nd rfl (.inl rfl))
          (pss_one (ps_if ((pw_and (pt_cmpR op_eq (pe_ix (kx_tup (K := K)) (pv 3) pe_int (fun _ _ => rfl)) (pv 1) (nomark _)) (pw_and1 (pt_cmpR op_eq (pe_ix (kx_tup (K := K)) (pv 3) pe_int (fun _ _ => rfl)) (pv 2) (nomark _))))).pt
              (pss_one (ps_ret (pe_ix (kx_tup (K := K)) (pv 3) pe_int (fun _ _ => rfl))))
              pss_nil)))
      (pss_one (ps_ret pe_int))))), ?_⟩
    have loop : ∀ v3, tSeq (tFor (iTup K (tOp (rIxT K) (tVar 0) (tC (.int 1)))) (gName 3) (tIfS (tAnd (tTest (tOp rEq (tOp (rIxT K) (tVar 3) (tC (.int 0))) (tVar 1))) (tTest (tOp rEq (tOp (rIxT K) (tVar 3) (tC (.int 1))) (tVar 2)))) (tRet (tOp (rIxT K) (tVar 3) (tC (.int 2)))) tNext)) (tRet (tC (.int 0)))
        { nx := fun x H' => Q V.non H', rt := Q } [some (.ref p), some (namV a), some (.str b), v3] H := by
      intro v3
      refine ⟨_, rfl, p, _, 1, .ref w2, rfl, rfl, hp, rfl, w2, rfl, ⟨_, hw⟩, ?_⟩
      refine for_it (walk_tup (xs := ys)) (fun i σ H2 => ∃ v3, σ = [some (.ref p), some (namV a), some (.str b), v3] ∧ H2 = H ∧ ∀ j r, j < i → ws[j]? = some r → ¬ (some r.1 = a ∧ r.2.1 = b)) ⟨_, rfl, rfl, fun j d hj => absurd hj (Nat.not_lt_zero _)⟩ (fun i σ H2 _ h => by obtain ⟨_, _, rfl, _⟩ := h; exact hw) ?_ ?_
      · rintro i x σ H2 H3 hi ⟨v4, rfl, rfl, old⟩ ⟨rfl, gx⟩
        obtain ⟨d, gd, dp⟩ := dpAll_map_at hy gx
        obtain ⟨r, rfl, hr2⟩ := wash_dp dp
        have stay : ¬ (some d.1 = a ∧ d.2.1 = b) → ∀ j e, j < i + 1 → ws[j]? = some e → ¬ (some e.1 = a ∧ e.2.1 = b) := fun hb j e hj ge => by
          by_cases hji : j = i
          · subst hji
            rw [gd] at ge
            cases ge
            exact hb
          · exact old j e (by omega) ge
        have sc : scal (.str d.1) (namV a) = true := by cases a <;> rfl
        have ed : decide (V.str d.1 = namV a) = decide (some d.1 = a) := by
          cases a with
          | none => rw [decide_eq_false (by intro z; cases z), decide_eq_false (by intro z; cases z)]
          | some z =>
            show decide (V.str d.1 = V.str z) = _
            rw [decS]
            by_cases h : d.1 = z
            · rw [decide_eq_true h, decide_eq_true (by rw [h])]
            · rw [decide_eq_false h, decide_eq_false fun q => h (Option.some.inj q)]
        refine ⟨_, rfl, r, _, 0, _, rfl, rfl, hr2, rfl, _, rfl, sc, _, rfl, ?_⟩
        rw [ed]
        refine ite2 (fun ha => ?_) (fun ha => ?_)
        · refine ⟨_, rfl, r, _, 1, _, rfl, rfl, hr2, rfl, _, rfl, rfl, _, rfl, ?_⟩
          rw [decS]
          refine ite2 (fun hb => ?_) (fun hb => ?_)
          · refine ⟨_, rfl, r, _, 2, _, rfl, rfl, hr2, rfl, ?_⟩
            rw [← washF_at old gd ⟨of_decide_eq_true ha, of_decide_eq_true hb⟩]
            exact q
          · exact ⟨_, rfl, rfl, stay fun z => hb (decide_eq_true z.2)⟩
        · refine iteF ?_
          exact ⟨_, rfl, rfl, stay fun z => ha (decide_eq_true z.1)⟩
      · rintro σ H2 ⟨v4, rfl, rfl, old⟩
        rw [washF_none (by rw [← dpAll_map_len hy]; exact old)] at q
        exact q
    have behind : tSeq (tDrop (tCall (spColour K) [] E0 (tCons (tVar 0) (tCons (tVar 2) tNil)))) (tSeq (tFor (iTup K (tOp (rIxT K) (tVar 0) (tC (.int 1)))) (gName 3) (tIfS (tAnd (tTest (tOp rEq (tOp (rIxT K) (tVar 3) (tC (.int 0))) (tVar 1))) (tTest (tOp rEq (tOp (rIxT K) (tVar 3) (tC (.int 1))) (tVar 2)))) (tRet (tOp (rIxT K) (tVar 3) (tC (.int 2)))) tNext)) (tRet (tC (.int 0)))) { nx := fun x H' => Q V.non H', rt := Q } [some (.ref p), some (namV a), some (.str b), none] H :=
      ⟨_, rfl, _, rfl, .ref p, cs, ws, b, rfl, hp0, hib, fun x d _ _ => loop none⟩
    cases a with
    | none => exact ⟨_, rfl, rfl, _, rfl, iteF behind⟩
    | some z => exact ⟨_, rfl, rfl, _, rfl, iteT ⟨_, rfl, _, rfl, .ref p, cs, ws, z, rfl, hp0, hin z rfl, fun x d _ _ => behind⟩⟩

abbrev s_ready_at : Stmt := topS 5
def n_ready_at : List Str := ["palette", "colour", "at", "row"]
theorem sc_ready_at : FnScope n_ready_at ["palette", "colour", "at"] (defScope s_ready_at) := ⟨rfl, rfl, rfl, by decide +kernel, rfl, by decide +kernel, by decide +kernel⟩
def spReady (K : PySem.W.Frag) : Sp := fun vs H Q _ => ∃ (v : V) (cs : List Col) (ws : List Wsh) (z : Str) (at_ : Int), vs = [v, .str z, .int at_] ∧ Dp K H v (palD cs ws) ∧ (∃ c ∈ cs, c.1 = z) ∧ ∀ c, colF cs z = some c → Q (.int (at_ + c.2.1 + c.2.2.1)) H
theorem ok_ready {f : Addr} {fd : FuncData} {k : Nat} (F : FunV K "ready_at" s_ready_at [.int 0] f fd) (c_colour_row : Cl P w K mg base (k + 1) "colour_row" (spColour K)) : FnOk P w K mg base CX0 (k + 2) f fd ["palette", "colour", "at"] (spReady K) := by
  refine okD F sc_ready_at (fun vs H Q E h => ?_) (fun cdv A outer s H vs Q E hr h => ?_)
  · obtain ⟨v, cs, ws, z, at_, rfl, _⟩ := h
    rfl
  · obtain ⟨v, cs, ws, z, at_, rfl, hp, hin, q⟩ := h
    have nd := sc_ready_at.nd
    refine ⟨_, (pss_cons (ps_set (i := 3) nd rfl (.inl rfl) (pe_cl c_colour_row hr (by omega) (by rfl) (pa_cons (pv 0) (pa_cons (pv 1) pa_nil))))
      (pss_one (ps_ret (pe_op op_add (pe_op op_add (pv 2) (pe_ix (kx_tup (K := K)) (pv 3) pe_int (fun _ _ => rfl))) (pe_ix (kx_tup (K := K)) (pv 3) pe_int (fun _ _ => rfl)))))), ?_⟩
    refine ⟨_, rfl, _, rfl, v, cs, ws, z, rfl, hp, hin, fun x c hc dp => ?_⟩
    obtain ⟨r, rfl, hr2⟩ := col_dp dp
    exact ⟨_, rfl, _, rfl, r, _, 1, _, rfl, rfl, hr2, rfl, _, _, rfl, rfl, _, rfl, r, _, 2, _, rfl, rfl, hr2, rfl, _, _, rfl, rfl, q c hc⟩

/-! ### faults -/
abbrev Trn := Int × Str × Int × Int
def trD (t : Trn) : PyData := .tuple [.int t.1, .str t.2.1, .int t.2.2.1, .int t.2.2.2]
abbrev Flt := Str × Option Int
def btwF (ws : List Wsh) (p t : Trn) : Option Flt :=
  if t.1 - p.2.2.2 < 0 then some ("over", some (-(t.1 - p.2.2.2))) else
    match washF ws (some p.2.1) t.2.1 with
    | none => some ("never", none)
    | some h => if t.1 - p.2.2.2 < h then some ("spoilt", some (h - (t.1 - p.2.2.2))) else none
def witF (cs : List Col) (t : Trn) : Option Flt := match colF cs t.2.1 with
  | none => none
  | some c => if 0 < t.1 + c.2.1 + c.2.2.1 - t.2.2.1 then some ("early", some (t.1 + c.2.1 + c.2.2.1 - t.2.2.1)) else none
def oneF (cs : List Col) (ws : List Wsh) (p : Option Trn) (t : Trn) : Option Flt := match p.bind fun p => btwF ws p t with
  | none => witF cs t
  | some f => some f
def fauF (cs : List Col) (ws : List Wsh) : Option Trn → Nat → List Trn → Option (Nat × Flt)
  | _, _, [] => none
  | p, i, t :: ts => match oneF cs ws p t with
    | some f => some (i, f)
    | none => fauF cs ws (some t) (i + 1) ts
def fbD : Option Flt → PyData
  | none => .none
  | some f => .tuple [.str f.1, optD f.2]
def flD : Option (Nat × Flt) → PyData
  | none => .none
  | some f => .tuple [.int (f.1 : Nat), .str f.2.1, optD f.2.2]
theorem tr_dp {H : Hp} {x : V} {t : Trn} (h : Dp K H x (trD t)) : ∃ p, x = .ref p ∧ SqT K H p [.int t.1, .str t.2.1, .int t.2.2.1, .int t.2.2.2] := by
  obtain ⟨p, xs, rfl, hp, hx⟩ := dp_tup h
  obtain ⟨xa, xc, xe, xg, rfl, qa, qc, qe, qg⟩ := dp_four hx
  rw [dp_int qa, dp_str qc, dp_int qe, dp_int qg] at hp
  exact ⟨p, rfl, hp⟩
def InC (cs : List Col) (z : Str) : Prop := ∃ c ∈ cs, c.1 = z
theorem colF_some {cs : List Col} {z : Str} (h : InC cs z) : ∃ c, colF cs z = some c := by
  unfold colF
  cases e : cs.find? fun c => decide (c.1 = z) with
  | some c => exact ⟨c, rfl⟩
  | none =>
    obtain ⟨c, hc, rfl⟩ := h
    have := List.find?_eq_none.mp e c hc
    simp at this

end
end Pot

namespace Pot
open PySem PySem.Spec PyProof.Rows L2
section
variable {P : Program} {w : World} {K : PySem.W.Frag} {mg : Str → Option Value} {base : Heap}
/-! ### the law's own washings -/
abbrev s__law_wash : Stmt := topS 17
def n__law_wash : List Str := ["_law_hues", "_law_ahead", "_law_behind", "_law_found", "_law_row"]
theorem sc__law_wash : FnScope n__law_wash ["_law_hues", "_law_ahead", "_law_behind"] (defScope s__law_wash) := ⟨rfl, rfl, rfl, by decide +kernel, rfl, by decide +kernel, by decide +kernel⟩
def spLWash (K : PySem.W.Frag) : Sp := fun vs H Q _ => ∃ (v : V) (cs : List Col) (ws : List Wsh) (a : Option Str) (b : Str), vs = [v, namV a, .str b] ∧ Dp K H v (palD cs ws) ∧ PalOk cs ws ∧ (∀ z, a = some z → Nm z) ∧ Nm b ∧ ∀ H', Same H H' → Q (optV (washF ws a b)) H'
theorem ok_lwash {f : Addr} {fd : FuncData} {k : Nat} (F : Fun K "_law_wash" "_law_wash" s__law_wash f fd) : FnOk P w K mg base CX0 (k + 1) f fd ["_law_hues", "_law_ahead", "_law_behind"] (spLWash K) := by
  refine F.ok sc__law_wash (fun vs H Q E h => ?_) (fun cdv A outer s H vs Q E hr h => ?_)
  · obtain ⟨v, cs, ws, a, b, rfl, _⟩ := h
    rfl
  · obtain ⟨v, cs, ws, a, b, rfl, hp, ok, la, lb, q⟩ := h
    have nd := sc__law_wash.nd
    have hu64 := hr.units
    /- 0 _law_hues, 1 _law_ahead, 2 _law_behind, 3 _law_found, 4 _law_row -/
    obtain ⟨p, c, w2, xs, ys, rfl, hp, hc, hx, hw, hy⟩ := pal_dp hp
    refine ⟨_, (pss_cons (ps_setLc (i := 3) (own := [("_law_row", 4)]) rfl nd rfl rfl (sw_true rfl rfl rfl (by decide +kernel)) (ki_tup (K := K) (pe_ix (kx_tup (K := K)) (pv 0) pe_int (fun _ _ => rfl))) (blkOk_by (N := n__law_wash) (sc := defScope s__law_wash) (by decide +kernel)) (fun _ _ _ _ _ => (pg_name (i := 4) nd rfl (.inl rfl))) (fun _ _ _ _ _ => (pts_one (pt_cmpR (ko_eq (K := K) hu64) (pe_slice (kl_tup (K := K)) (pv 4) po_none (po_some pe_int)) (pe_tup (pa_cons (pv 1) (pa_cons (pv 2) pa_nil))) (nomark _)))) (fun _ _ _ _ _ => (pe_ix (kx_tup (K := K)) (pv 4) pe_int (fun _ _ => rfl))))
      (pss_one (ps_ret (pe_ifExp (pt_cmpR (ko_ne (K := K) hu64) (pv 3) (pe_lst pa_nil) (nomark _)) (pe_ix (kx_list (K := K)) (pv 3) pe_int (fun _ _ => rfl)) pe_int)))), ?_⟩
    refine ⟨_, rfl, p, _, 1, .ref w2, rfl, rfl, hp, rfl, w2, rfl, ⟨_, hw⟩, fun D nD => ?_⟩
    have lws : ys.length = ws.length := dpAll_map_len hy
    refine lc_it (walk_tup (xs := ys)) (fun i H2 => Same H H2 ∧ H2 D = some (.lst (((ws.take i).filter (mat a b)).map fun r => optV r.2.2))) ⟨same_upd nD, upd_same⟩ (fun i H2 _ h => same_tup h.1 hw) ?_ ?_
    · rintro i x H2 H3 hi ⟨sm, hD⟩ ⟨rfl, gx⟩
      obtain ⟨r, gr, dp⟩ := dpAll_map_at hy gx
      obtain ⟨t, rfl, ht⟩ := wash_dp dp
      have rok := ok.wn r (List.mem_of_getElem? gr)
      have sg : ∀ {z : Str}, Nm z → ∀ x ∈ z.cps.toList, x < 1114112 := fun h x hx => Nat.lt_trans (h.ascii x hx) (by decide)
      have ht3 := same_tup sm ht
      have ec : cutV [V.str r.1, .str r.2.1, optV r.2.2] none (some 2) = [V.str r.1, .str r.2.1] := by rw [show (2 : Int) = ((2 : Nat) : Int) from rfl, cut_head]; rfl
      refine ⟨rfl, _, rfl, 2, rfl, t, _, rfl, ht3, (fun h => absurd h.2 (by rw [show (2 : Int) = ((2 : Nat) : Int) from rfl, HT.sIx_nat]; exact (by decide : ¬ min 2 3 = 3))), fun _ t1 n1 => ?_⟩
      rw [ec]
      refine ⟨_, rfl, _, rfl, (by show 2 ≤ sizeLine; decide), fun t2 n2 => ?_⟩
      have sm2 := same_upd (o := .tup [.str r.1, .str r.2.1]) n1
      have sm3 := same_upd (o := .tup [namV a, .str b]) n2
      have h1 : upd (upd H3 t1 (.tup [.str r.1, .str r.2.1])) t2 (.tup [namV a, .str b]) t1 = some (.tup [.str r.1, .str r.2.1]) := sm3 _ _ upd_same
      have h2 : upd (upd H3 t1 (.tup [.str r.1, .str r.2.1])) t2 (.tup [namV a, .str b]) t2 = some (.tup [namV a, .str b]) := upd_same
      have sm4 := sm.trans (sm2.trans sm3)
      have hD2 := sm3 _ _ (sm2 _ _ hD)
      generalize upd (upd H3 t1 (.tup [.str r.1, .str r.2.1])) t2 (.tup [namV a, .str b]) = H4 at h1 h2 sm4 hD2 ⊢
      refine ⟨.tuple [.str r.1, .str r.2.1], .tuple [namD a, .str b], .tup (.inl (.inl h1)) (.cons (.str _) (.cons (.str _) .nil)), .tup (.inl (.inl h2)) (.cons (nam_dp a) (.cons (.str _) .nil)), shaped_two rok.1.2 rok.2.1.2, shaped_nam (fun z e => sg (la z e)) (sg lb), _, rfl, ?_⟩
      rw [eqv_mat]
      rw [List.take_add_one, gr, Option.toList_some, List.filter_append]
      cases hm : mat a b r with
      | true =>
        rw [if_pos rfl]
        refine ⟨_, rfl, t, _, 2, _, rfl, rfl, same_tup sm4 ht, rfl, _, hD2, ?_, same_put sm4 nD, ?_⟩
        · rw [List.length_map]
          refine Nat.lt_of_le_of_lt (Nat.le_trans (List.length_filter_le ..) (List.length_take_le' ..)) ?_
          exact Nat.lt_of_le_of_lt ok.nw (by decide)
        · rw [upd_same]; simp [hm]
      | false =>
        rw [if_neg Bool.false_ne_true]
        refine ⟨sm4, ?_⟩
        rw [hD2]; simp [hm]
    · rintro H2 ⟨sm, hD⟩
      rw [lws, List.take_length] at hD
      refine ⟨_, rfl, Nat.zero_le _, fun e ne => ?_⟩
      have sm2 := same_upd (o := .lst []) ne
      have hD := sm2 _ _ hD
      have he : upd H2 e (.lst []) e = _ := upd_same
      have sm := sm.trans sm2
      generalize upd H2 e (.lst []) = H3 at sm hD he ⊢
      refine ⟨.list ((ws.filter (mat a b)).map fun r => optD r.2.2), .list [], .lst (SqL.of hD) (dpAll_opts _), .lst (SqL.of he) .nil, shaped_opts _, shaped_opts ([] : List Wsh), _, rfl, ?_⟩
      rw [washF_filter] at q
      cases ef : ws.filter (mat a b) with
      | nil =>
        rw [ef] at q
        show if (!PyData.eqv (.list []) (.list [])) = true then _ else _
        rw [if_neg (by intro z; cases z)]
        exact q _ sm
      | cons r l =>
        rw [ef] at q hD
        show if (!PyData.eqv (.list (optD r.2.2 :: l.map fun r => optD r.2.2)) (.list [])) = true then _ else _
        rw [if_pos (by rfl)]
        exact ⟨_, rfl, D, _, 0, _, rfl, rfl, SqL.of hD, atI_nat (j := 0) rfl, q _ sm⟩
/-! ### the law's own hours of a colour -/
def hrD (c : Col) : PyData := .tuple [.int c.2.1, .int c.2.2.1]
theorem colF_head {cs : List Col} {b : Str} {c : Col} (h : colF cs b = some c) : ∃ l, cs.filter (fun c => decide (c.1 = b)) = c :: l := by
  unfold colF at h
  rw [← List.head?_filter] at h
  cases e : cs.filter (fun c => decide (c.1 = b)) with
  | nil => rw [e] at h; cases h
  | cons x l => rw [e] at h; cases h; exact ⟨l, rfl⟩
abbrev s__law_hours : Stmt := topS 18
def n__law_hours : List Str := ["_law_hues", "_law_colour", "_law_row"]
theorem sc__law_hours : FnScope n__law_hours ["_law_hues", "_law_colour"] (defScope s__law_hours) := ⟨rfl, rfl, rfl, by decide +kernel, rfl, by decide +kernel, by decide +kernel⟩
def spLHours (K : PySem.W.Frag) : Sp := fun vs H Q _ => ∃ (v : V) (cs : List Col) (ws : List Wsh) (b : Str), vs = [v, .str b] ∧ Dp K H v (palD cs ws) ∧ cs.length ≤ 20 ∧ InC cs b ∧ ∀ H' y c, Same H H' → colF cs b = some c → SqT K H' y [.int c.2.1, .int c.2.2.1] → Q (.ref y) H'
theorem ok_lhours {f : Addr} {fd : FuncData} {k : Nat} (F : Fun K "_law_hours" "_law_hours" s__law_hours f fd) : FnOk P w K mg base CX0 (k + 1) f fd ["_law_hues", "_law_colour"] (spLHours K) := by
  refine F.ok sc__law_hours (fun vs H Q E h => ?_) (fun cdv A outer s H vs Q E hr h => ?_)
  · obtain ⟨v, cs, ws, b, rfl, _⟩ := h
    rfl
  · obtain ⟨v, cs, ws, b, rfl, hp, l20, hin, q⟩ := h
    have nd := sc__law_hours.nd
    have hu64 := hr.units
    /- 0 _law_hues, 1 _law_colour, 2 _law_row -/
    obtain ⟨p, c, w2, xs, ys, rfl, hp, hc, hx, hw, hy⟩ := pal_dp hp
    refine ⟨_, (pss_one (ps_ret (pe_ix (kx_list (K := K)) (pe_lc (own := [("_law_row", 2)]) rfl nd (ki_tup (K := K) (pe_ix (kx_tup (K := K)) (pv 0) pe_int (fun _ _ => rfl))) (blkOk_by (N := n__law_hours) (sc := defScope s__law_hours) (by decide +kernel)) (fun _ _ _ _ _ => (pg_name (i := 2) nd rfl (.inl rfl))) (fun _ _ _ _ _ => (pts_one (pt_cmpR op_eq (pe_ix (kx_tup (K := K)) (pv 2) pe_int (fun _ _ => rfl)) (pv 1) (nomark _)))) (fun _ _ _ _ _ => (pe_slice (kl_tup (K := K)) (pv 2) (po_some pe_int) (po_some pe_int)))) pe_int (fun _ _ => rfl)))), ?_⟩
    refine ⟨_, rfl, p, _, 0, .ref c, rfl, rfl, hp, rfl, c, rfl, ⟨_, hc⟩, fun D nD => ?_⟩
    obtain ⟨c0, ec0⟩ := colF_some hin
    obtain ⟨l0, el0⟩ := colF_head ec0
    have lxs : xs.length = cs.length := dpAll_map_len hx
    refine lc_it (walk_tup (xs := xs)) (PvD K H [] D fun i => ((cs.take i).filter (fun c => decide (c.1 = b))).map hrD) (pd_start nD rfl) (fun i H2 _ h => same_tup h.sm hc) ?_ ?_
    · rintro i x H2 H3 hi pv ⟨rfl, gx⟩
      obtain ⟨r, gr, dp⟩ := dpAll_map_at hx gx
      obtain ⟨t, rfl, ht⟩ := col_dp dp
      have ht3 := same_tup pv.sm ht
      refine ⟨rfl, _, rfl, t, _, 0, _, rfl, rfl, ht3, rfl, _, rfl, rfl, _, rfl, ?_⟩
      rw [decS]
      refine ite2 (fun hb => ?_) (fun hb => ?_)
      · have ec : cutV [V.str r.1, .int r.2.1, .int r.2.2.1, .int r.2.2.2] (some 1) (some 3) = [V.int r.2.1, .int r.2.2.1] := rfl
        refine ⟨_, rfl, 1, rfl, 3, rfl, t, _, rfl, ht3, (fun h => absurd h.1 (by rw [show (1 : Int) = ((1 : Nat) : Int) from rfl, HT.sIx_nat]; exact (by decide : ¬ min 1 4 = 0))), fun _ t1 n1 => ?_⟩
        rw [ec]
        exact pd_put nD pv (same_upd n1) (.tup (.inl (.inl (off_new (pv.live live_nil) n1))) (.cons (.int _) (.cons (.int _) .nil))) (filt_yes hrD gr hb) (filt_len hrD _ (by omega))
      · exact pd_skip pv (Same.refl _) (filt_no hrD gr (Bool.not_eq_true _ |>.mp hb))
    · intro H2 pv
      obtain ⟨s2, us, fD, da⟩ := pd_end live_nil nD pv (filt_all hrD _ (by omega))
      rw [el0] at da
      cases da with
      | cons d0 da =>
        obtain ⟨y, vs, rfl, hy2, dv⟩ := dp_tup d0
        obtain ⟨u1, u2, rfl, e1, e2⟩ := dp_two dv
        rw [dp_int e1, dp_int e2] at hy2
        exact ⟨D, _, 0, _, rfl, rfl, SqL.of (at_off fD), atI_nat (j := 0) rfl, q _ _ c0 s2 ec0 (sqt_off hy2)⟩

end
end Pot

namespace Pot
open PySem PySem.Spec PyProof.Rows L2
section
variable {P : Program} {w : World} {K : PySem.W.Frag} {mg : Str → Option Value} {base : Heap}
/-! ### turns without fault -/
def St (cs : List Col) (ws : List Wsh) (f : Int) (l : Option Str) (t : Trn) : Prop := ∃ c h, colF cs t.2.1 = some c ∧ washF ws l t.2.1 = some h ∧ f + h ≤ t.1 ∧ t.1 + c.2.1 + c.2.2.1 ≤ t.2.2.1 ∧ t.2.2.1 < t.2.2.2 ∧ t.2.2.2 ≤ f + 400
def Ch (cs : List Col) (ws : List Wsh) : Int → Option Str → List Trn → Prop
  | _, _, [] => True
  | f, l, t :: ts => St cs ws f l t ∧ Ch cs ws t.2.2.2 (some t.2.1) ts
def lastE : Int → List Trn → Int
  | f, [] => f
  | _, t :: ts => lastE t.2.2.2 ts
def lastN : Option Str → List Trn → Option Str
  | l, [] => l
  | _, t :: ts => lastN (some t.2.1) ts
theorem lastE_app (t : Trn) : ∀ (ts : List Trn) (f : Int), lastE f (ts ++ [t]) = t.2.2.2
  | [], _ => rfl
  | u :: ts, _ => lastE_app t ts u.2.2.2
theorem lastN_app (t : Trn) : ∀ (ts : List Trn) (l : Option Str), lastN l (ts ++ [t]) = some t.2.1
  | [], _ => rfl
  | u :: ts, _ => lastN_app t ts (some u.2.1)
theorem ch_app {cs : List Col} {ws : List Wsh} {t : Trn} : ∀ {ts : List Trn} {f : Int} {l : Option Str}, Ch cs ws f l ts → St cs ws (lastE f ts) (lastN l ts) t → Ch cs ws f l (ts ++ [t])
  | [], _, _, _, h => ⟨h, trivial⟩
  | _ :: _, _, _, c, h => ⟨c.1, ch_app c.2 h⟩
def shf (by_ : Int) (t : Trn) : Trn := (t.1 + by_, t.2.1, t.2.2.1 + by_, t.2.2.2 + by_)
theorem ch_shf {cs : List Col} {ws : List Wsh} (b : Int) : ∀ {ts : List Trn} {f : Int} {l : Option Str}, Ch cs ws f l ts → Ch cs ws (f + b) l (ts.map (shf b))
  | [], _, _, _ => trivial
  | t :: _, _, _, ⟨⟨c, h, a1, a2, a3, a4, a5, a6⟩, r⟩ => ⟨⟨c, h, a1, a2, by show _ ≤ t.1 + b; omega, by show t.1 + b + _ + _ ≤ t.2.2.1 + b; omega, by show t.2.2.1 + b < t.2.2.2 + b; omega, by show t.2.2.2 + b ≤ _; omega⟩, ch_shf b r⟩
theorem lastE_shf (b : Int) : ∀ (ts : List Trn) (f : Int), lastE (f + b) (ts.map (shf b)) = lastE f ts + b
  | [], _ => rfl
  | t :: ts, _ => lastE_shf b ts t.2.2.2
theorem ch_none {cs : List Col} {ws : List Wsh} : ∀ {ts : List Trn} {f : Int} {l : Option Str} {p : Option Trn} {i : Nat}, Ch cs ws f l ts → (∀ q, p = some q → q.2.2.2 = f ∧ l = some q.2.1) → (∀ r ∈ ws, ∀ i, r.2.2 = some i → 0 ≤ i) → fauF cs ws p i ts = none
  | [], _, _, _, _, _, _, _ => by unfold fauF; rfl
  | t :: ts, f, l, p, i, ⟨⟨c, h, a1, a2, a3, a4, a5, a6⟩, r⟩, hp, hw => by
    have h0 : 0 ≤ h := by
      rw [washF_filter] at a2
      split at a2
      · cases a2; exact Int.le_refl _
      · rename_i r0 l0 e
        exact hw r0 (List.mem_filter.mp (show r0 ∈ _ by rw [e]; exact List.mem_cons_self)).1 h a2
    have e1 : (p.bind fun p => btwF ws p t) = none := by
      cases p with
      | none => rfl
      | some q =>
        obtain ⟨q1, q2⟩ := hp q rfl
        show btwF ws q t = none
        unfold btwF
        rw [if_neg (by omega), ← q2, a2]
        show (if t.1 - q.2.2.2 < h then _ else none) = none
        rw [if_neg (by omega)]
    have e2 : oneF cs ws p t = none := by
      unfold oneF
      rw [e1]
      show witF cs t = none
      unfold witF
      rw [a1]
      show (if 0 < t.1 + c.2.1 + c.2.2.1 - t.2.2.1 then _ else none) = none
      rw [if_neg (by omega)]
    unfold fauF
    rw [e2]
    exact ch_none r (fun q e => by cases e; exact ⟨rfl, rfl⟩) hw
theorem colF_mem {cs : List Col} {z : Str} {c : Col} (h : colF cs z = some c) : c ∈ cs ∧ c.1 = z := by
  unfold colF at h
  exact ⟨List.mem_of_find?_eq_some h, by have := List.find?_some h; simpa using this⟩
theorem colF_self {c : Col} : ∀ {cs : List Col}, (cs.map (·.1)).Nodup → c ∈ cs → colF cs c.1 = some c
  | [], _, h => (List.not_mem_nil h).elim
  | x :: cs, nd, h => by
    rw [List.map_cons, List.nodup_cons] at nd
    unfold colF
    rw [List.find?_cons]
    by_cases e : x.1 = c.1
    · rw [decide_eq_true e]
      rcases List.mem_cons.mp h with rfl | h
      · rfl
      · exact absurd (List.mem_map.mpr ⟨c, h, e.symm⟩) nd.1
    · rw [decide_eq_false e]
      rcases List.mem_cons.mp h with rfl | h
      · exact absurd rfl e
      · exact colF_self nd.2 h
theorem washF_pos {ws : List Wsh} {l : Option Str} {b : Str} {h : Int} (hw : ∀ r ∈ ws, ∀ i, r.2.2 = some i → 0 ≤ i ∧ i ≤ 99) (e : washF ws l b = some h) : 0 ≤ h ∧ h ≤ 99 := by
  rw [washF_filter] at e
  split at e
  · cases e; decide
  · rename_i r0 l0 e0
    exact hw r0 (List.mem_filter.mp (show r0 ∈ _ by rw [e0]; exact List.mem_cons_self)).1 h e
theorem ch_bounds {cs : List Col} {ws : List Wsh} (pb : PalC cs ws) : ∀ {ts : List Trn} {f : Int} {l : Option Str}, Ch cs ws f l ts → f ≤ lastE f ts ∧ ∀ t ∈ ts, f ≤ t.1 ∧ t.1 < t.2.2.1 ∧ t.2.2.1 < t.2.2.2 ∧ t.2.2.2 ≤ lastE f ts ∧ InC cs t.2.1
  | [], _, _, _ => ⟨Int.le_refl _, fun _ h => (List.not_mem_nil h).elim⟩
  | t :: ts, f, l, ⟨⟨c, h, a1, a2, a3, a4, a5, a6⟩, r⟩ => by
    obtain ⟨i1, i2⟩ := ch_bounds pb r
    have h0 := (washF_pos pb.wa a2).1
    obtain ⟨m1, m2⟩ := colF_mem a1
    obtain ⟨c1, c2, c3, c4⟩ := pb.ch c m1
    refine ⟨by show f ≤ lastE t.2.2.2 ts; omega, fun u hu => ?_⟩
    rcases List.mem_cons.mp hu with rfl | hu
    · exact ⟨by omega, by omega, by omega, i1, c, m1, m2⟩
    · obtain ⟨b1, b2, b3, b4, b5⟩ := i2 u hu
      exact ⟨by omega, b2, b3, b4, b5⟩
theorem ch_len {cs : List Col} {ws : List Wsh} : ∀ {ts : List Trn} {f : Int} {l : Option Str}, Ch cs ws f l ts → lastE f ts ≤ f + 400 * (ts.length : Int)
  | [], f, _, _ => by show f ≤ f + 400 * ((0 : Nat) : Int); omega
  | t :: ts, f, l, ⟨⟨c, h, a1, a2, a3, a4, a5, a6⟩, r⟩ => by
    have := ch_len r
    show lastE t.2.2.2 ts ≤ f + 400 * ((ts.length + 1 : Nat) : Int)
    omega
theorem some_ne {cs : List Col} {ws : List Wsh} (pb : PalC cs ws) {l : Option Str} (hl : ∀ z, l = some z → InC cs z) : ∃ c ∈ cs, (washF ws l c.1).isSome = true := by
  have none_of : ∀ {b : Str}, (∀ r ∈ ws, ¬ (some r.1 = l ∧ r.2.1 = b)) → (washF ws l b).isSome = true := fun h => by
    rw [washF_none fun j r _ g => h r (List.mem_of_getElem? g)]; rfl
  cases l with
  | none =>
    have h0 := pb.ne
    exact ⟨cs[0], List.getElem_mem h0, none_of fun r _ h => by cases h.1⟩
  | some z =>
    obtain ⟨c, hc, rfl⟩ := hl z rfl
    exact ⟨c, hc, none_of fun r hr h => pb.wn r hr (by rw [h.2]; exact Option.some.inj h.1)⟩
abbrev s__law_turns : Stmt := topS 19
def n__law_turns : List Str := ["_law_box_here", "_law_hues", "_law_many", "_law_found", "_law_free", "_law_over", "_law_k", "_law_some", "_law_name", "_law_charge", "_law_melt", "_law_gathers", "_law_at", "_law_begin", "_law_by", "_law_colour", "_law_end", "_law_row"]
theorem sc__law_turns : FnScope n__law_turns ["_law_box_here", "_law_hues", "_law_many"] (defScope s__law_turns) := ⟨rfl, rfl, rfl, by decide +kernel, rfl, by decide +kernel, by decide +kernel⟩
def spTurns (K : PySem.W.Frag) : Sp := fun vs H Q _ => ∃ (b : Addr) (n m : Nat) (v : V) (cs : List Col) (ws : List Wsh), vs = [.ref b, v, .int (m : Nat)] ∧ Bp H b n ∧ n + 5000 < 2 ^ 40 ∧ Dp K (off H [b]) v (palD cs ws) ∧ PalC cs ws ∧ m ≤ 31 ∧
  ∀ (H' : Hp) (R : Addr) (xs : List V) (ts : List Trn) (f0 : Int), Bp H' b (n + 500) → Sm [b] H H' → H R = none → H' R = some (.lst xs) → DpAll K (off H' [b]) xs (ts.map trD) → ts.length = m → 0 ≤ f0 → Ch cs ws f0 none ts → lastE f0 ts ≤ 1000000 → Q (.ref R) H'
set_option maxHeartbeats 2000000 in
theorem ok_lwturns {f : Addr} {fd : FuncData} {k : Nat} (F : Fun K "_law_turns" "_law_turns" s__law_turns f fd) (T : Txt mg) (c__law_take : Cl P w K mg base (k + 1) "_law_take" spTake) (c__law_wash : Cl P w K mg base (k + 1) "_law_wash" (spLWash K)) : FnOk P w K mg base CX0 (k + 2) f fd ["_law_box_here", "_law_hues", "_law_many"] (spTurns K) := by
  refine F.ok sc__law_turns (fun vs H Q E h => ?_) (fun cdv A outer s H vs Q E hr h => ?_)
  · obtain ⟨b, n, m, v, cs, ws, rfl, _⟩ := h
    rfl
  · obtain ⟨b, n, m, v, cs, ws, rfl, B, hn, dp, pb, hm, q⟩ := h
    have nd := sc__law_turns.nd
    /- 0 _law_box_here, 1 _law_hues, 2 _law_many, 3 _law_found, 4 _law_free, 5 _law_over, 6 _law_k, 7 _law_some, 8 _law_name, 9 _law_charge, 10 _law_melt, 11 _law_gathers, 12 _law_at, 13 _law_begin, 14 _law_by, 15 _law_colour, 16 _law_end, 17 _law_row -/
    refine ⟨_, (pss_cons (ps_asg (pe_tup (pa_cons (pe_lst pa_nil) (pa_cons (pe_ix (kx_list (K := K)) (pe_lst (pa_cons pe_int (pa_cons pe_int (pa_cons (pe_cl c__law_take hr (by omega) (by rfl) (pa_cons (pv 0) (pa_cons pe_int pa_nil))) pa_nil)))) (pe_cl c__law_take hr (by omega) (by rfl) (pa_cons (pv 0) (pa_cons pe_int pa_nil))) (fun _ _ => rfl)) (pa_cons pe_non pa_nil)))) (kg_tup (K := K) (n := 3) (pgs_cons (pg_name (i := 3) nd rfl (.inl rfl)) (pgs_cons (pg_name (i := 4) nd rfl (.inl rfl)) (pgs_cons (pg_name (i := 5) nd rfl (.inr rfl)) pgs_nil)))))
      (pss_cons (ps_for PassesOwn.never rfl (pi_range1 (by rfl) T.range (pa_cons (pv 2) pa_nil)) (pg_name (i := 6) nd rfl (.inl rfl))
          (pss_cons (ps_setLc (i := 7) (own := [("_law_row", 17)]) rfl nd rfl rfl (sw_true rfl rfl rfl (by decide +kernel)) (ki_tup (K := K) (pe_ix (kx_tup (K := K)) (pv 1) pe_int (fun _ _ => rfl))) (blkOk_by (N := n__law_turns) (sc := defScope s__law_turns) (by decide +kernel)) (fun _ _ _ _ _ => (pg_name (i := 17) nd rfl (.inl rfl))) (fun _ _ _ _ _ => (pts_one (pt_cmpR op_notN (pe_cl c__law_wash hr (by omega) (by rfl) (pa_cons (pv 1) (pa_cons (pv 5) (pa_cons (pe_ix (kx_tup (K := K)) (pv 17) pe_int (fun _ _ => rfl)) pa_nil)))) pe_non (nomark _)))) (fun _ _ _ _ _ => (pv 17)))
          (pss_cons (ps_asg (pe_ix (kx_list (K := K)) (pv 7) (pe_cl c__law_take hr (by omega) (by rfl) (pa_cons (pv 0) (pa_cons (pe_callB (kc_len (K := K)) (by rfl) T.len PySem.boot_len (pa_cons (pv 7) pa_nil)) pa_nil))) (fun _ _ => rfl)) (kg_tup (K := K) (n := 4) (pgs_cons (pg_name (i := 8) nd rfl (.inl rfl)) (pgs_cons (pg_name (i := 9) nd rfl (.inl rfl)) (pgs_cons (pg_name (i := 10) nd rfl (.inl rfl)) (pgs_cons (pg_name (i := 11) nd rfl (.inl rfl)) pgs_nil))))))
          (pss_cons (ps_set (i := 12) nd rfl (.inl rfl) (pe_op op_add (pe_op op_add (pv 4) (pe_cl c__law_wash hr (by omega) (by rfl) (pa_cons (pv 1) (pa_cons (pv 5) (pa_cons (pv 8) pa_nil))))) (pe_ix (kx_list (K := K)) (pe_lst (pa_cons pe_int (pa_cons pe_int (pa_cons (pe_cl c__law_take hr (by omega) (by rfl) (pa_cons (pv 0) (pa_cons pe_int pa_nil))) (pa_cons (pe_cl c__law_take hr (by omega) (by rfl) (pa_cons (pv 0) (pa_cons pe_int pa_nil))) pa_nil))))) (pe_cl c__law_take hr (by omega) (by rfl) (pa_cons (pv 0) (pa_cons pe_int pa_nil))) (fun _ _ => rfl))))
          (pss_cons (ps_set (i := 13) nd rfl (.inl rfl) (pe_op op_add (pe_op op_add (pe_op op_add (pv 12) (pv 9)) (pv 10)) (pe_ix (kx_list (K := K)) (pe_lst (pa_cons pe_int (pa_cons pe_int (pa_cons pe_int (pa_cons (pe_cl c__law_take hr (by omega) (by rfl) (pa_cons (pv 0) (pa_cons pe_int pa_nil))) pa_nil))))) (pe_cl c__law_take hr (by omega) (by rfl) (pa_cons (pv 0) (pa_cons pe_int pa_nil))) (fun _ _ => rfl))))
          (pss_cons (ps_asg (pe_tup (pa_cons (pe_op op_add (pv 13) (pe_ix (kx_list (K := K)) (pe_lst (pa_cons pe_int (pa_cons (pe_op op_add pe_int (pe_cl c__law_take hr (by omega) (by rfl) (pa_cons (pv 0) (pa_cons pe_int pa_nil)))) (pa_cons (pe_op op_add pe_int (pe_cl c__law_take hr (by omega) (by rfl) (pa_cons (pv 0) (pa_cons pe_int pa_nil)))) pa_nil)))) (pe_cl c__law_take hr (by omega) (by rfl) (pa_cons (pv 0) (pa_cons pe_int pa_nil))) (fun _ _ => rfl))) (pa_cons (pv 8) pa_nil))) (kg_tup (K := K) (n := 2) (pgs_cons (pg_name (i := 4) nd rfl (.inl rfl)) (pgs_cons (pg_name (i := 5) nd rfl (.inr rfl)) pgs_nil))))
          (pss_one (ps_expr (pe_bm PySem.F.plainAttrs_list PySem.F.slot_list_append PySem.F.type_list_append mt_append (pv 3) (pa_cons (pe_tup (pa_cons (pv 12) (pa_cons (pv 8) (pa_cons (pv 13) (pa_cons (pv 4) pa_nil))))) pa_nil))))))))))
      (pss_cons (ps_set (i := 14) nd rfl (.inr rfl) (pe_op op_mul (pe_op op_sub (pe_op op_pow pe_int pe_int) (pv 4)) (pe_callTy call_int1 (by rfl) T.int (by decide +kernel) (pa_cons (pe_cmpR op_eq (pe_cl c__law_take hr (by omega) (by rfl) (pa_cons (pv 0) (pa_cons pe_int pa_nil))) pe_int (nomark _)) pa_nil))))
      (pss_one (ps_ret (pe_lc (own := [("_law_at", 12), ("_law_colour", 15), ("_law_begin", 13), ("_law_end", 16)]) rfl nd (ki_list (K := K) (pv 3)) (blkOk_by (N := n__law_turns) (sc := defScope s__law_turns) (by decide +kernel)) (fun _ _ _ _ _ => (kg_tup (K := K) (n := 4) (pgs_cons (pg_name (i := 12) nd rfl (.inl rfl)) (pgs_cons (pg_name (i := 15) nd rfl (.inl rfl)) (pgs_cons (pg_name (i := 13) nd rfl (.inl rfl)) (pgs_cons (pg_name (i := 16) nd rfl (.inl rfl)) pgs_nil)))))) (fun _ _ _ _ _ => pts_nil) (fun _ _ _ _ _ => (pe_tup (pa_cons (pe_op op_add (pv 12) (pv 14)) (pa_cons (pv 15) (pa_cons (pe_op op_add (pv 13) (pv 14)) (pa_cons (pe_op op_add (pv 16) (pv 14)) pa_nil)))))))))))), ?_⟩
    have l12 := pb.le
    have l1 := pb.ne
    refine ⟨Nat.zero_le _, fun R nR => ?_⟩
    have M : Acc K H b R [(v, palD cs ws)] n [] [] (upd H R (.lst [])) := Acc.start B (Same.refl _) nR (fun q hq => by rw [List.mem_singleton.mp hq]; exact dp)
    generalize upd H R (.lst []) = H1 at M ⊢
    refine ⟨_, rfl, b, 60, _, rfl, (by decide), (by decide), M.st, by omega, fun H2 r2 r20 r21 B2 s2 => ?_⟩
    have M := M.drawn B2 s2
    refine ⟨(by show 3 ≤ sizeLine; decide), fun a1 na1 => ?_⟩
    refine ⟨_, rfl, b, 3, _, rfl, (by decide), (by decide), (M.put na1).st, by omega, fun H3 r3 r30 r31 B3 s3 => ?_⟩
    have h1 := sm1_at s3 (M.st.ne na1) upd_same
    have M := (M.put na1).drawn B3 s3
    obtain ⟨f0, ef, f00, f01⟩ : ∃ x : Int, atI [V.int 0, .int 1, .int r2] r3 = some (.int x) ∧ 0 ≤ x ∧ x ≤ 59 := by
      have h : r3 = 0 ∨ r3 = 1 ∨ r3 = 2 := by omega
      rcases h with rfl | rfl | rfl
      · exact ⟨_, rfl, by omega, by omega⟩
      · exact ⟨_, rfl, by omega, by omega⟩
      · exact ⟨_, rfl, by omega, by omega⟩
    refine ⟨a1, _, r3, _, rfl, rfl, SqL.of h1, ef, (by show 3 ≤ sizeLine; decide), fun t0 nt0 => ?_⟩
    have M := M.put (o := .tup [.ref R, .int f0, .non]) nt0
    refine ⟨t0, _, rfl, .inl (.inl upd_same), rfl, _, _, rfl, _, _, rfl, _, _, rfl, rfl, ?_⟩
    generalize upd H3 t0 (.tup [.ref R, .int f0, .non]) = H4 at M ⊢
    have M := M.mono (show _ ≤ n + 10 by omega)
    clear h1 ef s3 B3 na1 s2 B2 nt0
    refine ⟨_, rfl, _, rfl, (by omega), (by omega), ?_⟩
    have nmI : ∀ {z : Str}, InC cs z → Nm z := fun h => by obtain ⟨c, hc, rfl⟩ := h; exact pb.wd c hc
    refine for_it walk_range (fun i σ H5 => ∃ v6 v7 v8 v9 v10 v11 v12 v13 free l us ts, σ = [some (.ref b), some v, some (.int (m : Nat)), some (.ref R), some (.int free), some (namV l), v6, v7, v8, v9, v10, v11, v12, v13, none, none, none, none] ∧ Acc K H b R [(v, palD cs ws)] (n + 10 + 12 * i) us (ts.map trD) H5 ∧ ts.length = i ∧ Ch cs ws f0 none ts ∧ free = lastE f0 ts ∧ l = lastN none ts ∧ (∀ z, l = some z → InC cs z))
      ⟨_, _, _, _, _, _, _, _, f0, none, [], [], rfl, M, rfl, trivial, rfl, rfl, fun z e => by cases e⟩ (fun _ _ _ _ _ => trivial) ?_ ?_
    · rintro i x σ H5x H5 hi ⟨v6, v7, v8, v9, v10, v11, v12, v13, free, l, us, ts, rfl, M, lts, cts, efr, el, hlI⟩ ⟨rfl, rfl⟩
      have hi2 : i < m := by omega
      have lus : us.length = ts.length := dpAll_map_len M.dR
      have dpP := M.fr _ (List.mem_singleton.mpr rfl)
      obtain ⟨p, ca, w2, cxs, ys, ev, hp, hca, hx, hw, hy⟩ := pal_dp dpP
      have ev : v = .ref p := ev
      have lx : cxs.length = cs.length := dpAll_map_len hx
      -- the colours that may follow
      refine ⟨_, rfl, p, _, 0, .ref ca, ev, rfl, sqt_off hp, rfl, ca, rfl, ⟨_, sqt_off hca⟩, fun D nD => ?_⟩
      refine lc_it (walk_tup (xs := cxs)) (PvD K H5 [R, b] D fun i => ((cs.take i).filter (fun c => (washF ws l c.1).isSome)).map colD) (pd_start nD rfl) (fun i H2 _ h => same_tup h.sm (sqt_off hca)) ?_ ?_
      · rintro j y Hax Ha hj pv ⟨rfl, gx⟩
        obtain ⟨c, gc, dpc⟩ := dpAll_map_at hx gx
        have hcm := List.mem_of_getElem? gc
        obtain ⟨r, rfl, hr2⟩ := col_dp dpc
        refine ⟨rfl, _, rfl, _, rfl, _, rfl, r, _, 0, _, rfl, rfl, same_tup (off_sub.trans pv.sm) hr2, rfl, v, cs, ws, l, c.1, rfl, dp_same (off_sub.trans pv.sm) dpP, pb.ok, (fun z e => nmI (hlI z e)), pb.wd c hcm, fun Hc sC => ?_⟩
        cases ew : washF ws l c.1 with
        | none => exact ⟨rfl, _, rfl, iteF (pd_skip pv sC (filt_no colD gc (by rw [ew]; rfl)))⟩
        | some h => exact ⟨rfl, _, rfl, iteT ⟨_, rfl, pd_put nD pv sC (dp_same ((pv.keep nD).trans (sm_of sC)) dpc) (filt_yes colD gc (by rw [ew]; rfl)) (filt_len colD _ (by omega))⟩⟩
      intro H6 pv
      obtain ⟨s6, us2, fD, daS⟩ := pd_end M.live nD pv (filt_all colD _ (by omega))
      have M := M.same s6
      have lus2 : us2.length = (cs.filter (fun c => (washF ws l c.1).isSome)).length := dpAll_map_len daS
      have lf : 0 < us2.length := by
        obtain ⟨c, hc, h⟩ := some_ne pb hlI
        rw [lus2]
        exact List.length_pos_of_mem (List.mem_filter.mpr ⟨hc, h⟩)
      have lf2 : us2.length ≤ 12 := by rw [lus2]; exact Nat.le_trans (List.length_filter_le ..) l12
      refine ⟨_, rfl, _, rfl, _, rfl, _, _, rfl, .inl ⟨_, SqL.of (at_off fD), rfl⟩, b, _, _, rfl, (by omega), (by omega), M.st, by omega, fun H7 rc c0 c1 B7 s7 => ?_⟩
      have sr7 : Sm [R, b] H6 H7 := sm_one (by simp) s7
      have M := M.drawn B7 s7
      have fD := sr7 _ _ fD
      have daS := dpAll_same sr7 daS
      obtain ⟨rn, rfl⟩ : ∃ rn : Nat, rc = (rn : Int) := ⟨rc.toNat, by omega⟩
      have hrn : rn < us2.length := by omega
      obtain ⟨c, gc, dpc⟩ := dpAll_map_at daS (List.getElem?_eq_getElem hrn)
      obtain ⟨hcm, hcw⟩ := List.mem_filter.mp (List.mem_of_getElem? gc)
      obtain ⟨wh, ew⟩ := Option.isSome_iff_exists.mp hcw
      obtain ⟨w0, w99⟩ := washF_pos pb.wa ew
      obtain ⟨ch1, ch2, ch3, ch4⟩ := pb.ch c hcm
      obtain ⟨r, er, hr2⟩ := col_dp dpc
      refine ⟨D, _, _, _, rfl, rfl, SqL.of (at_off fD), atI_nat (by rw [List.getElem?_eq_getElem hrn, er]), r, _, rfl, sqt_off hr2, rfl, _, _, rfl, _, _, rfl, _, _, rfl, _, _, rfl, rfl, ?_⟩
      -- filled
      refine ⟨_, rfl, _, rfl, _, rfl, _, rfl, v, cs, ws, l, c.1, rfl, dp_off (M.fr _ (List.mem_singleton.mpr rfl)), pb.ok, (fun z e => nmI (hlI z e)), pb.wd c hcm, fun H8 s8 => ?_⟩
      have M := M.same s8
      rw [ew]
      refine ⟨_, _, rfl, rfl, ?_⟩
      refine ⟨_, rfl, b, 4, _, rfl, (by decide), (by decide), M.st, by omega, fun H9 q9 q90 q91 B9 s9 => ?_⟩
      have M := M.drawn B9 s9
      refine ⟨_, rfl, b, 40, _, rfl, (by decide), (by decide), M.st, by omega, fun H10 q10 q100 q101 B10 s10 => ?_⟩
      have M := M.drawn B10 s10
      refine ⟨(by show 4 ≤ sizeLine; decide), fun a1 na1 => ?_⟩
      refine ⟨_, rfl, b, 4, _, rfl, (by decide), (by decide), (M.put na1).st, by omega, fun H11 g g0 g1 B11 s11 => ?_⟩
      have h1 := sm1_at s11 (M.st.ne na1) upd_same
      have M := (M.put na1).drawn B11 s11
      obtain ⟨gp, eg, gp0, gp1⟩ : ∃ x : Int, atI [V.int 0, .int 1, .int q9, .int q10] g = some (.int x) ∧ 0 ≤ x ∧ x ≤ 39 := by
        have h : g = 0 ∨ g = 1 ∨ g = 2 ∨ g = 3 := by omega
        rcases h with rfl | rfl | rfl | rfl
        · exact ⟨_, rfl, by omega, by omega⟩
        · exact ⟨_, rfl, by omega, by omega⟩
        · exact ⟨_, rfl, by omega, by omega⟩
        · exact ⟨_, rfl, by omega, by omega⟩
      refine ⟨a1, _, g, _, rfl, rfl, SqL.of h1, eg, _, _, rfl, rfl, ?_⟩
      clear h1 eg s11 B11 na1
      -- begun
      refine ⟨_, rfl, _, rfl, _, _, rfl, rfl, _, rfl, _, _, rfl, rfl, ?_⟩
      refine ⟨_, rfl, b, 30, _, rfl, (by decide), (by decide), M.st, by omega, fun H12 q12 q120 q121 B12 s12 => ?_⟩
      have M := M.drawn B12 s12
      refine ⟨(by show 4 ≤ sizeLine; decide), fun a1 na1 => ?_⟩
      refine ⟨_, rfl, b, 4, _, rfl, (by decide), (by decide), (M.put na1).st, by omega, fun H13 g g0 g1 B13 s13 => ?_⟩
      have h1 := sm1_at s13 (M.st.ne na1) upd_same
      have M := (M.put na1).drawn B13 s13
      obtain ⟨gq, eg, gq0, gq1⟩ : ∃ x : Int, atI [V.int 0, .int 0, .int 1, .int q12] g = some (.int x) ∧ 0 ≤ x ∧ x ≤ 29 := by
        have h : g = 0 ∨ g = 1 ∨ g = 2 ∨ g = 3 := by omega
        rcases h with rfl | rfl | rfl | rfl
        · exact ⟨_, rfl, by omega, by omega⟩
        · exact ⟨_, rfl, by omega, by omega⟩
        · exact ⟨_, rfl, by omega, by omega⟩
        · exact ⟨_, rfl, by omega, by omega⟩
      refine ⟨a1, _, g, _, rfl, rfl, SqL.of h1, eg, _, _, rfl, rfl, ?_⟩
      clear h1 eg s13 B13 na1
      -- ended
      refine ⟨_, rfl, _, rfl, b, 4, _, rfl, (by decide), (by decide), M.st, by omega, fun H14 q14 q140 q141 B14 s14 => ⟨_, _, rfl, rfl, ?_⟩⟩
      have M := M.drawn B14 s14
      refine ⟨_, rfl, b, 90, _, rfl, (by decide), (by decide), M.st, by omega, fun H15 q15 q150 q151 B15 s15 => ⟨_, _, rfl, rfl, ?_⟩⟩
      have M := M.drawn B15 s15
      refine ⟨(by show 3 ≤ sizeLine; decide), fun a1 na1 => ?_⟩
      refine ⟨_, rfl, b, 3, _, rfl, (by decide), (by decide), (M.put na1).st, by omega, fun H16 g g0 g1 B16 s16 => ?_⟩
      have h1 := sm1_at s16 (M.st.ne na1) upd_same
      have M := (M.put na1).drawn B16 s16
      obtain ⟨gr, eg, gr0, gr1⟩ : ∃ x : Int, atI [V.int 1, .int (1 + q14), .int (1 + q15)] g = some (.int x) ∧ 1 ≤ x ∧ x ≤ 90 := by
        have h : g = 0 ∨ g = 1 ∨ g = 2 := by omega
        rcases h with rfl | rfl | rfl
        · exact ⟨_, rfl, by omega, by omega⟩
        · exact ⟨_, rfl, by omega, by omega⟩
        · exact ⟨_, rfl, by omega, by omega⟩
      refine ⟨a1, _, g, _, rfl, rfl, SqL.of h1, eg, _, _, rfl, rfl, ?_⟩
      clear h1 eg s16 B16 na1
      dsimp only
      generalize eat : free + wh + gp = at_
      generalize ebg : at_ + c.2.1 + c.2.2.1 + gq = bg
      generalize een : bg + gr = en
      refine ⟨_, rfl, (by show 2 ≤ sizeLine; decide), fun t2 nt2 => ?_⟩
      have M := M.put (o := .tup [.int en, .str c.1]) nt2
      refine ⟨t2, _, rfl, .inl (.inl upd_same), rfl, _, _, rfl, _, _, rfl, rfl, ?_⟩
      generalize upd H16 t2 (.tup [.int en, .str c.1]) = H17 at M ⊢
      -- append
      refine ⟨_, rfl, .inl ⟨rfl, _, SqL.of M.hR⟩, _, rfl, _, rfl, _, rfl, _, rfl, (by show 4 ≤ sizeLine; decide), fun t3 nt3 => ?_⟩
      have hv : Dp K (off (upd H17 t3 (.tup [.int at_, .str c.1, .int bg, .int en])) [R, b]) (.ref t3) (trD (at_, c.1, bg, en)) := .tup (.inl (.inl (M.new nt3))) (.cons (.int _) (.cons (.str _) (.cons (.int _) (.cons (.int _) .nil))))
      have M := M.put (o := .tup [.int at_, .str c.1, .int bg, .int en]) nt3
      generalize upd H17 t3 (.tup [.int at_, .str c.1, .int bg, .int en]) = H18 at M hv ⊢
      refine ⟨R, _, _, rfl, rfl, M.hR, (by rw [lus, lts, sizeLine_eq]; omega), ?_⟩
      have M := M.app hv
      have et : ts.map trD ++ [trD (at_, c.1, bg, en)] = (ts ++ [((at_, c.1, bg, en) : Trn)]).map trD := by rw [List.map_append]; rfl
      rw [et] at M
      refine ⟨_, _, _, _, _, _, _, _, en, some c.1, _, ts ++ [((at_, c.1, bg, en) : Trn)], rfl, M.mono (by omega), by rw [List.length_append, lts]; rfl, ch_app cts ⟨c, wh, colF_self pb.nd hcm, (by rw [← el]; exact ew), (by rw [← efr]; show free + wh ≤ at_; omega), (by show at_ + c.2.1 + c.2.2.1 ≤ bg; omega), (by show bg < en; omega), (by rw [← efr]; show en ≤ free + 400; omega)⟩, (by rw [lastE_app]), (by rw [lastN_app]), fun z e => by cases e; exact ⟨c, hcm, rfl⟩⟩
    · rintro σ H5 ⟨v6, v7, v8, v9, v10, v11, v12, v13, free, l, us, ts, rfl, M, lts, cts, efr, el, hlI⟩
      rw [Int.toNat_natCast] at M lts
      have lus : us.length = ts.length := dpAll_map_len M.dR
      have hfr := ch_len cts
      have e6 := e106
      refine ⟨_, _, rfl, rfl, ⟨by decide, by decide, by decide⟩, _, rfl, _, _, rfl, rfl, ?_⟩
      refine ⟨_, rfl, b, 8, _, rfl, (by decide), (by decide), M.st, by omega, fun H6 r6 r60 r61 B6 s6 => ⟨rfl, .inr ⟨_, rfl, ?_⟩⟩⟩
      have M := M.drawn B6 s6
      refine ⟨_, _, rfl, rfl, .inr (b01 _), ?_⟩
      dsimp only
      generalize hby : (10 ^ Int.toNat 6 - free) * (if decide (V.int r6 = V.int 0) = true then 1 else 0) = by_
      have hb1 : by_ = 0 ∨ by_ = 1000000 - free := by
        rw [← hby, e6]
        split
        · rw [Int.mul_one]; exact .inr rfl
        · rw [Int.mul_zero]; exact .inl rfl
      have hb0 : 0 ≤ by_ := by omega
      refine ⟨_, rfl, R, rfl, ⟨_, SqL.of M.hR⟩, fun D nD => ?_⟩
      refine lc_it (walk_list (xs := us)) (PvD K H6 [R, b] D fun i => ((ts.map (shf by_)).take i).map trD) (pd_start nD rfl) (fun i H2 _ h => SqL.of (h.sm _ _ M.hR)) ?_ ?_
      · rintro i y Hax Ha hi pv ⟨rfl, gx⟩
        obtain ⟨t, gt, dpt⟩ := dpAll_map_at M.dR gx
        obtain ⟨r, rfl, hr2⟩ := tr_dp dpt
        refine ⟨r, _, rfl, same_tup (off_sub.trans pv.sm) hr2, rfl, _, _, rfl, _, _, rfl, _, _, rfl, _, _, rfl, rfl, rfl, tYes_at ?_⟩
        rw [if_pos rfl]
        refine ⟨_, rfl, _, rfl, _, _, rfl, rfl, _, rfl, _, rfl, _, rfl, _, _, rfl, rfl, _, rfl, _, rfl, _, _, rfl, rfl, (by show 4 ≤ sizeLine; decide), fun t1 n1 => ?_⟩
        exact pd_put nD pv (same_upd n1) (.tup (.inl (.inl (off_new (pv.live M.live) n1))) (.cons (.int _) (.cons (.str _) (.cons (.int _) (.cons (.int _) .nil))))) (take_mapD trD (l := ts.map (shf by_)) (x := shf by_ t) (by rw [List.getElem?_map, gt]; rfl)) (take_lenD (by rw [List.length_map]; omega))
      · intro H7 pv
        obtain ⟨s7, us2, fD, da⟩ := pd_end M.live nD pv (take_allD (by rw [List.length_map]; omega))
        have M2 := M.same s7
        exact q _ D us2 (ts.map (shf by_)) (f0 + by_) (M2.st.mono (by omega)) M2.sm (sm_free M.sm M.st.bx nD) (at_off fD) (dpAll_same (off_mono (by simp)) da) (by rw [List.length_map]; exact lts) (by omega) (ch_shf by_ cts) (by rw [lastE_shf, ← efr]; omega)

end
end Pot

namespace Pot
open PySem PySem.Spec PyProof.Rows L2
section
variable {P : Program} {w : World} {K : PySem.W.Frag} {mg : Str → Option Value} {base : Heap}
theorem kit_bs {H : Hp} {x : V} {d : PyData} (h : Dp K H x d) : PySem.W.kitAny K (.type (tyD d)) [.type "bool", .type "str"] = some (isBoolD d || isStrD d) := by
  cases h <;> rfl
abbrev s__law_same : Stmt := topS 20
def n__law_same : List Str := ["_law_found", "_law_due", "_law_one", "_law_other"]
theorem sc__law_same : FnScope n__law_same ["_law_found", "_law_due"] (defScope s__law_same) := ⟨rfl, rfl, rfl, by decide +kernel, rfl, by decide +kernel, by decide +kernel⟩
/-! ### _law_same: two of one and the same make are told to be so -/
def spSame (K : PySem.W.Frag) (k : Nat) : Sp := fun vs H Q _ => ∃ (x y : V) (d : PyData) (m : Nat), vs = [x, y] ∧ Dp K H x d ∧ Dp K H y d ∧ d.depth < k ∧ widAll.wid d ≤ 1000 ∧ gd m d ∧ ∀ H', Same H H' → Q (.bl true) H'
theorem ok_same {f : Addr} {fd : FuncData} (F : Fun K "_law_same" "_law_same" s__law_same f fd) (T : Txt mg) (bF : Binds K fd ["_law_found", "_law_due"] []) (gF : mg "_law_same" = some (.ref f)) :
    ∀ k : Nat, FnOk P w K mg base CX0 (k + 1) f fd ["_law_found", "_law_due"] (spSame K k) := by
  intro k
  induction k with
  | zero =>
    refine F.ok sc__law_same (fun vs H Q E h => ?_) (fun cdv A outer s H vs Q E hr h => ?_)
    · obtain ⟨x, y, d, m, rfl, _⟩ := h
      rfl
    · obtain ⟨x, y, d, m, rfl, hx, hy, hd, hw, hg, q⟩ := h
      exact absurd hd (Nat.not_lt_zero _)
  | succ k G =>
    refine F.ok sc__law_same (fun vs H Q E h => ?_) (fun cdv A outer s H vs Q E hr h => ?_)
    · obtain ⟨x, y, d, m, rfl, _⟩ := h
      rfl
    · obtain ⟨x, y, d, m, rfl, hx, hy, hd, hw, hg, q⟩ := h
      have nd := sc__law_same.nd
      have hu64 := hr.units
      refine ⟨_, (pss_cons (ps_if (pt_val (pe_callB (kc_isiT (K := K)) (by rfl) T.isinstance (by decide +kernel) (pa_cons (pv 1) (pa_cons (pe_tup (pa_cons (pe_bltn (v := .ty "list") (by rfl) T.list (by decide +kernel) rfl) (pa_cons (pe_bltn (v := .ty "tuple") (by rfl) T.tuple (by decide +kernel) rfl) pa_nil))) pa_nil))))
          (pss_cons (ps_if ((pw_or (pt_cmpR op_ne (pe_callB (kc_isi (K := K)) (by rfl) T.isinstance (by decide +kernel) (pa_cons (pv 0) (pa_cons (pe_bltn (v := .ty "list") (by rfl) T.list (by decide +kernel) rfl) pa_nil))) (pe_callB (kc_isi (K := K)) (by rfl) T.isinstance (by decide +kernel) (pa_cons (pv 1) (pa_cons (pe_bltn (v := .ty "list") (by rfl) T.list (by decide +kernel) rfl) pa_nil))) (nomark _)) (pw_or1 (pt_cmpR op_ne (pe_callB (kc_isi (K := K)) (by rfl) T.isinstance (by decide +kernel) (pa_cons (pv 0) (pa_cons (pe_bltn (v := .ty "tuple") (by rfl) T.tuple (by decide +kernel) rfl) pa_nil))) (pe_callB (kc_isi (K := K)) (by rfl) T.isinstance (by decide +kernel) (pa_cons (pv 1) (pa_cons (pe_bltn (v := .ty "tuple") (by rfl) T.tuple (by decide +kernel) rfl) pa_nil))) (nomark _))))).pt
              pss_never
              pss_nil)
          (pss_one (ps_ret (pe_and (pe_cmpR op_eq (pe_callB (kc_len (K := K)) (by rfl) T.len PySem.boot_len (pa_cons (pv 0) pa_nil)) (pe_callB (kc_len (K := K)) (by rfl) T.len PySem.boot_len (pa_cons (pv 1) pa_nil)) (nomark _)) (pe_one (pe_callB (kc_all (K := K)) (by rfl) T.all (by decide +kernel) (pa_cons (pe_lc (own := [("_law_one", 2), ("_law_other", 3)]) rfl nd (ki_zip (K := K) (by rfl) T.zip (pa_cons (pv 0) (pa_cons (pv 1) pa_nil))) (blkOk_by (N := n__law_same) (sc := defScope s__law_same) (by decide +kernel)) (fun _ _ _ _ _ => (kg_tup (K := K) (n := 2) (pgs_cons (pg_name (i := 2) nd rfl (.inl rfl)) (pgs_cons (pg_name (i := 3) nd rfl (.inl rfl)) pgs_nil)))) (fun _ _ _ _ _ => pts_nil) (fun _ _ _ _ _ => (pe_call G hr (by rfl) gF F.kp bF .nil pass0 (pa_cons (pv 2) (pa_cons (pv 3) pa_nil))))) pa_nil)))))))
          pss_nil)
      (pss_cons (ps_if ((pw_or (pt_cmpR op_isN (pv 1) pe_non (nomark _)) (pw_or1 (pt_val (pe_callB (kc_isiT (K := K)) (by rfl) T.isinstance (by decide +kernel) (pa_cons (pv 1) (pa_cons (pe_tup (pa_cons (pe_bltn (v := .ty "bool") (by rfl) T.bool (by decide +kernel) rfl) (pa_cons (pe_bltn (v := .ty "str") (by rfl) T.str (by decide +kernel) rfl) pa_nil))) pa_nil))))))).pt
          (pss_one (ps_ret (pe_and (pe_cmpR (ko_eq (K := K) hu64) (pv 0) (pv 1) (nomark _)) (pe_and (pe_cmpR op_eq (pe_callB (kc_isi (K := K)) (by rfl) T.isinstance (by decide +kernel) (pa_cons (pv 0) (pa_cons (pe_bltn (v := .ty "bool") (by rfl) T.bool (by decide +kernel) rfl) pa_nil))) (pe_callB (kc_isi (K := K)) (by rfl) T.isinstance (by decide +kernel) (pa_cons (pv 1) (pa_cons (pe_bltn (v := .ty "bool") (by rfl) T.bool (by decide +kernel) rfl) pa_nil))) (nomark _)) (pe_one (pe_cmpR op_eq (pe_cmpR op_isN (pv 0) pe_non (nomark _)) (pe_cmpR op_isN (pv 1) pe_non (nomark _)) (nomark _)))))))
          pss_nil)
      (pss_one (ps_ret (pe_and (pe_callB (kc_isi (K := K)) (by rfl) T.isinstance (by decide +kernel) (pa_cons (pv 0) (pa_cons (pe_bltn (v := .ty "int") (by rfl) T.int (by decide +kernel) rfl) pa_nil))) (pe_and (pe_not (pe_callB (kc_isi (K := K)) (by rfl) T.isinstance (by decide +kernel) (pa_cons (pv 0) (pa_cons (pe_bltn (v := .ty "bool") (by rfl) T.bool (by decide +kernel) rfl) pa_nil)))) (pe_one (pe_cmpR (ko_eq (K := K) hu64) (pv 0) (pv 1) (nomark _))))))))), ?_⟩
      refine ⟨_, rfl, (by show 2 ≤ sizeLine; decide), fun t ht => ?_⟩
      have sm1 : Same H (upd H t (.tup [.ty "list", .ty "tuple"])) := same_upd ht
      have hx1 := dp_same sm1 hx
      have hy1 := dp_same sm1 hy
      have ht1 : (upd H t (.tup [.ty "list", .ty "tuple"])) t = some (.tup [.ty "list", .ty "tuple"]) := upd_same
      generalize upd H t (.tup [.ty "list", .ty "tuple"]) = H1 at sm1 hx1 hy1 ht1 ⊢
      refine ⟨_, t, _, _, _, _, rfl, ht1, .cons (.ty _) (.cons (.ty _) .nil), tyx_dp hy1, kit_lt hy1, _, rfl, ?_⟩
      have hx2 := hx1
      have hy2 := hy1
      cases hy1 with
      | non =>
        cases hx1
        refine iteF ?_
        refine ⟨_, rfl, rfl, _, rfl, iteT ?_⟩
        refine ⟨_, rfl, _, rfl, _, _, hx2, hy2, rfl, rfl, _, rfl, ?_⟩
        refine iteT ⟨_, rfl, _, .ty _, _, _, isBoolD _, rfl, .ty _, tyx_dp hx2, kit_bool hx2, _, rfl, _, .ty _, _, _, isBoolD _, rfl, .ty _, tyx_dp hy2, kit_bool hy2, rfl, _, rfl, iteT ⟨_, rfl, rfl, _, rfl, rfl, rfl, ?_⟩⟩
        rw [decide_eq_true rfl]
        exact q _ sm1
      | str z =>
        cases hx1
        have hsh := gd_shaped hg (by show 0 ≤ 64; decide)
        refine iteF ?_
        refine ⟨_, rfl, rfl, _, rfl, iteF ⟨_, rfl, (by show 2 ≤ sizeLine; decide), fun t2 n2 => ?_⟩⟩
        have sm2 : Same H1 (upd H1 t2 (.tup [.ty "bool", .ty "str"])) := same_upd n2
        have hx2 := dp_same sm2 hx2
        have hy2 := dp_same sm2 hy2
        have ht2 : (upd H1 t2 (.tup [.ty "bool", .ty "str"])) t2 = some (.tup [.ty "bool", .ty "str"]) := upd_same
        have sm1 := sm1.trans sm2
        generalize upd H1 t2 (.tup [.ty "bool", .ty "str"]) = H2 at sm1 hx2 hy2 ht2 ⊢
        refine ⟨_, t2, _, _, _, _, rfl, ht2, .cons (.ty _) (.cons (.ty _) .nil), tyx_dp hy2, kit_bs hy2, _, rfl, ?_⟩
        refine iteT ⟨_, rfl, _, rfl, _, _, hx2, hy2, hsh, hsh, _, rfl, ?_⟩
        have e : PyData.eqv (.str z) (.str z) = true := by simp [PyData.eqv]
        rw [e]
        refine iteT ⟨_, rfl, _, .ty _, _, _, isBoolD _, rfl, .ty _, tyx_dp hx2, kit_bool hx2, _, rfl, _, .ty _, _, _, isBoolD _, rfl, .ty _, tyx_dp hy2, kit_bool hy2, rfl, _, rfl, iteT ⟨_, rfl, rfl, _, rfl, rfl, rfl, ?_⟩⟩
        rw [decide_eq_true rfl]
        exact q _ sm1
      | bl b =>
        cases hx1
        refine iteF ?_
        refine ⟨_, rfl, rfl, _, rfl, iteF ⟨_, rfl, (by show 2 ≤ sizeLine; decide), fun t2 n2 => ?_⟩⟩
        have sm2 : Same H1 (upd H1 t2 (.tup [.ty "bool", .ty "str"])) := same_upd n2
        have hx2 := dp_same sm2 hx2
        have hy2 := dp_same sm2 hy2
        have ht2 : (upd H1 t2 (.tup [.ty "bool", .ty "str"])) t2 = some (.tup [.ty "bool", .ty "str"]) := upd_same
        have sm1 := sm1.trans sm2
        generalize upd H1 t2 (.tup [.ty "bool", .ty "str"]) = H2 at sm1 hx2 hy2 ht2 ⊢
        refine ⟨_, t2, _, _, _, _, rfl, ht2, .cons (.ty _) (.cons (.ty _) .nil), tyx_dp hy2, kit_bs hy2, _, rfl, ?_⟩
        refine iteT ⟨_, rfl, _, rfl, _, _, hx2, hy2, rfl, rfl, _, rfl, ?_⟩
        have e : PyData.eqv (.bool b) (.bool b) = true := by cases b <;> rfl
        rw [e]
        refine iteT ⟨_, rfl, _, .ty _, _, _, isBoolD _, rfl, .ty _, tyx_dp hx2, kit_bool hx2, _, rfl, _, .ty _, _, _, isBoolD _, rfl, .ty _, tyx_dp hy2, kit_bool hy2, rfl, _, rfl, iteT ⟨_, rfl, rfl, _, rfl, rfl, rfl, ?_⟩⟩
        rw [decide_eq_true rfl]
        exact q _ sm1
      | int i =>
        cases hx1
        refine iteF ?_
        refine ⟨_, rfl, rfl, _, rfl, iteF ⟨_, rfl, (by show 2 ≤ sizeLine; decide), fun t2 n2 => ?_⟩⟩
        have sm2 : Same H1 (upd H1 t2 (.tup [.ty "bool", .ty "str"])) := same_upd n2
        have hx2 := dp_same sm2 hx2
        have hy2 := dp_same sm2 hy2
        have ht2 : (upd H1 t2 (.tup [.ty "bool", .ty "str"])) t2 = some (.tup [.ty "bool", .ty "str"]) := upd_same
        have sm1 := sm1.trans sm2
        generalize upd H1 t2 (.tup [.ty "bool", .ty "str"]) = H2 at sm1 hx2 hy2 ht2 ⊢
        refine ⟨_, t2, _, _, _, _, rfl, ht2, .cons (.ty _) (.cons (.ty _) .nil), tyx_dp hy2, kit_bs hy2, _, rfl, ?_⟩
        refine iteF ?_
        refine ⟨_, rfl, _, .ty _, _, _, isIntD _, rfl, .ty _, tyx_dp hx2, kit_int hx2, _, rfl, iteT ⟨_, rfl, _, .ty _, _, _, isBoolD _, rfl, .ty _, tyx_dp hx2, kit_bool hx2, _, rfl, _, rfl, iteT ?_⟩⟩
        refine ⟨_, rfl, _, rfl, _, _, hx2, hy2, rfl, rfl, ?_⟩
        have e : PyData.eqv (.int i) (.int i) = true := by show (i == i) = true; exact beq_self_eq_true i
        rw [e]
        exact q _ sm1
      | @lst b ys ds hl ha =>
        cases hx1 with
        | @lst a xs _ hl' ha' =>
        have e1 : xs.length = ys.length := (dpAll_len ha').trans (dpAll_len ha).symm
        refine iteT ?_
        refine ⟨_, rfl, _, .ty _, _, _, isListD _, rfl, .ty _, tyx_dp hx2, kit_list hx2, _, rfl, _, .ty _, _, _, isListD _, rfl, .ty _, tyx_dp hy2, kit_list hy2, rfl, _, rfl, iteF ?_⟩
        refine ⟨_, rfl, _, .ty _, _, _, isTupD _, rfl, .ty _, tyx_dp hx2, kit_tup hx2, _, rfl, _, .ty _, _, _, isTupD _, rfl, .ty _, tyx_dp hy2, kit_tup hy2, rfl, _, rfl, iteF ?_⟩
        refine ⟨_, rfl, _, xs.length, rfl, .inl ⟨xs, hl', rfl⟩, _, rfl, _, ys.length, rfl, .inl ⟨ys, hl, rfl⟩, rfl, _, rfl, ?_⟩
        rw [e1]
        refine ite2 (fun _ => ?_) (fun h => absurd (decide_eq_true rfl) h)
        refine ⟨_, rfl, _, rfl, a, b, xs, ys, rfl, .inl ⟨hl', hl, fun D hD => ?_⟩⟩
        refine lc_it (walk_zip (xs := xs) (ys := ys) (n := ys.length) (by rw [e1, Nat.min_self])) (fun i H2 => Same H1 H2 ∧ H1 D = none ∧ H2 D = some (.lst ((List.replicate i true).map V.bl))) ⟨same_upd hD, hD, upd_same⟩ (fun i H2 _ h => ⟨h.1.seq hl', h.1.seq hl⟩) ?_ ?_
        · skip
          rintro i v H2 H3 hi ⟨sm, nD, hL⟩ ⟨u, x1, y1, rfl, hu, rfl, gx, gy⟩
          have sm3 : Same H1 (upd H2 u (.tup [x1, y1])) := same_put sm (sm.free hu)
          obtain ⟨d1, g1, p1⟩ := dpAll_at ha' gx
          obtain ⟨d2, g2, p2⟩ := dpAll_at ha gy
          have ed : d1 = d2 := Option.some.inj (g1.symm.trans g2)
          subst ed
          refine ⟨u, _, rfl, .inl (.inl upd_same), rfl, _, _, rfl, _, _, rfl, rfl, rfl, tYes_at ?_⟩
          rw [if_pos rfl]
          refine ⟨_, rfl, _, rfl, x1, y1, d1, m, rfl, dp_same sm3 p1, dp_same sm3 p2, ?_, ?_, gdAll_iff.mp hg d1 (List.mem_of_getElem? g1), fun H4 s4 => ?_⟩
          · have h1 := depth_at g1
            have h2 : PyData.depthAll ds + 1 < k + 1 := hd
            omega
          · exact Nat.le_trans (wid_at g1) (Nat.le_trans (Nat.le_max_right _ _) hw)
          · have nuD : D ≠ u := ne_of_none hL hu
            refine ⟨_, s4 _ _ (by rw [upd_ne nuD]; exact hL), ?_, same_put (sm3.trans s4) nD, nD, ?_⟩
            · rw [List.length_map, List.length_replicate]
              exact Nat.lt_of_lt_of_le (dpAll_len ha ▸ hi) (Nat.le_trans (Nat.le_trans (Nat.le_max_left _ _) hw) (by decide))
            · rw [upd_same, List.replicate_succ', List.map_append]
              rfl
        · skip
          rintro H2 ⟨sm, nD, hL⟩
          refine ⟨D, _, rfl, SqL.of hL, ?_⟩
          have e : (List.replicate ys.length true).all id = true := by simp
          rw [e]
          exact q _ (sm1.trans sm)
      | @tup b ys ds hl ha =>
        cases hx1 with
        | @tup a xs _ hl' ha' =>
        have e1 : xs.length = ys.length := (dpAll_len ha').trans (dpAll_len ha).symm
        refine iteT ?_
        refine ⟨_, rfl, _, .ty _, _, _, isListD _, rfl, .ty _, tyx_dp hx2, kit_list hx2, _, rfl, _, .ty _, _, _, isListD _, rfl, .ty _, tyx_dp hy2, kit_list hy2, rfl, _, rfl, iteF ?_⟩
        refine ⟨_, rfl, _, .ty _, _, _, isTupD _, rfl, .ty _, tyx_dp hx2, kit_tup hx2, _, rfl, _, .ty _, _, _, isTupD _, rfl, .ty _, tyx_dp hy2, kit_tup hy2, rfl, _, rfl, iteF ?_⟩
        refine ⟨_, rfl, _, xs.length, rfl, .inr ⟨xs, hl', rfl⟩, _, rfl, _, ys.length, rfl, .inr ⟨ys, hl, rfl⟩, rfl, _, rfl, ?_⟩
        rw [e1]
        refine ite2 (fun _ => ?_) (fun h => absurd (decide_eq_true rfl) h)
        refine ⟨_, rfl, _, rfl, a, b, xs, ys, rfl, .inr ⟨hl', hl, fun D hD => ?_⟩⟩
        refine lc_it (walk_zipT (xs := xs) (ys := ys) (n := ys.length) (by rw [e1, Nat.min_self])) (fun i H2 => Same H1 H2 ∧ H1 D = none ∧ H2 D = some (.lst ((List.replicate i true).map V.bl))) ⟨same_upd hD, hD, upd_same⟩ (fun i H2 _ h => ⟨same_tup h.1 hl', same_tup h.1 hl⟩) ?_ ?_
        · skip
          rintro i v H2 H3 hi ⟨sm, nD, hL⟩ ⟨u, x1, y1, rfl, hu, rfl, gx, gy⟩
          have sm3 : Same H1 (upd H2 u (.tup [x1, y1])) := same_put sm (sm.free hu)
          obtain ⟨d1, g1, p1⟩ := dpAll_at ha' gx
          obtain ⟨d2, g2, p2⟩ := dpAll_at ha gy
          have ed : d1 = d2 := Option.some.inj (g1.symm.trans g2)
          subst ed
          refine ⟨u, _, rfl, .inl (.inl upd_same), rfl, _, _, rfl, _, _, rfl, rfl, rfl, tYes_at ?_⟩
          rw [if_pos rfl]
          refine ⟨_, rfl, _, rfl, x1, y1, d1, m, rfl, dp_same sm3 p1, dp_same sm3 p2, ?_, ?_, gdAll_iff.mp hg d1 (List.mem_of_getElem? g1), fun H4 s4 => ?_⟩
          · have h1 := depth_at g1
            have h2 : PyData.depthAll ds + 1 < k + 1 := hd
            omega
          · exact Nat.le_trans (wid_at g1) (Nat.le_trans (Nat.le_max_right _ _) hw)
          · have nuD : D ≠ u := ne_of_none hL hu
            refine ⟨_, s4 _ _ (by rw [upd_ne nuD]; exact hL), ?_, same_put (sm3.trans s4) nD, nD, ?_⟩
            · rw [List.length_map, List.length_replicate]
              exact Nat.lt_of_lt_of_le (dpAll_len ha ▸ hi) (Nat.le_trans (Nat.le_trans (Nat.le_max_left _ _) hw) (by decide))
            · rw [upd_same, List.replicate_succ', List.map_append]
              rfl
        · skip
          rintro H2 ⟨sm, nD, hL⟩
          refine ⟨D, _, rfl, SqL.of hL, ?_⟩
          have e : (List.replicate ys.length true).all id = true := by simp
          rw [e]
          exact q _ (sm1.trans sm)

end
end Pot

namespace Pot
open PySem PySem.Spec PyProof.Rows L2
section
variable {P : Program} {w : World} {K : PySem.W.Frag} {mg : Str → Option Value} {base : Heap}
/-! ### marks and states -/
abbrev Mk := Str × Nat × Int
def mkD (m : Mk) : PyData := .tuple [.str m.1, .int (m.2.1 : Nat), .int m.2.2]
def wordsS : List Str := ["filled", "melting", "ready", "worked", "washed", "out"]
def Wrd (K : PySem.W.Frag) (mg : Str → Option Value) : Prop := ∃ W, mg "WORDS" = some (.ref W) ∧ ∀ H, SqT K H W (wordsS.map V.str)
def hrsF (c : Col) (t : Trn) (wh : Int) : List Int := [t.1, t.1 + c.2.1, t.1 + c.2.1 + c.2.2.1, t.2.2.1, t.2.2.2, t.2.2.2 + wh]
def six (i : Nat) (hs : List Int) : List Mk := (wordsS.zip hs).map fun p => (p.1, i, p.2)
/-- the hours of washing behind a turn -/
def wbF (ws : List Wsh) (t : Trn) : List Trn → Int
  | [] => 0
  | u :: _ => (washF ws (some t.2.1) u.2.1).getD 0
def mksF (cs : List Col) (ws : List Wsh) : Nat → List Trn → List Mk
  | _, [] => []
  | i, t :: ts => (match colF cs t.2.1 with | none => [] | some c => six i (hrsF c t (wbF ws t ts))) ++ mksF cs ws (i + 1) ts
/-- none but washings that may be, one turn behind the other -/
def WOk (ws : List Wsh) : List Trn → Prop
  | [] => True
  | t :: ts => (∀ u, ts.head? = some u → ∃ h, washF ws (some t.2.1) u.2.1 = some h) ∧ WOk ws ts
theorem WOk.at {ws : List Wsh} {t u : Trn} : ∀ {ts : List Trn} {i : Nat}, WOk ws ts → ts[i]? = some t → ts[i + 1]? = some u → ∃ h, washF ws (some t.2.1) u.2.1 = some h
  | [], _, _, g, _ => by cases g
  | x :: ts, 0, w, g, g2 => by
    cases g
    exact w.1 u (by rw [List.head?_eq_getElem?]; exact g2)
  | x :: ts, i + 1, w, g, g2 => WOk.at (ts := ts) (i := i) w.2 g g2
abbrev s_washing_behind : Stmt := topS 11
def n_washing_behind : List Str := ["palette", "turns", "number"]
theorem sc_washing_behind : FnScope n_washing_behind ["palette", "turns", "number"] (defScope s_washing_behind) := ⟨rfl, rfl, rfl, by decide +kernel, rfl, by decide +kernel, by decide +kernel⟩
def spWbh (K : PySem.W.Frag) : Sp := fun vs H Q _ => ∃ (v : V) (cs : List Col) (ws : List Wsh) (a : Addr) (xs : List V) (ts : List Trn) (i : Nat) (t : Trn), vs = [v, .ref a, .int (i : Nat)] ∧ Dp K H v (palD cs ws) ∧ SqL K H a xs ∧ DpAll K H xs (ts.map trD) ∧ (∀ t ∈ ts, InC cs t.2.1) ∧ WOk ws ts ∧ ts[i]? = some t ∧ Q (.int (wbF ws t (ts.drop (i + 1)))) H
theorem ok_wbh {f : Addr} {fd : FuncData} {k : Nat} (F : Fun K "washing_behind" "washing_behind" s_washing_behind f fd) (T : Txt mg) (c_wash_for : Cl P w K mg base (k + 2) "wash_for" (spWash K)) : FnOk P w K mg base CX0 (k + 3) f fd ["palette", "turns", "number"] (spWbh K) := by
  refine F.ok sc_washing_behind (fun vs H Q E h => ?_) (fun cdv A outer s H vs Q E hr h => ?_)
  · obtain ⟨v, cs, ws, a, xs, ts, i, t, rfl, _⟩ := h
    rfl
  · obtain ⟨v, cs, ws, a, xs, ts, i, t, rfl, dpP, hS, hx, hin, wok, gt, q⟩ := h
    have nd := sc_washing_behind.nd
    /- 0 palette, 1 turns, 2 number -/
    refine ⟨_, (pss_cons (ps_if (pt_cmpR op_eq (pe_op op_add (pv 2) pe_int) (pe_callB (kc_len (K := K)) (by rfl) T.len PySem.boot_len (pa_cons (pv 1) pa_nil)) (nomark _))
          (pss_one (ps_ret pe_int))
          pss_nil)
      (pss_one (ps_ret (pe_cl c_wash_for hr (by omega) (by rfl) (pa_cons (pv 0) (pa_cons (pe_ix (kx_tup (K := K)) (pe_ix (kx_list (K := K)) (pv 1) (pv 2) (fun _ _ => rfl)) pe_int (fun _ _ => rfl)) (pa_cons (pe_ix (kx_tup (K := K)) (pe_ix (kx_list (K := K)) (pv 1) (pe_op op_add (pv 2) pe_int) (fun _ _ => rfl)) pe_int (fun _ _ => rfl)) pa_nil))))))), ?_⟩
    have lx : xs.length = ts.length := dpAll_map_len hx
    have li : i < ts.length := (List.getElem?_eq_some_iff.mp gt).1
    refine ⟨_, rfl, _, _, rfl, rfl, _, rfl, _, _, rfl, .inl ⟨_, hS, rfl⟩, rfl, _, rfl, ite2 (fun h => ?_) (fun h => ?_)⟩
    · have h : V.int (((i : Nat) : Int) + 1) = V.int ((xs.length : Nat) : Int) := of_decide_eq_true h
      have h := V.int.inj h
      have e : ts.drop (i + 1) = [] := List.drop_of_length_le (by omega)
      rw [e] at q
      exact q
    · have h : ¬ V.int (((i : Nat) : Int) + 1) = V.int ((xs.length : Nat) : Int) := fun z => h (decide_eq_true z)
      have l1 : i + 1 < ts.length := by
        rcases Nat.lt_or_ge (i + 1) ts.length with z | z
        · exact z
        · exact absurd (by rw [show ((i : Nat) : Int) + 1 = ((xs.length : Nat) : Int) by omega]) h
      have gu := List.getElem?_eq_getElem l1
      obtain ⟨t2, g2, dp2⟩ := dpAll_map_at hx (List.getElem?_eq_getElem (show i < xs.length by omega))
      rw [gt] at g2
      cases g2
      obtain ⟨u, gu2, dpu⟩ := dpAll_map_at hx (List.getElem?_eq_getElem (show i + 1 < xs.length by omega))
      obtain ⟨pt, ept, hpt⟩ := tr_dp dp2
      obtain ⟨pu, epu, hpu⟩ := tr_dp dpu
      have e : ts.drop (i + 1) = u :: ts.drop (i + 2) := by
        rw [List.drop_eq_getElem_cons l1, (List.getElem?_eq_some_iff.mp gu2).2]
      obtain ⟨wh, ew⟩ := wok.at gt gu2
      have ewb : wbF ws t (ts.drop (i + 1)) = wh := by rw [e]; show (washF ws (some t.2.1) u.2.1).getD 0 = wh; rw [ew]; rfl
      rw [ewb] at q
      refine ⟨_, rfl, _, rfl, _, rfl, a, _, _, _, rfl, rfl, hS, atI_nat (by rw [List.getElem?_eq_getElem (show i < xs.length by omega), ept]), pt, _, 1, _, rfl, rfl, hpt, rfl, ?_⟩
      refine ⟨_, rfl, _, rfl, _, _, rfl, rfl, a, _, _, _, rfl, rfl, hS, (by show atI xs (((i : Nat) : Int) + 1) = some (.ref pu); rw [show ((i : Nat) : Int) + 1 = ((i + 1 : Nat) : Int) by omega]; exact atI_nat (by rw [List.getElem?_eq_getElem (show i + 1 < xs.length by omega), epu])), pu, _, 1, _, rfl, rfl, hpu, rfl, v, cs, ws, some t.2.1, u.2.1, rfl, dpP, (fun z e => by cases e; exact hin t (List.mem_of_getElem? gt)), hin u (List.mem_of_getElem? gu2), ?_⟩
      rw [ew]
      exact q
abbrev s_marks_of : Stmt := topS 10
def n_marks_of : List Str := ["palette", "turns", "marks", "number", "at", "colour", "begin", "end", "filled", "washed", "hours", "word", "since"]
theorem sc_marks_of : FnScope n_marks_of ["palette", "turns"] (defScope s_marks_of) := ⟨rfl, rfl, rfl, by decide +kernel, rfl, by decide +kernel, by decide +kernel⟩
def spMarks (K : PySem.W.Frag) : Sp := fun vs H Q _ => ∃ (v : V) (cs : List Col) (ws : List Wsh) (a : Addr) (xs : List V) (ts : List Trn), vs = [v, .ref a] ∧ Dp K H v (palD cs ws) ∧ SqL K H a xs ∧ DpAll K H xs (ts.map trD) ∧ (∀ t ∈ ts, InC cs t.2.1) ∧ WOk ws ts ∧ ts.length ≤ 31 ∧
  ∀ H' R ys, Same H H' → H' R = some (.lst ys) → H R = none → DpAll K (off H' [R]) ys ((mksF cs ws 0 ts).map mkD) → Q (.ref R) H'
set_option maxHeartbeats 2000000 in
theorem ok_marks {f : Addr} {fd : FuncData} {k : Nat} (F : Fun K "marks_of" "marks_of" s_marks_of f fd) (T : Txt mg) (LW : Wrd K mg) (c_colour_row : Cl P w K mg base (k + 1) "colour_row" (spColour K)) (c_washing_behind : Cl P w K mg base (k + 3) "washing_behind" (spWbh K)) (c_ready_at : ClD P w K mg base (k + 2) "ready_at" [] (spReady K)) : FnOk P w K mg base CX0 (k + 4) f fd ["palette", "turns"] (spMarks K) := by
  refine F.ok sc_marks_of (fun vs H Q E h => ?_) (fun cdv A outer s H vs Q E hr h => ?_)
  · obtain ⟨v, cs, ws, a, xs, ts, rfl, _⟩ := h
    rfl
  · obtain ⟨v, cs, ws, a, xs, ts, rfl, dpP, hS, hx, hin, wok, l31, q⟩ := h
    obtain ⟨W, hW, sW⟩ := LW
    have nd := sc_marks_of.nd
    /- 0 palette, 1 turns, 2 marks, 3 number, 4 at, 5 colour, 6 begin, 7 end, 8 filled, 9 washed, 10 hours, 11 word, 12 since -/
    refine ⟨_, (pss_cons (ps_set (i := 2) nd rfl (.inl rfl) (pe_lst pa_nil))
      (pss_cons (ps_for PassesOwn.never rfl (ki_enum (K := K) (by rfl) T.enumerate (pa_cons (pv 1) pa_nil)) (kg_tup (K := K) (n := 2) (pgs_cons (pg_name (i := 3) nd rfl (.inr rfl)) (pgs_cons (kg_tup (K := K) (n := 4) (pgs_cons (pg_name (i := 4) nd rfl (.inl rfl)) (pgs_cons (pg_name (i := 5) nd rfl (.inl rfl)) (pgs_cons (pg_name (i := 6) nd rfl (.inl rfl)) (pgs_cons (pg_name (i := 7) nd rfl (.inl rfl)) pgs_nil))))) pgs_nil)))
          (pss_cons (ps_set (i := 8) nd rfl (.inl rfl) (pe_op op_add (pv 4) (pe_ix (kx_tup (K := K)) (pe_cl c_colour_row hr (by omega) (by rfl) (pa_cons (pv 0) (pa_cons (pv 5) pa_nil))) pe_int (fun _ _ => rfl))))
          (pss_cons (ps_set (i := 9) nd rfl (.inl rfl) (pe_op op_add (pv 7) (pe_cl c_washing_behind hr (by omega) (by rfl) (pa_cons (pv 0) (pa_cons (pv 1) (pa_cons (pv 3) pa_nil))))))
          (pss_cons (ps_set (i := 10) nd rfl (.inl rfl) (pe_tup (pa_cons (pv 4) (pa_cons (pv 8) (pa_cons (pe_cd c_ready_at hr (by omega) (by rfl) (pa_cons (pv 0) (pa_cons (pv 5) (pa_cons (pv 4) pa_nil)))) (pa_cons (pv 6) (pa_cons (pv 7) (pa_cons (pv 9) pa_nil))))))))
          (pss_one (ps_expr (pe_bm PySem.F.plainAttrs_list PySem.F.slot_list_extend PySem.F.type_list_extend mt_extend (pv 2) (pa_cons (pe_lc (own := [("word", 11), ("since", 12)]) rfl nd (ki_zip (K := K) (by rfl) T.zip (pa_cons (pe_glob (v := .ref W) (by rfl) hW rfl) (pa_cons (pv 10) pa_nil))) (blkOk_by (N := n_marks_of) (sc := defScope s_marks_of) (by decide +kernel)) (fun _ _ _ _ _ => (kg_tup (K := K) (n := 2) (pgs_cons (pg_name (i := 11) nd rfl (.inl rfl)) (pgs_cons (pg_name (i := 12) nd rfl (.inl rfl)) pgs_nil)))) (fun _ _ _ _ _ => pts_nil) (fun _ _ _ _ _ => (pe_tup (pa_cons (pv 11) (pa_cons (pv 3) (pa_cons (pv 12) pa_nil)))))) pa_nil))))))))
      (pss_one (ps_ret (pv 2))))), ?_⟩
    have lx : xs.length = ts.length := dpAll_map_len hx
    refine ⟨Nat.zero_le _, fun R nR => ?_⟩
    have p0 : PvD K H [] R (fun _ => ([] : List Mk).map mkD) 0 (upd H R (.lst [])) := pd_start nR rfl
    generalize upd H R (.lst []) = H1 at p0 ⊢
    refine ⟨_, rfl, a, _, rfl, p0.sm.seq hS, ?_⟩
    refine for_it (walk_enum (xs := xs)) (fun i σ Hx => ∃ v3 v4 v5 v6 v7 v8 v9 v10 ms, σ = [some v, some (.ref a), some (.ref R), v3, v4, v5, v6, v7, v8, v9, v10, none, none] ∧ PvD K H [] R (fun _ => ms.map mkD) 0 Hx ∧ mksF cs ws 0 ts = ms ++ mksF cs ws i (ts.drop i) ∧ ms.length ≤ 6 * i)
      ⟨_, _, _, _, _, _, _, _, [], rfl, p0, rfl, Nat.zero_le _⟩ (fun i σ H4 _ h => by obtain ⟨_, _, _, _, _, _, _, _, _, _, h, _⟩ := h; exact h.sm.seq hS) ?_ ?_
    · rintro i x σ H4 H5 hi ⟨v3, v4, v5, v6, v7, v8, v9, v10, ms, rfl, pv, old, lms⟩ ⟨tt, x1, x2, rfl, nt, rfl, g1, g2⟩
      cases g1
      replace g2 : xs[i]? = some x2 := g2
      obtain ⟨t, gt, dp⟩ := dpAll_map_at hx g2
      have hit := hin t (List.mem_of_getElem? gt)
      have edrop : ts.drop i = t :: ts.drop (i + 1) := by
        rw [List.drop_eq_getElem_cons (by omega), (List.getElem?_eq_some_iff.mp gt).2]
      rw [edrop] at old
      obtain ⟨pt1, rfl, hpt1⟩ := tr_dp dp
      have pv := pv.same (same_upd (o := .tup [.int (i : Nat), .ref pt1]) nt)
      refine ⟨tt, _, rfl, .inl (.inl upd_same), rfl, _, _, rfl, _, _, rfl, pt1, _, rfl, same_tup pv.sm hpt1, rfl, _, _, rfl, _, _, rfl, _, _, rfl, _, _, rfl, rfl, rfl, ?_⟩
      generalize upd H4 tt (.tup [.int (i : Nat), .ref pt1]) = H5 at pv ⊢
      have dpP5 := dp_same pv.sm dpP
      refine ⟨_, rfl, _, rfl, _, rfl, v, cs, ws, t.2.1, rfl, dpP5, hit, fun xc c ec dpc => ?_⟩
      obtain ⟨r, rfl, hr2⟩ := col_dp dpc
      refine ⟨r, _, 1, _, rfl, rfl, hr2, rfl, _, _, rfl, rfl, ?_⟩
      refine ⟨_, rfl, _, rfl, _, rfl, _, rfl, v, cs, ws, a, xs, ts, i, t, rfl, dpP5, pv.sm.seq hS, dpAll_same pv.sm hx, hin, wok, gt, _, _, rfl, rfl, ?_⟩
      generalize hwb : wbF ws t (ts.drop (i + 1)) = wh
      refine ⟨_, rfl, _, rfl, _, rfl, _, rfl, _, rfl, v, cs, ws, t.2.1, t.1, rfl, dpP5, hit, fun c2 ec2 => ?_⟩
      rw [ec] at ec2
      cases ec2
      refine ⟨_, rfl, _, rfl, _, rfl, (by show 6 ≤ sizeLine; decide), fun th nth => ?_⟩
      have pv := pv.same (same_upd (o := .tup [V.int t.1, .int (t.1 + c.2.1), .int (t.1 + c.2.1 + c.2.2.1), .int t.2.2.1, .int t.2.2.2, .int (t.2.2.2 + wh)]) nth)
      have hth : upd H5 th (.tup [V.int t.1, .int (t.1 + c.2.1), .int (t.1 + c.2.1 + c.2.2.1), .int t.2.2.1, .int t.2.2.2, .int (t.2.2.2 + wh)]) th = some (.tup [V.int t.1, .int (t.1 + c.2.1), .int (t.1 + c.2.1 + c.2.2.1), .int t.2.2.1, .int t.2.2.2, .int (t.2.2.2 + wh)]) := upd_same
      generalize upd H5 th (.tup [V.int t.1, .int (t.1 + c.2.1), .int (t.1 + c.2.1 + c.2.2.1), .int t.2.2.1, .int t.2.2.2, .int (t.2.2.2 + wh)]) = H6 at pv hth ⊢
      have hth : H6 th = some (.tup ((hrsF c t wh).map V.int)) := hth
      have pv0 := pv
      obtain ⟨s6, us, hR, daR⟩ := pv
      have lvR : Live [R] H6 := live_nil.cons hR
      refine ⟨_, rfl, .inl ⟨rfl, _, SqL.of hR⟩, _, rfl, W, th, _, _, rfl, .inr ⟨sW _, .inl (.inl hth), fun D nD => ?_⟩⟩
      have e6 : mksF cs ws i (t :: ts.drop (i + 1)) = six i (hrsF c t wh) ++ mksF cs ws (i + 1) (ts.drop (i + 1)) := by
        show (match colF cs t.2.1 with | none => [] | some c => six i (hrsF c t (wbF ws t (ts.drop (i + 1))))) ++ _ = _
        rw [ec, hwb]
      rw [e6] at old
      have lh : (hrsF c t wh).length = 6 := rfl
      generalize hrsF c t wh = hs at hth old lh
      have l6 : (six i hs).length = 6 := by
        unfold six
        rw [List.length_map, List.length_zip, lh]; rfl
      refine lc_it (walk_zipT (xs := wordsS.map V.str) (ys := hs.map V.int) (n := 6) (by rw [List.length_map, List.length_map, lh]; rfl)) (PvD K H6 [R] D fun j => ((six i hs).take j).map mkD) (pd_start nD rfl) (fun j H' _ h => ⟨sW _, same_tup h.sm (.inl (.inl hth))⟩) ?_ ?_
      · rintro j y Ha Hb hj pz ⟨u, x1, y1, rfl, nu, rfl, gx, gy⟩
        replace gx : (wordsS.map V.str)[j]? = some x1 := gx
        replace gy : (hs.map V.int)[j]? = some y1 := gy
        rw [List.getElem?_map] at gx gy
        obtain ⟨wd, gw, rfl⟩ := Option.map_eq_some_iff.mp gx
        obtain ⟨ho, gh, rfl⟩ := Option.map_eq_some_iff.mp gy
        have g6 : (six i hs)[j]? = some (wd, i, ho) := by
          unfold six
          rw [List.getElem?_map, (List.getElem?_zip_eq_some (z := (wd, ho))).mpr ⟨gw, gh⟩]; rfl
        have pz := pz.same (same_upd (o := .tup [.str wd, .int ho]) nu)
        refine ⟨u, _, rfl, .inl (.inl upd_same), rfl, _, _, rfl, _, _, rfl, rfl, rfl, tYes_at ?_⟩
        rw [if_pos rfl]
        generalize upd Ha u (.tup [.str wd, .int ho]) = Hc at pz ⊢
        refine ⟨_, rfl, _, rfl, _, rfl, (by show 3 ≤ sizeLine; decide), fun t3 n3 => ?_⟩
        exact pd_put nD pz (same_upd n3) (.tup (.inl (.inl (off_new (pz.live lvR) n3))) (.cons (.str _) (.cons (.int _) (.cons (.int _) .nil)))) (take_mapD mkD g6) (take_lenD (by omega))
      · intro H7 pz
        obtain ⟨s7, us2, fD, da⟩ := pd_end lvR nD pz (take_allD (by omega))
        have l2 : us2.length = 6 := by rw [dpAll_map_len da]; exact l6
        have l1 : us.length = ms.length := dpAll_map_len daR
        refine ⟨R, D, us, us2, rfl, rfl, s7 _ _ hR, at_off fD, (by rw [sizeLine_eq]; omega), ?_⟩
        have pe := pd_ext (j := 0) nR (s6.trans s7) (s7 _ _ hR) (dpAll_same (sm_of s7) daR) da
        refine ⟨_, _, _, _, _, _, _, _, ms ++ six i hs, rfl, ?_, by rw [old, List.append_assoc], by rw [List.length_append]; omega⟩
        simp only [List.map_append]
        exact pe
    · rintro σ Hx ⟨v3, v4, v5, v6, v7, v8, v9, v10, ms, rfl, pv, old, lms⟩
      rw [lx, List.drop_length] at old
      have e0 : mksF cs ws ts.length [] = [] := rfl
      rw [e0, List.append_nil] at old
      obtain ⟨s6, us, hR, daR⟩ := pv
      rw [old] at q
      exact ⟨_, rfl, q _ _ _ s6 hR nR daR⟩

end
end Pot

namespace Pot
open PySem PySem.Spec PyProof.Rows L2
section
variable {P : Program} {w : World} {K : PySem.W.Frag} {mg : Str → Option Value} {base : Heap}
def stF (h : Int) : Option (Str × Nat) → List Mk → Option (Str × Nat)
  | s, [] => s
  | s, m :: ms => stF h (if m.2.2 ≤ h then some (m.1, m.2.1) else s) ms
def stD : Option (Str × Nat) → PyData
  | none => .tuple [.str "out", .none]
  | some p => .tuple [.str p.1, .int (p.2 : Nat)]
theorem mk_dp {H : Hp} {x : V} {m : Mk} (h : Dp K H x (mkD m)) : ∃ p, x = .ref p ∧ SqT K H p [.str m.1, .int (m.2.1 : Nat), .int m.2.2] := by
  obtain ⟨p, xs, rfl, hp, hx⟩ := dp_tup h
  cases hx with
  | cons a hx =>
    obtain ⟨y, z, rfl, b, c⟩ := dp_two hx
    rw [dp_str a, dp_int b, dp_int c] at hp
    exact ⟨p, rfl, hp⟩

end
end Pot

namespace Pot
open PySem PySem.Spec PyProof.Rows L2
section
variable {P : Program} {w : World} {K : PySem.W.Frag} {mg : Str → Option Value} {base : Heap}
/-! ### stretches: from mark to mark -/
abbrev Mo := Str × Option Nat × Int
abbrev Rw := Str × Option Nat × Int × Int
def onV : Option Nat → V
  | none => .non
  | some n => .int (n : Nat)
def onD : Option Nat → PyData
  | none => .none
  | some n => .int (n : Nat)
theorem on_dp {H : Hp} (o : Option Nat) : Dp K H (onV o) (onD o) := by
  cases o
  · exact .non
  · exact .int _
theorem dp_on {H : Hp} {x : V} {o : Option Nat} (h : Dp K H x (onD o)) : x = onV o := by
  cases o
  · cases h; rfl
  · exact dp_int h
def moD (m : Mo) : PyData := .tuple [.str m.1, onD m.2.1, .int m.2.2]
def rwD (r : Rw) : PyData := .tuple [.str r.1, onD r.2.1, .int r.2.2.1, .int r.2.2.2]
def opn (m : Mk) : Mo := (m.1, some m.2.1, m.2.2)
theorem mo_mk (m : Mk) : mkD m = moD (opn m) := rfl
def cutR (f l : Int) (m : Mo) (u : Int) : Rw := (m.1, m.2.1, (if m.2.2 > f then m.2.2 else f), (if u < l then u else l))
def keepR (r : Rw) : Bool := decide (r.2.2.1 < r.2.2.2)
def rowsS (f l : Int) (m : Mo) (ms : List Mk) : List Rw := ((m :: ms.map opn).zip (ms.map (·.2.2) ++ [l])).map fun p => cutR f l p.1 p.2
def strF (f l : Int) (ms : List Mk) : List Rw := (rowsS f l ("out", none, f) ms).filter keepR
/-- rows one behind the other without a gap -/
def Run : Int → Int → List Rw → Prop
  | h, e, [] => h = e
  | h, e, r :: rs => r.2.2.1 = h ∧ r.2.2.1 < r.2.2.2 ∧ Run r.2.2.2 e rs
def Mn : Int → List Mk → Prop
  | _, [] => True
  | lo, m :: ms => lo ≤ m.2.2 ∧ Mn m.2.2 ms
theorem rows_cons (f l : Int) (m : Mo) (m2 : Mk) (ms : List Mk) : rowsS f l m (m2 :: ms) = cutR f l m m2.2.2 :: rowsS f l (opn m2) ms := rfl
theorem run_rows (f l : Int) (hfl : f ≤ l) : ∀ (ms : List Mk) (m : Mo), Mn m.2.2 ms → Run (if (if m.2.2 > f then m.2.2 else f) < l then (if m.2.2 > f then m.2.2 else f) else l) l ((rowsS f l m ms).filter keepR)
  | [], m, _ => by
    show Run _ l (([cutR f l m l]).filter keepR)
    rw [List.filter_cons]
    generalize es : (if m.2.2 > f then m.2.2 else f) = s
    have ec : cutR f l m l = (m.1, m.2.1, s, l) := by
      unfold cutR
      rw [es, if_neg (by omega)]
    rw [ec]
    by_cases h : s < l
    · have k : keepR (m.1, m.2.1, s, l) = true := decide_eq_true h
      rw [if_pos h, if_pos k]
      exact ⟨rfl, h, rfl⟩
    · have k : keepR (m.1, m.2.1, s, l) = false := decide_eq_false h
      rw [if_neg h, if_neg (by rw [k]; exact Bool.false_ne_true)]
      rfl
  | m2 :: ms, m, ⟨h0, h1⟩ => by
    have ih := run_rows f l hfl ms (opn m2) h1
    rw [rows_cons, List.filter_cons]
    have e2 : (opn m2).2.2 = m2.2.2 := rfl
    rw [e2] at ih
    generalize m2.2.2 = u at h0 ih ⊢
    generalize es : (if m.2.2 > f then m.2.2 else f) = s
    have ec : cutR f l m u = (m.1, m.2.1, s, if u < l then u else l) := by
      unfold cutR
      rw [es]
    rw [ec]
    generalize eu : (if u < l then u else l) = t
    by_cases h : s < t
    · have k : keepR (m.1, m.2.1, s, t) = true := decide_eq_true h
      rw [if_pos k]
      have e1 : (if s < l then s else l) = s := if_pos (by split at eu <;> omega)
      have e3 : (if (if u > f then u else f) < l then (if u > f then u else f) else l) = t := by
        split at es <;> split at eu <;> (repeat' split) <;> omega
      rw [e1]
      rw [e3] at ih
      exact ⟨rfl, h, ih⟩
    · have k : keepR (m.1, m.2.1, s, t) = false := decide_eq_false h
      have kn : ¬ (keepR (m.1, m.2.1, s, t) = true) := by rw [k]; exact Bool.false_ne_true
      rw [if_neg kn]
      have e3 : (if (if u > f then u else f) < l then (if u > f then u else f) else l) = (if s < l then s else l) := by
        split at es <;> split at eu <;> (repeat' split) <;> omega
      rw [← e3]
      exact ih
theorem run_str {f l : Int} (hfl : f ≤ l) {ms : List Mk} (h : Mn f ms) : Run f l (strF f l ms) := by
  have := run_rows f l hfl ms ("out", none, f) h
  have e : (if (if ((("out", none, f) : Mo).2.2) > f then (("out", none, f) : Mo).2.2 else f) < l then (if ((("out", none, f) : Mo).2.2) > f then (("out", none, f) : Mo).2.2 else f) else l) = f := by
    show (if (if f > f then f else f) < l then (if f > f then f else f) else l) = f
    (repeat' split) <;> omega
  rw [e] at this
  exact this
/-! ### the words of marks and rows, and how great they are -/
theorem mks_words {cs : List Col} {ws : List Wsh} : ∀ {ts : List Trn} {i : Nat} {m : Mk}, m ∈ mksF cs ws i ts → m.1 ∈ wordsS
  | [], _, _, h => (List.not_mem_nil h).elim
  | t :: ts, i, m, h => by
    have h : m ∈ (match colF cs t.2.1 with | none => [] | some c => six i (hrsF c t (wbF ws t ts))) ++ mksF cs ws (i + 1) ts := h
    rcases List.mem_append.mp h with h | h
    · cases e : colF cs t.2.1 with
      | none => rw [e] at h; exact (List.not_mem_nil h).elim
      | some c =>
        rw [e] at h
        obtain ⟨p, hp, rfl⟩ := List.mem_map.mp h
        exact (List.of_mem_zip (show (p.1, p.2) ∈ _ from hp)).1
    · exact mks_words h
theorem rows_words {f l : Int} : ∀ {ms : List Mk} {m : Mo} {r : Rw}, m.1 ∈ wordsS → (∀ m ∈ ms, m.1 ∈ wordsS) → r ∈ rowsS f l m ms → r.1 ∈ wordsS
  | [], m, r, h0, _, h => by
    have h : r ∈ [cutR f l m l] := h
    rw [List.mem_singleton.mp h]
    exact h0
  | m2 :: ms, m, r, h0, h1, h => by
    rw [rows_cons] at h
    rcases List.mem_cons.mp h with rfl | h
    · exact h0
    · exact rows_words (m := opn m2) (h1 m2 List.mem_cons_self) (fun x hx => h1 x (List.mem_cons_of_mem _ hx)) h
theorem str_words {cs : List Col} {ws : List Wsh} {ts : List Trn} {f l : Int} {r : Rw} (h : r ∈ strF f l (mksF cs ws 0 ts)) : r.1 ∈ wordsS :=
  rows_words (m := ("out", none, f)) (show Str.ofString "out" ∈ wordsS by decide +kernel) (fun _ h => mks_words h) (List.mem_filter.mp h).1
theorem rows_len (f l : Int) : ∀ (ms : List Mk) (m : Mo), (rowsS f l m ms).length = ms.length + 1
  | [], _ => rfl
  | m2 :: ms, m => by rw [rows_cons, List.length_cons, rows_len f l ms]; rfl
theorem str_len (f l : Int) (ms : List Mk) : (strF f l ms).length ≤ ms.length + 1 := by
  have := List.length_filter_le keepR (rowsS f l ("out", none, f) ms)
  rw [rows_len] at this
  exact this
theorem word_ok {z : Str} (h : z ∈ wordsS) : z.length ≤ 2000 ∧ ∀ x ∈ z.cps.toList, x < 1114112 := by
  simp only [wordsS, List.mem_cons, List.not_mem_nil, or_false] at h
  rcases h with rfl | rfl | rfl | rfl | rfl | rfl <;> exact ⟨by decide +kernel, by decide +kernel⟩
def rowG (r : Rw) : Nat := (match r.2.1 with | none => 0 | some n => n) + r.2.2.1.natAbs + r.2.2.2.natAbs
theorem rw_gd {r : Rw} {m : Nat} (h : r.1 ∈ wordsS) (l : rowG r ≤ m) : gdAll.gd m (rwD r) := by
  unfold rowG at l
  obtain ⟨a, o, b, c⟩ := r
  cases o with
  | none =>
    replace l : 0 + b.natAbs + c.natAbs ≤ m := l
    exact ⟨word_ok h, trivial, by show b.natAbs ≤ m; omega, by show c.natAbs ≤ m; omega, trivial⟩
  | some n =>
    replace l : n + b.natAbs + c.natAbs ≤ m := l
    exact ⟨word_ok h, by show n ≤ m; omega, by show b.natAbs ≤ m; omega, by show c.natAbs ≤ m; omega, trivial⟩
theorem rws_gd {rs : List Rw} (h : ∀ r ∈ rs, r.1 ∈ wordsS) : ∃ m, gdAll.gd m (.list (rs.map rwD)) := by
  refine ⟨(rs.map rowG).sum, gdAll_iff.mpr fun d hd => ?_⟩
  obtain ⟨r, hr, rfl⟩ := List.mem_map.mp hd
  refine rw_gd (h r hr) ?_
  have : ∀ {l : List Nat} {x : Nat}, x ∈ l → x ≤ l.sum := fun {l x} hx => by
    induction l with
    | nil => exact (List.not_mem_nil hx).elim
    | cons y l ih =>
      rw [List.sum_cons]
      rcases List.mem_cons.mp hx with rfl | hx
      · omega
      · have := ih hx; omega
  exact this (List.mem_map.mpr ⟨r, hr, rfl⟩)

/-! ### what follows where there is no fault -/
theorem one_none {cs : List Col} {ws : List Wsh} {p : Option Trn} {t : Trn} (h : oneF cs ws p t = none) : (∀ q, p = some q → btwF ws q t = none) ∧ witF cs t = none := by
  unfold oneF at h
  split at h
  · rename_i e
    refine ⟨fun q hq => ?_, h⟩
    rw [hq] at e
    exact e
  · cases h
theorem fau_cons {cs : List Col} {ws : List Wsh} {p : Option Trn} {i : Nat} {t : Trn} {ts : List Trn} (h : fauF cs ws p i (t :: ts) = none) : oneF cs ws p t = none ∧ fauF cs ws (some t) (i + 1) ts = none := by
  unfold fauF at h
  split at h
  · cases h
  · rename_i e
    exact ⟨e, h⟩
theorem btw_none {ws : List Wsh} {q t : Trn} (h : btwF ws q t = none) : ∃ wh, washF ws (some q.2.1) t.2.1 = some wh ∧ q.2.2.2 ≤ t.1 ∧ q.2.2.2 + wh ≤ t.1 := by
  unfold btwF at h
  split at h
  · cases h
  · rename_i h0
    split at h
    · cases h
    · rename_i wh ew
      split at h
      · cases h
      · rename_i h1
        exact ⟨wh, ew, by omega, by omega⟩
theorem wit_none {cs : List Col} {t : Trn} {c : Col} (h : witF cs t = none) (e : colF cs t.2.1 = some c) : t.1 + c.2.1 + c.2.2.1 ≤ t.2.2.1 := by
  unfold witF at h
  rw [e] at h
  have h : (if 0 < t.1 + c.2.1 + c.2.2.1 - t.2.2.1 then some (("early", some (t.1 + c.2.1 + c.2.2.1 - t.2.2.1)) : Flt) else none) = none := h
  split at h
  · cases h
  · omega
theorem mn_six {i : Nat} {a b c d e g lo : Int} {ms : List Mk} (h0 : lo ≤ a) (h1 : a ≤ b) (h2 : b ≤ c) (h3 : c ≤ d) (h4 : d ≤ e) (h5 : e ≤ g) (h6 : Mn g ms) : Mn lo (six i [a, b, c, d, e, g] ++ ms) := ⟨h0, h1, h2, h3, h4, h5, h6⟩
theorem mn_low {lo lo2 : Int} (h : lo2 ≤ lo) : ∀ {ms : List Mk}, Mn lo ms → Mn lo2 ms
  | [], _ => trivial
  | _ :: _, ⟨a, b⟩ => ⟨by omega, b⟩
/-- without fault marks rise, and none but washings that may be stand between -/
theorem fau_marks {cs : List Col} {ws : List Wsh} (hc : ∀ c ∈ cs, 1 ≤ c.2.1 ∧ c.2.1 ≤ 20 ∧ 0 ≤ c.2.2.1 ∧ c.2.2.1 ≤ 99) (hw : ∀ r ∈ ws, ∀ i, r.2.2 = some i → 0 ≤ i ∧ i ≤ 99) : ∀ {ts : List Trn} {p : Option Trn} {i : Nat} {lo : Int}, fauF cs ws p i ts = none → (∀ t ∈ ts, InC cs t.2.1 ∧ t.2.2.1 < t.2.2.2) → (∀ t, ts.head? = some t → lo ≤ t.1) → WOk ws ts ∧ Mn lo (mksF cs ws i ts)
  | [], _, _, _, _, _, _ => ⟨trivial, trivial⟩
  | t :: ts, p, i, lo, h, hin, hlo => by
    obtain ⟨h1, h2⟩ := fau_cons h
    obtain ⟨hI, hbe⟩ := hin t List.mem_cons_self
    obtain ⟨c, ec⟩ := colF_some hI
    have w := wit_none (one_none h1).2 ec
    have hcm := hc c (colF_mem ec).1
    have l0 := hlo t rfl
    have em : mksF cs ws i (t :: ts) = six i (hrsF c t (wbF ws t ts)) ++ mksF cs ws (i + 1) ts := by
      show (match colF cs t.2.1 with | none => [] | some c => six i (hrsF c t (wbF ws t ts))) ++ _ = _
      rw [ec]
    rw [em]
    cases ts with
    | nil =>
      obtain ⟨i1, i2⟩ := fau_marks hc hw (lo := t.2.2.2 + wbF ws t []) h2 (fun u hu => (List.not_mem_nil hu).elim) (fun u hu => by cases hu)
      refine ⟨⟨fun u hu => (by cases hu), trivial⟩, ?_⟩
      exact mn_six l0 (by omega) (by omega) (by omega) (by omega) (by show t.2.2.2 ≤ t.2.2.2 + 0; omega) i2
    | cons u us =>
      obtain ⟨h3, _⟩ := fau_cons h2
      obtain ⟨wh, ew, b1, b2⟩ := btw_none ((one_none h3).1 t rfl)
      have w0 := (washF_pos hw ew).1
      have ewb : wbF ws t (u :: us) = wh := by
        show (washF ws (some t.2.1) u.2.1).getD 0 = wh
        rw [ew]; rfl
      obtain ⟨i1, i2⟩ := fau_marks hc hw (lo := t.2.2.2 + wbF ws t (u :: us)) h2 (fun x hx => hin x (List.mem_cons_of_mem _ hx)) (fun x hx => by cases hx; rw [ewb]; exact b2)
      refine ⟨⟨fun x hx => ⟨wh, by cases hx; exact ew⟩, i1⟩, ?_⟩
      exact mn_six l0 (by omega) (by omega) (by omega) (by omega) (by show t.2.2.2 ≤ t.2.2.2 + wbF ws t (u :: us); rw [ewb]; omega) i2
theorem fau_spare {cs : List Col} {ws : List Wsh} {t : Trn} {c : Col} : ∀ {ts : List Trn} {p : Option Trn} {i : Nat}, fauF cs ws p i ts = none → t ∈ ts → colF cs t.2.1 = some c → t.1 + c.2.1 + c.2.2.1 ≤ t.2.2.1
  | [], _, _, _, h, _ => (List.not_mem_nil h).elim
  | u :: ts, p, i, h, hm, e => by
    obtain ⟨h1, h2⟩ := fau_cons h
    rcases List.mem_cons.mp hm with rfl | hm
    · exact wit_none (one_none h1).2 e
    · exact fau_spare h2 hm e

abbrev s_stretches : Stmt := topS 8
def n_stretches : List Str := ["palette", "turns", "first", "last", "marks", "ends", "rows", "until", "word", "number", "since", "row", "mark"]
theorem sc_stretches : FnScope n_stretches ["palette", "turns", "first", "last"] (defScope s_stretches) := ⟨rfl, rfl, rfl, by decide +kernel, rfl, by decide +kernel, by decide +kernel⟩
def spStr (K : PySem.W.Frag) : Sp := fun vs H Q _ => ∃ (v : V) (cs : List Col) (ws : List Wsh) (a : Addr) (xs : List V) (ts : List Trn) (f l : Int), vs = [v, .ref a, .int f, .int l] ∧ Dp K H v (palD cs ws) ∧ SqL K H a xs ∧ DpAll K H xs (ts.map trD) ∧ (∀ t ∈ ts, InC cs t.2.1) ∧ WOk ws ts ∧ ts.length ≤ 31 ∧
  ∀ H' R ys, Same H H' → H' R = some (.lst ys) → H R = none → DpAll K (off H' [R]) ys ((strF f l (mksF cs ws 0 ts)).map rwD) → Q (.ref R) H'
theorem mks_len (cs : List Col) (ws : List Wsh) : ∀ (ts : List Trn) (i : Nat), (mksF cs ws i ts).length ≤ 6 * ts.length
  | [], _ => Nat.le_refl 0
  | t :: ts, i => by
    have ih := mks_len cs ws ts (i + 1)
    show ((match colF cs t.2.1 with | none => [] | some c => six i (hrsF c t (wbF ws t ts))) ++ mksF cs ws (i + 1) ts).length ≤ _
    rw [List.length_append, List.length_cons]
    cases colF cs t.2.1 with
    | none => show 0 + _ ≤ _; omega
    | some c => show 6 + _ ≤ _; omega
theorem mo_dp {H : Hp} {x : V} {m : Mo} (h : Dp K H x (moD m)) : ∃ p, x = .ref p ∧ SqT K H p [.str m.1, onV m.2.1, .int m.2.2] := by
  obtain ⟨p, xs, rfl, hp, hx⟩ := dp_tup h
  cases hx with
  | cons a hx =>
    obtain ⟨y, z, rfl, b, c⟩ := dp_two hx
    rw [dp_str a, dp_on b, dp_int c] at hp
    exact ⟨p, rfl, hp⟩
theorem rw_dp {H : Hp} {x : V} {r : Rw} (h : Dp K H x (rwD r)) : ∃ p, x = .ref p ∧ SqT K H p [.str r.1, onV r.2.1, .int r.2.2.1, .int r.2.2.2] := by
  obtain ⟨p, xs, rfl, hp, hx⟩ := dp_tup h
  obtain ⟨xa, xc, xe, xg, rfl, qa, qc, qe, qg⟩ := dp_four hx
  rw [dp_str qa, dp_on qc, dp_int qe, dp_int qg] at hp
  exact ⟨p, rfl, hp⟩
set_option maxHeartbeats 2000000 in
theorem ok_str {f : Addr} {fd : FuncData} {k : Nat} (F : Fun K "stretches" "stretches" s_stretches f fd) (T : Txt mg) (c_marks_of : Cl P w K mg base (k + 4) "marks_of" (spMarks K)) : FnOk P w K mg base CX0 (k + 5) f fd ["palette", "turns", "first", "last"] (spStr K) := by
  refine F.ok sc_stretches (fun vs H Q E h => ?_) (fun cdv A outer s H vs Q E hr h => ?_)
  · obtain ⟨v, cs, ws, a, xs, ts, f, l, rfl, _⟩ := h
    rfl
  · obtain ⟨v, cs, ws, a, xs, ts, f, l, rfl, dpP, hS, hx, hin, wok, l31, q⟩ := h
    have nd := sc_stretches.nd
    /- 0 palette, 1 turns, 2 first, 3 last, 4 marks, 5 ends, 6 rows, 7 until, 8 word, 9 number, 10 since, 11 row, 12 mark -/
    refine ⟨_, (pss_cons (ps_set (i := 4) nd rfl (.inl rfl) (pe_op op_cat (pe_lst (pa_cons (pe_tup (pa_cons pe_str (pa_cons pe_non (pa_cons (pv 2) pa_nil)))) pa_nil)) (pe_cl c_marks_of hr (by omega) (by rfl) (pa_cons (pv 0) (pa_cons (pv 1) pa_nil)))))
      (pss_cons (ps_set (i := 5) nd rfl (.inl rfl) (pe_op op_cat (pe_lc (own := [("mark", 12)]) rfl nd (ki_list (K := K) (pe_slice (kl_list (K := K)) (pv 4) (po_some pe_int) po_none)) (blkOk_by (N := n_stretches) (sc := defScope s_stretches) (by decide +kernel)) (fun _ _ _ _ _ => (pg_name (i := 12) nd rfl (.inl rfl))) (fun _ _ _ _ _ => pts_nil) (fun _ _ _ _ _ => (pe_ix (kx_tup (K := K)) (pv 12) pe_int (fun _ _ => rfl)))) (pe_lst (pa_cons (pv 3) pa_nil))))
      (pss_cons (ps_setLc (i := 6) (own := [("until", 7), ("word", 8), ("number", 9), ("since", 10)]) rfl nd rfl rfl (sw_true rfl rfl rfl (by decide +kernel)) (ki_zip (K := K) (by rfl) T.zip (pa_cons (pv 4) (pa_cons (pv 5) pa_nil))) (blkOk_by (N := n_stretches) (sc := defScope s_stretches) (by decide +kernel)) (fun _ _ _ _ _ => (kg_tup (K := K) (n := 2) (pgs_cons (kg_tup (K := K) (n := 3) (pgs_cons (pg_name (i := 8) nd rfl (.inl rfl)) (pgs_cons (pg_name (i := 9) nd rfl (.inl rfl)) (pgs_cons (pg_name (i := 10) nd rfl (.inl rfl)) pgs_nil)))) (pgs_cons (pg_name (i := 7) nd rfl (.inl rfl)) pgs_nil)))) (fun _ _ _ _ _ => pts_nil) (fun _ _ _ _ _ => (pe_tup (pa_cons (pv 8) (pa_cons (pv 9) (pa_cons (pe_callB (call_max2 rfl) (by rfl) T.max (by decide +kernel) (pa_cons (pv 2) (pa_cons (pv 10) pa_nil))) (pa_cons (pe_callB (call_min2 rfl) (by rfl) T.min (by decide +kernel) (pa_cons (pv 3) (pa_cons (pv 7) pa_nil))) pa_nil)))))))
      (pss_one (ps_ret (pe_lc (own := [("row", 11)]) rfl nd (ki_list (K := K) (pv 6)) (blkOk_by (N := n_stretches) (sc := defScope s_stretches) (by decide +kernel)) (fun _ _ _ _ _ => (pg_name (i := 11) nd rfl (.inl rfl))) (fun _ _ _ _ _ => (pts_one (pt_cmpR op_lt (pe_ix (kx_tup (K := K)) (pv 11) pe_int (fun _ _ => rfl)) (pe_ix (kx_tup (K := K)) (pv 11) pe_int (fun _ _ => rfl)) (nomark _)))) (fun _ _ _ _ _ => (pv 11)))))))), ?_⟩
    have est : L2.start n_stretches [v, .ref a, .int f, .int l] = [some v, some (.ref a), some (.int f), some (.int l), none, none, none, none, none, none, none, none, none] := rfl
    rw [est]
    refine ⟨_, rfl, (by show 3 ≤ sizeLine; decide), fun t0 nt0 => ?_⟩
    have s1 := same_upd (o := .tup [.str "out", .non, .int f]) nt0
    have h0 : upd H t0 (.tup [.str "out", .non, .int f]) t0 = _ := upd_same
    generalize upd H t0 (.tup [.str "out", .non, .int f]) = H1 at s1 h0 ⊢
    refine ⟨(by show 1 ≤ sizeLine; decide), fun l0 nl0 => ?_⟩
    have s2 := s1.trans (same_upd (o := .lst [.ref t0]) nl0)
    have h0 := same_upd (o := .lst [.ref t0]) nl0 _ _ h0
    have hl0 : upd H1 l0 (.lst [.ref t0]) l0 = _ := upd_same
    generalize upd H1 l0 (.lst [.ref t0]) = H2 at s2 h0 hl0 ⊢
    refine ⟨_, rfl, _, rfl, v, cs, ws, a, xs, ts, rfl, dp_same s2 dpP, s2.seq hS, dpAll_same s2 hx, hin, wok, l31, fun H3 R ys s3 hR nR da => ?_⟩
    have s3' := s2.trans s3
    have h0 := s3 _ _ h0
    have hl0 := s3 _ _ hl0
    have lm := mks_len cs ws ts 0
    generalize mksF cs ws 0 ts = ms at da lm q
    have lys : ys.length = ms.length := dpAll_map_len da
    have da : DpAll K H3 ys (ms.map mkD) := dpAll_same off_sub da
    refine ⟨l0, R, _, _, rfl, rfl, hl0, hR, (by rw [sizeLine_eq]; show 1 + ys.length ≤ _; omega), fun M nM => ?_⟩
    have s4 := s3'.trans (same_upd (o := .lst ([.ref t0] ++ ys)) nM)
    have h0 := same_upd (o := .lst ([.ref t0] ++ ys)) nM _ _ h0
    have da := dpAll_same (same_upd (o := .lst ([.ref t0] ++ ys)) nM) da
    have hM : upd H3 M (.lst ([.ref t0] ++ ys)) M = _ := upd_same
    generalize upd H3 M (.lst ([.ref t0] ++ ys)) = H4 at s4 h0 da hM ⊢
    have dM : DpAll K H4 (.ref t0 :: ys) ((("out", none, f) :: ms.map opn : List Mo).map moD) := .cons (.tup (.inl (.inl h0)) (.cons (.str _) (.cons .non (.cons (.int _) .nil)))) (by rw [List.map_map]; exact da)
    clear hR nR hl0 nl0 nt0 s1 s2 s3 s3' nM
    refine ⟨_, rfl, _, rfl, M, _, rfl, SqL.of hM, fun l1 nl1 => ?_⟩
    have ecu : cutV ([V.ref t0] ++ ys) (some 1) none = ys := by
      have := cut_tail (xs := [V.ref t0] ++ ys) (k := 1); exact this
    rw [ecu]
    have s5 := s4.trans (same_upd (o := .lst ys) nl1)
    have dM := dpAll_same (same_upd (o := .lst ys) nl1) dM
    have hM := same_upd (o := .lst ys) nl1 _ _ hM
    have hl1 : upd H4 l1 (.lst ys) l1 = _ := upd_same
    generalize upd H4 l1 (.lst ys) = H5 at s5 dM hM hl1 ⊢
    cases dM with
    | cons d0 da5 =>
    refine ⟨l1, rfl, ⟨_, SqL.of hl1⟩, fun D nD => ?_⟩
    refine lc_it (walk_list (xs := ys)) (PvL H5 D fun i => ((ms.map (·.2.2)).take i).map V.int) (pv_start nD rfl) (fun i H6 _ h => SqL.of (h.1 _ _ hl1)) ?_ ?_
    · rintro i y H6 H7 hi p ⟨rfl, gx⟩
      obtain ⟨m0, gm0, dpm⟩ := dpAll_map_at da5 gx
      rw [List.getElem?_map] at gm0
      obtain ⟨m, gm, rfl⟩ := Option.map_eq_some_iff.mp gm0
      obtain ⟨pm, rfl, hpm⟩ := mo_dp dpm
      refine ⟨rfl, tYes_at ?_⟩
      rw [if_pos rfl]
      refine ⟨_, rfl, pm, _, 2, _, rfl, rfl, same_tup p.1 hpm, rfl, ?_⟩
      exact pv_put nD p (Same.refl _) (take_map V.int (by rw [List.getElem?_map, gm]; rfl)) (take_len_le (by rw [List.length_map]; omega))
    intro H6 p
    obtain ⟨s6, hD⟩ := pv_end p (take_all (by rw [List.length_map]; omega))
    have hM := s6 _ _ hM
    have dM : DpAll K H6 (.ref t0 :: ys) ((("out", none, f) :: ms.map opn : List Mo).map moD) := dpAll_same s6 (.cons d0 da5)
    have s6 := s5.trans s6
    refine ⟨_, rfl, (by show 1 ≤ sizeLine; decide), fun l2 nl2 => ?_⟩
    have s7 := s6.trans (same_upd (o := .lst [.int l]) nl2)
    have hM := same_upd (o := .lst [.int l]) nl2 _ _ hM
    have hD := same_upd (o := .lst [.int l]) nl2 _ _ hD
    have dM := dpAll_same (same_upd (o := .lst [.int l]) nl2) dM
    have hl2 : upd H6 l2 (.lst [.int l]) l2 = _ := upd_same
    generalize upd H6 l2 (.lst [.int l]) = H7 at s7 hM hD dM hl2 ⊢
    refine ⟨D, l2, _, _, rfl, rfl, hD, hl2, (by rw [sizeLine_eq]; simp only [List.length_map, List.length_cons, List.length_nil]; omega), fun E2 nE2 => ?_⟩
    have ee : (ms.map (·.2.2)).map V.int ++ [V.int l] = (ms.map (·.2.2) ++ [l]).map V.int := by rw [List.map_append]; rfl
    rw [ee]
    generalize hes : ms.map (·.2.2) ++ [l] = es
    have les : es.length = ms.length + 1 := by rw [← hes, List.length_append, List.length_map]; rfl
    have s8 := s7.trans (same_upd (o := .lst (es.map V.int)) nE2)
    have hM := same_upd (o := .lst (es.map V.int)) nE2 _ _ hM
    have dM := dpAll_same (same_upd (o := .lst (es.map V.int)) nE2) dM
    have hE : upd H7 E2 (.lst (es.map V.int)) E2 = _ := upd_same
    generalize upd H7 E2 (.lst (es.map V.int)) = H8 at s8 hM dM hE ⊢
    have hM : H8 M = some (.lst (V.ref t0 :: ys)) := hM
    generalize (V.ref t0 :: ys) = mv at hM dM
    have erow : strF f l ms = (((("out", none, f) :: ms.map opn : List Mo).zip es).map fun p => cutR f l p.1 p.2).filter keepR := by rw [← hes]; rfl
    rw [erow] at q
    have lmo : (("out", none, f) :: ms.map opn : List Mo).length = ms.length + 1 := by rw [List.length_cons, List.length_map]
    generalize (("out", none, f) :: ms.map opn : List Mo) = mo at dM q lmo
    have lmv : mv.length = mo.length := dpAll_map_len dM
    clear da5 d0 hD hl2 hl1 ee hes
    simp only [List.set]
    refine ⟨_, rfl, _, rfl, M, E2, _, _, rfl, .inl ⟨SqL.of hM, SqL.of hE, fun D2 nD2 => ?_⟩⟩
    have lz : (mo.zip es).length = ms.length + 1 := by rw [List.length_zip, lmo, les]; omega
    refine lc_it (walk_zip (xs := mv) (ys := es.map V.int) (n := (mo.zip es).length) (by rw [List.length_map, List.length_zip, lmv])) (PvD K H8 [] D2 fun j => (((mo.zip es).map fun p => cutR f l p.1 p.2).take j).map rwD) (pd_start nD2 rfl) (fun j H' _ h => ⟨SqL.of (h.sm _ _ hM), SqL.of (h.sm _ _ hE)⟩) ?_ ?_
    · rintro j y Ha Hb hj pz ⟨u, x1, y1, rfl, nu, rfl, gx, gy⟩
      replace gx : mv[j]? = some x1 := gx
      replace gy : (es.map V.int)[j]? = some y1 := gy
      rw [List.getElem?_map] at gy
      obtain ⟨e, ge, rfl⟩ := Option.map_eq_some_iff.mp gy
      obtain ⟨m, gm, dpm⟩ := dpAll_map_at dM gx
      obtain ⟨pm, rfl, hpm⟩ := mo_dp dpm
      have gz : (mo.zip es)[j]? = some (m, e) := (List.getElem?_zip_eq_some (z := (m, e))).mpr ⟨gm, ge⟩
      have pz := pz.same (same_upd (o := .tup [.ref pm, .int e]) nu)
      have hu : upd Ha u (.tup [.ref pm, .int e]) u = _ := upd_same
      generalize upd Ha u (.tup [.ref pm, .int e]) = Hc at pz hu ⊢
      refine ⟨u, _, rfl, .inl (.inl hu), rfl, _, _, rfl, pm, _, rfl, same_tup pz.sm hpm, rfl, _, _, rfl, _, _, rfl, _, _, rfl, rfl, _, _, rfl, rfl, rfl, tYes_at ?_⟩
      rw [if_pos rfl]
      refine ⟨_, rfl, _, rfl, _, rfl, _, rfl, _, _, rfl, _, rfl, _, rfl, _, _, rfl, (by show 4 ≤ sizeLine; decide), fun t4 n4 => ?_⟩
      exact pd_put nD2 pz (same_upd n4) (.tup (.inl (.inl (off_new (pz.live live_nil) n4))) (.cons (.str _) (.cons (on_dp _) (.cons (.int _) (.cons (.int _) .nil))))) (take_mapD rwD (x := cutR f l m e) (by rw [List.getElem?_map, gz]; rfl)) (take_lenD (by rw [List.length_map]; omega))
    intro H9 pz
    obtain ⟨s9, us, hD2, daR⟩ := pz
    have eall : (((mo.zip es).map fun p => cutR f l p.1 p.2).take (mo.zip es).length).map rwD = ((mo.zip es).map fun p => cutR f l p.1 p.2).map rwD := take_allD (by rw [List.length_map]; exact Nat.le_refl _)
    rw [eall] at daR
    have lrs : ((mo.zip es).map fun p => cutR f l p.1 p.2).length = ms.length + 1 := by rw [List.length_map]; exact lz
    generalize ((mo.zip es).map fun p => cutR f l p.1 p.2) = rs at daR q lrs
    have daR : DpAll K H9 us (rs.map rwD) := dpAll_same off_sub daR
    have lus : us.length = rs.length := dpAll_map_len daR
    have s9 := s8.trans s9
    refine ⟨_, rfl, D2, rfl, ⟨_, SqL.of hD2⟩, fun D3 nD3 => ?_⟩
    have daR0 : DpAll K (off H9 []) us (rs.map rwD) := by rw [off_nil]; exact daR
    refine lc_it (walk_list (xs := us)) (PvD K H9 [] D3 fun j => ((rs.take j).filter keepR).map rwD) (pd_start nD3 rfl) (fun j H' _ h => SqL.of (h.sm _ _ hD2)) ?_ ?_
    · rintro j y Ha Hb hj pv ⟨rfl, gx⟩
      obtain ⟨r, gr, dpr⟩ := dpAll_map_at daR0 gx
      obtain ⟨pr, rfl, hpr⟩ := rw_dp dpr
      have hpr := same_tup (off_sub.trans pv.sm) hpr
      refine ⟨rfl, _, rfl, pr, _, 2, _, rfl, rfl, hpr, rfl, _, rfl, pr, _, 3, _, rfl, rfl, hpr, rfl, _, _, rfl, rfl, _, rfl, ite2 (fun h => ?_) (fun h => ?_)⟩
      · exact ⟨_, rfl, pd_put nD3 pv (Same.refl _) (dp_same (pv.keep nD3) dpr) (filt_yes rwD gr h) (filt_len rwD _ (by omega))⟩
      · exact pd_skip pv (Same.refl _) (filt_no rwD gr ((Bool.not_eq_true _).mp h))
    intro H10 pv
    obtain ⟨s10, vs, hD3, daF⟩ := pv
    have efl : ((rs.take us.length).filter keepR).map rwD = (rs.filter keepR).map rwD := filt_all rwD _ (by omega)
    rw [efl] at daF
    have nD30 : H D3 = none := by
      cases e : H D3 with
      | none => rfl
      | some o => rw [s9 _ _ e] at nD3; cases nD3
    exact q _ _ _ (s9.trans s10) hD3 nD30 daF

/-! ### the hours of a word -/
def hinL (z : Str) (rs : List Rw) : List Int := (rs.filter fun r => decide (r.1 = z)).map fun r => r.2.2.2 - r.2.2.1
def hinF (z : Str) (rs : List Rw) : Int := (hinL z rs).sum
abbrev s_hours_in : Stmt := topS 9
def n_hours_in : List Str := ["palette", "turns", "word", "first", "last", "told", "number", "since", "until"]
theorem sc_hours_in : FnScope n_hours_in ["palette", "turns", "word", "first", "last"] (defScope s_hours_in) := ⟨rfl, rfl, rfl, by decide +kernel, rfl, by decide +kernel, by decide +kernel⟩
def spHin (K : PySem.W.Frag) : Sp := fun vs H Q _ => ∃ (v : V) (cs : List Col) (ws : List Wsh) (a : Addr) (xs : List V) (ts : List Trn) (z : Str) (f l : Int), vs = [v, .ref a, .str z, .int f, .int l] ∧ Dp K H v (palD cs ws) ∧ SqL K H a xs ∧ DpAll K H xs (ts.map trD) ∧ (∀ t ∈ ts, InC cs t.2.1) ∧ WOk ws ts ∧ ts.length ≤ 31 ∧
  ∀ H', Same H H' → Q (.int (hinF z (strF f l (mksF cs ws 0 ts)))) H'
theorem hin_succ {z : Str} {rs : List Rw} {i : Nat} {r : Rw} (g : rs[i]? = some r) : hinL z (rs.take (i + 1)) = hinL z (rs.take i) ++ (if decide (r.1 = z) = true then [r.2.2.2 - r.2.2.1] else []) := by
  unfold hinL
  rw [List.take_add_one, g, Option.toList_some, List.filter_append, List.map_append, List.filter_cons, List.filter_nil]
  split <;> rfl
theorem hin_len (z : Str) (rs : List Rw) : (hinL z rs).length ≤ rs.length := by
  unfold hinL
  rw [List.length_map]
  exact List.length_filter_le ..
set_option maxHeartbeats 1000000 in
theorem ok_hin {f : Addr} {fd : FuncData} {k : Nat} (F : FunV K "hours_in" s_hours_in [.int 0, .int 24] f fd) (T : Txt mg) (c_stretches : Cl P w K mg base (k + 5) "stretches" (spStr K)) : FnOk P w K mg base CX0 (k + 6) f fd ["palette", "turns", "word", "first", "last"] (spHin K) := by
  refine okD F sc_hours_in (fun vs H Q E h => ?_) (fun cdv A outer s H vs Q E hr h => ?_)
  · obtain ⟨v, cs, ws, a, xs, ts, z, f, l, rfl, _⟩ := h
    rfl
  · obtain ⟨v, cs, ws, a, xs, ts, z, f, l, rfl, dpP, hS, hx, hin, wok, l31, q⟩ := h
    have nd := sc_hours_in.nd
    /- 0 palette, 1 turns, 2 word, 3 first, 4 last, 5 told, 6 number, 7 since, 8 until -/
    refine ⟨_, (pss_one (ps_ret (pe_callB (kc_sum (K := K)) (by rfl) T.sum (by decide +kernel) (pa_cons (pe_lc (own := [("told", 5), ("number", 6), ("since", 7), ("until", 8)]) rfl nd (ki_list (K := K) (pe_cl c_stretches hr (by omega) (by rfl) (pa_cons (pv 0) (pa_cons (pv 1) (pa_cons (pv 3) (pa_cons (pv 4) pa_nil)))))) (blkOk_by (N := n_hours_in) (sc := defScope s_hours_in) (by decide +kernel)) (fun _ _ _ _ _ => (kg_tup (K := K) (n := 4) (pgs_cons (pg_name (i := 5) nd rfl (.inl rfl)) (pgs_cons (pg_name (i := 6) nd rfl (.inl rfl)) (pgs_cons (pg_name (i := 7) nd rfl (.inl rfl)) (pgs_cons (pg_name (i := 8) nd rfl (.inl rfl)) pgs_nil)))))) (fun _ _ _ _ _ => (pts_one (pt_cmpR op_eq (pv 5) (pv 2) (nomark _)))) (fun _ _ _ _ _ => (pe_op op_sub (pv 8) (pv 7)))) pa_nil)))), ?_⟩
    refine ⟨_, rfl, _, rfl, _, rfl, _, rfl, v, cs, ws, a, xs, ts, f, l, rfl, dpP, hS, hx, hin, wok, l31, fun H2 R ys s2 hR nR da => ?_⟩
    have lm := mks_len cs ws ts 0
    have lr := str_len f l (mksF cs ws 0 ts)
    generalize strF f l (mksF cs ws 0 ts) = rs at da lr q
    have lys : ys.length = rs.length := dpAll_map_len da
    refine ⟨R, rfl, ⟨_, SqL.of hR⟩, fun D nD => ?_⟩
    refine lc_it (walk_list (xs := ys)) (PvL H2 D fun i => (hinL z (rs.take i)).map V.int) (pv_start nD rfl) (fun i H' _ h => SqL.of (h.1 _ _ hR)) ?_ ?_
    · rintro i y Ha Hb hi pv ⟨rfl, gx⟩
      obtain ⟨r, gr, dpr⟩ := dpAll_map_at da gx
      obtain ⟨pr, rfl, hpr⟩ := rw_dp dpr
      have es := hin_succ (z := z) gr
      refine ⟨pr, _, rfl, same_tup (off_sub.trans pv.1) hpr, rfl, _, _, rfl, _, _, rfl, _, _, rfl, _, _, rfl, rfl, rfl, _, rfl, _, rfl, rfl, _, rfl, ite2 (fun h => ?_) (fun h => ?_)⟩
      · have h : decide (r.1 = z) = true := decide_eq_true (V.str.inj (of_decide_eq_true h))
        rw [if_pos h] at es
        refine ⟨_, rfl, _, rfl, _, _, rfl, rfl, ?_⟩
        exact pv_put nD pv (Same.refl _) (by rw [es, List.map_append]; rfl) (by rw [List.length_map, sizeLine_eq]; have := hin_len z (rs.take i); have := List.length_take_le' i rs; omega)
      · have h : ¬ decide (r.1 = z) = true := fun y => h (decide_eq_true (by rw [of_decide_eq_true y]))
        rw [if_neg h, List.append_nil] at es
        exact pv_skip pv (Same.refl _) (by rw [es])
    · intro H3 pv
      obtain ⟨s3, hD⟩ := pv_end pv (zs := (hinL z rs).map V.int) (by rw [List.take_of_length_le (by omega)])
      exact ⟨D, _, rfl, SqL.of hD, q _ (s2.trans s3)⟩

end
end Pot

namespace Pot
open PySem PySem.Spec PyProof.Rows L2
section
variable {P : Program} {w : World} {K : PySem.W.Frag} {mg : Str → Option Value} {base : Heap}
def TrB (cs : List Col) (m : Nat) (t : Trn) : Prop := InC cs t.2.1 ∧ t.1.natAbs ≤ m ∧ t.2.2.1.natAbs ≤ m ∧ t.2.2.2.natAbs ≤ m
theorem TrB.mono {cs : List Col} {m m' : Nat} {t : Trn} (h : TrB cs m t) (l : m ≤ m') : TrB cs m' t := ⟨h.1, Nat.le_trans h.2.1 l, Nat.le_trans h.2.2.1 l, Nat.le_trans h.2.2.2 l⟩
theorem trs_gd {cs : List Col} (wd : ∀ c ∈ cs, Nm c.1) {m : Nat} {ts : List Trn} (h : ∀ t ∈ ts, TrB cs m t) : gdAll.gd m (.list (ts.map trD)) := gdAll_iff.mpr fun d hd => by
  obtain ⟨t, ht, rfl⟩ := List.mem_map.mp hd
  obtain ⟨⟨c, hc, e⟩, h1, h2, h3⟩ := h t ht
  have n := wd c hc
  rw [e] at n
  exact ⟨h1, ⟨Nat.le_trans n.1.1 (by decide), fun x hx => Nat.lt_trans (n.ascii x hx) (by decide)⟩, h2, h3, trivial⟩
theorem trs_depth (ts : List Trn) : (PyData.list (ts.map trD)).depth ≤ 2 := by
  show PyData.depthAll _ + 1 ≤ 2
  have : PyData.depthAll (ts.map trD) ≤ 1 := depthAll_iff.mpr fun d hd => by
    obtain ⟨t, _, rfl⟩ := List.mem_map.mp hd
    simp [trD, PyData.depth, PyData.depthAll]
  omega
theorem trs_wid {ts : List Trn} (h : ts.length ≤ 60) : widAll.wid (.list (ts.map trD)) ≤ 60 := by
  refine Nat.max_le.mpr ⟨by rw [List.length_map]; exact h, widAll_iff.mpr fun d hd => ?_⟩
  obtain ⟨t, _, rfl⟩ := List.mem_map.mp hd
  show max 4 (max 0 (max 0 (max 0 (max 0 0)))) ≤ 60
  decide
theorem th_pal {cs : List Col} {ws : List Wsh} (h : PalC cs ws) : Th 10000 1000000 3 60 (palD cs ws) := by
  have l1 := h.le
  have l2 := h.ok.nw
  have wc : ∀ c : Col, widAll.wid (colD c) ≤ 60 := fun c => by
    show max 4 (max 0 (max 0 (max 0 (max 0 0)))) ≤ 60
    decide
  have ww : ∀ r : Wsh, widAll.wid (washD r) ≤ 60 := fun r => by
    show max 3 (max 0 (max 0 (max (widAll.wid (optD r.2.2)) 0))) ≤ 60
    cases r.2.2 <;> (show max 3 (max 0 (max 0 (max 0 0))) ≤ 60; decide)
  refine ⟨⟨gdAll_iff.mpr fun d hd => ?_, gdAll_iff.mpr fun d hd => ?_, trivial⟩, pal_cost h.ok, pal_depth cs ws, ?_⟩
  · obtain ⟨c, hc, rfl⟩ := List.mem_map.mp hd
    obtain ⟨a1, a2, a3, a4, a5⟩ := h.ok.cn c hc
    exact ⟨⟨by omega, a2⟩, Nat.le_of_lt a3, Nat.le_of_lt a4, Nat.le_of_lt a5, trivial⟩
  · obtain ⟨r, hr, rfl⟩ := List.mem_map.mp hd
    obtain ⟨a1, a2, a3⟩ := h.ok.wn r hr
    refine ⟨⟨by omega, a1.2⟩, ⟨by omega, a2.2⟩, ?_, trivial⟩
    cases e : r.2.2 with
    | none => trivial
    | some i => exact Nat.le_of_lt (a3 i e)
  · show max 2 (widAll _) ≤ 60
    refine Nat.max_le.mpr ⟨by decide, widAll_iff.mpr fun d hd => ?_⟩
    simp only [List.mem_cons, List.not_mem_nil, or_false] at hd
    rcases hd with rfl | rfl
    · show max _ (widAll _) ≤ 60
      refine Nat.max_le.mpr ⟨by rw [List.length_map]; omega, widAll_iff.mpr fun d hd => ?_⟩
      obtain ⟨c, hc, rfl⟩ := List.mem_map.mp hd
      exact wc c
    · show max _ (widAll _) ≤ 60
      refine Nat.max_le.mpr ⟨by rw [List.length_map]; omega, widAll_iff.mpr fun d hd => ?_⟩
      obtain ⟨r, hr, rfl⟩ := List.mem_map.mp hd
      exact ww r
theorem th_trs {cs : List Col} (wd : ∀ c ∈ cs, Nm c.1) {m : Nat} {ts : List Trn} (h : ∀ t ∈ ts, TrB cs m t) (l : ts.length ≤ 31) : Th m 200000 2 60 (.list (ts.map trD)) := by
  refine ⟨trs_gd wd h, ?_, trs_depth ts, trs_wid (by omega)⟩
  have hc : costAll (ts.map trD) ≤ ts.length * (5856 + 2) := costAll_map fun t ht => by
    obtain ⟨⟨c, hc, e⟩, _⟩ := h t ht
    have n := (wd c hc).1.1
    rw [e] at n
    show (1921 + 2 + ((10 * t.2.1.length + 2) + 2 + (1921 + 2 + (1921 + 2 + 0)))) + 3 ≤ 5856
    omega
  show costAll (ts.map trD) + 3 ≤ 200000
  have := Nat.mul_le_mul_right 5858 l
  omega
theorem ch_wok {cs : List Col} {ws : List Wsh} : ∀ {ts : List Trn} {f : Int} {l : Option Str}, Ch cs ws f l ts → WOk ws ts
  | [], _, _, _ => trivial
  | t :: ts, f, l, ⟨s, r⟩ => ⟨fun u hu => by
      cases ts with
      | nil => cases hu
      | cons y ts =>
        cases hu
        obtain ⟨⟨c, h, a1, a2, _⟩, _⟩ := r
        exact ⟨h, a2⟩, ch_wok r⟩
theorem stF_app (h : Int) : ∀ (a b : List Mk) (s : Option (Str × Nat)), stF h s (a ++ b) = stF h (stF h s a) b
  | [], _, _ => rfl
  | _ :: a, b, _ => stF_app h a b _
theorem wb_pos {ws : List Wsh} (hw : ∀ r ∈ ws, ∀ i, r.2.2 = some i → 0 ≤ i ∧ i ≤ 99) (t : Trn) (ts : List Trn) : 0 ≤ wbF ws t ts ∧ wbF ws t ts ≤ 99 := by
  cases ts with
  | nil => exact ⟨Int.le_refl _, by show (0 : Int) ≤ 99; decide⟩
  | cons u ts =>
    show 0 ≤ (washF ws (some t.2.1) u.2.1).getD 0 ∧ (washF ws (some t.2.1) u.2.1).getD 0 ≤ 99
    cases e : washF ws (some t.2.1) u.2.1 with
    | none => decide
    | some h => exact washF_pos hw e
theorem tr_gd {t : Trn} (h : Nm t.2.1) : gdAll.gd (t.1.natAbs + t.2.2.1.natAbs + t.2.2.2.natAbs) (trD t) :=
  ⟨by show t.1.natAbs ≤ _; omega, ⟨Nat.le_trans h.1.1 (by decide), fun x hx => Nat.lt_trans (h.ascii x hx) (by decide)⟩, by show t.2.2.1.natAbs ≤ _; omega, by show t.2.2.2.natAbs ≤ _; omega, trivial⟩
theorem tr_shaped {t : Trn} (h : Nm t.2.1) : SeqAt.shaped (trD t) = true := gd_shaped (tr_gd h) (by simp [trD, PyData.depth, PyData.depthAll])
theorem trs_gdE : ∀ {us : List Trn}, (∀ t ∈ us, Nm t.2.1) → ∃ m, gdAll.gd m (.list (us.map trD))
  | [], _ => ⟨0, trivial⟩
  | t :: us, h => by
    obtain ⟨m, hm⟩ := trs_gdE fun x hx => h x (List.mem_cons_of_mem _ hx)
    exact ⟨m + (t.1.natAbs + t.2.2.1.natAbs + t.2.2.2.natAbs), gd_mono (by omega) _ (tr_gd (h t List.mem_cons_self)), gdAll_mono (by omega) _ hm⟩
theorem trs_shaped {us : List Trn} (h : ∀ t ∈ us, Nm t.2.1) : SeqAt.shaped (.list (us.map trD)) = true := by
  obtain ⟨m, hm⟩ := trs_gdE h
  exact gd_shaped hm (Nat.le_trans (trs_depth us) (by decide))
def endsF (c : Col) (t : Trn) (w : Int) : List Int := [t.1 + c.2.1, t.1 + c.2.1 + c.2.2.1, t.2.2.1, t.2.2.2, t.2.2.2 + w]
theorem six_state {c : Col} {t : Trn} {w h : Int} {i : Nat} {s : Option (Str × Nat)} (c1 : 1 ≤ c.2.1) (c3 : 0 ≤ c.2.2.1) (a4 : t.1 + c.2.1 + c.2.2.1 ≤ t.2.2.1) (a5 : t.2.2.1 < t.2.2.2) (w0 : 0 ≤ w) (h0 : t.1 ≤ h) : ∃ wd, wordsS[((endsF c t w).filter fun x => decide (x ≤ h)).length]? = some wd ∧ stF h s (six i (hrsF c t w)) = some (wd, i) := by
  have e : six i (hrsF c t w) = [(("filled" : Str), i, t.1), ("melting", i, t.1 + c.2.1), ("ready", i, t.1 + c.2.1 + c.2.2.1), ("worked", i, t.2.2.1), ("washed", i, t.2.2.2), ("out", i, t.2.2.2 + w)] := rfl
  rw [e]
  unfold endsF wordsS
  by_cases b1 : t.1 + c.2.1 ≤ h
  · by_cases b2 : t.1 + c.2.1 + c.2.2.1 ≤ h
    · by_cases b3 : t.2.2.1 ≤ h
      · by_cases b4 : t.2.2.2 ≤ h
        · by_cases b5 : t.2.2.2 + w ≤ h
          · exact ⟨Str.ofString "out", by simp [b1, b2, b3, b4, b5], by simp [stF, h0, b1, b2, b3, b4, b5]⟩
          · exact ⟨Str.ofString "washed", by simp [b1, b2, b3, b4, b5], by simp [stF, h0, b1, b2, b3, b4, b5]⟩
        · have b5 : ¬ t.2.2.2 + w ≤ h := by omega
          exact ⟨Str.ofString "worked", by simp [b1, b2, b3, b4, b5], by simp [stF, h0, b1, b2, b3, b4, b5]⟩
      · have b4 : ¬ t.2.2.2 ≤ h := by omega
        have b5 : ¬ t.2.2.2 + w ≤ h := by omega
        exact ⟨Str.ofString "ready", by simp [b1, b2, b3, b4, b5], by simp [stF, h0, b1, b2, b3, b4, b5]⟩
    · have b3 : ¬ t.2.2.1 ≤ h := by omega
      have b4 : ¬ t.2.2.2 ≤ h := by omega
      have b5 : ¬ t.2.2.2 + w ≤ h := by omega
      exact ⟨Str.ofString "melting", by simp [b1, b2, b3, b4, b5], by simp [stF, h0, b1, b2, b3, b4, b5]⟩
  · have b2 : ¬ t.1 + c.2.1 + c.2.2.1 ≤ h := by omega
    have b3 : ¬ t.2.2.1 ≤ h := by omega
    have b4 : ¬ t.2.2.2 ≤ h := by omega
    have b5 : ¬ t.2.2.2 + w ≤ h := by omega
    exact ⟨Str.ofString "filled", by simp [b1, b2, b3, b4, b5], by simp [stF, h0, b1, b2, b3, b4, b5]⟩
theorem six_not {c : Col} {t : Trn} {w h : Int} {i : Nat} {s : Option (Str × Nat)} (c1 : 1 ≤ c.2.1) (c3 : 0 ≤ c.2.2.1) (a4 : t.1 + c.2.1 + c.2.2.1 ≤ t.2.2.1) (a5 : t.2.2.1 < t.2.2.2) (w0 : 0 ≤ w) (h0 : ¬ t.1 ≤ h) : stF h s (six i (hrsF c t w)) = s := by
  have e : six i (hrsF c t w) = [(("filled" : Str), i, t.1), ("melting", i, t.1 + c.2.1), ("ready", i, t.1 + c.2.1 + c.2.2.1), ("worked", i, t.2.2.1), ("washed", i, t.2.2.2), ("out", i, t.2.2.2 + w)] := rfl
  rw [e]
  have b1 : ¬ t.1 + c.2.1 ≤ h := by omega
  have b2 : ¬ t.1 + c.2.1 + c.2.2.1 ≤ h := by omega
  have b3 : ¬ t.2.2.1 ≤ h := by omega
  have b4 : ¬ t.2.2.2 ≤ h := by omega
  have b5 : ¬ t.2.2.2 + w ≤ h := by omega
  simp [stF, h0, b1, b2, b3, b4, b5]
theorem cut_one1 (xs : List V) (i : Nat) : cutV xs (some (((i + 1 : Nat) : Int))) (some (((i + 2 : Nat) : Int))) = (match xs[i + 1]? with | none => [] | some x => [x]) := by
  unfold cutV
  rw [HT.sIx_nat, HT.sIx_nat]
  cases e : xs[i + 1]? with
  | none =>
    have := List.getElem?_eq_none_iff.mp e
    rw [Nat.min_eq_right this, Nat.min_eq_right (by omega), Nat.sub_self, List.take_zero]
  | some x =>
    obtain ⟨h, rfl⟩ := List.getElem?_eq_some_iff.mp e
    rw [Nat.min_eq_left (by omega), Nat.min_eq_left (by omega), List.drop_eq_getElem_cons h, show i + 2 - (i + 1) = 1 by omega]
    rfl
theorem ch_at {cs : List Col} {ws : List Wsh} {t : Trn} : ∀ {ts : List Trn} {f : Int} {l : Option Str} {i : Nat}, Ch cs ws f l ts → ts[i]? = some t → ∃ c, colF cs t.2.1 = some c ∧ t.1 + c.2.1 + c.2.2.1 ≤ t.2.2.1 ∧ t.2.2.1 < t.2.2.2
  | [], _, _, _, _, g => by cases g
  | x :: ts, f, l, 0, ⟨⟨c, h, a1, a2, a3, a4, a5, a6⟩, r⟩, g => by
    cases g
    exact ⟨c, a1, a4, a5⟩
  | x :: ts, f, l, i + 1, ⟨s, r⟩, g => ch_at (i := i) r g
abbrev s__law_state : Stmt := topS 21
def n__law_state : List Str := ["_law_hues", "_law_row", "_law_hour", "_law_words", "_law_found", "_law_number", "_law_at", "_law_colour", "_law_begin", "_law_end", "_law_charge", "_law_melt", "_law_later", "_law_wash_here", "_law_ends", "_law_one"]
theorem sc__law_state : FnScope n__law_state ["_law_hues", "_law_row", "_law_hour"] (defScope s__law_state) := ⟨rfl, rfl, rfl, by decide +kernel, rfl, by decide +kernel, by decide +kernel⟩
def spLState (K : PySem.W.Frag) : Sp := fun vs H Q _ => ∃ (v : V) (cs : List Col) (ws : List Wsh) (a : Addr) (xs : List V) (ts : List Trn) (h f0 : Int), vs = [v, .ref a, .int h] ∧ Dp K H v (palD cs ws) ∧ PalC cs ws ∧ SqL K H a xs ∧ DpAll K H xs (ts.map trD) ∧ Ch cs ws f0 none ts ∧ ts.length ≤ 31 ∧
  ∀ H' y, Same H H' → Dp K H' y (stD (stF h none (mksF cs ws 0 ts))) → Q y H'
set_option maxHeartbeats 2000000 in
theorem ok_lstate {f : Addr} {fd : FuncData} {k : Nat} (F : Fun K "_law_state" "_law_state" s__law_state f fd) (T : Txt mg) (c__law_hours : Cl P w K mg base (k + 1) "_law_hours" (spLHours K)) (c__law_wash : Cl P w K mg base (k + 1) "_law_wash" (spLWash K)) : FnOk P w K mg base CX0 (k + 2) f fd ["_law_hues", "_law_row", "_law_hour"] (spLState K) := by
  refine F.ok sc__law_state (fun vs H Q E h => ?_) (fun cdv A outer s H vs Q E hr h => ?_)
  · obtain ⟨v, cs, ws, a, xs, ts, h, f0, rfl, _⟩ := h
    rfl
  · obtain ⟨v, cs, ws, a, xs, ts, h, f0, rfl, dpP, pb, hS, hx, cts, l31, q⟩ := h
    have nd := sc__law_state.nd
    have hu64 := hr.units
    /- 0 _law_hues, 1 _law_row, 2 _law_hour, 3 _law_words, 4 _law_found, 5 _law_number, 6 _law_at, 7 _law_colour, 8 _law_begin, 9 _law_end, 10 _law_charge, 11 _law_melt, 12 _law_later, 13 _law_wash_here, 14 _law_ends, 15 _law_one -/
    refine ⟨_, (pss_cons (ps_par (i := 3) (j := 4) rfl nd rfl rfl (by decide) rfl rfl (pa_cons (pe_lst (pa_cons pe_str (pa_cons pe_str (pa_cons pe_str (pa_cons pe_str (pa_cons pe_str (pa_cons pe_str pa_nil))))))) (pa_cons (pe_tup (pa_cons pe_str (pa_cons pe_non pa_nil))) pa_nil)) rfl)
      (pss_cons (ps_for PassesOwn.never rfl (ki_enum (K := K) (by rfl) T.enumerate (pa_cons (pv 1) pa_nil)) (kg_tup (K := K) (n := 2) (pgs_cons (pg_name (i := 5) nd rfl (.inl rfl)) (pgs_cons (kg_tup (K := K) (n := 4) (pgs_cons (pg_name (i := 6) nd rfl (.inl rfl)) (pgs_cons (pg_name (i := 7) nd rfl (.inl rfl)) (pgs_cons (pg_name (i := 8) nd rfl (.inl rfl)) (pgs_cons (pg_name (i := 9) nd rfl (.inl rfl)) pgs_nil))))) pgs_nil)))
          (pss_one (ps_if (pt_cmpR op_le (pv 6) (pv 2) (nomark _))
              (pss_cons (ps_asg (pe_cl c__law_hours hr (by omega) (by rfl) (pa_cons (pv 0) (pa_cons (pv 7) pa_nil))) (kg_tup (K := K) (n := 2) (pgs_cons (pg_name (i := 10) nd rfl (.inl rfl)) (pgs_cons (pg_name (i := 11) nd rfl (.inl rfl)) pgs_nil))))
              (pss_cons (ps_set (i := 12) nd rfl (.inl rfl) (pe_slice (kl_list (K := K)) (pv 1) (po_some (pe_op op_add (pv 5) pe_int)) (po_some (pe_op op_add (pv 5) pe_int))))
              (pss_cons (ps_set (i := 13) nd rfl (.inl rfl) (pe_ifExp (pt_cmpR (ko_ne (K := K) hu64) (pv 12) (pe_lst pa_nil) (nomark _)) (pe_cl c__law_wash hr (by omega) (by rfl) (pa_cons (pv 0) (pa_cons (pv 7) (pa_cons (pe_ix (kx_tup (K := K)) (pe_ix (kx_list (K := K)) (pv 12) pe_int (fun _ _ => rfl)) pe_int (fun _ _ => rfl)) pa_nil)))) pe_int))
              (pss_cons (ps_set (i := 14) nd rfl (.inl rfl) (pe_lst (pa_cons (pe_op op_add (pv 6) (pv 10)) (pa_cons (pe_op op_add (pe_op op_add (pv 6) (pv 10)) (pv 11)) (pa_cons (pv 8) (pa_cons (pv 9) (pa_cons (pe_op op_add (pv 9) (pv 13)) pa_nil)))))))
              (pss_one (ps_set (i := 4) nd rfl (.inl rfl) (pe_tup (pa_cons (pe_ix (kx_list (K := K)) (pv 3) (pe_callB (kc_len (K := K)) (by rfl) T.len PySem.boot_len (pa_cons (pe_lc (own := [("_law_one", 15)]) rfl nd (ki_list (K := K) (pv 14)) (blkOk_by (N := n__law_state) (sc := defScope s__law_state) (by decide +kernel)) (fun _ _ _ _ _ => (pg_name (i := 15) nd rfl (.inl rfl))) (fun _ _ _ _ _ => (pts_one (pt_cmpR op_le (pv 15) (pv 2) (nomark _)))) (fun _ _ _ _ _ => (pv 15))) pa_nil)) (fun _ _ => rfl)) (pa_cons (pv 5) pa_nil)))))))))
              pss_nil)))
      (pss_one (ps_ret (pv 4))))), ?_⟩
    have lx : xs.length = ts.length := dpAll_map_len hx
    have cb := (ch_bounds pb cts).2
    have wok := ch_wok cts
    have l20 : cs.length ≤ 20 := by have := pb.le; omega
    have nmI : ∀ {z : Str}, InC cs z → Nm z := fun h => by obtain ⟨c, hc, rfl⟩ := h; exact pb.wd c hc
    refine ⟨(by show 6 ≤ sizeLine; decide), fun Wl nW => ⟨(by show 2 ≤ sizeLine; decide), fun p0 np0 => ⟨_, _, rfl, ?_⟩⟩⟩
    have sW := same_upd (o := .lst [.str (Str.ofString "filled"), .str (Str.ofString "melting"), .str (Str.ofString "ready"), .str (Str.ofString "worked"), .str (Str.ofString "washed"), .str (Str.ofString "out")]) nW
    have s1 := sW.trans (same_upd (o := .tup [.str (Str.ofString "out"), .non]) np0)
    have hW : upd (upd H Wl (.lst [.str (Str.ofString "filled"), .str (Str.ofString "melting"), .str (Str.ofString "ready"), .str (Str.ofString "worked"), .str (Str.ofString "washed"), .str (Str.ofString "out")])) p0 (.tup [.str (Str.ofString "out"), .non]) Wl = some (.lst [.str (Str.ofString "filled"), .str (Str.ofString "melting"), .str (Str.ofString "ready"), .str (Str.ofString "worked"), .str (Str.ofString "washed"), .str (Str.ofString "out")]) := same_upd (o := .tup [.str (Str.ofString "out"), .non]) np0 _ _ upd_same
    have d0 : Dp K (upd (upd H Wl (.lst [.str (Str.ofString "filled"), .str (Str.ofString "melting"), .str (Str.ofString "ready"), .str (Str.ofString "worked"), .str (Str.ofString "washed"), .str (Str.ofString "out")])) p0 (.tup [.str (Str.ofString "out"), .non])) (.ref p0) (stD none) := .tup (.inl (.inl upd_same)) (.cons (.str _) (.cons .non .nil))
    generalize upd (upd H Wl (.lst [.str (Str.ofString "filled"), .str (Str.ofString "melting"), .str (Str.ofString "ready"), .str (Str.ofString "worked"), .str (Str.ofString "washed"), .str (Str.ofString "out")])) p0 (.tup [.str (Str.ofString "out"), .non]) = H1 at s1 hW d0 ⊢
    have hW : H1 Wl = some (.lst (wordsS.map V.str)) := hW
    refine ⟨_, rfl, a, _, rfl, s1.seq hS, ?_⟩
    refine for_it (walk_enum (xs := xs)) (fun i σ Hx => ∃ y4 st v5 v6 v7 v8 v9 v10 v11 v12 v13 v14, σ = [some v, some (.ref a), some (.int h), some (.ref Wl), some y4, v5, v6, v7, v8, v9, v10, v11, v12, v13, v14, none] ∧ Same H1 Hx ∧ Dp K Hx y4 (stD st) ∧ stF h none (mksF cs ws 0 ts) = stF h st (mksF cs ws i (ts.drop i)))
      ⟨_, none, _, _, _, _, _, _, _, _, _, _, rfl, Same.refl _, d0, rfl⟩ (fun i σ Hx _ z => by obtain ⟨_, _, _, _, _, _, _, _, _, _, _, _, _, z, _⟩ := z; exact (s1.trans z).seq hS) ?_ ?_
    · rintro i x σ H4 H5 hi ⟨y4, st, v5, v6, v7, v8, v9, v10, v11, v12, v13, v14, rfl, s4, dst, old⟩ ⟨tt, x1, x2, rfl, nt, rfl, g1, g2⟩
      cases g1
      replace g2 : xs[i]? = some x2 := g2
      obtain ⟨t, gt, dp⟩ := dpAll_map_at hx g2
      obtain ⟨b1, b2, b3, b4, hit⟩ := cb t (List.mem_of_getElem? gt)
      obtain ⟨c, ec, a4, a5⟩ := ch_at cts gt
      obtain ⟨cc1, cc2, cc3, cc4⟩ := pb.ch c (colF_mem ec).1
      obtain ⟨pt1, rfl, hpt1⟩ := tr_dp dp
      have edrop : ts.drop i = t :: ts.drop (i + 1) := by
        rw [List.drop_eq_getElem_cons (by omega), (List.getElem?_eq_some_iff.mp gt).2]
      obtain ⟨wv, ewv⟩ : ∃ wv, wv = wbF ws t (ts.drop (i + 1)) := ⟨_, rfl⟩
      have w0 := (wb_pos pb.wa t (ts.drop (i + 1))).1
      rw [← ewv] at w0
      have emk : mksF cs ws i (ts.drop i) = six i (hrsF c t wv) ++ mksF cs ws (i + 1) (ts.drop (i + 1)) := by
        rw [edrop]
        show (match colF cs t.2.1 with | none => [] | some c => six i (hrsF c t (wbF ws t (ts.drop (i + 1))))) ++ _ = _
        rw [ec, ← ewv]
      rw [emk, stF_app] at old
      have s5 := s4.trans (same_upd (o := .tup [.int (i : Nat), .ref pt1]) nt)
      have dst := dp_same (same_upd (o := .tup [.int (i : Nat), .ref pt1]) nt) dst
      refine ⟨tt, _, rfl, .inl (.inl upd_same), rfl, _, _, rfl, _, _, rfl, pt1, _, rfl, same_tup (s1.trans s5) hpt1, rfl, _, _, rfl, _, _, rfl, _, _, rfl, _, _, rfl, rfl, rfl, ?_⟩
      generalize upd H4 tt (.tup [.int (i : Nat), .ref pt1]) = H5 at s5 dst ⊢
      refine ⟨_, rfl, _, rfl, _, _, rfl, rfl, _, rfl, ite2 (fun hb => ?_) (fun hb => ?_)⟩
      · have hb := of_decide_eq_true hb
        obtain ⟨wd, gwd, est⟩ := six_state (i := i) (s := st) cc1 cc3 a4 a5 w0 hb
        rw [est] at old
        refine ⟨_, rfl, _, rfl, v, cs, ws, t.2.1, rfl, dp_same (s1.trans s5) dpP, l20, hit, fun H6 yh c2 s6 ec2 hy => ?_⟩
        rw [ec] at ec2
        cases ec2
        refine ⟨yh, _, rfl, hy, rfl, _, _, rfl, _, _, rfl, rfl, ?_⟩
        have s6 := s5.trans s6
        simp only [List.set]
        refine ⟨_, rfl, _, rfl, _, _, rfl, rfl, _, rfl, _, rfl, _, _, rfl, rfl, _, rfl, a, _, rfl, (s1.trans s6).seq hS, fun lt nlt => ?_⟩
        have ecu : cutV xs (some (((i : Nat) : Int) + 1)) (some (((i : Nat) : Int) + 2)) = (match xs[i + 1]? with | none => [] | some x => [x]) := by
          rw [show ((i : Nat) : Int) + 1 = ((i + 1 : Nat) : Int) by omega, show ((i : Nat) : Int) + 2 = ((i + 2 : Nat) : Int) by omega, cut_one1]
        rw [ecu]
        cases ex : xs[i + 1]? with
        | none =>
          have lts : ts.length ≤ i + 1 := by rw [← lx]; exact List.getElem?_eq_none_iff.mp ex
          have ewv0 : wv = 0 := by rw [ewv, List.drop_of_length_le lts]; rfl
          have s7 := s6.trans (same_upd (o := .lst []) nlt)
          have hlt : upd H6 lt (.lst []) lt = some (.lst []) := upd_same
          dsimp only
          generalize upd H6 lt (.lst []) = H7 at s7 hlt ⊢
          refine ⟨_, rfl, Nat.zero_le _, fun e ne => ?_⟩
          have s8 := s7.trans (same_upd (o := .lst []) ne)
          have hlt := same_upd (o := .lst []) ne _ _ hlt
          have he : upd H7 e (.lst []) e = some (.lst []) := upd_same
          generalize upd H7 e (.lst []) = H8 at s8 hlt he ⊢
          refine ⟨.list [], .list [], .lst (SqL.of hlt) .nil, .lst (SqL.of he) .nil, rfl, rfl, _, rfl, iteF ?_⟩
          rw [← ewv0]
          simp only [List.set]
          refine ⟨_, rfl, _, rfl, _, _, rfl, rfl, _, rfl, _, rfl, _, _, rfl, rfl, _, rfl, _, _, rfl, rfl, _, rfl, _, rfl, _, rfl, _, rfl, _, _, rfl, rfl, (by show 5 ≤ sizeLine; decide), fun le nle => ?_⟩
          have s9 := s8.trans (same_upd (o := .lst [.int (t.1 + c.2.1), .int (t.1 + c.2.1 + c.2.2.1), .int t.2.2.1, .int t.2.2.2, .int (t.2.2.2 + wv)]) nle)
          have hle : upd H8 le (.lst [.int (t.1 + c.2.1), .int (t.1 + c.2.1 + c.2.2.1), .int t.2.2.1, .int t.2.2.2, .int (t.2.2.2 + wv)]) le = some (.lst [.int (t.1 + c.2.1), .int (t.1 + c.2.1 + c.2.2.1), .int t.2.2.1, .int t.2.2.2, .int (t.2.2.2 + wv)]) := upd_same
          generalize upd H8 le (.lst [.int (t.1 + c.2.1), .int (t.1 + c.2.1 + c.2.2.1), .int t.2.2.1, .int t.2.2.2, .int (t.2.2.2 + wv)]) = H9 at s9 hle ⊢
          have hle : H9 le = some (.lst ((endsF c t wv).map V.int)) := hle
          refine ⟨_, rfl, _, rfl, le, rfl, ⟨(endsF c t wv).map V.int, SqL.of hle⟩, fun D nD => ?_⟩
          refine lc_it (walk_list (xs := (endsF c t wv).map V.int)) (PvL H9 D fun j => (((endsF c t wv).take j).filter fun x => decide (x ≤ h)).map V.int) (pv_start nD rfl) (fun j H' _ z => SqL.of (z.1 _ _ hle)) ?_ ?_
          · rintro j y Hbx Hb hj pv ⟨rfl, gy⟩
            rw [List.getElem?_map] at gy
            obtain ⟨n, gn, rfl⟩ := Option.map_eq_some_iff.mp gy
            refine ⟨rfl, _, rfl, _, rfl, _, _, rfl, rfl, _, rfl, ite2 (fun hn => ?_) (fun hn => ?_)⟩
            · refine ⟨_, rfl, pv_put nD pv (Same.refl _) ?_ ?_⟩
              · show (((endsF c t wv).take (j + 1)).filter _).map V.int = _
                rw [List.take_add_one, gn, Option.toList_some, List.filter_append, List.map_append]
                simp [of_decide_eq_true hn]
              · rw [List.length_map, sizeLine_eq]
                have := List.length_filter_le (fun x => decide (x ≤ h)) ((endsF c t wv).take j)
                have : ((endsF c t wv).take j).length ≤ 5 := List.length_take_le' ..
                omega
            · refine pv_skip pv (Same.refl _) ?_
              show (((endsF c t wv).take (j + 1)).filter _).map V.int = _
              have hn : ¬ n ≤ h := fun z => hn (decide_eq_true z)
              rw [List.take_add_one, gn, Option.toList_some, List.filter_append, List.map_append]
              simp [hn]
          · intro Hb pv
            obtain ⟨s10, hD⟩ := pv_end pv (zs := ((endsF c t wv).filter fun x => decide (x ≤ h)).map V.int) rfl
            have s11 := s9.trans s10
            refine ⟨_, _, rfl, .inl ⟨_, SqL.of hD, rfl⟩, Wl, _, _, .str wd, rfl, rfl, SqL.of (s11 _ _ hW), atI_nat (by rw [List.length_map, List.getElem?_map, gwd]; rfl), _, rfl, (by show 2 ≤ sizeLine; decide), fun pf npf => ?_⟩
            exact ⟨_, some (wd, i), _, _, _, _, _, _, _, _, _, _, rfl, s11.trans (same_upd npf), .tup (.inl (.inl upd_same)) (.cons (.str _) (.cons (.int _) .nil)), old⟩
        | some x1 =>
          obtain ⟨u, gu, dpu⟩ := dpAll_map_at hx ex
          obtain ⟨pu, rfl, hpu⟩ := tr_dp dpu
          obtain ⟨wh, ew⟩ := wok.at gt gu
          have hiu := (cb u (List.mem_of_getElem? gu)).2.2.2.2
          have edu : ts.drop (i + 1) = u :: ts.drop (i + 2) := by
            rw [List.drop_eq_getElem_cons (List.getElem?_eq_some_iff.mp gu).1, (List.getElem?_eq_some_iff.mp gu).2]
          have ewv1 : wv = wh := by rw [ewv, edu]; show (washF ws (some t.2.1) u.2.1).getD 0 = wh; rw [ew]; rfl
          have s7 := s6.trans (same_upd (o := .lst [.ref pu]) nlt)
          have hlt : upd H6 lt (.lst [.ref pu]) lt = some (.lst [.ref pu]) := upd_same
          dsimp only
          generalize upd H6 lt (.lst [.ref pu]) = H7 at s7 hlt ⊢
          refine ⟨_, rfl, Nat.zero_le _, fun e ne => ?_⟩
          have s7 := s7.trans (same_upd (o := .lst []) ne)
          have hlt := same_upd (o := .lst []) ne _ _ hlt
          have he : upd H7 e (.lst []) e = some (.lst []) := upd_same
          generalize upd H7 e (.lst []) = H7 at s7 hlt he ⊢
          refine ⟨.list [trD u], .list [], .lst (SqL.of hlt) (.cons (dp_same (s1.trans s7) dpu) .nil), .lst (SqL.of he) .nil, trs_shaped (us := [u]) (fun x hx => by rw [List.mem_singleton.mp hx]; exact nmI hiu), rfl, _, rfl, iteT ?_⟩
          refine ⟨_, rfl, _, rfl, _, rfl, lt, _, 0, .ref pu, rfl, rfl, SqL.of hlt, rfl, pu, _, 1, _, rfl, rfl, same_tup (s1.trans s7) hpu, rfl, v, cs, ws, some t.2.1, u.2.1, rfl, dp_same (s1.trans s7) dpP, pb.ok, (fun z e => by cases e; exact nmI hit), nmI hiu, fun H8 s8 => ?_⟩
          have s8 := s7.trans s8
          rw [ew, ← ewv1]
          show gName 13 (.int wv) _ H8 _
          simp only [List.set]
          refine ⟨_, rfl, _, rfl, _, _, rfl, rfl, _, rfl, _, rfl, _, _, rfl, rfl, _, rfl, _, _, rfl, rfl, _, rfl, _, rfl, _, rfl, _, rfl, _, _, rfl, rfl, (by show 5 ≤ sizeLine; decide), fun le nle => ?_⟩
          have s9 := s8.trans (same_upd (o := .lst [.int (t.1 + c.2.1), .int (t.1 + c.2.1 + c.2.2.1), .int t.2.2.1, .int t.2.2.2, .int (t.2.2.2 + wv)]) nle)
          have hle : upd H8 le (.lst [.int (t.1 + c.2.1), .int (t.1 + c.2.1 + c.2.2.1), .int t.2.2.1, .int t.2.2.2, .int (t.2.2.2 + wv)]) le = some (.lst [.int (t.1 + c.2.1), .int (t.1 + c.2.1 + c.2.2.1), .int t.2.2.1, .int t.2.2.2, .int (t.2.2.2 + wv)]) := upd_same
          generalize upd H8 le (.lst [.int (t.1 + c.2.1), .int (t.1 + c.2.1 + c.2.2.1), .int t.2.2.1, .int t.2.2.2, .int (t.2.2.2 + wv)]) = H9 at s9 hle ⊢
          have hle : H9 le = some (.lst ((endsF c t wv).map V.int)) := hle
          refine ⟨_, rfl, _, rfl, le, rfl, ⟨(endsF c t wv).map V.int, SqL.of hle⟩, fun D nD => ?_⟩
          refine lc_it (walk_list (xs := (endsF c t wv).map V.int)) (PvL H9 D fun j => (((endsF c t wv).take j).filter fun x => decide (x ≤ h)).map V.int) (pv_start nD rfl) (fun j H' _ z => SqL.of (z.1 _ _ hle)) ?_ ?_
          · rintro j y Hbx Hb hj pv ⟨rfl, gy⟩
            rw [List.getElem?_map] at gy
            obtain ⟨n, gn, rfl⟩ := Option.map_eq_some_iff.mp gy
            refine ⟨rfl, _, rfl, _, rfl, _, _, rfl, rfl, _, rfl, ite2 (fun hn => ?_) (fun hn => ?_)⟩
            · refine ⟨_, rfl, pv_put nD pv (Same.refl _) ?_ ?_⟩
              · show (((endsF c t wv).take (j + 1)).filter _).map V.int = _
                rw [List.take_add_one, gn, Option.toList_some, List.filter_append, List.map_append]
                simp [of_decide_eq_true hn]
              · rw [List.length_map, sizeLine_eq]
                have := List.length_filter_le (fun x => decide (x ≤ h)) ((endsF c t wv).take j)
                have : ((endsF c t wv).take j).length ≤ 5 := List.length_take_le' ..
                omega
            · refine pv_skip pv (Same.refl _) ?_
              show (((endsF c t wv).take (j + 1)).filter _).map V.int = _
              have hn : ¬ n ≤ h := fun z => hn (decide_eq_true z)
              rw [List.take_add_one, gn, Option.toList_some, List.filter_append, List.map_append]
              simp [hn]
          · intro Hb pv
            obtain ⟨s10, hD⟩ := pv_end pv (zs := ((endsF c t wv).filter fun x => decide (x ≤ h)).map V.int) rfl
            have s11 := s9.trans s10
            refine ⟨_, _, rfl, .inl ⟨_, SqL.of hD, rfl⟩, Wl, _, _, .str wd, rfl, rfl, SqL.of (s11 _ _ hW), atI_nat (by rw [List.length_map, List.getElem?_map, gwd]; rfl), _, rfl, (by show 2 ≤ sizeLine; decide), fun pf npf => ?_⟩
            exact ⟨_, some (wd, i), _, _, _, _, _, _, _, _, _, _, rfl, s11.trans (same_upd npf), .tup (.inl (.inl upd_same)) (.cons (.str _) (.cons (.int _) .nil)), old⟩
      · rw [six_not cc1 cc3 a4 a5 w0 (fun z => hb (decide_eq_true z))] at old
        exact ⟨_, _, _, _, _, _, _, _, _, _, _, _, rfl, s5, dst, old⟩
    · rintro σ H4 ⟨y4, st, v5, v6, v7, v8, v9, v10, v11, v12, v13, v14, rfl, s4, dst, old⟩
      rw [lx, List.drop_length] at old
      have old : stF h none (mksF cs ws 0 ts) = st := old
      rw [old] at q
      exact ⟨_, rfl, q _ _ (s1.trans s4) dst⟩

end
end Pot

namespace Pot
open PySem PySem.Spec PyProof.Rows L2
section
variable {P : Program} {w : World} {K : PySem.W.Frag} {mg : Str → Option Value} {base : Heap}
theorem cut_one2 (xs : List V) (i : Nat) : cutV xs (some (((i + 1 : Nat) : Int))) (some (((i + 2 : Nat) : Int))) = (xs[i + 1]?).toList := by
  rw [cut_one1]
  cases xs[i + 1]? <;> rfl
abbrev s__law_edges : Stmt := topS 22
def n__law_edges : List Str := ["_law_hues", "_law_row", "_law_found", "_law_number", "_law_at", "_law_colour", "_law_begin", "_law_end", "_law_charge", "_law_melt", "_law_later", "_law_wash_here", "_law_hour"]
theorem sc__law_edges : FnScope n__law_edges ["_law_hues", "_law_row"] (defScope s__law_edges) := ⟨rfl, rfl, rfl, by decide +kernel, rfl, by decide +kernel, by decide +kernel⟩
def spEdges (K : PySem.W.Frag) : Sp := fun vs H Q _ => ∃ (v : V) (cs : List Col) (ws : List Wsh) (a : Addr) (xs : List V) (ts : List Trn) (f0 : Int), vs = [v, .ref a] ∧ Dp K H v (palD cs ws) ∧ PalC cs ws ∧ SqL K H a xs ∧ DpAll K H xs (ts.map trD) ∧ Ch cs ws f0 none ts ∧ ts.length ≤ 31 ∧
  ∀ (H' : Hp) (p : Addr) (ns : List Int), Same H H' → H p = none → H' p = some (.lst (ns.map V.int)) → ns.length ≤ 4000 → 0 < ns.length → (∀ x ∈ ns, 0 ≤ x ∧ x ≤ 1000000) → Q (.ref p) H'
set_option maxHeartbeats 2000000 in
theorem ok_edges {f : Addr} {fd : FuncData} {k : Nat} (F : Fun K "_law_edges" "_law_edges" s__law_edges f fd) (T : Txt mg) (c__law_hours : Cl P w K mg base (k + 1) "_law_hours" (spLHours K)) (c__law_wash : Cl P w K mg base (k + 1) "_law_wash" (spLWash K)) : FnOk P w K mg base CX0 (k + 2) f fd ["_law_hues", "_law_row"] (spEdges K) := by
  refine F.ok sc__law_edges (fun vs H Q E h => ?_) (fun cdv A outer s H vs Q E hr h => ?_)
  · obtain ⟨v, cs, ws, a, xs, ts, f0, rfl, _⟩ := h
    rfl
  · obtain ⟨v, cs, ws, a, xs, ts, f0, rfl, dpP, pb, hS, hx, cts, l31, q⟩ := h
    have nd := sc__law_edges.nd
    have hu64 := hr.units
    /- 0 _law_hues, 1 _law_row, 2 _law_found, 3 _law_number, 4 _law_at, 5 _law_colour, 6 _law_begin, 7 _law_end, 8 _law_charge, 9 _law_melt, 10 _law_later, 11 _law_wash_here, 12 _law_hour -/
    refine ⟨_, (pss_cons (ps_set (i := 2) nd rfl (.inl rfl) (pe_lst (pa_cons pe_int (pa_cons (pe_op op_pow pe_int pe_int) pa_nil))))
      (pss_cons (ps_for PassesOwn.never rfl (ki_enum (K := K) (by rfl) T.enumerate (pa_cons (pv 1) pa_nil)) (kg_tup (K := K) (n := 2) (pgs_cons (pg_name (i := 3) nd rfl (.inl rfl)) (pgs_cons (kg_tup (K := K) (n := 4) (pgs_cons (pg_name (i := 4) nd rfl (.inl rfl)) (pgs_cons (pg_name (i := 5) nd rfl (.inl rfl)) (pgs_cons (pg_name (i := 6) nd rfl (.inl rfl)) (pgs_cons (pg_name (i := 7) nd rfl (.inl rfl)) pgs_nil))))) pgs_nil)))
          (pss_cons (ps_asg (pe_cl c__law_hours hr (by omega) (by rfl) (pa_cons (pv 0) (pa_cons (pv 5) pa_nil))) (kg_tup (K := K) (n := 2) (pgs_cons (pg_name (i := 8) nd rfl (.inl rfl)) (pgs_cons (pg_name (i := 9) nd rfl (.inl rfl)) pgs_nil))))
          (pss_cons (ps_set (i := 10) nd rfl (.inl rfl) (pe_slice (kl_list (K := K)) (pv 1) (po_some (pe_op op_add (pv 3) pe_int)) (po_some (pe_op op_add (pv 3) pe_int))))
          (pss_cons (ps_set (i := 11) nd rfl (.inl rfl) (pe_ifExp (pt_cmpR (ko_ne (K := K) hu64) (pv 10) (pe_lst pa_nil) (nomark _)) (pe_cl c__law_wash hr (by omega) (by rfl) (pa_cons (pv 0) (pa_cons (pv 5) (pa_cons (pe_ix (kx_tup (K := K)) (pe_ix (kx_list (K := K)) (pv 10) pe_int (fun _ _ => rfl)) pe_int (fun _ _ => rfl)) pa_nil)))) pe_int))
          (pss_one (ps_for PassesOwn.never rfl (ki_tup (K := K) (pe_tup (pa_cons (pv 4) (pa_cons (pe_op op_add (pv 4) (pv 8)) (pa_cons (pe_op op_add (pe_op op_add (pv 4) (pv 8)) (pv 9)) (pa_cons (pv 6) (pa_cons (pv 7) (pa_cons (pe_op op_add (pv 7) (pv 11)) pa_nil)))))))) (pg_name (i := 12) nd rfl (.inl rfl))
              (pss_one (ps_expr (pe_bm PySem.F.plainAttrs_list PySem.F.slot_list_extend PySem.F.type_list_extend mt_extend (pv 2) (pa_cons (pe_lst (pa_cons (pe_op op_sub (pv 12) pe_int) (pa_cons (pv 12) (pa_cons (pe_op op_add (pv 12) pe_int) pa_nil)))) pa_nil))))))))))
      (pss_one (ps_ret (pe_callB (kc_sortedSetW (w := w)) (by rfl) T.sorted (by decide +kernel) (pa_cons (pe_callTy (kc_setLj (K := K) (w := w)) (by rfl) T.set (by decide +kernel) (pa_cons (pe_lc (own := [("_law_hour", 12)]) rfl nd (ki_list (K := K) (pv 2)) (blkOk_by (N := n__law_edges) (sc := defScope s__law_edges) (by decide +kernel)) (fun _ _ _ _ _ => (pg_name (i := 12) nd rfl (.inl rfl))) (fun _ _ _ _ _ => (pts_one (pt_chain op_le op_le pe_int (pv 12) (pe_op op_pow pe_int pe_int)))) (fun _ _ _ _ _ => (pv 12))) pa_nil)) pa_nil)))))), ?_⟩
    have lx : xs.length = ts.length := dpAll_map_len hx
    have cb := (ch_bounds pb cts).2
    have wok := ch_wok cts
    have l20 : cs.length ≤ 20 := by have := pb.le; omega
    have nmI : ∀ {z : Str}, InC cs z → Nm z := fun h => by obtain ⟨c, hc, rfl⟩ := h; exact pb.wd c hc
    refine ⟨_, _, rfl, rfl, ⟨by decide, by decide, by decide⟩, (by show 2 ≤ sizeLine; decide), fun R nR => ?_⟩
    have s1 := same_upd (o := .lst [.int 0, .int (10 ^ Int.toNat 6)]) nR
    have hR1 : upd H R (.lst [.int 0, .int (10 ^ Int.toNat 6)]) R = some (.lst [.int 0, .int (10 ^ Int.toNat 6)]) := upd_same
    generalize upd H R (.lst [.int 0, .int (10 ^ Int.toNat 6)]) = H1 at s1 hR1 ⊢
    refine ⟨_, rfl, a, _, rfl, s1.seq hS, ?_⟩
    refine for_it (walk_enum (xs := xs)) (fun i σ Hx => ∃ ns v3 v4 v5 v6 v7 v8 v9 v10 v11 v12, σ = [some v, some (.ref a), some (.ref R), v3, v4, v5, v6, v7, v8, v9, v10, v11, v12] ∧ Same H Hx ∧ Hx R = some (.lst (ns.map V.int)) ∧ ns.length ≤ 2 + 18 * i ∧ (0 : Int) ∈ ns)
      ⟨[0, 10 ^ Int.toNat 6], _, _, _, _, _, _, _, _, _, _, rfl, s1, hR1, by decide, List.mem_cons_self⟩ (fun i σ Hx _ z => by obtain ⟨_, _, _, _, _, _, _, _, _, _, _, _, z, _⟩ := z; exact z.seq hS) ?_ ?_
    · rintro i x σ H4 H5 hi ⟨ns, v3, v4, v5, v6, v7, v8, v9, v10, v11, v12, rfl, s4, hR, lns, z0⟩ ⟨tt, x1, x2, rfl, nt, rfl, g1, g2⟩
      cases g1
      replace g2 : xs[i]? = some x2 := g2
      obtain ⟨t, gt, dp⟩ := dpAll_map_at hx g2
      obtain ⟨b1, b2, b3, b4, hit⟩ := cb t (List.mem_of_getElem? gt)
      obtain ⟨pt1, rfl, hpt1⟩ := tr_dp dp
      have s5 := s4.trans (same_upd (o := .tup [.int (i : Nat), .ref pt1]) nt)
      have hR := same_upd (o := .tup [.int (i : Nat), .ref pt1]) nt _ _ hR
      refine ⟨tt, _, rfl, .inl (.inl upd_same), rfl, _, _, rfl, _, _, rfl, pt1, _, rfl, same_tup s5 hpt1, rfl, _, _, rfl, _, _, rfl, _, _, rfl, _, _, rfl, rfl, rfl, ?_⟩
      generalize upd H4 tt (.tup [.int (i : Nat), .ref pt1]) = H5 at s5 hR ⊢
      refine ⟨_, rfl, _, rfl, v, cs, ws, t.2.1, rfl, dp_same s5 dpP, l20, hit, fun H6 yh c s6 ec hy => ?_⟩
      refine ⟨yh, _, rfl, hy, rfl, _, _, rfl, _, _, rfl, rfl, ?_⟩
      have hR := s6 _ _ hR
      have s6 := s5.trans s6
      simp only [List.set]
      refine ⟨_, rfl, _, rfl, _, _, rfl, rfl, _, rfl, _, rfl, _, _, rfl, rfl, _, rfl, a, _, rfl, s6.seq hS, fun lt nlt => ?_⟩
      have ecu : cutV xs (some (((i : Nat) : Int) + 1)) (some (((i : Nat) : Int) + 2)) = (xs[i + 1]?).toList := by
        rw [show ((i : Nat) : Int) + 1 = ((i + 1 : Nat) : Int) by omega, show ((i : Nat) : Int) + 2 = ((i + 2 : Nat) : Int) by omega, cut_one2]
      rw [ecu]
      cases ex : xs[i + 1]? with
      | none =>
        have s7 := s6.trans (same_upd (o := .lst []) nlt)
        have hR := same_upd (o := .lst []) nlt _ _ hR
        have hlt : upd H6 lt (.lst []) lt = some (.lst []) := upd_same
        rw [Option.toList_none]
        generalize upd H6 lt (.lst []) = H7 at s7 hlt hR ⊢
        refine ⟨_, rfl, Nat.zero_le _, fun e ne => ?_⟩
        have s8 := s7.trans (same_upd (o := .lst []) ne)
        have hR := same_upd (o := .lst []) ne _ _ hR
        have hlt := same_upd (o := .lst []) ne _ _ hlt
        have he : upd H7 e (.lst []) e = some (.lst []) := upd_same
        generalize upd H7 e (.lst []) = H8 at s8 hlt he hR ⊢
        refine ⟨.list [], .list [], .lst (SqL.of hlt) .nil, .lst (SqL.of he) .nil, rfl, rfl, _, rfl, iteF ?_⟩
        simp only [List.set]
        refine ⟨_, rfl, _, rfl, _, rfl, _, _, rfl, rfl, _, rfl, _, rfl, _, _, rfl, rfl, _, rfl, _, _, rfl, rfl, _, rfl, _, rfl, _, rfl, _, rfl, _, _, rfl, rfl, (by show 6 ≤ sizeLine; decide), fun tp ntp => ?_⟩
        have s9 := s8.trans (same_upd (o := .tup [.int t.1, .int (t.1 + c.2.1), .int (t.1 + c.2.1 + c.2.2.1), .int t.2.2.1, .int t.2.2.2, .int (t.2.2.2 + 0)]) ntp)
        have hR := same_upd (o := .tup [.int t.1, .int (t.1 + c.2.1), .int (t.1 + c.2.1 + c.2.2.1), .int t.2.2.1, .int t.2.2.2, .int (t.2.2.2 + 0)]) ntp _ _ hR
        have htp : upd H8 tp (.tup [.int t.1, .int (t.1 + c.2.1), .int (t.1 + c.2.1 + c.2.2.1), .int t.2.2.1, .int t.2.2.2, .int (t.2.2.2 + 0)]) tp = some (.tup [.int t.1, .int (t.1 + c.2.1), .int (t.1 + c.2.1 + c.2.2.1), .int t.2.2.1, .int t.2.2.2, .int (t.2.2.2 + 0)]) := upd_same
        generalize upd H8 tp (.tup [.int t.1, .int (t.1 + c.2.1), .int (t.1 + c.2.1 + c.2.2.1), .int t.2.2.1, .int t.2.2.2, .int (t.2.2.2 + 0)]) = H9 at s9 hR htp ⊢
        refine ⟨tp, rfl, ⟨_, .inl (.inl htp)⟩, ?_⟩
        refine for_it (walk_tup (xs := [.int t.1, .int (t.1 + c.2.1), .int (t.1 + c.2.1 + c.2.2.1), .int t.2.2.1, .int t.2.2.2, .int (t.2.2.2 + 0)])) (fun j σ Hx => ∃ ns v12, σ = [some v, some (.ref a), some (.ref R), some (.int (i : Nat)), some (.int t.1), some (.str t.2.1), some (.int t.2.2.1), some (.int t.2.2.2), some (.int c.2.1), some (.int c.2.2.1), some (.ref lt), some (.int (0)), v12] ∧ Same H Hx ∧ Hx tp = some (.tup [.int t.1, .int (t.1 + c.2.1), .int (t.1 + c.2.1 + c.2.2.1), .int t.2.2.1, .int t.2.2.2, .int (t.2.2.2 + 0)]) ∧ Hx R = some (.lst (ns.map V.int)) ∧ ns.length ≤ 2 + 18 * i + 3 * j ∧ (0 : Int) ∈ ns) ⟨ns, _, rfl, s9, htp, hR, by omega, z0⟩ (fun j σ Hx _ z => by obtain ⟨_, _, _, _, z, _⟩ := z; exact .inl (.inl z)) ?_ ?_
        · rintro j y σ Hbx Hb hj ⟨ns, v12, rfl, sB, htp, hR, lns, z0⟩ ⟨rfl, gy⟩
          obtain ⟨n, rfl⟩ : ∃ n, y = .int n := by
            have hm := List.mem_of_getElem? gy
            simp only [List.mem_cons, List.not_mem_nil, or_false] at hm
            rcases hm with rfl | rfl | rfl | rfl | rfl | rfl <;> exact ⟨_, rfl⟩
          have hj6 : j < 6 := hj
          have tR : tp ≠ R := fun z => by rw [z, hR] at htp; cases htp
          refine ⟨_, rfl, .inl ⟨rfl, _, SqL.of hR⟩, _, rfl, _, _, rfl, rfl, _, rfl, _, rfl, _, _, rfl, rfl, (by show 3 ≤ sizeLine; decide), fun l nl => ?_⟩
          have sl := same_upd (o := .lst [.int (n - 1), .int n, .int (n + 1)]) nl
          refine ⟨R, l, ns.map V.int, [.int (n - 1), .int n, .int (n + 1)], rfl, rfl, sl _ _ hR, upd_same, (by rw [List.length_map, sizeLine_eq]; show ns.length + 3 ≤ _; omega), ?_⟩
          exact ⟨ns ++ [n - 1, n, n + 1], _, rfl, same_put (sB.trans sl) nR, (by rw [upd_ne tR]; exact sl _ _ htp), by rw [upd_same, List.map_append]; rfl, by rw [List.length_append]; show _ + 3 ≤ _; omega, List.mem_append_left _ z0⟩
        · rintro σ Hb ⟨ns, v12, rfl, sB, htp, hR, lns, z0⟩
          have lns : ns.length ≤ 2 + 18 * i + 3 * 6 := lns
          exact ⟨ns, _, _, _, _, _, _, _, _, _, _, rfl, sB, hR, by omega, z0⟩
      | some x1 =>
        obtain ⟨u, gu, dpu⟩ := dpAll_map_at hx ex
        obtain ⟨pu, rfl, hpu⟩ := tr_dp dpu
        obtain ⟨wh, ew⟩ := wok.at gt gu
        have hiu := (cb u (List.mem_of_getElem? gu)).2.2.2.2
        have s7 := s6.trans (same_upd (o := .lst [.ref pu]) nlt)
        have hR := same_upd (o := .lst [.ref pu]) nlt _ _ hR
        have hlt : upd H6 lt (.lst [.ref pu]) lt = some (.lst [.ref pu]) := upd_same
        rw [Option.toList_some]
        generalize upd H6 lt (.lst [.ref pu]) = H7 at s7 hlt hR ⊢
        refine ⟨_, rfl, Nat.zero_le _, fun e ne => ?_⟩
        have s7 := s7.trans (same_upd (o := .lst []) ne)
        have hR := same_upd (o := .lst []) ne _ _ hR
        have hlt := same_upd (o := .lst []) ne _ _ hlt
        have he : upd H7 e (.lst []) e = some (.lst []) := upd_same
        generalize upd H7 e (.lst []) = H7 at s7 hlt he hR ⊢
        refine ⟨.list [trD u], .list [], .lst (SqL.of hlt) (.cons (dp_same s7 dpu) .nil), .lst (SqL.of he) .nil, trs_shaped (us := [u]) (fun x hx => by rw [List.mem_singleton.mp hx]; exact nmI hiu), rfl, _, rfl, iteT ?_⟩
        refine ⟨_, rfl, _, rfl, _, rfl, lt, _, 0, .ref pu, rfl, rfl, SqL.of hlt, rfl, pu, _, 1, _, rfl, rfl, same_tup s7 hpu, rfl, v, cs, ws, some t.2.1, u.2.1, rfl, dp_same s7 dpP, pb.ok, (fun z e => by cases e; exact nmI hit), nmI hiu, fun H8 s8 => ?_⟩
        have hR := s8 _ _ hR
        have s8 := s7.trans s8
        rw [ew]
        show gName 11 (.int wh) _ H8 _
        simp only [List.set]
        refine ⟨_, rfl, _, rfl, _, rfl, _, _, rfl, rfl, _, rfl, _, rfl, _, _, rfl, rfl, _, rfl, _, _, rfl, rfl, _, rfl, _, rfl, _, rfl, _, rfl, _, _, rfl, rfl, (by show 6 ≤ sizeLine; decide), fun tp ntp => ?_⟩
        have s9 := s8.trans (same_upd (o := .tup [.int t.1, .int (t.1 + c.2.1), .int (t.1 + c.2.1 + c.2.2.1), .int t.2.2.1, .int t.2.2.2, .int (t.2.2.2 + wh)]) ntp)
        have hR := same_upd (o := .tup [.int t.1, .int (t.1 + c.2.1), .int (t.1 + c.2.1 + c.2.2.1), .int t.2.2.1, .int t.2.2.2, .int (t.2.2.2 + wh)]) ntp _ _ hR
        have htp : upd H8 tp (.tup [.int t.1, .int (t.1 + c.2.1), .int (t.1 + c.2.1 + c.2.2.1), .int t.2.2.1, .int t.2.2.2, .int (t.2.2.2 + wh)]) tp = some (.tup [.int t.1, .int (t.1 + c.2.1), .int (t.1 + c.2.1 + c.2.2.1), .int t.2.2.1, .int t.2.2.2, .int (t.2.2.2 + wh)]) := upd_same
        generalize upd H8 tp (.tup [.int t.1, .int (t.1 + c.2.1), .int (t.1 + c.2.1 + c.2.2.1), .int t.2.2.1, .int t.2.2.2, .int (t.2.2.2 + wh)]) = H9 at s9 hR htp ⊢
        refine ⟨tp, rfl, ⟨_, .inl (.inl htp)⟩, ?_⟩
        refine for_it (walk_tup (xs := [.int t.1, .int (t.1 + c.2.1), .int (t.1 + c.2.1 + c.2.2.1), .int t.2.2.1, .int t.2.2.2, .int (t.2.2.2 + wh)])) (fun j σ Hx => ∃ ns v12, σ = [some v, some (.ref a), some (.ref R), some (.int (i : Nat)), some (.int t.1), some (.str t.2.1), some (.int t.2.2.1), some (.int t.2.2.2), some (.int c.2.1), some (.int c.2.2.1), some (.ref lt), some (.int (wh)), v12] ∧ Same H Hx ∧ Hx tp = some (.tup [.int t.1, .int (t.1 + c.2.1), .int (t.1 + c.2.1 + c.2.2.1), .int t.2.2.1, .int t.2.2.2, .int (t.2.2.2 + wh)]) ∧ Hx R = some (.lst (ns.map V.int)) ∧ ns.length ≤ 2 + 18 * i + 3 * j ∧ (0 : Int) ∈ ns) ⟨ns, _, rfl, s9, htp, hR, by omega, z0⟩ (fun j σ Hx _ z => by obtain ⟨_, _, _, _, z, _⟩ := z; exact .inl (.inl z)) ?_ ?_
        · rintro j y σ Hbx Hb hj ⟨ns, v12, rfl, sB, htp, hR, lns, z0⟩ ⟨rfl, gy⟩
          obtain ⟨n, rfl⟩ : ∃ n, y = .int n := by
            have hm := List.mem_of_getElem? gy
            simp only [List.mem_cons, List.not_mem_nil, or_false] at hm
            rcases hm with rfl | rfl | rfl | rfl | rfl | rfl <;> exact ⟨_, rfl⟩
          have hj6 : j < 6 := hj
          have tR : tp ≠ R := fun z => by rw [z, hR] at htp; cases htp
          refine ⟨_, rfl, .inl ⟨rfl, _, SqL.of hR⟩, _, rfl, _, _, rfl, rfl, _, rfl, _, rfl, _, _, rfl, rfl, (by show 3 ≤ sizeLine; decide), fun l nl => ?_⟩
          have sl := same_upd (o := .lst [.int (n - 1), .int n, .int (n + 1)]) nl
          refine ⟨R, l, ns.map V.int, [.int (n - 1), .int n, .int (n + 1)], rfl, rfl, sl _ _ hR, upd_same, (by rw [List.length_map, sizeLine_eq]; show ns.length + 3 ≤ _; omega), ?_⟩
          exact ⟨ns ++ [n - 1, n, n + 1], _, rfl, same_put (sB.trans sl) nR, (by rw [upd_ne tR]; exact sl _ _ htp), by rw [upd_same, List.map_append]; rfl, by rw [List.length_append]; show _ + 3 ≤ _; omega, List.mem_append_left _ z0⟩
        · rintro σ Hb ⟨ns, v12, rfl, sB, htp, hR, lns, z0⟩
          have lns : ns.length ≤ 2 + 18 * i + 3 * 6 := lns
          exact ⟨ns, _, _, _, _, _, _, _, _, _, _, rfl, sB, hR, by omega, z0⟩
    · rintro σ H4 ⟨ns, v3, v4, v5, v6, v7, v8, v9, v10, v11, v12, rfl, s4, hR, lns, z0⟩
      refine ⟨_, rfl, R, rfl, ⟨_, SqL.of hR⟩, fun D nD => ?_⟩
      have lns : ns.length ≤ 600 := by omega
      refine lc_it (walk_list (xs := ns.map V.int)) (PvL H4 D fun j => ((ns.take j).filter fun x => decide (0 ≤ x) && decide (x ≤ 1000000)).map V.int) (pv_start nD rfl) (fun j H' _ z => SqL.of (z.1 _ _ hR)) ?_ ?_
      · rintro j y Hbx Hb hj pv ⟨rfl, gy⟩
        rw [List.getElem?_map] at gy
        obtain ⟨n, gn, rfl⟩ := Option.map_eq_some_iff.mp gy
        have e6 := e106
        have no : ¬ (0 ≤ n ∧ n ≤ 1000000) → ((ns.take (j + 1)).filter fun x => decide (0 ≤ x) && decide (x ≤ 1000000)).map V.int = ((ns.take j).filter fun x => decide (0 ≤ x) && decide (x ≤ 1000000)).map V.int := fun hn => by
          rw [List.take_add_one, gn, Option.toList_some, List.filter_append, List.map_append]
          have : (decide (0 ≤ n) && decide (n ≤ 1000000)) = false := by
            rw [Bool.and_eq_false_iff]
            by_cases z : 0 ≤ n
            · exact .inr (decide_eq_false (fun y => hn ⟨z, y⟩))
            · exact .inl (decide_eq_false z)
          rw [List.filter_cons, this]
          simp
        refine ⟨rfl, _, rfl, _, _, rfl, rfl, _, rfl, ite2 (fun c1 => ?_) (fun c1 => ?_)⟩
        · refine ⟨_, _, rfl, rfl, ⟨by decide, by decide, by decide⟩, _, _, rfl, rfl, _, rfl, ite2 (fun c2 => ?_) (fun c2 => ?_)⟩
          · have h1 := of_decide_eq_true c1
            have h2 := of_decide_eq_true c2
            rw [e6] at h2
            refine ⟨_, rfl, pv_put nD pv (Same.refl _) ?_ ?_⟩
            · show ((ns.take (j + 1)).filter _).map V.int = _
              rw [List.take_add_one, gn, Option.toList_some, List.filter_append, List.map_append]
              have : (decide (0 ≤ n) && decide (n ≤ 1000000)) = true := by rw [decide_eq_true h1, decide_eq_true h2]; rfl
              rw [List.filter_cons, this]
              rfl
            · rw [List.length_map, sizeLine_eq]
              have h3 := List.length_filter_le (fun x => decide (0 ≤ x) && decide (x ≤ 1000000)) (ns.take j)
              have h4 : (ns.take j).length ≤ ns.length := List.length_take_le' ..
              omega
          · have h2 : ¬ n ≤ 10 ^ Int.toNat 6 := fun z => c2 (decide_eq_true z)
            rw [e6] at h2
            exact pv_skip pv (Same.refl _) (no fun z => h2 z.2)
        · exact ⟨_, rfl, iteF (pv_skip pv (Same.refl _) (no fun z => c1 (decide_eq_true z.1)))⟩
      · intro H5 pv
        obtain ⟨s5, hD⟩ := pv_end pv (zs := (ns.filter fun x => decide (0 ≤ x) && decide (x ≤ 1000000)).map V.int) (by rw [List.length_map, List.take_length])
        have lfl : (ns.filter fun x => decide (0 ≤ x) && decide (x ≤ 1000000)).length ≤ 600 := Nat.le_trans (List.length_filter_le ..) lns
        have f0 : (0 : Int) ∈ (ns.filter fun x => decide (0 ≤ x) && decide (x ≤ 1000000)) := List.mem_filter.mpr ⟨z0, rfl⟩
        have fb : ∀ x ∈ (ns.filter fun x => decide (0 ≤ x) && decide (x ≤ 1000000)), 0 ≤ x ∧ x ≤ 1000000 := fun x hx => by
          obtain ⟨a1, a2⟩ := Bool.and_eq_true_iff.mp (List.mem_filter.mp hx).2
          exact ⟨of_decide_eq_true a1, of_decide_eq_true a2⟩
        generalize (ns.filter fun x => decide (0 ≤ x) && decide (x ≤ 1000000)) = fs at hD lfl f0 fb
        refine ⟨D, fs, rfl, SqL.of hD, by omega, fun p ks np nd hk => ?_⟩
        have lk : ks.length ≤ fs.length := nodup_le nd fun k h => (hk k).mp h
        have lk0 : 0 < ks.length := List.length_pos_of_mem ((hk 0).mpr f0)
        refine ⟨p, _, _, rfl, upd_same, by omega, fun n2 p2 hm2 l2 np2 => ?_⟩
        have sp := (s4.trans s5).trans (same_upd (o := SetO w p (fun k => decide (k ∈ fs)) ks.length) np)
        exact q _ p2 n2 (sp.trans (same_upd np2)) (sp.free np2) upd_same (by omega) (by omega) (fun x hx => fb x (of_decide_eq_true (hm2 x hx)))

end
end Pot

namespace Pot
open PySem PySem.Spec PyProof.Rows L2
section
variable {P : Program} {w : World} {K : PySem.W.Frag} {mg : Str → Option Value} {base : Heap}
/-! ### hours counted one by one -/
def wdS : Option (Str × Nat) → Str
  | none => "out"
  | some p => p.1
def wdF (ms : List Mk) (h : Int) : Str := wdS (stF h none ms)
def cntF (z : Str) (ms : List Mk) (f : Int) : Nat → Int
  | 0 => 0
  | n + 1 => cntF z ms f n + (if decide (wdF ms (f + (n : Nat)) = z) = true then 1 else 0)
theorem cnt_add (z : Str) (ms : List Mk) (f : Int) (a : Nat) : ∀ b : Nat, cntF z ms f (a + b) = cntF z ms f a + cntF z ms (f + (a : Nat)) b
  | 0 => by show cntF z ms f a = cntF z ms f a + 0; omega
  | b + 1 => by
    show cntF z ms f (a + b) + (if decide (wdF ms (f + ((a + b : Nat) : Int)) = z) = true then 1 else 0) = cntF z ms f a + (cntF z ms (f + (a : Nat)) b + (if decide (wdF ms (f + (a : Nat) + (b : Nat)) = z) = true then 1 else 0))
    rw [cnt_add z ms f a b, show f + ((a + b : Nat) : Int) = f + (a : Nat) + (b : Nat) by omega]
    omega
theorem cnt_const {z y : Str} {ms : List Mk} {f : Int} : ∀ {n : Nat}, (∀ h, f ≤ h → h < f + (n : Nat) → wdF ms h = y) → cntF z ms f n = if decide (y = z) = true then (n : Int) else 0
  | 0, _ => by show (0 : Int) = _; split <;> rfl
  | n + 1, h => by
    have ih := cnt_const (z := z) (n := n) fun k h1 h2 => h k h1 (by omega)
    have e := h (f + (n : Nat)) (by omega) (by omega)
    show cntF z ms f n + (if decide (wdF ms (f + (n : Nat)) = z) = true then 1 else 0) = _
    rw [ih, e]
    split
    · show (n : Int) + 1 = ((n + 1 : Nat) : Int); omega
    · rfl
theorem st_stay {h : Int} : ∀ {ms : List Mk} {lo : Int} (s : Option (Str × Nat)), Mn lo ms → h < lo → stF h s ms = s
  | [], _, _, _, _ => rfl
  | m :: ms, lo, s, ⟨a, b⟩, hl => by
    show stF h (if m.2.2 ≤ h then some (m.1, m.2.1) else s) ms = s
    rw [if_neg (by omega)]
    exact st_stay s b (by omega)
theorem rows_ge {f l : Int} : ∀ {ms : List Mk} {m : Mo} {r : Rw}, Mn m.2.2 ms → r ∈ rowsS f l m ms → m.2.2 ≤ r.2.2.1
  | [], m, r, _, h => by
    have h : r ∈ [cutR f l m l] := h
    rw [List.mem_singleton.mp h]
    show m.2.2 ≤ (if m.2.2 > f then m.2.2 else f)
    split <;> omega
  | m2 :: ms, m, r, ⟨a, b⟩, h => by
    rw [rows_cons] at h
    rcases List.mem_cons.mp h with rfl | h
    · show m.2.2 ≤ (if m.2.2 > f then m.2.2 else f)
      split <;> omega
    · have := rows_ge (m := opn m2) b h
      have e : (opn m2).2.2 = m2.2.2 := rfl
      omega
def MnT : List Mk → Prop
  | [] => True
  | m :: ms => Mn m.2.2 ms
theorem Mn.t {lo : Int} : ∀ {ms : List Mk}, Mn lo ms → MnT ms
  | [], _ => trivial
  | _ :: _, h => h.2
theorem rows_word {f l : Int} : ∀ {ms : List Mk} {m : Mo} {s : Option (Str × Nat)} {r : Rw} {h : Int}, MnT ms → wdS s = m.1 → r ∈ rowsS f l m ms → r.2.2.1 ≤ h → h < r.2.2.2 → wdS (stF h s ms) = r.1
  | [], m, s, r, h, _, hs, hr, h1, h2 => by
    have hr : r ∈ [cutR f l m l] := hr
    rw [List.mem_singleton.mp hr]
    exact hs
  | m2 :: ms, m, s, r, h, mt, hs, hr, h1, h2 => by
    rw [rows_cons] at hr
    rcases List.mem_cons.mp hr with rfl | hr
    · have h2 : h < (if m2.2.2 < l then m2.2.2 else l) := h2
      have hu : h < m2.2.2 := by split at h2 <;> omega
      show wdS (stF h (if m2.2.2 ≤ h then some (m2.1, m2.2.1) else s) ms) = m.1
      rw [if_neg (by omega), st_stay s mt hu]
      exact hs
    · have hg := rows_ge (m := opn m2) mt hr
      have hg : m2.2.2 ≤ r.2.2.1 := hg
      show wdS (stF h (if m2.2.2 ≤ h then some (m2.1, m2.2.1) else s) ms) = r.1
      rw [if_pos (by omega)]
      exact rows_word (m := opn m2) (Mn.t mt) rfl hr h1 h2
theorem run_any {f l lo : Int} (hfl : f ≤ l) {ms : List Mk} (mn : Mn lo ms) : Run f l (strF f l ms) := by
  cases ms with
  | nil => exact run_str hfl trivial
  | cons m2 ms =>
    by_cases z : f ≤ m2.2.2
    · exact run_str hfl ⟨z, mn.2⟩
    · have h := run_rows f l hfl ms (opn m2) mn.2
      have e : (if (if (opn m2).2.2 > f then (opn m2).2.2 else f) < l then (if (opn m2).2.2 > f then (opn m2).2.2 else f) else l) = f := by
        have e2 : (opn m2).2.2 = m2.2.2 := rfl
        rw [e2]
        (repeat' split) <;> omega
      rw [e] at h
      unfold strF
      rw [rows_cons, List.filter_cons]
      have k : ¬ keepR (cutR f l ("out", none, f) m2.2.2) = true := fun y => by
        have y : (if f > f then f else f) < (if m2.2.2 < l then m2.2.2 else l) := of_decide_eq_true y
        split at y <;> split at y <;> omega
      rw [if_neg k]
      exact h
theorem hin_cons (z : Str) (r : Rw) (rs : List Rw) : hinF z (r :: rs) = (if decide (r.1 = z) = true then r.2.2.2 - r.2.2.1 else 0) + hinF z rs := by
  unfold hinF hinL
  rw [List.filter_cons]
  split
  · rw [List.map_cons, List.sum_cons]
  · rw [Int.zero_add]
theorem hin_run {z : Str} {ms : List Mk} : ∀ {rs : List Rw} {f l : Int}, Run f l rs → (∀ r ∈ rs, ∀ h, r.2.2.1 ≤ h → h < r.2.2.2 → wdF ms h = r.1) → f ≤ l ∧ hinF z rs = cntF z ms f (l - f).toNat
  | [], f, l, ru, _ => by
    have e : f = l := ru
    subst e
    refine ⟨Int.le_refl _, ?_⟩
    rw [Int.sub_self]
    rfl
  | r :: rs, f, l, ⟨r1, r2, r3⟩, hw => by
    obtain ⟨i1, i2⟩ := hin_run (z := z) r3 fun x hx => hw x (List.mem_cons_of_mem _ hx)
    refine ⟨by omega, ?_⟩
    have ec := cnt_const (z := z) (ms := ms) (f := f) (y := r.1) (n := (r.2.2.2 - f).toNat) (fun h h1 h2 => hw r List.mem_cons_self h (by omega) (by omega))
    rw [hin_cons, i2, show (l - f).toNat = (r.2.2.2 - f).toNat + (l - r.2.2.2).toNat by omega, cnt_add, ec, show f + ((r.2.2.2 - f).toNat : Int) = r.2.2.2 by omega]
    congr 1
    split
    · omega
    · rfl
theorem hin_cnt {z : Str} {ms : List Mk} {f l lo : Int} (hfl : f ≤ l) (mn : Mn lo ms) : hinF z (strF f l ms) = cntF z ms f (l - f).toNat :=
  (hin_run (z := z) (run_any hfl mn) fun r hr h h1 h2 => rows_word (s := none) (m := ("out", none, f)) mn.t rfl (List.mem_filter.mp hr).1 h1 h2).2
def sixW : List Str := ["filled", "melting", "out", "ready", "washed", "worked"]
theorem six_key {y : Str} (h : y ∈ wordsS) : ∃ a b : Nat, (sixW.map fun z => decide (y = z)) = List.replicate a false ++ true :: List.replicate b false := by
  simp only [wordsS, List.mem_cons, List.not_mem_nil, or_false] at h
  rcases h with rfl | rfl | rfl | rfl | rfl | rfl
  · exact ⟨0, 5, by decide +kernel⟩
  · exact ⟨1, 4, by decide +kernel⟩
  · exact ⟨3, 2, by decide +kernel⟩
  · exact ⟨5, 0, by decide +kernel⟩
  · exact ⟨4, 1, by decide +kernel⟩
  · exact ⟨2, 3, by decide +kernel⟩
theorem six_sum {rs : List Rw} : ∀ {f l : Int}, Run f l rs → (∀ r ∈ rs, r.1 ∈ wordsS) → (sixW.map fun z => hinF z rs).sum = l - f := by
  induction rs with
  | nil =>
    intro f l ru _
    have e : f = l := ru
    subst e
    rw [Int.sub_self]
    rfl
  | cons r rs ih =>
    intro f l ⟨r1, r2, r3⟩ hw
    have i := ih r3 fun x hx => hw x (List.mem_cons_of_mem _ hx)
    have h1 := hw r List.mem_cons_self
    have e : (sixW.map fun z => hinF z (r :: rs)).sum = (sixW.map fun z => if decide (r.1 = z) = true then r.2.2.2 - r.2.2.1 else 0).sum + (sixW.map fun z => hinF z rs).sum := by
      have : ∀ l : List Str, (l.map fun z => hinF z (r :: rs)).sum = (l.map fun z => if decide (r.1 = z) = true then r.2.2.2 - r.2.2.1 else 0).sum + (l.map fun z => hinF z rs).sum := fun l => by
        induction l with
        | nil => rfl
        | cons z l il =>
          rw [List.map_cons, List.sum_cons, il, hin_cons, List.map_cons, List.sum_cons, List.map_cons, List.sum_cons]
          omega
      exact this sixW
    rw [e, i]
    have e2 : (sixW.map fun z => if decide (r.1 = z) = true then r.2.2.2 - r.2.2.1 else 0).sum = r.2.2.2 - r.2.2.1 := by
      generalize r.2.2.2 - r.2.2.1 = d
      obtain ⟨a, b, ek⟩ := six_key h1
      have em : (sixW.map fun z => if decide (r.1 = z) = true then d else 0) = (sixW.map fun z => decide (r.1 = z)).map fun b => if b = true then d else 0 := by rw [List.map_map]; rfl
      have z0 : ∀ n : Nat, ((List.replicate n false).map fun b => if b = true then d else 0).sum = 0 := fun n => by
        induction n with
        | zero => rfl
        | succ n ih =>
          rw [List.replicate_succ, List.map_cons, List.sum_cons, ih]
          rfl
      rw [em, ek, List.map_append, List.sum_append, List.map_cons, List.sum_cons, z0, z0]
      show 0 + (d + 0) = d
      omega
    rw [e2]
    omega
theorem hin_keep (z : Str) (r : Rw) (rs : List Rw) : hinF z ((r :: rs).filter keepR) = (if keepR r = true ∧ r.1 = z then r.2.2.2 - r.2.2.1 else 0) + hinF z (rs.filter keepR) := by
  rw [List.filter_cons]
  by_cases k : keepR r = true
  · rw [if_pos k, hin_cons]
    by_cases e : r.1 = z
    · rw [if_pos (decide_eq_true e), if_pos ⟨k, e⟩]
    · rw [if_neg (fun y => e (of_decide_eq_true y)), if_neg (fun y => e y.2)]
  · rw [if_neg k, if_neg (fun y => k y.1), Int.zero_add]
theorem hin_skip {z : Str} {r : Rw} {rs : List Rw} (h : r.1 ≠ z) : hinF z ((r :: rs).filter keepR) = hinF z (rs.filter keepR) := by
  rw [hin_keep, if_neg (fun y => h y.2), Int.zero_add]
theorem cut_skip {f l u : Int} {m : Mo} {z : Str} {rs : List Rw} (h : m.1 ≠ z) : hinF z ((cutR f l m u :: rs).filter keepR) = hinF z (rs.filter keepR) := hin_skip h
theorem worked_sum {cs : List Col} {ws : List Wsh} {l : Int} : ∀ {ts : List Trn} {i : Nat} {m : Mo}, m.1 ≠ "worked" → (∀ t ∈ ts, InC cs t.2.1 ∧ 0 ≤ t.2.2.1 ∧ t.2.2.1 < t.2.2.2 ∧ t.2.2.2 ≤ l) → hinF "worked" ((rowsS 0 l m (mksF cs ws i ts)).filter keepR) = (ts.map fun t => t.2.2.2 - t.2.2.1).sum
  | [], i, m, hm, _ => by
    show hinF "worked" (([cutR 0 l m l]).filter keepR) = 0
    rw [hin_keep, if_neg (fun y => hm y.2)]
    rfl
  | t :: ts, i, m, hm, ht => by
    obtain ⟨hI, h0, h1, h2⟩ := ht t List.mem_cons_self
    obtain ⟨c, ec⟩ := colF_some hI
    have em : mksF cs ws i (t :: ts) = ((("filled" : Str), i, t.1) : Mk) :: ((("melting" : Str), i, t.1 + c.2.1) : Mk) :: ((("ready" : Str), i, t.1 + c.2.1 + c.2.2.1) : Mk) :: ((("worked" : Str), i, t.2.2.1) : Mk) :: ((("washed" : Str), i, t.2.2.2) : Mk) :: ((("out" : Str), i, t.2.2.2 + wbF ws t ts) : Mk) :: mksF cs ws (i + 1) ts := by
      show (match colF cs t.2.1 with | none => [] | some c => six i (hrsF c t (wbF ws t ts))) ++ mksF cs ws (i + 1) ts = _
      rw [ec]
      rfl
    have w1 : (Str.ofString "filled") ≠ Str.ofString "worked" := by decide +kernel
    have w2 : (Str.ofString "melting") ≠ Str.ofString "worked" := by decide +kernel
    have w3 : (Str.ofString "ready") ≠ Str.ofString "worked" := by decide +kernel
    have w4 : (Str.ofString "washed") ≠ Str.ofString "worked" := by decide +kernel
    have w5 : (Str.ofString "out") ≠ Str.ofString "worked" := by decide +kernel
    have ih := worked_sum (cs := cs) (ws := ws) (l := l) (ts := ts) (i := i + 1) (m := opn ("out", i, t.2.2.2 + wbF ws t ts)) w5 (fun x hx => ht x (List.mem_cons_of_mem _ hx))
    have ecu : cutR 0 l (opn ((("worked" : Str), i, t.2.2.1) : Mk)) t.2.2.2 = (("worked" : Str), some i, t.2.2.1, t.2.2.2) := by
      show ((Str.ofString "worked", some i, (if t.2.2.1 > 0 then t.2.2.1 else 0), (if t.2.2.2 < l then t.2.2.2 else l)) : Rw) = _
      rw [show (if t.2.2.1 > 0 then t.2.2.1 else 0) = t.2.2.1 by split <;> omega, show (if t.2.2.2 < l then t.2.2.2 else l) = t.2.2.2 by split <;> omega]
    rw [em, rows_cons, cut_skip hm, rows_cons, cut_skip (m := opn ((("filled" : Str), i, t.1) : Mk)) w1, rows_cons, cut_skip (m := opn ((("melting" : Str), i, t.1 + c.2.1) : Mk)) w2, rows_cons, cut_skip (m := opn ((("ready" : Str), i, t.1 + c.2.1 + c.2.2.1) : Mk)) w3, rows_cons]
    have ecu : cutR 0 l (opn ((("worked" : Str), i, t.2.2.1) : Mk)) ((("washed" : Str), i, t.2.2.2) : Mk).2.2 = (("worked" : Str), some i, t.2.2.1, t.2.2.2) := ecu
    rw [ecu, hin_keep, if_pos ⟨decide_eq_true h1, rfl⟩, rows_cons, cut_skip (m := opn ((("washed" : Str), i, t.2.2.2) : Mk)) w4, ih, List.map_cons, List.sum_cons]

end
end Pot

namespace Pot
open PySem PySem.Spec PyProof.Rows L2
section
variable {P : Program} {w : World} {K : PySem.W.Frag} {mg : Str → Option Value} {base : Heap}
def kvC (c : Str → Int) : List (Key × V) := wordsS.map fun z => ((Sum.inr z : Key), V.int (c z))
theorem kvC_keys (c : Str → Int) : (kvC c).map (·.1) = wordsS.map Sum.inr := by unfold kvC; rw [List.map_map]; rfl
theorem words_nd : wordsS.Nodup := by decide +kernel
theorem val_gen {c : Str → Int} {y : Str} : ∀ {l : List Str}, y ∈ l → valV (l.map fun z => ((Sum.inr z : Key), V.int (c z))) (Sum.inr y) = some (.int (c y))
  | [], h => (List.not_mem_nil h).elim
  | z :: l, h => by
    by_cases e : z = y
    · rw [← e, List.map_cons]; exact valV_pos rfl
    · rw [List.map_cons, valV_neg (fun q => e (Sum.inr.inj q))]
      exact val_gen ((List.mem_cons.mp h).resolve_left fun q => e q.symm)
theorem val_kvC {c : Str → Int} {y : Str} (h : y ∈ wordsS) : valV (kvC c) (Sum.inr y) = some (.int (c y)) := val_gen h
theorem put_kvC {c : Str → Int} {y : Str} {i : Int} (h : y ∈ wordsS) : putK (kvC c) (Sum.inr y) (.int i) = kvC fun z => if z = y then i else c z := by
  unfold putK
  rw [if_pos (by rw [valV_any, val_kvC h]; rfl)]
  unfold kvC
  rw [List.map_map]
  refine List.map_congr_left fun z _ => ?_
  show (if (Sum.inr z : Key) = Sum.inr y then ((Sum.inr z : Key), V.int i) else (Sum.inr z, V.int (c z))) = (Sum.inr z, V.int (if z = y then i else c z))
  by_cases e : z = y
  · rw [if_pos (by rw [e]), if_pos e]
  · rw [if_neg (fun q => e (Sum.inr.inj q)), if_neg e]
theorem pairs_ofZ {H : Hp} : ∀ {xs : List V} {zs : List Str}, DpAll K H xs (zs.map fun z => PyData.tuple [.str z, .int 0]) → ∃ as : List Addr, xs = as.map V.ref ∧ Paired (fun p kv => SqT K H p [kV kv.1, kv.2]) as (zs.map fun z => ((Sum.inr z : Key), V.int 0))
  | [], [], _ => ⟨[], rfl, .nil⟩
  | x :: xs, z :: zs, h => by
    cases h with
    | cons d h =>
      obtain ⟨as, rfl, hp⟩ := pairs_ofZ h
      obtain ⟨a, ys, rfl, ha, hy⟩ := dp_tup d
      obtain ⟨y, w, rfl, q1, q2⟩ := dp_two hy
      rw [dp_str q1, dp_int q2] at ha
      exact ⟨a :: as, rfl, .cons ha hp⟩
theorem st_dp {H : Hp} {x : V} {o : Option (Str × Nat)} (h : Dp K H x (stD o)) : ∃ p z, x = .ref p ∧ SqT K H p [.str (wdS o), z] := by
  cases o with
  | none =>
    obtain ⟨p, xs, rfl, hp, hx⟩ := dp_tup h
    obtain ⟨y, z, rfl, b, c⟩ := dp_two hx
    rw [dp_str b] at hp
    exact ⟨p, z, rfl, hp⟩
  | some q =>
    obtain ⟨p, xs, rfl, hp, hx⟩ := dp_tup h
    obtain ⟨y, z, rfl, b, c⟩ := dp_two hx
    rw [dp_str b] at hp
    exact ⟨p, z, rfl, hp⟩
theorem st_wordsF {h : Int} : ∀ {ms : List Mk} {s : Option (Str × Nat)}, (∀ m ∈ ms, m.1 ∈ wordsS) → wdS s ∈ wordsS → wdS (stF h s ms) ∈ wordsS
  | [], _, _, hs => hs
  | m :: ms, s, hm, hs => st_wordsF (ms := ms) (fun x hx => hm x (List.mem_cons_of_mem _ hx)) (by
      split
      · exact hm m List.mem_cons_self
      · exact hs)
theorem wd_words {cs : List Col} {ws : List Wsh} {ts : List Trn} (h : Int) : wdF (mksF cs ws 0 ts) h ∈ wordsS := st_wordsF (fun m hm => mks_words hm) (show Str.ofString "out" ∈ wordsS by decide +kernel)
abbrev s__law_counts : Stmt := topS 23
def n__law_counts : List Str := ["_law_hues", "_law_row", "_law_begun", "_law_over", "_law_called", "_law_found", "_law_hour"]
theorem sc__law_counts : FnScope n__law_counts ["_law_hues", "_law_row", "_law_begun", "_law_over"] (defScope s__law_counts) := ⟨rfl, rfl, rfl, by decide +kernel, rfl, by decide +kernel, by decide +kernel⟩
def spCounts (K : PySem.W.Frag) : Sp := fun vs H Q _ => ∃ (v : V) (cs : List Col) (ws : List Wsh) (a : Addr) (xs : List V) (ts : List Trn) (f l f0 : Int), vs = [v, .ref a, .int f, .int l] ∧ Dp K H v (palD cs ws) ∧ PalC cs ws ∧ SqL K H a xs ∧ DpAll K H xs (ts.map trD) ∧ Ch cs ws f0 none ts ∧ ts.length ≤ 31 ∧ 0 ≤ f ∧ f ≤ 1000000 ∧ 0 ≤ l ∧ l ≤ 1000000 ∧
  ∀ H' p, Same H H' → H p = none → H' p = some (.dK (kvC fun z => cntF z (mksF cs ws 0 ts) f (l - f).toNat)) → Q (.ref p) H'
set_option maxHeartbeats 2000000 in
theorem ok_counts {f : Addr} {fd : FuncData} {k : Nat} (F : Fun K "_law_counts" "_law_counts" s__law_counts f fd) (T : Txt mg) (LD : Dct mg) (c__law_state : Cl P w K mg base (k + 2) "_law_state" (spLState K)) : FnOk P w K mg base CX0 (k + 3) f fd ["_law_hues", "_law_row", "_law_begun", "_law_over"] (spCounts K) := by
  refine F.ok sc__law_counts (fun vs H Q E h => ?_) (fun cdv A outer s H vs Q E hr h => ?_)
  · obtain ⟨v, cs, ws, a, xs, ts, f, l, f0, rfl, _⟩ := h
    rfl
  · have hu0 : (A.deeper (envOfC (Str.ofString "_law_counts") (defScope s__law_counts) s.heap.objs.size f cdv)).units + 1 < cLine := by have := hr.un; omega
    obtain ⟨v, cs, ws, a, xs, ts, f, l, f0, rfl, dpP, pb, hS, hx, cts, l31, f00, f01, l00, l01, q⟩ := h
    have nd := sc__law_counts.nd
    have hu := hu0
    /- 0 _law_hues, 1 _law_row, 2 _law_begun, 3 _law_over, 4 _law_called, 5 _law_found, 6 _law_hour -/
    refine ⟨_, (pss_cons (ps_set (i := 5) nd rfl (.inl rfl) (pe_callTy (kc_dictP (K := K)) (by rfl) LD (by decide +kernel) (pa_cons (pe_lc (own := [("_law_called", 4)]) rfl nd (ki_tup (K := K) (pe_tup (pa_cons pe_str (pa_cons pe_str (pa_cons pe_str (pa_cons pe_str (pa_cons pe_str (pa_cons pe_str pa_nil)))))))) (blkOk_by (N := n__law_counts) (sc := defScope s__law_counts) (by decide +kernel)) (fun _ _ _ _ _ => (pg_name (i := 4) nd rfl (.inl rfl))) (fun _ _ _ _ _ => pts_nil) (fun _ _ _ _ _ => (pe_tup (pa_cons (pv 4) (pa_cons pe_int pa_nil))))) pa_nil)))
      (pss_cons (ps_for PassesOwn.never rfl (pi_range2 (by rfl) T.range (pa_cons (pv 2) (pa_cons (pv 3) pa_nil))) (pg_name (i := 6) nd rfl (.inl rfl))
          (pss_cons (ps_set (i := 4) nd rfl (.inl rfl) (pe_ix (kx_tup (K := K)) (pe_cl c__law_state hr (by omega) (by rfl) (pa_cons (pv 0) (pa_cons (pv 1) (pa_cons (pv 6) pa_nil)))) pe_int (fun _ _ => rfl)))
          (pss_one (ps_dput hu (pv 5) (pv 4) (pe_op op_add (pe_dget hu (pv 5) (pv 4) (fun _ _ => rfl)) pe_int) rfl))))
      (pss_one (ps_ret (pv 5))))), ?_⟩
    have est : L2.start n__law_counts [v, .ref a, .int f, .int l] = [some v, some (.ref a), some (.int f), some (.int l), none, none, none] := rfl
    rw [est]
    refine ⟨(by show 6 ≤ sizeLine; decide), fun tw ntw => ?_⟩
    have s1 := same_upd (o := .tup [.str (Str.ofString "filled"), .str (Str.ofString "melting"), .str (Str.ofString "ready"), .str (Str.ofString "worked"), .str (Str.ofString "washed"), .str (Str.ofString "out")]) ntw
    have htw : upd H tw (.tup [.str (Str.ofString "filled"), .str (Str.ofString "melting"), .str (Str.ofString "ready"), .str (Str.ofString "worked"), .str (Str.ofString "washed"), .str (Str.ofString "out")]) tw = some (.tup (wordsS.map V.str)) := upd_same
    generalize upd H tw (.tup [.str (Str.ofString "filled"), .str (Str.ofString "melting"), .str (Str.ofString "ready"), .str (Str.ofString "worked"), .str (Str.ofString "washed"), .str (Str.ofString "out")]) = H1 at s1 htw ⊢
    refine ⟨tw, rfl, ⟨_, .inl (.inl htw)⟩, fun D nD => ?_⟩
    refine lc_it (walk_tup (xs := wordsS.map V.str)) (PvD K H1 [] D fun j => ((wordsS.take j).map fun z => PyData.tuple [.str z, .int 0])) (pd_start nD rfl) (fun j H' _ z => .inl (.inl (z.sm _ _ htw))) ?_ ?_
    · rintro i y Ha Hb hi pv ⟨rfl, gx⟩
      rw [List.getElem?_map] at gx
      obtain ⟨z, gz, rfl⟩ := Option.map_eq_some_iff.mp gx
      refine ⟨rfl, tYes_at ?_⟩
      rw [if_pos rfl]
      refine ⟨_, rfl, (by show 2 ≤ sizeLine; decide), fun t2 n2 => ?_⟩
      exact pd_put nD pv (same_upd n2) (.tup (.inl (.inl (off_new (pv.live live_nil) n2))) (.cons (.str _) (.cons (.int _) .nil))) (take_mapD (fun z => PyData.tuple [.str z, .int 0]) gz) (take_lenD (by decide))
    intro H2 pv
    obtain ⟨s2, us, hD, daD⟩ := pv
    have eall : ((wordsS.take (wordsS.map V.str).length).map fun z => PyData.tuple [.str z, .int 0]) = wordsS.map fun z => PyData.tuple [.str z, .int 0] := take_allD (by rw [List.length_map]; exact Nat.le_refl _)
    rw [eall] at daD
    obtain ⟨as, rfl, prd⟩ := pairs_ofZ (dpAll_same off_sub daD)
    refine ⟨D, as, _, rfl, SqL.of hD, prd, fun dd ndd => ?_⟩
    have emg : mergeK [] (wordsS.map fun z => ((Sum.inr z : Key), V.int 0)) = kvC fun z => cntF z (mksF cs ws 0 ts) f 0 := merge_nd _ [] (by rw [List.nil_append, List.map_map]; decide +kernel)
    rw [emg]
    have ndd0 : H dd = none := (s1.trans s2).free ndd
    have s3 := (s1.trans s2).trans (same_upd (o := .dK (kvC fun z => cntF z (mksF cs ws 0 ts) f 0)) ndd)
    have hdd : upd H2 dd (.dK (kvC fun z => cntF z (mksF cs ws 0 ts) f 0)) dd = _ := upd_same
    generalize upd H2 dd (.dK (kvC fun z => cntF z (mksF cs ws 0 ts) f 0)) = H3 at s3 hdd ⊢
    simp only [gName, List.set]
    refine ⟨_, rfl, _, rfl, f, l, rfl, ⟨by omega, by omega, by omega, by omega⟩, ?_⟩
    refine for_it walk_range (fun i σ Hx => ∃ v4 v6, σ = [some v, some (.ref a), some (.int f), some (.int l), v4, some (.ref dd), v6] ∧ Same H Hx ∧ Hx dd = some (.dK (kvC fun z => cntF z (mksF cs ws 0 ts) f i))) ⟨_, _, rfl, s3, hdd⟩ (fun _ _ _ _ _ => trivial) ?_ ?_
    · rintro i x σ Hax Ha hi ⟨v4, v6, rfl, sA, hdd⟩ ⟨rfl, rfl⟩
      refine ⟨_, rfl, _, rfl, _, rfl, v, cs, ws, a, xs, ts, f + (i : Nat), f0, rfl, dp_same sA dpP, pb, sA.seq hS, dpAll_same sA hx, cts, l31, fun Hb y sb dy => ?_⟩
      obtain ⟨ps, z, rfl, hps⟩ := st_dp dy
      have hdd := sb _ _ hdd
      refine ⟨ps, _, 0, _, rfl, rfl, hps, rfl, ?_⟩
      have wy : wdF (mksF cs ws 0 ts) (f + (i : Nat)) ∈ wordsS := wd_words _
      have ewd : wdS (stF (f + (i : Nat)) none (mksF cs ws 0 ts)) = wdF (mksF cs ws 0 ts) (f + (i : Nat)) := rfl
      rw [ewd]
      simp only [gName, List.set]
      have dg : DGet Hb dd (.str (wdF (mksF cs ws 0 ts) (f + (i : Nat)))) (some (.int (cntF (wdF (mksF cs ws 0 ts) (f + (i : Nat))) (mksF cs ws 0 ts) f i))) := by
        have := DGet.k (k := Sum.inr (wdF (mksF cs ws 0 ts) (f + (i : Nat)))) hdd
        rw [val_kvC wy] at this
        exact this
      refine ⟨_, rfl, _, rfl, dd, _, rfl, dg, _, _, rfl, rfl, _, rfl, _, rfl, dd, _, rfl, DPut.k (k := Sum.inr (wdF (mksF cs ws 0 ts) (f + (i : Nat)))) hdd (by show 6 < sizeLine; decide), ?_⟩
      rw [put_kvC wy]
      have efn : (fun z => if z = wdF (mksF cs ws 0 ts) (f + (i : Nat)) then cntF (wdF (mksF cs ws 0 ts) (f + (i : Nat))) (mksF cs ws 0 ts) f i + 1 else cntF z (mksF cs ws 0 ts) f i) = fun z => cntF z (mksF cs ws 0 ts) f (i + 1) := by
        funext z
        show _ = cntF z (mksF cs ws 0 ts) f i + (if decide (wdF (mksF cs ws 0 ts) (f + (i : Nat)) = z) = true then 1 else 0)
        by_cases e : z = wdF (mksF cs ws 0 ts) (f + (i : Nat))
        · rw [if_pos e, if_pos (decide_eq_true e.symm), e]
        · rw [if_neg e, if_neg (fun y => e (of_decide_eq_true y).symm), Int.add_zero]
      rw [efn]
      exact ⟨_, _, rfl, same_put (sA.trans sb) ndd0, upd_same⟩
    · rintro σ Ha ⟨v4, v6, rfl, sA, hdd⟩
      exact ⟨_, rfl, q _ dd sA ndd0 hdd⟩

end
end Pot

namespace Pot
open PySem PySem.Spec PyProof.Rows L2
section
variable {P : Program} {w : World} {K : PySem.W.Frag} {mg : Str → Option Value} {base : Heap}
/-- rank of a word in its order -/
def rkW (z : Str) : Nat := sixW.findIdx fun y => decide (y = z)
theorem rk_le : ∀ a ∈ wordsS, ∀ b ∈ wordsS, ltCps b.cps.toList a.cps.toList = false → a ≠ b → rkW a < rkW b := by decide +kernel
theorem rk_inv : ∀ a ∈ wordsS, rkW a < 6 ∧ sixW[rkW a]? = some a := by decide +kernel
theorem sorted_six {ys : List Str} (p : ys.Perm wordsS) (h : sortedS ys = true) : ys = sixW := by
  have nd : ys.Nodup := (p.nodup_iff).mpr (by decide +kernel)
  have ln : ys.length = 6 := p.length_eq
  match ys, ln with
  | [a, b, c, d, e, f], _ =>
    have m : ∀ z ∈ [a, b, c, d, e, f], z ∈ wordsS := fun z hz => p.mem_iff.mp hz
    have h : (!ltCps b.cps.toList a.cps.toList && (!ltCps c.cps.toList b.cps.toList && (!ltCps d.cps.toList c.cps.toList && (!ltCps e.cps.toList d.cps.toList && (!ltCps f.cps.toList e.cps.toList && true))))) = true := h
    simp only [Bool.and_eq_true, Bool.not_eq_true', Bool.and_true] at h
    obtain ⟨h1, h2, h3, h4, h5⟩ := h
    simp only [List.nodup_cons, List.mem_cons, List.not_mem_nil, or_false, not_or] at nd
    have ma := m a (by simp)
    have mb := m b (by simp)
    have mc := m c (by simp)
    have md := m d (by simp)
    have me := m e (by simp)
    have mf := m f (by simp)
    have r1 := rk_le a ma b mb h1 nd.1.1
    have r2 := rk_le b mb c mc h2 nd.2.1.1
    have r3 := rk_le c mc d md h3 nd.2.2.1.1
    have r4 := rk_le d md e me h4 nd.2.2.2.1.1
    have r5 := rk_le e me f mf h5 nd.2.2.2.2.1
    obtain ⟨ia, ga⟩ := rk_inv a ma
    obtain ⟨ib, gb⟩ := rk_inv b mb
    obtain ⟨ic, gc⟩ := rk_inv c mc
    obtain ⟨id, gd⟩ := rk_inv d md
    obtain ⟨ie, ge⟩ := rk_inv e me
    obtain ⟨jf, gf⟩ := rk_inv f mf
    rw [show rkW a = 0 by omega] at ga
    rw [show rkW b = 1 by omega] at gb
    rw [show rkW c = 2 by omega] at gc
    rw [show rkW d = 3 by omega] at gd
    rw [show rkW e = 4 by omega] at ge
    rw [show rkW f = 5 by omega] at gf
    rw [← Option.some.inj ga, ← Option.some.inj gb, ← Option.some.inj gc, ← Option.some.inj gd, ← Option.some.inj ge, ← Option.some.inj gf]
    rfl

end
end Pot

namespace Pot
open PySem PySem.Spec PyProof.Rows L2
section
variable {P : Program} {w : World} {K : PySem.W.Frag} {mg : Str → Option Value} {base : Heap}
abbrev s__law_right : Stmt := topS 24
def n__law_right : List Str := ["_law_box_here", "_law_hues", "_law_row", "_law_kept", "_law_edges_here", "_law_begun", "_law_over", "_law_parted", "_law_most", "_law_due", "_law_day", "_law_late", "_law_short", "_law_rest", "_law_whole", "_law_called", "_law_found", "_law_two", "_law_worked", "_law_at", "_law_colour", "_law_begin", "_law_end"]
theorem sc__law_right : FnScope n__law_right ["_law_box_here"] (defScope s__law_right) := ⟨rfl, rfl, rfl, by decide +kernel, rfl, by decide +kernel, by decide +kernel⟩
def spRight : Sp := fun vs H Q _ => ∃ (b : Addr), vs = [.ref b] ∧ Bp H b 0 ∧ ∀ H', Sm [b] H H' → Q (.bl true) H'
set_option maxHeartbeats 8000000 in
theorem ok_right {f : Addr} {fd : FuncData} {k : Nat} (F : Fun K "_law_right" "_law_right" s__law_right f fd) (T : Txt mg) (c__law_take : Cl P w K mg base (k + 1) "_law_take" spTake) (c__law_palette : Cl P w K mg base (k + 3) "_law_palette" (spPalette K)) (c__law_turns : Cl P w K mg base (k + 2) "_law_turns" (spTurns K)) (c__law_edges : Cl P w K mg base (k + 2) "_law_edges" (spEdges K)) (c__law_counts : Cl P w K mg base (k + 3) "_law_counts" (spCounts K)) (c_hours_in : ClD P w K mg base (k + 6) "hours_in" [] (spHin K)) (c_hours_in1 : ClD P w K mg base (k + 6) "hours_in" [.int 24] (spHin K)) (c_hours_in2 : ClD P w K mg base (k + 6) "hours_in" [.int 0, .int 24] (spHin K)) (k_hin31 : ClK P w K mg base (k + 6) "hours_in" ["last"] (pl31 (.int 0)) (spHin K)) (k_hin32 : ClK P w K mg base (k + 6) "hours_in" ["first", "last"] pl32 (spHin K)) (k_hin5 : ClK P w K mg base (k + 6) "hours_in" ["word", "last", "turns", "first", "palette"] mix5 (spHin K)) (c__law_same : Cl P w K mg base (k + 4) "_law_same" (spSame K 3)) : FnG P w K mg base (k + 7) f fd ["_law_box_here"] spRight := by
  refine okG F sc__law_right (fun vs H Q E h => ?_) (fun cdv A outer s H vs Q gd hr h => ?_)
  · obtain ⟨b, rfl, _⟩ := h
    rfl
  · obtain ⟨b, rfl, B, q⟩ := h
    have nd := sc__law_right.nd
    have hu64 := hr.units
    have hu : (A.deeper (envOfC (Str.ofString "_law_right") (defScope s__law_right) s.heap.objs.size f cdv)).units + 1 < cLine := by omega
    /- 0 _law_box_here, 1 _law_hues, 2 _law_row, 3 _law_kept, 4 _law_edges_here, 5 _law_begun, 6 _law_over, 7 _law_parted, 8 _law_most, 9 _law_due, 10 _law_day, 11 _law_late, 12 _law_short, 13 _law_rest, 14 _law_whole, 15 _law_called, 16 _law_found, 17 _law_two, 18 _law_worked, 19 _law_at, 20 _law_colour, 21 _law_begin, 22 _law_end -/
    refine ⟨_, (pss_cons (ps_set (i := 1) nd rfl (.inl rfl) (pe_cl c__law_palette hr (by omega) (by rfl) (pa_cons (pv 0) (pa_cons pe_int pa_nil))))
      (pss_cons (ps_set (i := 2) nd rfl (.inl rfl) (pe_cl c__law_turns hr (by omega) (by rfl) (pa_cons (pv 0) (pa_cons (pv 1) (pa_cons (pe_ix (kx_list (K := K)) (pe_lst (pa_cons pe_int (pa_cons (pe_op op_add pe_int (pe_cl c__law_take hr (by omega) (by rfl) (pa_cons (pv 0) (pa_cons pe_int pa_nil)))) (pa_cons (pe_op op_add pe_int (pe_cl c__law_take hr (by omega) (by rfl) (pa_cons (pv 0) (pa_cons pe_int pa_nil)))) (pa_cons pe_int pa_nil))))) (pe_cl c__law_take hr (by omega) (by rfl) (pa_cons (pv 0) (pa_cons pe_int pa_nil))) (fun _ _ => rfl)) pa_nil)))))
      (pss_cons (ps_par (i := 3) (j := 4) rfl nd rfl rfl (by decide) rfl rfl (pa_cons (pe_callB (kc_repr (K := K) gd hu64) (by rfl) T.repr (by decide +kernel) (pa_cons (pe_lst (pa_cons (pv 1) (pa_cons (pv 2) pa_nil))) pa_nil)) (pa_cons (pe_cl c__law_edges hr (by omega) (by rfl) (pa_cons (pv 1) (pa_cons (pv 2) pa_nil))) pa_nil)) rfl)
      (pss_cons (ps_set (i := 5) nd rfl (.inl rfl) (pe_ix (kx_list (K := K)) (pv 4) (pe_cl c__law_take hr (by omega) (by rfl) (pa_cons (pv 0) (pa_cons (pe_callB (kc_len (K := K)) (by rfl) T.len PySem.boot_len (pa_cons (pv 4) pa_nil)) pa_nil))) (fun _ _ => rfl)))
      (pss_cons (ps_set (i := 6) nd rfl (.inl rfl) (pe_callB (call_min2 rfl) (by rfl) T.min (by decide +kernel) (pa_cons (pe_op op_pow pe_int pe_int) (pa_cons (pe_op op_add (pv 5) (pe_ix (kx_list (K := K)) (pe_lst (pa_cons pe_int (pa_cons pe_int (pa_cons (pe_cl c__law_take hr (by omega) (by rfl) (pa_cons (pv 0) (pa_cons pe_int pa_nil))) pa_nil)))) (pe_cl c__law_take hr (by omega) (by rfl) (pa_cons (pv 0) (pa_cons pe_int pa_nil))) (fun _ _ => rfl))) pa_nil))))
      (pss_cons (ps_par (i := 7) (j := 8) rfl nd rfl rfl (by decide) rfl rfl (pa_cons (pe_op op_add (pv 5) (pe_cl c__law_take hr (by omega) (by rfl) (pa_cons (pv 0) (pa_cons (pe_op op_add (pe_op op_sub (pv 6) (pv 5)) pe_int) pa_nil)))) (pa_cons (pe_cl c__law_take hr (by omega) (by rfl) (pa_cons (pv 0) (pa_cons pe_int pa_nil))) pa_nil)) rfl)
      (pss_cons (ps_par3 (i := 9) (j := 10) (l := 11) rfl nd rfl rfl rfl (by decide) (by decide) (by decide) rfl rfl rfl (pa_cons (pe_cl c__law_counts hr (by omega) (by rfl) (pa_cons (pv 1) (pa_cons (pv 2) (pa_cons (pv 5) (pa_cons (pv 6) pa_nil))))) (pa_cons (pe_cl c__law_counts hr (by omega) (by rfl) (pa_cons (pv 1) (pa_cons (pv 2) (pa_cons pe_int (pa_cons pe_int pa_nil))))) (pa_cons (pe_callB (call_min2 rfl) (by rfl) T.min (by decide +kernel) (pa_cons pe_int (pa_cons (pv 8) pa_nil))) pa_nil))) rfl)
      (pss_cons (ps_par (i := 12) (j := 13) rfl nd rfl rfl (by decide) rfl rfl (pa_cons (pe_cl c__law_counts hr (by omega) (by rfl) (pa_cons (pv 1) (pa_cons (pv 2) (pa_cons pe_int (pa_cons (pv 8) pa_nil))))) (pa_cons (pe_cl c__law_counts hr (by omega) (by rfl) (pa_cons (pv 1) (pa_cons (pv 2) (pa_cons (pv 11) (pa_cons pe_int pa_nil))))) pa_nil)) rfl)
      (pss_cons (ps_set (i := 14) nd rfl (.inl rfl) (pe_lst pa_nil))
      (pss_cons (ps_for PassesOwn.never rfl (ki_list (K := K) (pe_callB kc_sortedD (by rfl) T.sorted (by decide +kernel) (pa_cons (pv 9) pa_nil))) (pg_name (i := 15) nd rfl (.inl rfl))
          (pss_cons (ps_set (i := 16) nd rfl (.inl rfl) (pe_lst (pa_cons (pe_cd c_hours_in hr (by omega) (by rfl) (pa_cons (pv 1) (pa_cons (pv 2) (pa_cons (pv 15) (pa_cons (pv 5) (pa_cons (pv 6) pa_nil)))))) (pa_cons (pe_cd c_hours_in2 hr (by omega) (by rfl) (pa_cons (pv 1) (pa_cons (pv 2) (pa_cons (pv 15) pa_nil)))) pa_nil))))
          (pss_cons (ps_set (i := 16) nd rfl (.inl rfl) (pe_op op_cat (pv 16) (pe_lst (pa_cons (pe_ckP k_hin31 hr (by omega) (by rfl) (pa_cons (pv 1) (pa_cons (pv 2) (pa_cons (pv 15) pa_nil))) (pk_cons (pv 8) pk_nil)) (pa_cons (pe_cd c_hours_in1 hr (by omega) (by rfl) (pa_cons (pv 1) (pa_cons (pv 2) (pa_cons (pv 15) (pa_cons (pv 11) pa_nil))))) pa_nil)))))
          (pss_cons (ps_if (pt_not (pt_val (pe_cl c__law_same hr (by omega) (by rfl) (pa_cons (pv 16) (pa_cons (pe_lst (pa_cons (pe_dget hu (pv 9) (pv 15) (fun _ _ => rfl)) (pa_cons (pe_dget hu (pv 10) (pv 15) (fun _ _ => rfl)) (pa_cons (pe_dget hu (pv 12) (pv 15) (fun _ _ => rfl)) (pa_cons (pe_dget hu (pv 13) (pv 15) (fun _ _ => rfl)) pa_nil))))) pa_nil)))))
              pss_never
              pss_nil)
          (pss_cons (ps_set (i := 17) nd rfl (.inl rfl) (pe_lst (pa_cons (pe_cd c_hours_in hr (by omega) (by rfl) (pa_cons (pv 1) (pa_cons (pv 2) (pa_cons (pv 15) (pa_cons (pv 5) (pa_cons (pv 7) pa_nil)))))) (pa_cons (pe_ckP k_hin32 hr (by omega) (by rfl) (pa_cons (pv 1) (pa_cons (pv 2) (pa_cons (pv 15) pa_nil))) (pk_cons (pv 7) (pk_cons (pv 6) pk_nil))) pa_nil))))
          (pss_cons (ps_expr (pe_bm PySem.F.plainAttrs_list PySem.F.slot_list_append PySem.F.type_list_append mt_append (pv 14) (pa_cons (pe_ck k_hin5 hr (by omega) (by rfl) (pk_cons (pv 15) (pk_cons (pe_op op_pow pe_int pe_int) (pk_cons (pv 2) (pk_cons pe_int (pk_cons (pv 1) pk_nil)))))) pa_nil)))
          (pss_one (ps_if (pt_cmpR (ko_ne (K := K) hu64) (pe_callB (kc_sum (K := K)) (by rfl) T.sum (by decide +kernel) (pa_cons (pv 17) pa_nil)) (pe_dget hu (pv 9) (pv 15) (fun _ _ => rfl)) (nomark _))
              pss_never
              pss_nil))))))))
      (pss_cons (ps_set (i := 18) nd rfl (.inl rfl) (pe_callB (kc_sum (K := K)) (by rfl) T.sum (by decide +kernel) (pa_cons (pe_lc (own := [("_law_at", 19), ("_law_colour", 20), ("_law_begin", 21), ("_law_end", 22)]) rfl nd (ki_list (K := K) (pv 2)) (blkOk_by (N := n__law_right) (sc := defScope s__law_right) (by decide +kernel)) (fun _ _ _ _ _ => (kg_tup (K := K) (n := 4) (pgs_cons (pg_name (i := 19) nd rfl (.inl rfl)) (pgs_cons (pg_name (i := 20) nd rfl (.inl rfl)) (pgs_cons (pg_name (i := 21) nd rfl (.inl rfl)) (pgs_cons (pg_name (i := 22) nd rfl (.inl rfl)) pgs_nil)))))) (fun _ _ _ _ _ => pts_nil) (fun _ _ _ _ _ => (pe_op op_sub (pv 22) (pv 21)))) pa_nil)))
      (pss_one (ps_ret (pe_and (pe_cmpR op_eq (pe_callB (kc_sum (K := K)) (by rfl) T.sum (by decide +kernel) (pa_cons (pv 14) pa_nil)) (pe_op op_pow pe_int pe_int) (nomark _)) (pe_and (pe_cmpR op_eq (pe_ix (kx_list (K := K)) (pv 14) pe_int (fun _ _ => rfl)) (pv 18) (nomark _)) (pe_one (pe_cmpR op_eq (pe_callB (kc_repr (K := K) gd hu64) (by rfl) T.repr (by decide +kernel) (pa_cons (pe_lst (pa_cons (pv 1) (pa_cons (pv 2) pa_nil))) pa_nil)) (pv 3) (nomark _)))))))))))))))))), ?_⟩
    have sc : Sm [b] H H := Same.refl _
    have lv : Live [b] H := Live.pw B
    obtain ⟨S, eS⟩ : ∃ S, S = [b] := ⟨_, rfl⟩
    have hb : b ∈ S := by rw [eS]; exact List.mem_cons_self
    rw [← eS] at lv
    -- palette
    refine ⟨_, rfl, b, _, 4, rfl, (by decide), (by decide), B, by omega, fun H3 v cs ws B3 s3 dpP pb => ?_⟩
    rw [← eS] at dpP
    have lv := lv.box B3.bx s3
    have sc := sc.trans s3
    have B := B3
    have est : L2.start n__law_right [.ref b] = [some (.ref b), none, none, none, none, none, none, none, none, none, none, none, none, none, none, none, none, none, none, none, none, none, none] := rfl
    rw [est]
    simp only [gName, List.set]
    -- how many turns
    refine ⟨_, rfl, _, rfl, _, rfl, b, 5, _, rfl, (by decide), (by decide), B, by omega, fun H4 r4 r40 r41 B4 s4 => ⟨_, _, rfl, rfl, ?_⟩⟩
    have lv := lv.box B4.bx s4
    have sc := sc.trans s4
    have B := B4
    have dpP := dp_same ((sm_one hb s4)) dpP
    refine ⟨_, rfl, b, 5, _, rfl, (by decide), (by decide), B, by omega, fun H5 r5 r50 r51 B5 s5 => ⟨_, _, rfl, rfl, ?_⟩⟩
    have lv := lv.box B5.bx s5
    have sc := sc.trans s5
    have B := B5
    have dpP := dp_same ((sm_one hb s5)) dpP
    refine ⟨(by show 4 ≤ sizeLine; decide), fun e1 ne1 => ?_⟩
    have f1 := off_new (o := .lst [.int 0, .int (1 + r4), .int (1 + r5), .int 30]) lv ne1
    have lv := lv.put (o := .lst [.int 0, .int (1 + r4), .int (1 + r5), .int 30]) ne1
    have B := B.put (o := .lst [.int 0, .int (1 + r4), .int (1 + r5), .int 30]) ne1
    have sc := sc.trans (sm_put (S := [b]) (o := .lst [.int 0, .int (1 + r4), .int (1 + r5), .int 30]) ne1)
    have dpP := dp_same ((sm_put (S := S) (o := .lst [.int 0, .int (1 + r4), .int (1 + r5), .int 30]) ne1)) dpP
    generalize upd H5 e1 (.lst [.int 0, .int (1 + r4), .int (1 + r5), .int 30]) = H6 at f1 lv B sc dpP ⊢
    refine ⟨_, rfl, b, 4, _, rfl, (by decide), (by decide), B, by omega, fun H7 r7 r70 r71 B7 s7 => ?_⟩
    have lv := lv.box B7.bx s7
    have sc := sc.trans s7
    have B := B7
    have f1 := (sm_one hb s7) _ _ f1
    have dpP := dp_same ((sm_one hb s7)) dpP
    obtain ⟨mt, emt, mt31⟩ : ∃ mt : Nat, atI [V.int 0, .int (1 + r4), .int (1 + r5), .int 30] r7 = some (.int (mt : Nat)) ∧ mt ≤ 30 := by
      have h : r7 = 0 ∨ r7 = 1 ∨ r7 = 2 ∨ r7 = 3 := by omega
      rcases h with rfl | rfl | rfl | rfl
      · exact ⟨0, rfl, by decide⟩
      · exact ⟨(1 + r4).toNat, by rw [Int.toNat_of_nonneg (by omega)]; rfl, by omega⟩
      · exact ⟨(1 + r5).toNat, by rw [Int.toNat_of_nonneg (by omega)]; rfl, by omega⟩
      · exact ⟨30, rfl, by decide⟩
    refine ⟨e1, _, r7, _, rfl, rfl, SqL.of (at_off f1), emt, ?_⟩
    refine ⟨b, _, mt, v, cs, ws, rfl, B, by omega, (by rw [← eS]; exact dpP), pb, by omega, fun H8 R xs ts f00 B8 s8 nR hR daR lts f0p cts lE => ?_⟩
    have Rn : R ∉ S := lv.out nR
    have lv := lv.box B8.bx s8
    have sc := sc.trans s8
    have B := B8
    have dpP := dp_same ((sm_one hb s8)) dpP
    have fR : off H8 S R = some (.lst xs) := by rw [off_out Rn]; exact hR
    rw [← eS] at daR
    have lx : xs.length = ts.length := dpAll_map_len daR
    have cb := (ch_bounds pb cts).2
    have bts : ∀ t ∈ ts, TrB cs 1000000 t := fun t ht => by
      obtain ⟨c1, c2, c3, c4, c5⟩ := cb t ht
      exact ⟨c5, by omega, by omega, by omega⟩
    have efa : fauF cs ws none 0 ts = none := ch_none cts (fun q e => by cases e) (fun r hr i e => (pb.wa r hr i e).1)
    have inC : ∀ t ∈ ts, InC cs t.2.1 := fun t ht => (bts t ht).1
    obtain ⟨wok, mn⟩ := fau_marks (lo := 0) pb.ch pb.wa efa (fun t ht => ⟨inC t ht, (cb t ht).2.2.1⟩) (fun t ht => by have := (cb t (List.mem_of_mem_head? ht)).1; omega)
    have hcn : ∀ (z : Str) (f l : Int), f ≤ l → hinF z (strF f l (mksF cs ws 0 ts)) = cntF z (mksF cs ws 0 ts) f (l - f).toNat := fun z f l h => hin_cnt h mn
    have tP := th_pal pb
    have tA := th_trs pb.wd bts (by omega)
    have tb : Th 1000000 (1000000 + 2 + (200000 + 2) + 3) 4 60 (.list [palD cs ws, .list (ts.map trD)]) := ((Ths.one (tP.mono (by decide) (Nat.le_refl _) (Nat.le_refl _) (Nat.le_refl _))).app (Ths.one (tA.mono (Nat.le_refl _) (Nat.le_refl _) (by decide) (Nat.le_refl _)))).list (by show 2 ≤ 60; decide)
    have fb := gd_fineW (by decide) _ tb.g
    simp only [gName, List.set]
    refine ⟨_, rfl, _, rfl, (by show 2 ≤ sizeLine; decide), fun l nl => ?_⟩
    have fl := off_new (o := .lst [v, .ref R]) lv nl
    have lv := lv.put (o := .lst [v, .ref R]) nl
    have B := B.put (o := .lst [v, .ref R]) nl
    have sc := sc.trans (sm_put (S := [b]) (o := .lst [v, .ref R]) nl)
    have fR := (sm_put (S := S) (o := .lst [v, .ref R]) nl) _ _ fR
    have dpP := dp_same ((sm_put (S := S) (o := .lst [v, .ref R]) nl)) dpP
    have daR := dpAll_same ((sm_put (S := S) (o := .lst [v, .ref R]) nl)) daR
    generalize upd H8 l (.lst [v, .ref R]) = H9 at fl lv B sc fR dpP daR ⊢
    refine ⟨l, .list [palD cs ws, .list (ts.map trD)], rfl, .lst (SqL.of (at_off fl)) (.cons (dp_off dpP) (.cons (dp_off (.lst (SqL.of fR) daR)) .nil)), fb, Nat.le_trans tb.d (by decide), Nat.le_trans tb.c (by decide), ?_⟩
    obtain ⟨shn, eshn⟩ : ∃ z, z = (PyData.list [palD cs ws, .list (ts.map trD)]).shown := ⟨_, rfl⟩
    rw [← eshn]
    refine ⟨_, rfl, _, rfl, v, cs, ws, R, xs, ts, f00, rfl, dp_off dpP, pb, SqL.of (at_off fR), dpAll_same off_sub daR, cts, by omega, fun H10 Ed ns s10 nEd hEd lns l0 bns => ⟨_, _, rfl, ?_⟩⟩
    have En : Ed ∉ S := lv.out nEd
    have lv := lv.same s10
    have sc := sc.trans (sm_of (S := [b]) s10)
    have B := B.same s10
    have fR := (sm_of (S := S) s10) _ _ fR
    have dpP := dp_same ((sm_of (S := S) s10)) dpP
    have daR := dpAll_same ((sm_of (S := S) s10)) daR
    have fEd : off H10 S Ed = some (.lst (ns.map V.int)) := by rw [off_out En]; exact hEd
    simp only [List.set]
    have B := B.mono (show _ ≤ 3000 by omega)
    refine ⟨_, rfl, _, rfl, _, rfl, _, _, rfl, .inl ⟨_, SqL.of (at_off fEd), rfl⟩, b, _, _, rfl, (by rw [List.length_map]; omega), (by rw [List.length_map]; omega), B, by omega, fun H11 r11 r110 r111 B11 s11 => ?_⟩
    rw [List.length_map] at r111
    have lv := lv.box B11.bx s11
    have sc := sc.trans s11
    have B := B11
    have fR := (sm_one hb s11) _ _ fR
    have fEd := (sm_one hb s11) _ _ fEd
    have dpP := dp_same ((sm_one hb s11)) dpP
    have daR := dpAll_same ((sm_one hb s11)) daR
    obtain ⟨rn, rfl⟩ : ∃ rn : Nat, r11 = (rn : Int) := ⟨r11.toNat, by omega⟩
    have gbe := List.getElem?_eq_getElem (show rn < ns.length by omega)
    obtain ⟨be0, be1⟩ := bns _ (List.mem_of_getElem? gbe)
    generalize ns[rn] = be at gbe be0 be1
    refine ⟨Ed, _, _, _, rfl, rfl, SqL.of (at_off fEd), atI_nat (by rw [List.getElem?_map, gbe]; rfl), ?_⟩
    simp only [gName, List.set]
    -- over
    refine ⟨_, _, rfl, rfl, ⟨by decide, by decide, by decide⟩, _, rfl, _, rfl, b, 60, _, rfl, (by decide), (by decide), B, by omega, fun H12 r12 r120 r121 B12 s12 => ?_⟩
    have lv := lv.box B12.bx s12
    have sc := sc.trans s12
    have B := B12
    have fR := (sm_one hb s12) _ _ fR
    have dpP := dp_same ((sm_one hb s12)) dpP
    have daR := dpAll_same ((sm_one hb s12)) daR
    refine ⟨(by show 3 ≤ sizeLine; decide), fun e2 ne2 => ?_⟩
    have f2 := off_new (o := .lst [.int 0, .int 1, .int r12]) lv ne2
    have lv := lv.put (o := .lst [.int 0, .int 1, .int r12]) ne2
    have B := B.put (o := .lst [.int 0, .int 1, .int r12]) ne2
    have sc := sc.trans (sm_put (S := [b]) (o := .lst [.int 0, .int 1, .int r12]) ne2)
    have fR := (sm_put (S := S) (o := .lst [.int 0, .int 1, .int r12]) ne2) _ _ fR
    have dpP := dp_same ((sm_put (S := S) (o := .lst [.int 0, .int 1, .int r12]) ne2)) dpP
    have daR := dpAll_same ((sm_put (S := S) (o := .lst [.int 0, .int 1, .int r12]) ne2)) daR
    generalize upd H12 e2 (.lst [.int 0, .int 1, .int r12]) = H13 at f2 lv B sc fR dpP daR ⊢
    refine ⟨_, rfl, b, 3, _, rfl, (by decide), (by decide), B, by omega, fun H14 r14 r140 r141 B14 s14 => ?_⟩
    have lv := lv.box B14.bx s14
    have sc := sc.trans s14
    have B := B14
    have f2 := (sm_one hb s14) _ _ f2
    have fR := (sm_one hb s14) _ _ fR
    have dpP := dp_same ((sm_one hb s14)) dpP
    have daR := dpAll_same ((sm_one hb s14)) daR
    obtain ⟨ad, ead, ad0, ad1⟩ : ∃ ad : Int, atI [V.int 0, .int 1, .int r12] r14 = some (.int ad) ∧ 0 ≤ ad ∧ ad ≤ 60 := by
      have z : r14 = 0 ∨ r14 = 1 ∨ r14 = 2 := by omega
      rcases z with rfl | rfl | rfl
      · exact ⟨_, rfl, by omega, by omega⟩
      · exact ⟨_, rfl, by omega, by omega⟩
      · exact ⟨_, rfl, by omega, by omega⟩
    refine ⟨e2, _, r14, _, rfl, rfl, SqL.of (at_off f2), ead, _, _, rfl, rfl, _, _, rfl, ?_⟩
    dsimp only
    rw [e106]
    obtain ⟨ov, eov, ov0, ov1⟩ : ∃ ov : Int, (if be + ad < 1000000 then be + ad else 1000000) = ov ∧ be ≤ ov ∧ ov ≤ 1000000 := ⟨_, rfl, by split <;> omega, by split <;> omega⟩
    rw [eov]
    clear eov f2 ead
    simp only [gName, List.set]
    refine ⟨_, rfl, _, rfl, _, rfl, _, rfl, _, _, rfl, rfl, _, _, rfl, rfl, b, ov - be + 1, _, rfl, (by omega), (by omega), B, by omega, fun H15 r15 r150 r151 B15 s15 => ⟨_, _, rfl, rfl, ?_⟩⟩
    have lv := lv.box B15.bx s15
    have sc := sc.trans s15
    have B := B15
    have fR := (sm_one hb s15) _ _ fR
    have dpP := dp_same ((sm_one hb s15)) dpP
    have daR := dpAll_same ((sm_one hb s15)) daR
    dsimp only
    obtain ⟨pa, epa, pa0, pa1⟩ : ∃ pa : Int, be + r15 = pa ∧ be ≤ pa ∧ pa ≤ ov := ⟨_, rfl, by omega, by omega⟩
    rw [epa]
    refine ⟨_, rfl, b, 40, _, rfl, (by decide), (by decide), B, by omega, fun H16 mo mo0 mo1 B16 s16 => ⟨_, _, rfl, ?_⟩⟩
    have lv := lv.box B16.bx s16
    have sc := sc.trans s16
    have B := B16
    have fR := (sm_one hb s16) _ _ fR
    have dpP := dp_same ((sm_one hb s16)) dpP
    have daR := dpAll_same ((sm_one hb s16)) daR
    simp only [List.set]
    -- counts
    refine ⟨_, rfl, _, rfl, _, rfl, _, rfl, v, cs, ws, R, xs, ts, be, ov, f00, rfl, dp_off dpP, pb, SqL.of (at_off fR), dpAll_same off_sub daR, cts, by omega, be0, be1, by omega, ov1, fun H17 d1 s17 n17 h17 => ?_⟩
    have x1 : d1 ∉ S := lv.out n17
    have lv := lv.same s17
    have sc := sc.trans (sm_of (S := [b]) s17)
    have B := B.same s17
    have fR := (sm_of (S := S) s17) _ _ fR
    have dpP := dp_same ((sm_of (S := S) s17)) dpP
    have daR := dpAll_same ((sm_of (S := S) s17)) daR
    have fd1 := (off_out x1).trans h17
    refine ⟨_, rfl, _, rfl, v, cs, ws, R, xs, ts, 0, 24, f00, rfl, dp_off dpP, pb, SqL.of (at_off fR), dpAll_same off_sub daR, cts, by omega, by decide, by decide, by decide, by decide, fun H18 d2 s18 n18 h18 => ?_⟩
    have x2 : d2 ∉ S := lv.out n18
    have lv := lv.same s18
    have sc := sc.trans (sm_of (S := [b]) s18)
    have B := B.same s18
    have fR := (sm_of (S := S) s18) _ _ fR
    have fd1 := (sm_of (S := S) s18) _ _ fd1
    have dpP := dp_same ((sm_of (S := S) s18)) dpP
    have daR := dpAll_same ((sm_of (S := S) s18)) daR
    have fd2 := (off_out x2).trans h18
    obtain ⟨la, ela, la0, la1⟩ : ∃ la : Int, (if mo < 24 then mo else 24) = la ∧ 0 ≤ la ∧ la ≤ 24 := ⟨_, rfl, by split <;> omega, by split <;> omega⟩
    refine ⟨_, rfl, _, _, rfl, _, _, _, rfl, ?_⟩
    rw [ela]
    simp only [List.set]
    refine ⟨_, rfl, _, rfl, _, rfl, v, cs, ws, R, xs, ts, 0, mo, f00, rfl, dp_off dpP, pb, SqL.of (at_off fR), dpAll_same off_sub daR, cts, by omega, by decide, by decide, mo0, by omega, fun H19 d3 s19 n19 h19 => ?_⟩
    have x3 : d3 ∉ S := lv.out n19
    have lv := lv.same s19
    have sc := sc.trans (sm_of (S := [b]) s19)
    have B := B.same s19
    have fR := (sm_of (S := S) s19) _ _ fR
    have fd1 := (sm_of (S := S) s19) _ _ fd1
    have fd2 := (sm_of (S := S) s19) _ _ fd2
    have dpP := dp_same ((sm_of (S := S) s19)) dpP
    have daR := dpAll_same ((sm_of (S := S) s19)) daR
    have fd3 := (off_out x3).trans h19
    refine ⟨_, rfl, _, rfl, _, rfl, v, cs, ws, R, xs, ts, la, 24, f00, rfl, dp_off dpP, pb, SqL.of (at_off fR), dpAll_same off_sub daR, cts, by omega, la0, by omega, by decide, by decide, fun H20 d4 s20 n20 h20 => ⟨_, _, rfl, ?_⟩⟩
    have x4 : d4 ∉ S := lv.out n20
    have lv := lv.same s20
    have sc := sc.trans (sm_of (S := [b]) s20)
    have B := B.same s20
    have fR := (sm_of (S := S) s20) _ _ fR
    have fd1 := (sm_of (S := S) s20) _ _ fd1
    have fd2 := (sm_of (S := S) s20) _ _ fd2
    have fd3 := (sm_of (S := S) s20) _ _ fd3
    have dpP := dp_same ((sm_of (S := S) s20)) dpP
    have daR := dpAll_same ((sm_of (S := S) s20)) daR
    have fd4 := (off_out x4).trans h20
    simp only [List.set]
    -- whole
    refine ⟨Nat.zero_le _, fun U nU => ?_⟩
    have nU0 : H U = none := sm_free sc B.bx nU
    have Ub : U ≠ b := B.ne nU
    rw [eS] at fR fd1 fd2 fd3 fd4 dpP daR
    have eoff : off (upd H20 U (.lst [])) [U, b] = off H20 [b] := off_fresh nU
    rw [← eoff] at fR fd1 fd2 fd3 fd4 dpP daR
    have B := B.put (o := .lst []) nU
    have sc := sc.trans (sm_put (S := [b]) (o := .lst []) nU)
    have hU : upd H20 U (.lst []) U = some (.lst []) := upd_same
    generalize upd H20 U (.lst []) = H21 at fR fd1 fd2 fd3 fd4 dpP daR B sc hU ⊢
    obtain ⟨S, eS2⟩ : ∃ S, S = [U, b] := ⟨_, rfl⟩
    have hb : b ∈ S := by rw [eS2]; simp
    have hUS : U ∈ S := by rw [eS2]; exact List.mem_cons_self
    have lv : Live S H21 := by rw [eS2]; exact (Live.pw B).cons hU
    rw [← eS2] at fR fd1 fd2 fd3 fd4 dpP daR
    simp only [gName, List.set]
    refine ⟨_, rfl, d1, _, wordsS, rfl, .inl (at_off fd1), kvC_keys _, (by decide), fun ys p0 perm srt np0 => ?_⟩
    have eys := sorted_six perm srt
    subst eys
    have hU := same_upd (o := .lst (sixW.map V.str)) np0 _ _ hU
    have fp0 := off_new (o := .lst (sixW.map V.str)) lv np0
    have lv := lv.put (o := .lst (sixW.map V.str)) np0
    have B := B.put (o := .lst (sixW.map V.str)) np0
    have sc := sc.trans (sm_put (S := [b]) (o := .lst (sixW.map V.str)) np0)
    have fR := (sm_put (S := S) (o := .lst (sixW.map V.str)) np0) _ _ fR
    have fd1 := (sm_put (S := S) (o := .lst (sixW.map V.str)) np0) _ _ fd1
    have fd2 := (sm_put (S := S) (o := .lst (sixW.map V.str)) np0) _ _ fd2
    have fd3 := (sm_put (S := S) (o := .lst (sixW.map V.str)) np0) _ _ fd3
    have fd4 := (sm_put (S := S) (o := .lst (sixW.map V.str)) np0) _ _ fd4
    have dpP := dp_same ((sm_put (S := S) (o := .lst (sixW.map V.str)) np0)) dpP
    have daR := dpAll_same ((sm_put (S := S) (o := .lst (sixW.map V.str)) np0)) daR
    generalize upd H21 p0 (.lst (sixW.map V.str)) = H22 at fp0 lv B sc fR fd1 fd2 fd3 fd4 hU dpP daR ⊢
    have B := B.mono (show _ ≤ 4000 by omega)
    refine ⟨p0, rfl, ⟨_, SqL.of (at_off fp0)⟩, ?_⟩
    refine for_it (walk_list (xs := sixW.map V.str)) (fun i σ Hx => ∃ v15 v16 v17, σ = [some (.ref b), some v, some (.ref R), some (.str shn), some (.ref Ed), some (.int be), some (.int ov), some (.int pa), some (.int mo), some (.ref d1), some (.ref d2), some (.int la), some (.ref d3), some (.ref d4), some (.ref U), v15, v16, v17, none, none, none, none, none] ∧ Bp Hx b 4000 ∧ Sm [b] H Hx ∧ Dp K (off Hx S) v (palD cs ws) ∧ off Hx S R = some (.lst xs) ∧ DpAll K (off Hx S) xs (ts.map trD) ∧ off Hx S d1 = some (.dK (kvC fun z => cntF z (mksF cs ws 0 ts) be (ov - be).toNat)) ∧ off Hx S d2 = some (.dK (kvC fun z => cntF z (mksF cs ws 0 ts) 0 ((24 : Int) - 0).toNat)) ∧ off Hx S d3 = some (.dK (kvC fun z => cntF z (mksF cs ws 0 ts) 0 (mo - 0).toNat)) ∧ off Hx S d4 = some (.dK (kvC fun z => cntF z (mksF cs ws 0 ts) la (24 - la).toNat)) ∧ off Hx S p0 = some (.lst (sixW.map V.str)) ∧ Hx U = some (.lst (((sixW.take i).map fun z => hinF z (strF 0 1000000 (mksF cs ws 0 ts))).map V.int)))
      ⟨_, _, _, rfl, B, sc, dpP, fR, daR, fd1, fd2, fd3, fd4, fp0, hU⟩ (fun i σ Hx _ z => by obtain ⟨_, _, _, _, _, _, _, _, _, _, _, _, _, z, _⟩ := z; exact SqL.of (at_off z)) ?_ ?_
    · rintro i x σ Hax Ha hi ⟨v15, v16, v17, rfl, B, sc, dpP, fR, daR, fd1, fd2, fd3, fd4, fp0, hU⟩ ⟨rfl, gx⟩
      rw [List.getElem?_map] at gx
      obtain ⟨z, gz, rfl⟩ := Option.map_eq_some_iff.mp gx
      have hi6 : i < 6 := hi
      have wz : z ∈ wordsS := (show ∀ y ∈ sixW, y ∈ wordsS by decide +kernel) z (List.mem_of_getElem? gz)
      have lv : Live S Ha := by rw [eS2]; exact (Live.pw B).cons hU
      have dg : ∀ {Hz : Hp} {d : Addr} {c : Str → Int}, Hz d = some (.dK (kvC c)) → DGet Hz d (.str z) (some (.int (c z))) := fun {Hz d c} h => by
        have := DGet.k (k := Sum.inr z) h
        rw [val_kvC wz] at this
        exact this
      refine ⟨_, rfl, _, rfl, _, rfl, _, rfl, _, rfl, v, cs, ws, R, xs, ts, z, be, ov, rfl, dp_off dpP, SqL.of (at_off fR), dpAll_same off_sub daR, inC, wok, by omega, fun Hb sb => ?_⟩
      have hU := sb _ _ hU
      have lv := lv.same sb
      have sc := sc.trans (sm_of (S := [b]) sb)
      have B := B.same sb
      have fR := (sm_of (S := S) sb) _ _ fR
      have fd1 := (sm_of (S := S) sb) _ _ fd1
      have fd2 := (sm_of (S := S) sb) _ _ fd2
      have fd3 := (sm_of (S := S) sb) _ _ fd3
      have fd4 := (sm_of (S := S) sb) _ _ fd4
      have fp0 := (sm_of (S := S) sb) _ _ fp0
      have dpP := dp_same ((sm_of (S := S) sb)) dpP
      have daR := dpAll_same ((sm_of (S := S) sb)) daR
      refine ⟨_, rfl, _, rfl, _, rfl, v, cs, ws, R, xs, ts, z, 0, 24, rfl, dp_off dpP, SqL.of (at_off fR), dpAll_same off_sub daR, inC, wok, by omega, fun Hc sC => ?_⟩
      have hU := sC _ _ hU
      have lv := lv.same sC
      have sc := sc.trans (sm_of (S := [b]) sC)
      have B := B.same sC
      have fR := (sm_of (S := S) sC) _ _ fR
      have fd1 := (sm_of (S := S) sC) _ _ fd1
      have fd2 := (sm_of (S := S) sC) _ _ fd2
      have fd3 := (sm_of (S := S) sC) _ _ fd3
      have fd4 := (sm_of (S := S) sC) _ _ fd4
      have fp0 := (sm_of (S := S) sC) _ _ fp0
      have dpP := dp_same ((sm_of (S := S) sC)) dpP
      have daR := dpAll_same ((sm_of (S := S) sC)) daR
      rw [hcn z be ov (by omega), hcn z 0 24 (by decide)]
      obtain ⟨c1, e1⟩ : ∃ c, c = cntF z (mksF cs ws 0 ts) be (ov - be).toNat := ⟨_, rfl⟩
      obtain ⟨c2, e2⟩ : ∃ c, c = cntF z (mksF cs ws 0 ts) 0 ((24 : Int) - 0).toNat := ⟨_, rfl⟩
      obtain ⟨c3, e3⟩ : ∃ c, c = cntF z (mksF cs ws 0 ts) 0 (mo - 0).toNat := ⟨_, rfl⟩
      obtain ⟨c4, e4⟩ : ∃ c, c = cntF z (mksF cs ws 0 ts) la (24 - la).toNat := ⟨_, rfl⟩
      rw [← e1, ← e2]
      refine ⟨(by show 2 ≤ sizeLine; decide), fun l1 nl1 => ?_⟩
      have hU := same_upd (o := .lst [.int c1, .int c2]) nl1 _ _ hU
      have fl1 := off_new (o := .lst [.int c1, .int c2]) lv nl1
      have lv := lv.put (o := .lst [.int c1, .int c2]) nl1
      have B := B.put (o := .lst [.int c1, .int c2]) nl1
      have sc := sc.trans (sm_put (S := [b]) (o := .lst [.int c1, .int c2]) nl1)
      have fR := (sm_put (S := S) (o := .lst [.int c1, .int c2]) nl1) _ _ fR
      have fd1 := (sm_put (S := S) (o := .lst [.int c1, .int c2]) nl1) _ _ fd1
      have fd2 := (sm_put (S := S) (o := .lst [.int c1, .int c2]) nl1) _ _ fd2
      have fd3 := (sm_put (S := S) (o := .lst [.int c1, .int c2]) nl1) _ _ fd3
      have fd4 := (sm_put (S := S) (o := .lst [.int c1, .int c2]) nl1) _ _ fd4
      have fp0 := (sm_put (S := S) (o := .lst [.int c1, .int c2]) nl1) _ _ fp0
      have dpP := dp_same ((sm_put (S := S) (o := .lst [.int c1, .int c2]) nl1)) dpP
      have daR := dpAll_same ((sm_put (S := S) (o := .lst [.int c1, .int c2]) nl1)) daR
      generalize upd Hc l1 (.lst [.int c1, .int c2]) = Hd at fl1 lv B sc fR fd1 fd2 fd3 fd4 fp0 hU dpP daR ⊢
      simp only [gName, List.set]
      refine ⟨_, rfl, _, rfl, _, rfl, _, rfl, _, rfl, v, cs, ws, R, xs, ts, z, 0, mo, rfl, dp_off dpP, SqL.of (at_off fR), dpAll_same off_sub daR, inC, wok, by omega, fun He se => ?_⟩
      have hU := se _ _ hU
      have lv := lv.same se
      have sc := sc.trans (sm_of (S := [b]) se)
      have B := B.same se
      have fR := (sm_of (S := S) se) _ _ fR
      have fd1 := (sm_of (S := S) se) _ _ fd1
      have fd2 := (sm_of (S := S) se) _ _ fd2
      have fd3 := (sm_of (S := S) se) _ _ fd3
      have fd4 := (sm_of (S := S) se) _ _ fd4
      have fp0 := (sm_of (S := S) se) _ _ fp0
      have fl1 := (sm_of (S := S) se) _ _ fl1
      have dpP := dp_same ((sm_of (S := S) se)) dpP
      have daR := dpAll_same ((sm_of (S := S) se)) daR
      refine ⟨_, rfl, _, rfl, _, rfl, _, rfl, v, cs, ws, R, xs, ts, z, la, 24, rfl, dp_off dpP, SqL.of (at_off fR), dpAll_same off_sub daR, inC, wok, by omega, fun Hf sf => ?_⟩
      have hU := sf _ _ hU
      have lv := lv.same sf
      have sc := sc.trans (sm_of (S := [b]) sf)
      have B := B.same sf
      have fR := (sm_of (S := S) sf) _ _ fR
      have fd1 := (sm_of (S := S) sf) _ _ fd1
      have fd2 := (sm_of (S := S) sf) _ _ fd2
      have fd3 := (sm_of (S := S) sf) _ _ fd3
      have fd4 := (sm_of (S := S) sf) _ _ fd4
      have fp0 := (sm_of (S := S) sf) _ _ fp0
      have fl1 := (sm_of (S := S) sf) _ _ fl1
      have dpP := dp_same ((sm_of (S := S) sf)) dpP
      have daR := dpAll_same ((sm_of (S := S) sf)) daR
      rw [hcn z 0 mo mo0, hcn z la 24 la1, ← e3, ← e4]
      refine ⟨(by show 2 ≤ sizeLine; decide), fun l2 nl2 => ?_⟩
      have hU := same_upd (o := .lst [.int c3, .int c4]) nl2 _ _ hU
      have fl2 := off_new (o := .lst [.int c3, .int c4]) lv nl2
      have lv := lv.put (o := .lst [.int c3, .int c4]) nl2
      have B := B.put (o := .lst [.int c3, .int c4]) nl2
      have sc := sc.trans (sm_put (S := [b]) (o := .lst [.int c3, .int c4]) nl2)
      have fR := (sm_put (S := S) (o := .lst [.int c3, .int c4]) nl2) _ _ fR
      have fd1 := (sm_put (S := S) (o := .lst [.int c3, .int c4]) nl2) _ _ fd1
      have fd2 := (sm_put (S := S) (o := .lst [.int c3, .int c4]) nl2) _ _ fd2
      have fd3 := (sm_put (S := S) (o := .lst [.int c3, .int c4]) nl2) _ _ fd3
      have fd4 := (sm_put (S := S) (o := .lst [.int c3, .int c4]) nl2) _ _ fd4
      have fp0 := (sm_put (S := S) (o := .lst [.int c3, .int c4]) nl2) _ _ fp0
      have fl1 := (sm_put (S := S) (o := .lst [.int c3, .int c4]) nl2) _ _ fl1
      have dpP := dp_same ((sm_put (S := S) (o := .lst [.int c3, .int c4]) nl2)) dpP
      have daR := dpAll_same ((sm_put (S := S) (o := .lst [.int c3, .int c4]) nl2)) daR
      generalize upd Hf l2 (.lst [.int c3, .int c4]) = Hg at fl2 lv B sc fR fd1 fd2 fd3 fd4 fp0 fl1 hU dpP daR ⊢
      refine ⟨l1, l2, _, _, rfl, rfl, at_off fl1, at_off fl2, (by show 2 + 2 ≤ sizeLine; decide), fun l3 nl3 => ?_⟩
      have hU := same_upd (o := .lst ([.int c1, .int c2] ++ [.int c3, .int c4])) nl3 _ _ hU
      have fl3 := off_new (o := .lst ([.int c1, .int c2] ++ [.int c3, .int c4])) lv nl3
      have lv := lv.put (o := .lst ([.int c1, .int c2] ++ [.int c3, .int c4])) nl3
      have B := B.put (o := .lst ([.int c1, .int c2] ++ [.int c3, .int c4])) nl3
      have sc := sc.trans (sm_put (S := [b]) (o := .lst ([.int c1, .int c2] ++ [.int c3, .int c4])) nl3)
      have fR := (sm_put (S := S) (o := .lst ([.int c1, .int c2] ++ [.int c3, .int c4])) nl3) _ _ fR
      have fd1 := (sm_put (S := S) (o := .lst ([.int c1, .int c2] ++ [.int c3, .int c4])) nl3) _ _ fd1
      have fd2 := (sm_put (S := S) (o := .lst ([.int c1, .int c2] ++ [.int c3, .int c4])) nl3) _ _ fd2
      have fd3 := (sm_put (S := S) (o := .lst ([.int c1, .int c2] ++ [.int c3, .int c4])) nl3) _ _ fd3
      have fd4 := (sm_put (S := S) (o := .lst ([.int c1, .int c2] ++ [.int c3, .int c4])) nl3) _ _ fd4
      have fp0 := (sm_put (S := S) (o := .lst ([.int c1, .int c2] ++ [.int c3, .int c4])) nl3) _ _ fp0
      have dpP := dp_same ((sm_put (S := S) (o := .lst ([.int c1, .int c2] ++ [.int c3, .int c4])) nl3)) dpP
      have daR := dpAll_same ((sm_put (S := S) (o := .lst ([.int c1, .int c2] ++ [.int c3, .int c4])) nl3)) daR
      generalize upd Hg l3 (.lst ([.int c1, .int c2] ++ [.int c3, .int c4])) = Hh at fl3 lv B sc fR fd1 fd2 fd3 fd4 fp0 hU dpP daR ⊢
      simp only [gName, List.set]
      have g1 := dg (at_off fd1)
      have g2 := dg (at_off fd2)
      have g3 := dg (at_off fd3)
      have g4 := dg (at_off fd4)
      rw [← e1] at g1
      rw [← e2] at g2
      rw [← e3] at g3
      rw [← e4] at g4
      refine ⟨_, rfl, _, rfl, _, rfl, d1, _, rfl, g1, _, rfl, _, rfl, d2, _, rfl, g2, _, rfl, _, rfl, d3, _, rfl, g3, _, rfl, _, rfl, d4, _, rfl, g4, (by show 4 ≤ sizeLine; decide), fun l4 nl4 => ?_⟩
      have hU := same_upd (o := .lst [.int c1, .int c2, .int c3, .int c4]) nl4 _ _ hU
      have fl4 := off_new (o := .lst [.int c1, .int c2, .int c3, .int c4]) lv nl4
      have lv := lv.put (o := .lst [.int c1, .int c2, .int c3, .int c4]) nl4
      have B := B.put (o := .lst [.int c1, .int c2, .int c3, .int c4]) nl4
      have sc := sc.trans (sm_put (S := [b]) (o := .lst [.int c1, .int c2, .int c3, .int c4]) nl4)
      have fR := (sm_put (S := S) (o := .lst [.int c1, .int c2, .int c3, .int c4]) nl4) _ _ fR
      have fd1 := (sm_put (S := S) (o := .lst [.int c1, .int c2, .int c3, .int c4]) nl4) _ _ fd1
      have fd2 := (sm_put (S := S) (o := .lst [.int c1, .int c2, .int c3, .int c4]) nl4) _ _ fd2
      have fd3 := (sm_put (S := S) (o := .lst [.int c1, .int c2, .int c3, .int c4]) nl4) _ _ fd3
      have fd4 := (sm_put (S := S) (o := .lst [.int c1, .int c2, .int c3, .int c4]) nl4) _ _ fd4
      have fp0 := (sm_put (S := S) (o := .lst [.int c1, .int c2, .int c3, .int c4]) nl4) _ _ fp0
      have fl3 := (sm_put (S := S) (o := .lst [.int c1, .int c2, .int c3, .int c4]) nl4) _ _ fl3
      have dpP := dp_same ((sm_put (S := S) (o := .lst [.int c1, .int c2, .int c3, .int c4]) nl4)) dpP
      have daR := dpAll_same ((sm_put (S := S) (o := .lst [.int c1, .int c2, .int c3, .int c4]) nl4)) daR
      generalize upd Hh l4 (.lst [.int c1, .int c2, .int c3, .int c4]) = Hi at fl4 lv B sc fR fd1 fd2 fd3 fd4 fp0 fl3 hU dpP daR ⊢
      have four : ∀ {Hz : Hp} {p : Addr}, Hz p = some (.lst [.int c1, .int c2, .int c3, .int c4]) → Dp K Hz (.ref p) (.list [.int c1, .int c2, .int c3, .int c4]) := fun h => .lst (SqL.of h) (.cons (.int _) (.cons (.int _) (.cons (.int _) (.cons (.int _) .nil))))
      refine ⟨.ref l3, .ref l4, _, c1.natAbs + c2.natAbs + c3.natAbs + c4.natAbs, rfl, four (at_off fl3), four (at_off fl4), (by show 1 < 3; decide), (by show max 4 (max 0 (max 0 (max 0 (max 0 0)))) ≤ 1000; decide), ⟨by show c1.natAbs ≤ _; omega, by show c2.natAbs ≤ _; omega, by show c3.natAbs ≤ _; omega, by show c4.natAbs ≤ _; omega, trivial⟩, fun Hj sj => ⟨_, rfl, iteF ?_⟩⟩
      have hU := sj _ _ hU
      have lv := lv.same sj
      have sc := sc.trans (sm_of (S := [b]) sj)
      have B := B.same sj
      have fR := (sm_of (S := S) sj) _ _ fR
      have fd1 := (sm_of (S := S) sj) _ _ fd1
      have fd2 := (sm_of (S := S) sj) _ _ fd2
      have fd3 := (sm_of (S := S) sj) _ _ fd3
      have fd4 := (sm_of (S := S) sj) _ _ fd4
      have fp0 := (sm_of (S := S) sj) _ _ fp0
      have dpP := dp_same ((sm_of (S := S) sj)) dpP
      have daR := dpAll_same ((sm_of (S := S) sj)) daR
      -- parted
      refine ⟨_, rfl, _, rfl, _, rfl, _, rfl, _, rfl, v, cs, ws, R, xs, ts, z, be, pa, rfl, dp_off dpP, SqL.of (at_off fR), dpAll_same off_sub daR, inC, wok, by omega, fun Hk sk => ?_⟩
      have hU := sk _ _ hU
      have lv := lv.same sk
      have sc := sc.trans (sm_of (S := [b]) sk)
      have B := B.same sk
      have fR := (sm_of (S := S) sk) _ _ fR
      have fd1 := (sm_of (S := S) sk) _ _ fd1
      have fd2 := (sm_of (S := S) sk) _ _ fd2
      have fd3 := (sm_of (S := S) sk) _ _ fd3
      have fd4 := (sm_of (S := S) sk) _ _ fd4
      have fp0 := (sm_of (S := S) sk) _ _ fp0
      have dpP := dp_same ((sm_of (S := S) sk)) dpP
      have daR := dpAll_same ((sm_of (S := S) sk)) daR
      refine ⟨_, rfl, _, rfl, _, rfl, _, rfl, _, rfl, v, cs, ws, R, xs, ts, z, pa, ov, rfl, dp_off dpP, SqL.of (at_off fR), dpAll_same off_sub daR, inC, wok, by omega, fun Hl sl => ?_⟩
      have hU := sl _ _ hU
      have lv := lv.same sl
      have sc := sc.trans (sm_of (S := [b]) sl)
      have B := B.same sl
      have fR := (sm_of (S := S) sl) _ _ fR
      have fd1 := (sm_of (S := S) sl) _ _ fd1
      have fd2 := (sm_of (S := S) sl) _ _ fd2
      have fd3 := (sm_of (S := S) sl) _ _ fd3
      have fd4 := (sm_of (S := S) sl) _ _ fd4
      have fp0 := (sm_of (S := S) sl) _ _ fp0
      have dpP := dp_same ((sm_of (S := S) sl)) dpP
      have daR := dpAll_same ((sm_of (S := S) sl)) daR
      rw [hcn z be pa pa0, hcn z pa ov pa1]
      obtain ⟨m1, em1⟩ : ∃ c, c = cntF z (mksF cs ws 0 ts) be (pa - be).toNat := ⟨_, rfl⟩
      obtain ⟨m2, em2⟩ : ∃ c, c = cntF z (mksF cs ws 0 ts) pa (ov - pa).toNat := ⟨_, rfl⟩
      have esum : m1 + (m2 + 0) = c1 := by
        rw [em1, em2, e1, show (ov - be).toNat = (pa - be).toNat + (ov - pa).toNat by omega, cnt_add, show be + ((pa - be).toNat : Int) = pa by omega]
        omega
      rw [← em1, ← em2]
      refine ⟨(by show 2 ≤ sizeLine; decide), fun l5 nl5 => ?_⟩
      have hU := same_upd (o := .lst [.int m1, .int m2]) nl5 _ _ hU
      have fl5 := off_new (o := .lst [.int m1, .int m2]) lv nl5
      have lv := lv.put (o := .lst [.int m1, .int m2]) nl5
      have B := B.put (o := .lst [.int m1, .int m2]) nl5
      have sc := sc.trans (sm_put (S := [b]) (o := .lst [.int m1, .int m2]) nl5)
      have fR := (sm_put (S := S) (o := .lst [.int m1, .int m2]) nl5) _ _ fR
      have fd1 := (sm_put (S := S) (o := .lst [.int m1, .int m2]) nl5) _ _ fd1
      have fd2 := (sm_put (S := S) (o := .lst [.int m1, .int m2]) nl5) _ _ fd2
      have fd3 := (sm_put (S := S) (o := .lst [.int m1, .int m2]) nl5) _ _ fd3
      have fd4 := (sm_put (S := S) (o := .lst [.int m1, .int m2]) nl5) _ _ fd4
      have fp0 := (sm_put (S := S) (o := .lst [.int m1, .int m2]) nl5) _ _ fp0
      have dpP := dp_same ((sm_put (S := S) (o := .lst [.int m1, .int m2]) nl5)) dpP
      have daR := dpAll_same ((sm_put (S := S) (o := .lst [.int m1, .int m2]) nl5)) daR
      generalize upd Hl l5 (.lst [.int m1, .int m2]) = Hm at fl5 lv B sc fR fd1 fd2 fd3 fd4 fp0 hU dpP daR ⊢
      simp only [gName, List.set]
      refine ⟨_, rfl, .inl ⟨rfl, _, SqL.of hU⟩, _, rfl, _, _, rfl, rfl, ⟨by decide, by decide, by decide⟩, _, rfl, _, rfl, v, cs, ws, R, xs, ts, z, 0, _, rfl, dp_off dpP, SqL.of (at_off fR), dpAll_same off_sub daR, inC, wok, by omega, fun Hn sn => ?_⟩
      have hU := sn _ _ hU
      have lv := lv.same sn
      have sc := sc.trans (sm_of (S := [b]) sn)
      have B := B.same sn
      have fR := (sm_of (S := S) sn) _ _ fR
      have fd1 := (sm_of (S := S) sn) _ _ fd1
      have fd2 := (sm_of (S := S) sn) _ _ fd2
      have fd3 := (sm_of (S := S) sn) _ _ fd3
      have fd4 := (sm_of (S := S) sn) _ _ fd4
      have fp0 := (sm_of (S := S) sn) _ _ fp0
      have fl5 := (sm_of (S := S) sn) _ _ fl5
      have dpP := dp_same ((sm_of (S := S) sn)) dpP
      have daR := dpAll_same ((sm_of (S := S) sn)) daR
      rw [e106]
      refine ⟨U, _, _, rfl, rfl, hU, (by rw [List.length_map, List.length_map, List.length_take, sizeLine_eq]; have : sixW.length = 6 := rfl; omega), ?_⟩
      have sw : Sm S Hn (upd Hn U (.lst ((((sixW.take i).map fun z => hinF z (strF 0 1000000 (mksF cs ws 0 ts))).map V.int) ++ [.int (hinF z (strF 0 1000000 (mksF cs ws 0 ts)))]))) := sm_wr hUS
      have B := B.wr (o := .lst ((((sixW.take i).map fun z => hinF z (strF 0 1000000 (mksF cs ws 0 ts))).map V.int) ++ [.int (hinF z (strF 0 1000000 (mksF cs ws 0 ts)))])) Ub
      have sc := smp (o := .lst ((((sixW.take i).map fun z => hinF z (strF 0 1000000 (mksF cs ws 0 ts))).map V.int) ++ [.int (hinF z (strF 0 1000000 (mksF cs ws 0 ts)))])) sc nU0
      have hU : upd Hn U (.lst ((((sixW.take i).map fun z => hinF z (strF 0 1000000 (mksF cs ws 0 ts))).map V.int) ++ [.int (hinF z (strF 0 1000000 (mksF cs ws 0 ts)))])) U = some (.lst (((sixW.take (i + 1)).map fun z => hinF z (strF 0 1000000 (mksF cs ws 0 ts))).map V.int)) := by
        rw [upd_same, List.take_add_one, gz, Option.toList_some, List.map_append, List.map_append]
        rfl
      have dpP := dp_same sw dpP
      have fR := sw _ _ fR
      have daR := dpAll_same sw daR
      have fd1 := sw _ _ fd1
      have fd2 := sw _ _ fd2
      have fd3 := sw _ _ fd3
      have fd4 := sw _ _ fd4
      have fp0 := sw _ _ fp0
      have fl5 := sw _ _ fl5
      generalize upd Hn U (.lst ((((sixW.take i).map fun z => hinF z (strF 0 1000000 (mksF cs ws 0 ts))).map V.int) ++ [.int (hinF z (strF 0 1000000 (mksF cs ws 0 ts)))])) = Ho at B sc hU dpP fR daR fd1 fd2 fd3 fd4 fp0 fl5 ⊢
      have g9 := dg (at_off fd1)
      rw [← e1] at g9
      refine ⟨_, rfl, l5, [m1, m2], rfl, SqL.of (at_off fl5), _, rfl, _, rfl, d1, _, rfl, g9, .int _, .int _, .int _, .int _, rfl, rfl, _, rfl, ?_⟩
      have esm : [m1, m2].sum = c1 := esum
      rw [esm, show PyData.eqv (.int c1) (.int c1) = true by simp [PyData.eqv]]
      exact iteF ⟨_, _, _, rfl, B, sc, dpP, fR, daR, fd1, fd2, fd3, fd4, fp0, hU⟩
    · rintro σ Ha ⟨v15, v16, v17, rfl, B, sc, dpP, fR, daR, fd1, fd2, fd3, fd4, fp0, hU⟩
      have hU : Ha U = some (.lst ((sixW.map fun z => hinF z (strF 0 1000000 (mksF cs ws 0 ts))).map V.int)) := hU
      have lv : Live S Ha := by rw [eS2]; exact (Live.pw B).cons hU
      clear fd1 fd2 fd3 fd4 fp0
      refine ⟨_, rfl, R, rfl, ⟨_, SqL.of (at_off fR)⟩, fun D nD => ?_⟩
      refine lc_it (walk_list (xs := xs)) (PvL Ha D fun j => ((ts.map fun t => t.2.2.2 - t.2.2.1).take j).map V.int) (pv_start nD rfl) (fun j H' _ z => SqL.of (z.1 _ _ (at_off fR))) ?_ ?_
      · rintro j y Hb Hc hj pv ⟨rfl, gx⟩
        obtain ⟨t, gt, dpt⟩ := dpAll_map_at daR gx
        obtain ⟨pt, rfl, hpt⟩ := tr_dp dpt
        refine ⟨pt, _, rfl, same_tup (off_sub.trans pv.1) hpt, rfl, _, _, rfl, _, _, rfl, _, _, rfl, _, _, rfl, rfl, rfl, tYes_at ?_⟩
        rw [if_pos rfl]
        refine ⟨_, rfl, _, rfl, _, _, rfl, rfl, ?_⟩
        exact pv_put nD pv (Same.refl _) (take_map V.int (by rw [List.getElem?_map, gt]; rfl)) (take_len_le (by rw [List.length_map]; omega))
      intro Hb pv
      obtain ⟨sb, hD⟩ := pv_end pv (take_all (by rw [List.length_map]; omega))
      have hU := sb _ _ hU
      have lv := lv.same sb
      have sc := sc.trans (sm_of (S := [b]) sb)
      have B := B.same sb
      have fR := (sm_of (S := S) sb) _ _ fR
      have dpP := dp_same ((sm_of (S := S) sb)) dpP
      have daR := dpAll_same ((sm_of (S := S) sb)) daR
      refine ⟨D, _, rfl, SqL.of hD, ?_⟩
      have ews : hinF "worked" (strF 0 1000000 (mksF cs ws 0 ts)) = (ts.map fun t => t.2.2.2 - t.2.2.1).sum := worked_sum (l := 1000000) (m := ("out", none, 0)) (show Str.ofString "out" ≠ Str.ofString "worked" by decide +kernel) (fun t ht => by
        obtain ⟨a1, a2, a3, a4, a5⟩ := cb t ht
        exact ⟨a5, by omega, a3, by omega⟩)
      have ess := six_sum (run_any (f := 0) (l := 1000000) (by decide) mn) (fun r hr => str_words hr)
      simp only [gName, List.set]
      refine ⟨_, rfl, U, _, rfl, SqL.of hU, _, _, rfl, rfl, ⟨by decide, by decide, by decide⟩, rfl, _, rfl, ?_⟩
      dsimp only
      have e7 : decide (V.int (sixW.map fun z => hinF z (strF 0 1000000 (mksF cs ws 0 ts))).sum = V.int ((10 : Int) ^ (6 : Int).toNat)) = true := decide_eq_true (by rw [ess, e106]; rfl)
      rw [e7]
      refine iteT ?_
      have i5 : atI ((sixW.map fun z => hinF z (strF 0 1000000 (mksF cs ws 0 ts))).map V.int) 5 = some (.int (hinF "worked" (strF 0 1000000 (mksF cs ws 0 ts)))) := atI_nat (j := 5) rfl
      refine ⟨_, rfl, U, _, 5, _, rfl, rfl, SqL.of hU, i5, _, rfl, rfl, _, rfl, ?_⟩
      rw [ews, decide_eq_true rfl]
      refine iteT ?_
      refine ⟨_, rfl, _, rfl, (by show 2 ≤ sizeLine; decide), fun l2 nl2 => ?_⟩
      have fl2 := off_new (o := .lst [v, .ref R]) lv nl2
      have lv := lv.put (o := .lst [v, .ref R]) nl2
      have B := B.put (o := .lst [v, .ref R]) nl2
      have sc := sc.trans (sm_put (S := [b]) (o := .lst [v, .ref R]) nl2)
      have fR := (sm_put (S := S) (o := .lst [v, .ref R]) nl2) _ _ fR
      have dpP := dp_same ((sm_put (S := S) (o := .lst [v, .ref R]) nl2)) dpP
      have daR := dpAll_same ((sm_put (S := S) (o := .lst [v, .ref R]) nl2)) daR
      generalize upd Hb l2 (.lst [v, .ref R]) = He at fl2 lv B sc fR dpP daR ⊢
      refine ⟨l2, .list [palD cs ws, .list (ts.map trD)], rfl, .lst (SqL.of (at_off fl2)) (.cons (dp_off dpP) (.cons (dp_off (.lst (SqL.of fR) daR)) .nil)), fb, Nat.le_trans tb.d (by decide), Nat.le_trans tb.c (by decide), _, rfl, rfl, ?_⟩
      rw [← eshn, decide_eq_true rfl]
      exact q _ sc

end
end Pot

namespace Pot
open PySem PySem.Spec PyProof.Rows L2
section
variable {P : Program} {w : World} {K : PySem.W.Frag} {mg : Str → Option Value} {base : Heap}
theorem same_box {H2 H3 H4 : Hp} {b : Addr} (nb : H2 b = none) (s : Same H2 H3) (s2 : Sm [b] H3 H4) : Same H2 H4 := fun a o h => by
  have ne : a ∉ [b] := fun z => by rw [List.mem_singleton.mp z, nb] at h; cases h
  have := s2 a o (by rw [off_out ne]; exact s a o h)
  rw [off_out ne] at this; exact this
abbrev s_law : Stmt := topS 25
def n_law : List Str := ["_law_script", "_law_k"]
theorem sc_law : FnScope n_law ["_law_script"] (defScope s_law) := ⟨rfl, rfl, rfl, by decide +kernel, rfl, by decide +kernel, by decide +kernel⟩
def spLaw (K : PySem.W.Frag) : Sp := fun vs H Q _ => ∃ (a : Addr) (ns : List Int), vs = [.ref a] ∧ SqL K H a (ns.map V.int) ∧ ns.length ≤ 63 ∧ ∀ H', Q (.bl true) H'
theorem ok_law {f : Addr} {fd : FuncData} {k : Nat} (F : Fun K "law" "law" s_law f fd) (T : Txt mg) (c__law_box : Cl P w K mg base (k + 1) "_law_box" (spBox K)) (c__law_right : ClG P w K mg base (k + 7) "_law_right" [] spRight) : FnG P w K mg base (k + 8) f fd ["_law_script"] (spLaw K) := by
  refine okG F sc_law (fun vs H Q E h => ?_) (fun cdv A outer s H vs Q gd hr h => ?_)
  · obtain ⟨a, ns, rfl, _⟩ := h
    rfl
  · obtain ⟨a, ns, rfl, hS, h63, q⟩ := h
    have nd := sc_law.nd
    /- 0 _law_script, 1 _law_k -/
    refine ⟨_, (pss_one (ps_ret (pe_callB (kc_all (K := K)) (by rfl) T.all (by decide +kernel) (pa_cons (pe_lc (own := [("_law_k", 1)]) rfl nd (pi_range1 (by rfl) T.range (pa_cons (pe_op op_add pe_int (pe_callB (call_min2 rfl) (by rfl) T.min (by decide +kernel) (pa_cons pe_int (pa_cons (pe_callB (kc_len (K := K)) (by rfl) T.len PySem.boot_len (pa_cons (pv 0) pa_nil)) pa_nil)))) pa_nil)) (blkOk_by (N := n_law) (sc := defScope s_law) (by decide +kernel)) (fun _ _ _ _ _ => (pg_name (i := 1) nd rfl (.inl rfl))) (fun _ _ _ _ _ => pts_nil) (fun _ _ _ _ _ => (pe_clG c__law_right hr gd (by omega) (by rfl) (pa_cons (pe_cl c__law_box hr (by omega) (by rfl) (pa_cons (pv 0) (pa_cons (pv 1) pa_nil))) pa_nil)))) pa_nil)))), ?_⟩
    refine ⟨_, rfl, _, _, rfl, .inl ⟨_, hS, rfl⟩, _, _, rfl, _, _, rfl, rfl, ?_⟩
    obtain ⟨z, ez, z0, z4⟩ : ∃ z : Int, z = (1 : Int) + (if (((ns.map V.int).length : Nat) : Int) < 4 then (((ns.map V.int).length : Nat) : Int) else 4) ∧ 0 ≤ z ∧ z ≤ 5 := ⟨_, rfl, by split <;> omega, by split <;> omega⟩
    refine ⟨z, (by rw [ez]), (by omega), (by omega), fun D nD => ?_⟩
    refine lc_it walk_range (fun i H2 => Same H H2 ∧ H2 D = some (.lst ((List.replicate i true).map V.bl))) ⟨same_upd nD, upd_same⟩ (fun _ _ _ _ => trivial) ?_ ?_
    · rintro i y H2 H3 hi ⟨s2, hD⟩ ⟨rfl, rfl⟩
      have hi4 : i < 5 := by omega
      refine ⟨rfl, tYes_at ?_⟩
      rw [if_pos rfl]
      refine ⟨_, rfl, _, rfl, a, ns, i, (by show [V.ref a, V.int ((0 : Int) + (i : Nat))] = _; rw [Int.zero_add]), s2.seq hS, by omega, fun H4 b s4 B nb => ?_⟩
      refine ⟨b, rfl, B, fun H5 s5 => ?_⟩
      have s6 := same_box nb s4 s5
      refine ⟨_, s6 _ _ hD, ?_, same_put (s2.trans s6) nD, ?_⟩
      · rw [List.length_map, List.length_replicate, sizeLine_eq]; omega
      · rw [upd_same, List.replicate_succ', List.map_append]; rfl
    · rintro H2 ⟨s2, hD⟩
      refine ⟨D, _, rfl, SqL.of hD, ?_⟩
      have e : ∀ n : Nat, (List.replicate n true).all id = true := fun n => List.all_eq_true.mpr fun x hx => by rw [(List.mem_replicate.mp hx).2]; rfl
      rw [e]
      exact q _

end
end Pot

namespace Pot
open PySem PySem.Spec PyProof.Rows L2
set_option maxHeartbeats 4000000 in
theorem all_mk {l : PySem.W.OpenLaw} {w : World} {K : PySem.W.Frag} {h : Heap} {mg : Str → Option Value} {fa : Addr} (X : K.In h) (G : h.Ns mainGlobals mg) (hfa : mg "law" = some (.ref fa))
    {f1 : Addr} {od1 an1 : Option Addr} {sl1 : Array (Option Value)} {oc1 kV1 dc1 pm1 cd1 ct1 : Value}
    {f2 : Addr} {od2 an2 : Option Addr} {sl2 : Array (Option Value)} {oc2 kV2 dc2 pm2 cd2 ct2 : Value}
    {f3 : Addr} {od3 an3 : Option Addr} {sl3 : Array (Option Value)} {oc3 kV3 dc3 pm3 cd3 ct3 : Value}
    {T3 : Addr} {ocT3 : Value} {odT3 : Option Addr} {slT3 : Array (Option Value)} {nT3 : Nat}
    {tk3_0 : Tok}
    {f4 : Addr} {od4 an4 : Option Addr} {sl4 : Array (Option Value)} {oc4 kV4 dc4 pm4 cd4 ct4 : Value}
    {f5 : Addr} {od5 an5 : Option Addr} {sl5 : Array (Option Value)} {oc5 kV5 dc5 pm5 cd5 ct5 : Value}
    {T5 : Addr} {ocT5 : Value} {odT5 : Option Addr} {slT5 : Array (Option Value)} {nT5 : Nat}
    {tk5_0 : Tok}
    {tk5_1 : Tok}
    {f6 : Addr} {od6 an6 : Option Addr} {sl6 : Array (Option Value)} {oc6 kV6 dc6 pm6 cd6 ct6 : Value}
    {f7 : Addr} {od7 an7 : Option Addr} {sl7 : Array (Option Value)} {oc7 kV7 dc7 pm7 cd7 ct7 : Value}
    {f8 : Addr} {od8 an8 : Option Addr} {sl8 : Array (Option Value)} {oc8 kV8 dc8 pm8 cd8 ct8 : Value}
    {f9 : Addr} {od9 an9 : Option Addr} {sl9 : Array (Option Value)} {oc9 kV9 dc9 pm9 cd9 ct9 : Value}
    {f10 : Addr} {od10 an10 : Option Addr} {sl10 : Array (Option Value)} {oc10 kV10 dc10 pm10 cd10 ct10 : Value}
    {f11 : Addr} {od11 an11 : Option Addr} {sl11 : Array (Option Value)} {oc11 kV11 dc11 pm11 cd11 ct11 : Value}
    {f12 : Addr} {od12 an12 : Option Addr} {sl12 : Array (Option Value)} {oc12 kV12 dc12 pm12 cd12 ct12 : Value}
    {f13 : Addr} {od13 an13 : Option Addr} {sl13 : Array (Option Value)} {oc13 kV13 dc13 pm13 cd13 ct13 : Value}
    {f14 : Addr} {od14 an14 : Option Addr} {sl14 : Array (Option Value)} {oc14 kV14 dc14 pm14 cd14 ct14 : Value}
    {f15 : Addr} {od15 an15 : Option Addr} {sl15 : Array (Option Value)} {oc15 kV15 dc15 pm15 cd15 ct15 : Value}
    {f16 : Addr} {od16 an16 : Option Addr} {sl16 : Array (Option Value)} {oc16 kV16 dc16 pm16 cd16 ct16 : Value}
    {f17 : Addr} {od17 an17 : Option Addr} {sl17 : Array (Option Value)} {oc17 kV17 dc17 pm17 cd17 ct17 : Value}
    {f18 : Addr} {od18 an18 : Option Addr} {sl18 : Array (Option Value)} {oc18 kV18 dc18 pm18 cd18 ct18 : Value}
    {f19 : Addr} {od19 an19 : Option Addr} {sl19 : Array (Option Value)} {oc19 kV19 dc19 pm19 cd19 ct19 : Value}
    {f20 : Addr} {od20 an20 : Option Addr} {sl20 : Array (Option Value)} {oc20 kV20 dc20 pm20 cd20 ct20 : Value}
    {WW : Addr} {odW : Option Addr} {slW : Array (Option Value)} {nW : Nat} {tw0 : Tok} {tw1 : Tok} {tw2 : Tok} {tw3 : Tok} {tw4 : Tok} {tw5 : Tok}
    (a1 : PySem.W.nsIn K mainGlobals "colour_row" = some (some (.ref f1))) (l1 : K.lookup f1 = some ⟨oc1, od1, .func (PySem.W.fnOf "colour_row" "colour_row" (defArgs s_colour_row) (defBody s_colour_row) (defScope s_colour_row) .none kV1 dc1 pm1 an1 cd1 ct1), sl1⟩) (c1 : PySem.W.codeIn K cd1 "colour_row" = true) (k1 : PySem.W.keepIn K (.ref f1) = true)
    (a2 : PySem.W.nsIn K mainGlobals "wash_for" = some (some (.ref f2))) (l2 : K.lookup f2 = some ⟨oc2, od2, .func (PySem.W.fnOf "wash_for" "wash_for" (defArgs s_wash_for) (defBody s_wash_for) (defScope s_wash_for) .none kV2 dc2 pm2 an2 cd2 ct2), sl2⟩) (c2 : PySem.W.codeIn K cd2 "wash_for" = true) (k2 : PySem.W.keepIn K (.ref f2) = true)
    (a3 : PySem.W.nsIn K mainGlobals "ready_at" = some (some (.ref f3))) (l3 : K.lookup f3 = some ⟨oc3, od3, .func (PySem.W.fnOf "ready_at" "ready_at" (defArgs s_ready_at) (defBody s_ready_at) (defScope s_ready_at) (.ref T3) kV3 dc3 pm3 an3 cd3 ct3), sl3⟩) (c3 : PySem.W.codeIn K cd3 "ready_at" = true) (k3 : PySem.W.keepIn K (.ref f3) = true)
    (t3 : K.lookup T3 = some ⟨ocT3, odT3, .seq #[.int 0 tk3_0] nT3, slT3⟩)
    (a4 : PySem.W.nsIn K mainGlobals "stretches" = some (some (.ref f4))) (l4 : K.lookup f4 = some ⟨oc4, od4, .func (PySem.W.fnOf "stretches" "stretches" (defArgs s_stretches) (defBody s_stretches) (defScope s_stretches) .none kV4 dc4 pm4 an4 cd4 ct4), sl4⟩) (c4 : PySem.W.codeIn K cd4 "stretches" = true) (k4 : PySem.W.keepIn K (.ref f4) = true)
    (a5 : PySem.W.nsIn K mainGlobals "hours_in" = some (some (.ref f5))) (l5 : K.lookup f5 = some ⟨oc5, od5, .func (PySem.W.fnOf "hours_in" "hours_in" (defArgs s_hours_in) (defBody s_hours_in) (defScope s_hours_in) (.ref T5) kV5 dc5 pm5 an5 cd5 ct5), sl5⟩) (c5 : PySem.W.codeIn K cd5 "hours_in" = true) (k5 : PySem.W.keepIn K (.ref f5) = true)
    (t5 : K.lookup T5 = some ⟨ocT5, odT5, .seq #[.int 0 tk5_0, .int 24 tk5_1] nT5, slT5⟩)
    (a6 : PySem.W.nsIn K mainGlobals "marks_of" = some (some (.ref f6))) (l6 : K.lookup f6 = some ⟨oc6, od6, .func (PySem.W.fnOf "marks_of" "marks_of" (defArgs s_marks_of) (defBody s_marks_of) (defScope s_marks_of) .none kV6 dc6 pm6 an6 cd6 ct6), sl6⟩) (c6 : PySem.W.codeIn K cd6 "marks_of" = true) (k6 : PySem.W.keepIn K (.ref f6) = true)
    (a7 : PySem.W.nsIn K mainGlobals "washing_behind" = some (some (.ref f7))) (l7 : K.lookup f7 = some ⟨oc7, od7, .func (PySem.W.fnOf "washing_behind" "washing_behind" (defArgs s_washing_behind) (defBody s_washing_behind) (defScope s_washing_behind) .none kV7 dc7 pm7 an7 cd7 ct7), sl7⟩) (c7 : PySem.W.codeIn K cd7 "washing_behind" = true) (k7 : PySem.W.keepIn K (.ref f7) = true)
    (a8 : PySem.W.nsIn K mainGlobals "_law_box" = some (some (.ref f8))) (l8 : K.lookup f8 = some ⟨oc8, od8, .func (PySem.W.fnOf "_law_box" "_law_box" (defArgs s__law_box) (defBody s__law_box) (defScope s__law_box) .none kV8 dc8 pm8 an8 cd8 ct8), sl8⟩) (c8 : PySem.W.codeIn K cd8 "_law_box" = true) (k8 : PySem.W.keepIn K (.ref f8) = true)
    (a9 : PySem.W.nsIn K mainGlobals "_law_take" = some (some (.ref f9))) (l9 : K.lookup f9 = some ⟨oc9, od9, .func (PySem.W.fnOf "_law_take" "_law_take" (defArgs s__law_take) (defBody s__law_take) (defScope s__law_take) .none kV9 dc9 pm9 an9 cd9 ct9), sl9⟩) (c9 : PySem.W.codeIn K cd9 "_law_take" = true) (k9 : PySem.W.keepIn K (.ref f9) = true)
    (a10 : PySem.W.nsIn K mainGlobals "_law_names" = some (some (.ref f10))) (l10 : K.lookup f10 = some ⟨oc10, od10, .func (PySem.W.fnOf "_law_names" "_law_names" (defArgs s__law_names) (defBody s__law_names) (defScope s__law_names) .none kV10 dc10 pm10 an10 cd10 ct10), sl10⟩) (c10 : PySem.W.codeIn K cd10 "_law_names" = true) (k10 : PySem.W.keepIn K (.ref f10) = true)
    (a11 : PySem.W.nsIn K mainGlobals "_law_palette" = some (some (.ref f11))) (l11 : K.lookup f11 = some ⟨oc11, od11, .func (PySem.W.fnOf "_law_palette" "_law_palette" (defArgs s__law_palette) (defBody s__law_palette) (defScope s__law_palette) .none kV11 dc11 pm11 an11 cd11 ct11), sl11⟩) (c11 : PySem.W.codeIn K cd11 "_law_palette" = true) (k11 : PySem.W.keepIn K (.ref f11) = true)
    (a12 : PySem.W.nsIn K mainGlobals "_law_wash" = some (some (.ref f12))) (l12 : K.lookup f12 = some ⟨oc12, od12, .func (PySem.W.fnOf "_law_wash" "_law_wash" (defArgs s__law_wash) (defBody s__law_wash) (defScope s__law_wash) .none kV12 dc12 pm12 an12 cd12 ct12), sl12⟩) (c12 : PySem.W.codeIn K cd12 "_law_wash" = true) (k12 : PySem.W.keepIn K (.ref f12) = true)
    (a13 : PySem.W.nsIn K mainGlobals "_law_hours" = some (some (.ref f13))) (l13 : K.lookup f13 = some ⟨oc13, od13, .func (PySem.W.fnOf "_law_hours" "_law_hours" (defArgs s__law_hours) (defBody s__law_hours) (defScope s__law_hours) .none kV13 dc13 pm13 an13 cd13 ct13), sl13⟩) (c13 : PySem.W.codeIn K cd13 "_law_hours" = true) (k13 : PySem.W.keepIn K (.ref f13) = true)
    (a14 : PySem.W.nsIn K mainGlobals "_law_turns" = some (some (.ref f14))) (l14 : K.lookup f14 = some ⟨oc14, od14, .func (PySem.W.fnOf "_law_turns" "_law_turns" (defArgs s__law_turns) (defBody s__law_turns) (defScope s__law_turns) .none kV14 dc14 pm14 an14 cd14 ct14), sl14⟩) (c14 : PySem.W.codeIn K cd14 "_law_turns" = true) (k14 : PySem.W.keepIn K (.ref f14) = true)
    (a15 : PySem.W.nsIn K mainGlobals "_law_same" = some (some (.ref f15))) (l15 : K.lookup f15 = some ⟨oc15, od15, .func (PySem.W.fnOf "_law_same" "_law_same" (defArgs s__law_same) (defBody s__law_same) (defScope s__law_same) .none kV15 dc15 pm15 an15 cd15 ct15), sl15⟩) (c15 : PySem.W.codeIn K cd15 "_law_same" = true) (k15 : PySem.W.keepIn K (.ref f15) = true)
    (a16 : PySem.W.nsIn K mainGlobals "_law_state" = some (some (.ref f16))) (l16 : K.lookup f16 = some ⟨oc16, od16, .func (PySem.W.fnOf "_law_state" "_law_state" (defArgs s__law_state) (defBody s__law_state) (defScope s__law_state) .none kV16 dc16 pm16 an16 cd16 ct16), sl16⟩) (c16 : PySem.W.codeIn K cd16 "_law_state" = true) (k16 : PySem.W.keepIn K (.ref f16) = true)
    (a17 : PySem.W.nsIn K mainGlobals "_law_edges" = some (some (.ref f17))) (l17 : K.lookup f17 = some ⟨oc17, od17, .func (PySem.W.fnOf "_law_edges" "_law_edges" (defArgs s__law_edges) (defBody s__law_edges) (defScope s__law_edges) .none kV17 dc17 pm17 an17 cd17 ct17), sl17⟩) (c17 : PySem.W.codeIn K cd17 "_law_edges" = true) (k17 : PySem.W.keepIn K (.ref f17) = true)
    (a18 : PySem.W.nsIn K mainGlobals "_law_counts" = some (some (.ref f18))) (l18 : K.lookup f18 = some ⟨oc18, od18, .func (PySem.W.fnOf "_law_counts" "_law_counts" (defArgs s__law_counts) (defBody s__law_counts) (defScope s__law_counts) .none kV18 dc18 pm18 an18 cd18 ct18), sl18⟩) (c18 : PySem.W.codeIn K cd18 "_law_counts" = true) (k18 : PySem.W.keepIn K (.ref f18) = true)
    (a19 : PySem.W.nsIn K mainGlobals "_law_right" = some (some (.ref f19))) (l19 : K.lookup f19 = some ⟨oc19, od19, .func (PySem.W.fnOf "_law_right" "_law_right" (defArgs s__law_right) (defBody s__law_right) (defScope s__law_right) .none kV19 dc19 pm19 an19 cd19 ct19), sl19⟩) (c19 : PySem.W.codeIn K cd19 "_law_right" = true) (k19 : PySem.W.keepIn K (.ref f19) = true)
    (a20 : PySem.W.nsIn K mainGlobals "law" = some (some (.ref f20))) (l20 : K.lookup f20 = some ⟨oc20, od20, .func (PySem.W.fnOf "law" "law" (defArgs s_law) (defBody s_law) (defScope s_law) .none kV20 dc20 pm20 an20 cd20 ct20), sl20⟩) (c20 : PySem.W.codeIn K cd20 "law" = true) (k20 : PySem.W.keepIn K (.ref f20) = true)
    (z1 : PySem.W.nsIn K mainGlobals "len" = some none)
    (z2 : PySem.W.nsIn K mainGlobals "divmod" = some none)
    (z3 : PySem.W.nsIn K mainGlobals "range" = some none)
    (z4 : PySem.W.nsIn K mainGlobals "sum" = some none)
    (z5 : PySem.W.nsIn K mainGlobals "all" = some none)
    (z6 : PySem.W.nsIn K mainGlobals "any" = some none)
    (z7 : PySem.W.nsIn K mainGlobals "isinstance" = some none)
    (z8 : PySem.W.nsIn K mainGlobals "str" = some none)
    (z9 : PySem.W.nsIn K mainGlobals "int" = some none)
    (z10 : PySem.W.nsIn K mainGlobals "list" = some none)
    (z11 : PySem.W.nsIn K mainGlobals "tuple" = some none)
    (z12 : PySem.W.nsIn K mainGlobals "bool" = some none)
    (z13 : PySem.W.nsIn K mainGlobals "zip" = some none)
    (z14 : PySem.W.nsIn K mainGlobals "set" = some none)
    (z15 : PySem.W.nsIn K mainGlobals "sorted" = some none)
    (z16 : PySem.W.nsIn K mainGlobals "enumerate" = some none)
    (z17 : PySem.W.nsIn K mainGlobals "repr" = some none)
    (z18 : PySem.W.nsIn K mainGlobals "min" = some none)
    (z19 : PySem.W.nsIn K mainGlobals "max" = some none)
    (z20 : PySem.W.nsIn K mainGlobals "abs" = some none)
    (zD : PySem.W.nsIn K mainGlobals "dict" = some none)
    (yW : PySem.W.nsIn K mainGlobals "WORDS" = some (some (.ref WW)))
    (lW : K.lookup WW = some ⟨.type "tuple", odW, .seq #[.str "filled" tw0, .str "melting" tw1, .str "ready" tw2, .str "worked" tw3, .str "washed" tw4, .str "out" tw5] nW, slW⟩)
    : ∃ fd : FuncData, (∀ (s : Shared) (v : Value), BindsTo s fd ⟨[v], []⟩ [("_law_script", v)]) ∧ ∀ base : Heap, K.In base → base.Ns mainGlobals mg → FnG l.prog w K mg base 8 fa fd ["_law_script"] (spLaw K) := by
  have e := hfa.symm.trans (PySem.W.mg_of X G a20)
  cases e
  have T : Txt mg := ⟨PySem.W.mg_none_of X G z1, PySem.W.mg_none_of X G z2, PySem.W.mg_none_of X G z3, PySem.W.mg_none_of X G z4, PySem.W.mg_none_of X G z5, PySem.W.mg_none_of X G z6, PySem.W.mg_none_of X G z7, PySem.W.mg_none_of X G z8, PySem.W.mg_none_of X G z9, PySem.W.mg_none_of X G z10, PySem.W.mg_none_of X G z11, PySem.W.mg_none_of X G z12, PySem.W.mg_none_of X G z13, PySem.W.mg_none_of X G z14, PySem.W.mg_none_of X G z15, PySem.W.mg_none_of X G z16, PySem.W.mg_none_of X G z17, PySem.W.mg_none_of X G z18, PySem.W.mg_none_of X G z19, PySem.W.mg_none_of X G z20⟩
  have F1 := fun_mk (st := s_colour_row) l1 c1 k1
  have b1 := F1.binds (ps := ["palette", "colour"]) fun _ _ _ _ _ _ us hl => match us, hl with | [_, _], _ => rfl
  have g1 := PySem.W.mg_of X G a1
  have F2 := fun_mk (st := s_wash_for) l2 c2 k2
  have b2 := F2.binds (ps := ["palette", "ahead", "behind"]) fun _ _ _ _ _ _ us hl => match us, hl with | [_, _, _], _ => rfl
  have g2 := PySem.W.mg_of X G a2
  have F3 : FunV K "ready_at" s_ready_at [.int 0] f3 _ := ⟨⟨_, _, _, _, _, _, _, _, _, _, rfl, l3, c3, .inr ⟨(by intro z; cases z), T3, _, [_], _, rfl, t3, rfl, .cons (⟨_, rfl⟩) (.nil)⟩, .inl rfl⟩, k3⟩
  obtain ⟨ds3_0, v3_0, b3_0⟩ := FunD.binds1 (ps := ["palette", "colour", "at"]) F3 3 1 (by intro z; cases z) rfl (fun T kV doc pm an cdv ct us its hu hi => match us, hu, its, hi with | [_, _, _], _, [_], _ => ⟨_, rfl, rfl⟩)
  obtain ⟨ds3_1, v3_1, b3_1⟩ := FunD.binds1 (ps := ["palette", "colour", "at"]) F3 2 0 (by intro z; cases z) rfl (fun T kV doc pm an cdv ct us its hu hi => match us, hu, its, hi with | [_, _], _, [_], _ => ⟨_, rfl, rfl⟩)
  have g3 := PySem.W.mg_of X G a3
  have F4 := fun_mk (st := s_stretches) l4 c4 k4
  have b4 := F4.binds (ps := ["palette", "turns", "first", "last"]) fun _ _ _ _ _ _ us hl => match us, hl with | [_, _, _, _], _ => rfl
  have g4 := PySem.W.mg_of X G a4
  have F5 : FunV K "hours_in" s_hours_in [.int 0, .int 24] f5 _ := ⟨⟨_, _, _, _, _, _, _, _, _, _, rfl, l5, c5, .inr ⟨(by intro z; cases z), T5, _, [_, _], _, rfl, t5, rfl, .cons (⟨_, rfl⟩) (.cons (⟨_, rfl⟩) (.nil))⟩, .inl rfl⟩, k5⟩
  obtain ⟨ds5_0, v5_0, b5_0⟩ := FunD.binds1 (ps := ["palette", "turns", "word", "first", "last"]) F5 5 2 (by intro z; cases z) rfl (fun T kV doc pm an cdv ct us its hu hi => match us, hu, its, hi with | [_, _, _, _, _], _, [_, _], _ => ⟨_, rfl, rfl⟩)
  obtain ⟨ds5_1, v5_1, b5_1⟩ := FunD.binds1 (ps := ["palette", "turns", "word", "first", "last"]) F5 4 1 (by intro z; cases z) rfl (fun T kV doc pm an cdv ct us its hu hi => match us, hu, its, hi with | [_, _, _, _], _, [_, _], _ => ⟨_, rfl, rfl⟩)
  obtain ⟨ds5_2, v5_2, b5_2⟩ := FunD.binds1 (ps := ["palette", "turns", "word", "first", "last"]) F5 3 0 (by intro z; cases z) rfl (fun T kV doc pm an cdv ct us its hu hi => match us, hu, its, hi with | [_, _, _], _, [_, _], _ => ⟨_, rfl, rfl⟩)
  have g5 := PySem.W.mg_of X G a5
  have F6 := fun_mk (st := s_marks_of) l6 c6 k6
  have b6 := F6.binds (ps := ["palette", "turns"]) fun _ _ _ _ _ _ us hl => match us, hl with | [_, _], _ => rfl
  have g6 := PySem.W.mg_of X G a6
  have F7 := fun_mk (st := s_washing_behind) l7 c7 k7
  have b7 := F7.binds (ps := ["palette", "turns", "number"]) fun _ _ _ _ _ _ us hl => match us, hl with | [_, _, _], _ => rfl
  have g7 := PySem.W.mg_of X G a7
  have F8 := fun_mk (st := s__law_box) l8 c8 k8
  have b8 := F8.binds (ps := ["_law_script", "_law_k"]) fun _ _ _ _ _ _ us hl => match us, hl with | [_, _], _ => rfl
  have g8 := PySem.W.mg_of X G a8
  have F9 := fun_mk (st := s__law_take) l9 c9 k9
  have b9 := F9.binds (ps := ["_law_box_here", "_law_many"]) fun _ _ _ _ _ _ us hl => match us, hl with | [_, _], _ => rfl
  have g9 := PySem.W.mg_of X G a9
  have F10 := fun_mk (st := s__law_names) l10 c10 k10
  have b10 := F10.binds (ps := ["_law_box_here", "_law_many"]) fun _ _ _ _ _ _ us hl => match us, hl with | [_, _], _ => rfl
  have g10 := PySem.W.mg_of X G a10
  have F11 := fun_mk (st := s__law_palette) l11 c11 k11
  have b11 := F11.binds (ps := ["_law_box_here", "_law_most"]) fun _ _ _ _ _ _ us hl => match us, hl with | [_, _], _ => rfl
  have g11 := PySem.W.mg_of X G a11
  have F12 := fun_mk (st := s__law_wash) l12 c12 k12
  have b12 := F12.binds (ps := ["_law_hues", "_law_ahead", "_law_behind"]) fun _ _ _ _ _ _ us hl => match us, hl with | [_, _, _], _ => rfl
  have g12 := PySem.W.mg_of X G a12
  have F13 := fun_mk (st := s__law_hours) l13 c13 k13
  have b13 := F13.binds (ps := ["_law_hues", "_law_colour"]) fun _ _ _ _ _ _ us hl => match us, hl with | [_, _], _ => rfl
  have g13 := PySem.W.mg_of X G a13
  have F14 := fun_mk (st := s__law_turns) l14 c14 k14
  have b14 := F14.binds (ps := ["_law_box_here", "_law_hues", "_law_many"]) fun _ _ _ _ _ _ us hl => match us, hl with | [_, _, _], _ => rfl
  have g14 := PySem.W.mg_of X G a14
  have F15 := fun_mk (st := s__law_same) l15 c15 k15
  have b15 := F15.binds (ps := ["_law_found", "_law_due"]) fun _ _ _ _ _ _ us hl => match us, hl with | [_, _], _ => rfl
  have g15 := PySem.W.mg_of X G a15
  have F16 := fun_mk (st := s__law_state) l16 c16 k16
  have b16 := F16.binds (ps := ["_law_hues", "_law_row", "_law_hour"]) fun _ _ _ _ _ _ us hl => match us, hl with | [_, _, _], _ => rfl
  have g16 := PySem.W.mg_of X G a16
  have F17 := fun_mk (st := s__law_edges) l17 c17 k17
  have b17 := F17.binds (ps := ["_law_hues", "_law_row"]) fun _ _ _ _ _ _ us hl => match us, hl with | [_, _], _ => rfl
  have g17 := PySem.W.mg_of X G a17
  have F18 := fun_mk (st := s__law_counts) l18 c18 k18
  have b18 := F18.binds (ps := ["_law_hues", "_law_row", "_law_begun", "_law_over"]) fun _ _ _ _ _ _ us hl => match us, hl with | [_, _, _, _], _ => rfl
  have g18 := PySem.W.mg_of X G a18
  have F19 := fun_mk (st := s__law_right) l19 c19 k19
  have b19 := F19.binds (ps := ["_law_box_here"]) fun _ _ _ _ _ _ us hl => match us, hl with | [_], _ => rfl
  have g19 := PySem.W.mg_of X G a19
  have F20 := fun_mk (st := s_law) l20 c20 k20
  refine ⟨PySem.W.fnOf "law" "law" (defArgs s_law) (defBody s_law) (defScope s_law) .none kV20 dc20 pm20 an20 cd20 ct20, fun s v => .of_eq rfl, fun base _ _ => ?_⟩
  have L_Wrd : Wrd K mg := ⟨_, PySem.W.mg_of X G yW, fun H => .inr ⟨_, _, _, lW, rfl, rfl, by show 6 ≤ sizeLine; decide, .cons ⟨_, rfl⟩ (.cons ⟨_, rfl⟩ (.cons ⟨_, rfl⟩ (.cons ⟨_, rfl⟩ (.cons ⟨_, rfl⟩ (.cons ⟨_, rfl⟩ (.nil))))))⟩⟩
  have L_Dct : Dct mg := PySem.W.mg_none_of X G zD
  have c__law_box : Cl l.prog w K mg base 1 "_law_box" ((spBox K)) := ⟨_, _, _, ok_box F8 T, g8, F8.kp, b8⟩
  have c__law_take : Cl l.prog w K mg base 1 "_law_take" (spTake) := ⟨_, _, _, ok_take F9 T, g9, F9.kp, b9⟩
  have c__law_names : Cl l.prog w K mg base 2 "_law_names" (spNames) := ⟨_, _, _, ok_names F10 T c__law_take, g10, F10.kp, b10⟩
  have c__law_palette : Cl l.prog w K mg base 3 "_law_palette" ((spPalette K)) := ⟨_, _, _, ok_palette F11 T c__law_take c__law_names, g11, F11.kp, b11⟩
  have c__law_wash : Cl l.prog w K mg base 1 "_law_wash" ((spLWash K)) := ⟨_, _, _, ok_lwash F12, g12, F12.kp, b12⟩
  have c__law_turns : Cl l.prog w K mg base 2 "_law_turns" ((spTurns K)) := ⟨_, _, _, ok_lwturns F14 T c__law_take c__law_wash, g14, F14.kp, b14⟩
  have c__law_hours : Cl l.prog w K mg base 1 "_law_hours" ((spLHours K)) := ⟨_, _, _, ok_lhours F13, g13, F13.kp, b13⟩
  have c__law_edges : Cl l.prog w K mg base 2 "_law_edges" ((spEdges K)) := ⟨_, _, _, ok_edges F17 T c__law_hours c__law_wash, g17, F17.kp, b17⟩
  have c__law_state : Cl l.prog w K mg base 2 "_law_state" ((spLState K)) := ⟨_, _, _, ok_lstate F16 T c__law_hours c__law_wash, g16, F16.kp, b16⟩
  have c__law_counts : Cl l.prog w K mg base 3 "_law_counts" ((spCounts K)) := ⟨_, _, _, ok_counts F18 T L_Dct c__law_state, g18, F18.kp, b18⟩
  have c_colour_row : Cl l.prog w K mg base 1 "colour_row" ((spColour K)) := ⟨_, _, _, ok_colour F1, g1, F1.kp, b1⟩
  have c_wash_for : Cl l.prog w K mg base 2 "wash_for" ((spWash K)) := ⟨_, _, _, ok_wash F2 c_colour_row, g2, F2.kp, b2⟩
  have c_washing_behind : Cl l.prog w K mg base 3 "washing_behind" ((spWbh K)) := ⟨_, _, _, ok_wbh F7 T c_wash_for, g7, F7.kp, b7⟩
  have d_ready_at : ClD l.prog w K mg base 2 "ready_at" [.int 0] ((spReady K)) := ⟨_, _, _, _, ok_ready F3 c_colour_row, g3, F3.kp, b3_1, v3_1⟩
  have e_ready_at : ClD l.prog w K mg base 2 "ready_at" [] ((spReady K)) := ⟨_, _, _, _, ok_ready F3 c_colour_row, g3, F3.kp, b3_0, v3_0⟩
  have c_marks_of : Cl l.prog w K mg base 4 "marks_of" ((spMarks K)) := ⟨_, _, _, ok_marks F6 T L_Wrd c_colour_row c_washing_behind e_ready_at, g6, F6.kp, b6⟩
  have c_stretches : Cl l.prog w K mg base 5 "stretches" ((spStr K)) := ⟨_, _, _, ok_str F4 T c_marks_of, g4, F4.kp, b4⟩
  have d_hours_in : ClD l.prog w K mg base 6 "hours_in" [.int 0, .int 24] ((spHin K)) := ⟨_, _, _, _, ok_hin F5 T c_stretches, g5, F5.kp, b5_2, v5_2⟩
  have d1_hours_in : ClD l.prog w K mg base 6 "hours_in" [.int 24] ((spHin K)) := ⟨_, _, _, _, ok_hin F5 T c_stretches, g5, F5.kp, b5_1, v5_1⟩
  have k_hin31 : ClK l.prog w K mg base 6 "hours_in" ["last"] (pl31 (.int 0)) (spHin K) := by
    obtain ⟨g, hg⟩ := kb_pl31 F5 (k1 := "palette") (k2 := "turns") (k3 := "word") (k4 := "first") (k5 := "last") fun _ _ _ _ _ _ _ _ _ _ _ _ _ => ⟨_, rfl, rfl⟩
    exact ⟨_, _, _, g, ok_hin F5 T c_stretches, g5, F5.kp, hg⟩
  have k_hin32 : ClK l.prog w K mg base 6 "hours_in" ["first", "last"] pl32 (spHin K) := ⟨_, _, _, _, ok_hin F5 T c_stretches, g5, F5.kp, kb_pl32 F5 (by intro z; cases z) fun _ _ _ _ _ _ _ _ _ _ _ _ its hi => match its, hi with | [_, _], _ => ⟨_, rfl, rfl⟩⟩
  have k_hin5 : ClK l.prog w K mg base 6 "hours_in" ["word", "last", "turns", "first", "palette"] mix5 (spHin K) := ⟨_, _, _, _, ok_hin F5 T c_stretches, g5, F5.kp, kb_mix5 F5 (by intro z; cases z) fun _ _ _ _ _ _ _ _ _ _ _ _ its hi => match its, hi with | [_, _], _ => ⟨_, rfl, rfl⟩⟩
  have e_hours_in : ClD l.prog w K mg base 6 "hours_in" [] ((spHin K)) := ⟨_, _, _, _, ok_hin F5 T c_stretches, g5, F5.kp, b5_0, v5_0⟩
  have c__law_same : Cl l.prog w K mg base 4 "_law_same" (spSame K 3) := ⟨_, _, _, ok_same F15 T b15 g15 3, g15, F15.kp, b15⟩
  have c__law_right : ClG l.prog w K mg base 7 "_law_right" [] (spRight) := ⟨_, _, _, [], ok_right F19 T c__law_take c__law_palette c__law_turns c__law_edges c__law_counts e_hours_in d1_hours_in d_hours_in k_hin31 k_hin32 k_hin5 c__law_same, g19, F19.kp, b19, .nil⟩
  exact ok_law F20 T c__law_box c__law_right
end Pot
open PySem PySem.W PyProof.Rows
set_option maxRecDepth 100000 in
set_option maxHeartbeats 0 in
theorem PySem.Challenge.cw_potround_k14_hours_of_each_word_holds : PySem.Challenge.rw_potround_k14_hours_of_each_word.Holds := by
  w_on; o_law; k_head; (case hw => w_witness2)
  k_fill
  refine Pot.walkG (l := PySem.Challenge.rw_potround_k14_hours_of_each_word) (n := 63) (k := 8) (x := "_law_script") (sp := fun w => Pot.spLaw _) rfl (by decide) rfl ⟨rfl, by decide, by decide⟩ (fun w h Y => PySem.W.kIn_of Y) ?F (fun _ _ a ns hl _ hS => ⟨a, ns, rfl, hS, hl, fun _ => rfl⟩)
  case F =>
    intro w mg fa h KX G hmg
    refine' Pot.all_mk KX G hmg ?a1 ?l1 ?c1 ?k1 ?a2 ?l2 ?c2 ?k2 ?a3 ?l3 ?c3 ?k3 ?t3 ?a4 ?l4 ?c4 ?k4 ?a5 ?l5 ?c5 ?k5 ?t5 ?a6 ?l6 ?c6 ?k6 ?a7 ?l7 ?c7 ?k7 ?a8 ?l8 ?c8 ?k8 ?a9 ?l9 ?c9 ?k9 ?a10 ?l10 ?c10 ?k10 ?a11 ?l11 ?c11 ?k11 ?a12 ?l12 ?c12 ?k12 ?a13 ?l13 ?c13 ?k13 ?a14 ?l14 ?c14 ?k14 ?a15 ?l15 ?c15 ?k15 ?a16 ?l16 ?c16 ?k16 ?a17 ?l17 ?c17 ?k17 ?a18 ?l18 ?c18 ?k18 ?a19 ?l19 ?c19 ?k19 ?a20 ?l20 ?c20 ?k20 ?z1 ?z2 ?z3 ?z4 ?z5 ?z6 ?z7 ?z8 ?z9 ?z10 ?z11 ?z12 ?z13 ?z14 ?z15 ?z16 ?z17 ?z18 ?z19 ?z20 ?zD ?yW ?lW
    (case a1 => k_is)
    (case l1 => k_is)
    (case c1 => k_is)
    (case k1 => k_is)
    (case a2 => k_is)
    (case l2 => k_is)
    (case c2 => k_is)
    (case k2 => k_is)
    (case a3 => k_is)
    (case l3 => k_is)
    (case c3 => k_is)
    (case k3 => k_is)
    (case t3 => k_is)
    (case a4 => k_is)
    (case l4 => k_is)
    (case c4 => k_is)
    (case k4 => k_is)
    (case a5 => k_is)
    (case l5 => k_is)
    (case c5 => k_is)
    (case k5 => k_is)
    (case t5 => k_is)
    (case a6 => k_is)
    (case l6 => k_is)
    (case c6 => k_is)
    (case k6 => k_is)
    (case a7 => k_is)
    (case l7 => k_is)
    (case c7 => k_is)
    (case k7 => k_is)
    (case a8 => k_is)
    (case l8 => k_is)
    (case c8 => k_is)
    (case k8 => k_is)
    (case a9 => k_is)
    (case l9 => k_is)
    (case c9 => k_is)
    (case k9 => k_is)
    (case a10 => k_is)
    (case l10 => k_is)
    (case c10 => k_is)
    (case k10 => k_is)
    (case a11 => k_is)
    (case l11 => k_is)
    (case c11 => k_is)
    (case k11 => k_is)
    (case a12 => k_is)
    (case l12 => k_is)
    (case c12 => k_is)
    (case k12 => k_is)
    (case a13 => k_is)
    (case l13 => k_is)
    (case c13 => k_is)
    (case k13 => k_is)
    (case a14 => k_is)
    (case l14 => k_is)
    (case c14 => k_is)
    (case k14 => k_is)
    (case a15 => k_is)
    (case l15 => k_is)
    (case c15 => k_is)
    (case k15 => k_is)
    (case a16 => k_is)
    (case l16 => k_is)
    (case c16 => k_is)
    (case k16 => k_is)
    (case a17 => k_is)
    (case l17 => k_is)
    (case c17 => k_is)
    (case k17 => k_is)
    (case a18 => k_is)
    (case l18 => k_is)
    (case c18 => k_is)
    (case k18 => k_is)
    (case a19 => k_is)
    (case l19 => k_is)
    (case c19 => k_is)
    (case k19 => k_is)
    (case a20 => k_is)
    (case l20 => k_is)
    (case c20 => k_is)
    (case k20 => k_is)
    (case z1 => k_is)
    (case z2 => k_is)
    (case z3 => k_is)
    (case z4 => k_is)
    (case z5 => k_is)
    (case z6 => k_is)
    (case z7 => k_is)
    (case z8 => k_is)
    (case z9 => k_is)
    (case z10 => k_is)
    (case z11 => k_is)
    (case z12 => k_is)
    (case z13 => k_is)
    (case z14 => k_is)
    (case z15 => k_is)
    (case z16 => k_is)
    (case z17 => k_is)
    (case z18 => k_is)
    (case z19 => k_is)
    (case z20 => k_is)
    (case zD => k_is)
    (case yW => k_is)
    (case lW => k_is)
