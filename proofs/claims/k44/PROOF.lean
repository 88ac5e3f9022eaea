import PyProof.Rows.All
import Wide.All
import OpenK.AllK
import Wide.FinOn
import HandS.ForMost
import PyProof.ReprRoads
import HandS.FStrTup
import HandS.Strs
import HandS.SetFor
import HandS.Zip
import HandS.ForExc
import HandS.IsInst
import HandS.Evl
import HandS.Conv
import HandS.Flow
import HandS.Style
import HandS.Sort
import HandS.Walk
import HandS.Codes
import HandS.StrMore
import HandS.TupAny
import HandS.Defaults
import KE.KEqSeq
import HandS.WideBits
import HandS.More
import KE.KLam
import KE.SortKeyHeap
import KE.SortData
import KE.SortLaws
import HandS.Base
import HandS.Call
import HandS.List
import HandS.Comp
import HandS.Text
import HandS.Lambda
import PyProof.SetRoads
import HandS.Deep
import PyProof.StrBlock2
import KE.GoesNew
import KE.DataCmp
import KE.KNestM
import HandS.DictTup
import HandS.DictSubView
import KE.KDictDisplayH
import KE.KDictWalk
import KE.KTupSum
import PySem.Challenge.RW_potround_k44_shared_by_all_ways
set_option Elab.async false
set_option linter.all false
set_option maxRecDepth 100000
namespace Pot
open PySem PySem.Spec PyProof.Rows L2
/-! ### defs that are called where no text of a thing is under way -/
structure FnG (P : Program) (w : World) (K : PySem.W.Frag) (mg : Str → Option Value) (base : Heap) (k : Nat) (f : Addr) (fd : FuncData) (ps : List Str) (sp : Sp) : Prop where
  many : ∀ vs H Q E, sp vs H Q E → vs.length = ps.length
  does : ∀ (A : Around) (outer : List Env) (s : Shared) (H : Hp) (args : Args) (us : List Value) (vs : List V) (Q : VK), A.guards = some [] → Room k A → Env0 P w K mg base A outer s H →
    BindsTo s fd args (ps.zip us) → Vals vs us → sp vs H Q E0 → codeAny (model P w) A (.call (.ref f) args) (CR CX0 outer P w H s Q E0) s
section
variable {P : Program} {w : World} {K : PySem.W.Frag} {mg : Str → Option Value} {base : Heap}
theorem FnG.of {k : Nat} {f : Addr} {fd : FuncData} {ps : List Str} {sp : Sp} (F : FnOk P w K mg base CX0 k f fd ps sp) : FnG P w K mg base k f fd ps sp :=
  ⟨F.len, fun A outer s H args us vs Q _ hr e hb r h => F.run A outer s H args us vs Q E0 hr e hb r h⟩
theorem okG {x qual : Str} {st : Stmt} {f : Addr} {fd : FuncData} {N ps : List Str} {k : Nat} {sp : Sp} (F : Fun K x qual st f fd) (S : FnScope N ps (defScope st)) (many : ∀ vs H Q E, sp vs H Q E → vs.length = ps.length)
    (body : ∀ (cdv : Value) (A : Around) (outer : List Env) (s : Shared) (H : Hp) (vs : List V) (Q : VK), A.guards = some [] → Room k (A.deeper (envOfC qual (defScope st) s.heap.objs.size f cdv)) → sp vs H Q E0 →
      ∃ t, PSs (cxOf CX0 P w K mg base N qual (defScope st) f cdv A outer s H E0).nox (defBody st) t ∧ t { nx := fun _ H' => Q .non H', rt := Q } (start N vs) H) : FnG P w K mg base (k + 1) f fd ps sp := by
  obtain ⟨oc, od, kV, doc, pm, an, cdv, ct, osl, rfl, at_, code⟩ := F.ex
  refine ⟨many, fun A outer s H args us vs Q gd room e0 bind rel want => ?_⟩
  have kin : K.In s.heap := e0.mod.kin.keeps fun b o e => (e0.bs b o e).1
  have nolim : s.heap.NoLimit := e0.mod.nolimit.keeps fun b o e => (e0.bs b o e).1
  refine codeAny_call_function room.depth (kin _ _ at_) rfl S.co S.gen rfl (PySem.W.codeRec_of kin code) (bind _ _ _ _ (wpAny_newFunctionEnv_cells S.kind (fun y hy => ?_) fun env he s1 x => ?_))
  · obtain ⟨n, v⟩ := y
    exact (S.par n (List.of_mem_zip hy).1).imp id fun q => ⟨q, PySem.W.cellsFrom_some _ _ _ (.inl q)⟩
  · subst he
    obtain ⟨t, ht, hq⟩ := body cdv A outer s H vs Q gd (room.deeper _) want
    have I : Inv (cxOf CX0 P w K mg base N qual (defScope st) f cdv A outer s H E0) [] (start N vs) H s1 := inv_start S room.hd e0 (many _ _ _ _ want) rel x
    refine ⟨nolim.keeps x.toInCall.keep, codeAny_func (wpAny_mono (ht.nox.run [] s1 (start N vs) H _ I hq) (fun fl s' hs => ?_) fun _ _ z => z)⟩
    cases fl with
    | ret u =>
      obtain ⟨v, σ', H', J, rv, q⟩ := hs
      exact ⟨v, H', J.os, J.bare, J.base, J.hok, rv, q⟩
    | next =>
      obtain ⟨σ', H', J, q⟩ := hs
      exact ⟨V.non, H', J.os, J.bare, J.base, J.hok, rfl, q⟩
    | brk => obtain ⟨_, _, _, q⟩ := hs; exact q.elim
    | cont => obtain ⟨_, _, _, q⟩ := hs; exact q.elim
/-! calls -/
/-- a def that may be called by its name where no text is under way -/
def ClG (P : Program) (w : World) (K : PySem.W.Frag) (mg : Str → Option Value) (base : Heap) (k : Nat) (x : Str) (ds : List V) (sp : Sp) : Prop :=
  ∃ (f : Addr) (fd : FuncData) (ps : List Str) (dus : List Value), FnG P w K mg base k f fd ps sp ∧ mg x = some (.ref f) ∧ PySem.W.keepIn K (.ref f) = true ∧ Binds K fd ps dus ∧ Vals ds dus
theorem pe_clG {X : Cx} {k j : Nat} {x : Str} {ds : List V} {sp : Sp} {e : Expr} {es : List Expr} {t : TA} {p pos : Pos} (c : ClG X.prog X.w X.K X.mg X.base k x ds sp) (hr : Room j X.A) (gd : X.A.guards = some []) (hk : k ≤ j) (hg : Gl X x) (ha : PA X (e :: es) t)
    (hdb : (x == ("__debug__" : Str)) = false := by decide) (he : starEach (e :: es) X.env = (false, eval e X.env) :: starEach es X.env := by rfl) (hpl : (backTo pos (starEach es X.env)).any (·.1) = false := by rfl) :
    PE X (.Call (.Name x p) (e :: es) [] pos) (tCall sp ds E0 t) := by
  obtain ⟨f, fd, ps, dus, G, named, kept, binds, dv⟩ := c
  refine ⟨fun pins s σ H Q I h => wpAny_Call_Name_kw (ld_glob I hg named (PySem.W.callWith_K (h₀ := X.base) I.ok.mod.kin kept (thn (ha.run pos pins s σ H _ I h) fun us s1 hh => ?_) he hpl) hdb)⟩
  obtain ⟨vs, H1, I1, r, q⟩ := hh
  refine ⟨I1.kIn, ?_⟩
  have rel := r.append dv
  have n : (us ++ dus).length = ps.length := rel.length ▸ G.many _ _ _ _ q
  refine wpAny_call (codeAny_mono (G.does X.A X.stack s1 H1 ⟨us, []⟩ (us ++ dus) (vs ++ ds) Q gd (hr.mono hk) I1.env0 (binds s1 us I1.kIn n) rel q) fun res s' hq => ?_)
  rcases res with _ | fl
  case error => exact (show False from hq).elim
  cases fl <;> first | exact I1.after hq | exact (show False from hq).elim
/-! the law's own call -/
theorem law_callG {mb : Str → Option Value} {k : Nat} {fa a : Addr} {fd : FuncData} {x : Str} {sp : Sp} {s : Shared} {vs : List Value} {ns : List Int} (kin : K.In s.heap) (glob : s.heap.Ns mainGlobals mg) (blt : s.heap.Ns builtinsNs mb)
    (boot : ∀ y : Str, y ≠ "__name__" → mb y = bootBuiltins y) (lim : s.heap.NoLimit) (gens : s.gens = #[]) (obj : s.heap.get? a = some { cls := .type "list", data := .seq vs.toArray }) (whole : IntsAre vs ns) (small : ns.length ≤ sizeLine) (room : Room k callerA)
    (F : ∀ base : Heap, K.In base → base.Ns mainGlobals mg → FnG P w K mg base k fa fd [x] sp) (bind : ∀ (s : Shared) (u : Value), BindsTo s fd ⟨[u], []⟩ [(x, u)])
    (want : ∀ H : Hp, Only H → SqL K H a (ns.map V.int) → sp [.ref a] H (fun v _ => v = .bl true) E0) :
    codeAny (model P w) callerA (.call (.ref fa) ⟨[.ref a], []⟩) (fun r s' => r = .ok (.ret (.bool true)) ∧ OldK s.heap s'.heap ∧ s'.os = s.os ∧ AllBare s'.gens) s := by
  have rv := vals_ints whole
  have nv := whole.length
  -- which heap is told: the script, locked, where it isn't one of the written part
  obtain ⟨H, only, seq, fine, alone, apart⟩ : ∃ H : Hp, Only H ∧ SqL K H a (ns.map V.int) ∧ HOk P w H s.heap ∧ (∀ b u, H b = some u → b = a) ∧ (∀ u, H a = some u → K.lookup a = none) := by
    cases lk : K.lookup a with
    | some o =>
      have same := kin a o lk
      rw [obj] at same
      cases same
      exact ⟨fun _ => none, fun _ => .inl rfl, .inr ⟨_, vs.toArray, _, lk, rfl, rfl, rfl, by rw [List.size_toArray, nv]; exact small, by simpa using rv⟩, (fun b u z => nomatch (show (none : Option HO) = some u from z)), (fun b u z => nomatch (show (none : Option HO) = some u from z)), fun u z => nomatch (show (none : Option HO) = some u from z)⟩
    | none =>
      have hit : ∀ b u, (if b = a then some (HO.frz { cls := .type "list", data := .seq vs.toArray } (.lst (ns.map V.int))) else none) = some u → b = a ∧ u = .frz { cls := .type "list", data := .seq vs.toArray } (.lst (ns.map V.int)) := fun b u z => by
        split at z
        · cases z; exact ⟨‹_›, rfl⟩
        · cases z
      refine ⟨fun b => if b = a then some (.frz { cls := .type "list", data := .seq vs.toArray } (.lst (ns.map V.int))) else none, fun b => ?_, .inl (.inr ⟨_, if_pos rfl⟩), fun b u z => ?_, fun b u z => (hit b u z).1, fun _ _ => rfl⟩
      · by_cases hb : b = a
        · exact .inr ⟨_, _, if_pos hb⟩
        · exact .inl (if_neg hb)
      · obtain ⟨rfl, rfl⟩ := hit b u z
        exact ⟨obj, by rw [List.length_map]; exact small, vs, _, rv, obj⟩
  have hid : ∀ {b : Addr} {o : Obj}, s.heap.get? b = some o → (b = a → H a = none) → (hidT s.heap H).get? b = some o := fun {b o} e n => hidT_get e (by
    cases q : H b with
    | none => rfl
    | some u =>
      have e2 := alone b u q
      subst e2
      rw [n rfl] at q
      cases q)
  have kinB : K.In (hidT s.heap H) := fun b o e => hid (kin b o e) fun z => by
    subst z
    cases q : H b with
    | none => rfl
    | some u => rw [apart u q] at e; cases e
  have ns_ : ∀ {b : Addr} {m : Str → Option Value}, s.heap.Ns b m → (hidT s.heap H).Ns b m := fun {b m} h => by
    obtain ⟨o, es, ep, e, d, r⟩ := h
    refine ⟨o, es, ep, hid e fun z => ?_, d, r⟩
    subst z
    rw [obj] at e
    cases e
    exact nomatch (show Data.seq vs.toArray _ = Data.dict es ep from d)
  have md : Mod K mg (hidT s.heap H) := ⟨kinB, ns_ glob, ⟨mb, ns_ blt, boot⟩, by obtain ⟨mc, h1, h2⟩ := lim; exact ⟨mc, ns_ h1, h2⟩⟩
  have e0 : Env0 P w K mg (hidT s.heap H) callerA [] s H := ⟨rfl, md, fun b o e => of_hidT e, Nat.le_of_eq (hidT_size _ _), trivial, (fun b hb => nomatch (show b ∈ ([] : List Addr) from hb)), fine, .of_eq gens⟩
  refine codeAny_mono ((F _ kinB (ns_ glob)).does callerA [] s H ⟨[.ref a], []⟩ [.ref a] [.ref a] _ rfl room e0 (bind s (.ref a)) (.cons rfl .nil) (want H only seq)) fun res s' h => ?_
  rcases res with _ | fl
  case error => exact (show False from h).elim
  cases fl <;> first | exact (show False from h).elim | skip
  obtain ⟨v, H', os, bare, un, fine', rel, q⟩ := h
  cases (show v = .bl true from q)
  cases (show _ = Value.bool true from rel)
  refine ⟨rfl, OldK.of_keep fun b o e => ?_, os, bare⟩
  cases q : H b with
  | none => exact un.keep b o e q (fun z => nomatch (show b ∈ ([] : List Addr) from z)) (fun z => nomatch z)
  | some u =>
    rcases only b with z | ⟨ob, xs, z⟩
    · rw [q] at z; cases z
    · obtain ⟨e1, _⟩ := fine b _ z
      obtain ⟨e2, _⟩ := fine' b _ (un.frzs b ob _ z)
      rw [e] at e1; cases e1
      exact e2
end
theorem walkG {l : PySem.W.OpenLaw} {n k : Nat} {q : Program} {loose : List Str} {XP : (Str → Option Value) → Heap → Prop} {YP : World → Heap → Prop} {d : DefRec} {K : Params → PySem.W.Frag} {sp : World → Sp} {x : Str}
    (most : l.most = some n) (fits : n ≤ sizeLine) (plain : d.params.defaults = []) (room : Room k callerA) (part : ∀ (w : World) (h : Heap), YP w h → (K w.params).In h)
    (F : ∀ (w : World) (mg : Str → Option Value) (fa : Addr) (h : Heap), (K w.params).In h → h.Ns mainGlobals mg → mg d.name = some (.ref fa) →
      ∃ fd : FuncData, (∀ (s : Shared) (u : Value), BindsTo s fd ⟨[u], []⟩ [(x, u)]) ∧ ∀ base : Heap, (K w.params).In base → base.Ns mainGlobals mg → FnG l.prog w (K w.params) mg base k fa fd [x] (sp w))
    (want : ∀ (w : World) (H : Hp) (a : Addr) (ns : List Int), ns.length ≤ n → Only H → SqL (K w.params) H a (ns.map V.int) → sp w [.ref a] H (fun v _ => v = .bl true) E0) :
    PySem.W.WalkO q loose XP YP l.row.toRowW d [] (fun f vs => PySem.call f vs) := by
  refine Att.attach_call most plain fun w s₀ s₁ mg mb fa o pm cd doc a vs ns G Y _ _ _ named obj whole len gens => ?_
  obtain ⟨fd, bind, hF⟩ := F w mg fa _ (part w _ Y) G.T.g named
  exact law_callG (part w _ Y) G.T.g G.T.b G.T.builtins G.T.nolimit gens obj whole (Nat.le_trans len fits) room hF bind fun H only seq => want w H a ns len only seq
end Pot

namespace Pot
open PySem PySem.Spec PyProof.Rows L2
/-! ### repr of what is made of numbers, texts, truths, None, lists and tuples -/
section
variable {K : PySem.W.Frag}
mutual
theorem dp_noDict {H : Hp} : ∀ {v : V} {d : PyData}, Dp K H v d → d.hasDict = false
  | _, _, .non => rfl
  | _, _, .bl _ => rfl
  | _, _, .int _ => rfl
  | _, _, .str _ => rfl
  | _, _, .lst _ a => dpAll_noDict a
  | _, _, .tup _ a => dpAll_noDict a
theorem dpAll_noDict {H : Hp} : ∀ {vs : List V} {ds : List PyData}, DpAll K H vs ds → PyData.hasDictAll ds = false
  | _, _, .nil => rfl
  | _, _, .cons h t => by
    show (PyData.hasDict _ || PyData.hasDictAll _) = false
    rw [dp_noDict h, dpAll_noDict t]
    rfl
end
/-- how long its text may be, told roughly -/
def costAll : List PyData → Nat
  | [] => 0
  | x :: xs => cost x + 2 + costAll xs
where cost : PyData → Nat
  | .none => 4
  | .bool _ => 5
  | .int _ => 1921
  | .str x => 10 * x.length + 2
  | .list xs => costAll xs + 3
  | .tuple xs => costAll xs + 3
  | .dict _ => 0
/-- what repr is asked of here: its texts of plain signs -/
def fineAll : List PyData → Prop
  | [] => True
  | x :: xs => fine x ∧ fineAll xs
where fine : PyData → Prop
  | .none => True
  | .bool _ => True
  | .int i => i.natAbs.log2 < 1920
  | .str x => ∀ c ∈ x.cps.toList, c < 16 ^ 8
  | .list xs => fineAll xs
  | .tuple xs => fineAll xs
  | .dict _ => False
theorem from_len : ∀ (ts : List Str) (k : Nat) (acc : Str), (textFrom k acc ts).length ≤ acc.length + piled ts
  | [], k, acc => by rw [piled_nil]; exact Nat.le_refl _
  | t :: r, k, acc => by
    have ih := from_len r (k + 1)
    rw [piled_cons]
    unfold textFrom
    refine Nat.le_trans (ih _) ?_
    rw [strLen_append]
    split
    · rw [strLen_append]
      have e : (", " : Str).length = 2 := by decide +kernel
      omega
    · rw [strLen_append]
      have e : ("" : Str).length = 0 := by decide +kernel
      omega
theorem list_len (ts : List Str) : (listText ts).length ≤ piled ts + 2 := by
  unfold listText
  rw [strLen_append]
  have h := from_len ts 0 "["
  have e1 : ("[" : Str).length = 1 := by decide +kernel
  have e2 : ("]" : Str).length = 1 := by decide +kernel
  omega
mutual
theorem shown_len : ∀ d : PyData, fineAll.fine d → d.shown.length ≤ costAll.cost d
  | .none, _ => by decide +kernel
  | .bool b, _ => by cases b <;> decide +kernel
  | .int i, h => PyProof.Rows.int_text_len_1921 h
  | .str x, h => StrLaws.reprText_len x h
  | .list xs, h => Nat.le_trans (list_len _) (Nat.add_le_add (piled_len xs h) (by decide))
  | .tuple xs, h => Nat.le_trans (fmt_text _) (Nat.add_le_add (piled_len xs h) (by decide))
  | .dict _, h => h.elim
theorem piled_len : ∀ ds : List PyData, fineAll ds → piled (PyData.shownAll ds) ≤ costAll ds
  | [], _ => Nat.le_refl _
  | x :: xs, h => by
    have h1 := shown_len x h.1
    have h2 := piled_len xs h.2
    show piled (x.shown :: PyData.shownAll xs) ≤ costAll.cost x + 2 + costAll xs
    rw [piled_cons]
    omega
end
mutual
theorem fine_show : ∀ d : PyData, fineAll.fine d → d.showable = true
  | .none, _ => rfl
  | .bool _, _ => rfl
  | .int i, h => decide_eq_true h
  | .str _, _ => rfl
  | .list xs, h => fineAll_show xs h
  | .tuple xs, h => fineAll_show xs h
  | .dict _, h => h.elim
theorem fineAll_show : ∀ ds : List PyData, fineAll ds → PyData.showableAll ds = true
  | [], _ => rfl
  | x :: xs, h => by
    show (PyData.showable x && PyData.showableAll xs) = true
    rw [fine_show x h.1, fineAll_show xs h.2]
    rfl
end
end
section
variable {X : Cx}
def rRepr (K : PySem.W.Frag) : List V → Hp → VK → Prop := fun xs H Q => ∃ (a : Addr) (d : PyData), xs = [V.ref a] ∧ Dp K H (.ref a) d ∧ fineAll.fine d ∧ d.depth ≤ 60 ∧ costAll.cost d ≤ 16777216 ∧ Q (.str d.shown) H
theorem cr_repr (gd : X.A.guards = some []) (hu : X.A.units + 64 < cLine) : CallR X (.builtin "repr") (rRepr X.K) := by
  intro pins s σ H vs us Q I r h
  obtain ⟨a, d, rfl, dp, sh, dep, sz, q⟩ := h
  rw [Vals.ref1 r]
  obtain ⟨as, rd⟩ := Dp.reads I d (.ref a) (.ref a) dp rfl
  refine repr_of_reads' rd (fine_show d sh) (fun z => ?_) gd (by omega) (fun _ _ e => e) (fun h' u tk k => ⟨.str d.shown, H, I.kept k, ⟨u, rfl⟩, q⟩) (Nat.le_trans (shown_len d sh) (by rw [sizeLine_eq]; exact sz))
  rw [dp_noDict dp] at z
  cases z
end
end Pot

namespace Pot
open PySem PySem.Spec PyProof.Rows L2 PySem.W PySem.Calls
/-! ### set(xs) of a list of ints -/
/-- the object that set() makes first -/
abbrev emptySet (w : World) : Obj := { cls := .type "set", dict := none, data := .set #[] 0 (.fresh 0 0 (!w.params.followText "set-order")) }
section
variable {P : Program} {w : World} {A : Around} {E : Value → Shared → Prop} {s : Shared}
/-- what is wanted behind the filling -/
def Filled (w : World) (s : Shared) (ns : List Int) (s' : Shared) : Prop := ∃ h' tk c, s' = { s with heap := h', toks := tk } ∧ SetR w h' s.heap.objs.size (fun j => decide (j ∈ ns)) c ∧ c ≤ ns.length ∧ ∀ b o, s.heap.get? b = some o → h'.get? b = some o
set_option maxHeartbeats 4000000 in
theorem call_set_li {l : Addr} {items : Array Value} (ns : List Int) {Q : Value → Shared → Prop} (hh : A.handled = none) (hl : s.heap.IsList l items) (hit : IntsAre items.toList ns) (hb : ns.length + 1 < scanBound)
    (hq : ∀ s', Filled w s ns s' → Q (.ref s.heap.objs.size) s') : wpAny (model P w) A (call (.type "set") [.ref l]) Q E s := by
  have size : items.size = ns.length := by
    rw [← Array.length_toList]; exact IntsAre.length hit
  have made := F.called_set.made
  have below := F.called_set.sub
  obtain ⟨_, _, chain⟩ := F.called_set.mro
  have nt := F.called_set.notType
  have cc := F.called_set.canCreate
  have ck := F.typeCall_set_1 (.ref l)
  refine wpAny_call (codeAny_of_tree (show wpAny _ _ (callAny (.type "set") _) _ _ _ from wpAny_pure ⟨Code.quiet_builtin _ (by decide +kernel), codeAny_builtin F.entry_type_call ?_⟩))
  rw [Around.under_plain (weight_type_call_type "set" [.ref l] []) rfl]
  repeat (any_goals (first | assumption | wp_step))
  refine codeAny_mono (code_set_led1 (.ref l) (E := E) (Q₁ := fun obj z => obj = .ref s.heap.objs.size ∧ z = { s with heap := s.heap.push (emptySet w) }) ⟨rfl, rfl⟩) fun r z hr => ?_
  rcases r with _ | fl
  case error => exact hr
  cases fl <;> first | exact hr.elim | skip
  obtain ⟨rfl, rfl⟩ := hr
  have at0 : (s.heap.push (emptySet w)).get? s.heap.objs.size = some (emptySet w) := Heap.get?_push_size _ rfl
  have ty0 : Shared.TypeIs { s with heap := s.heap.push (emptySet w) } (.ref s.heap.objs.size) "set" := ⟨_, at0, rfl⟩
  have li := F.called_set.init.lookup
  have bi := F.called_set.init.bind (.ref s.heap.objs.size)
  repeat (any_goals (first | assumption | wp_step))
  refine codeAny_mono (codeAny_call_builtin (R := wants (fun r z => r = .none ∧ Filled w s ns z) E) F.called_set.init.plain F.entry_set_init (check_set_init_1 ty0 ?_)) fun r z hz => ?_
  · obtain ⟨⟨_, od, _, os⟩, hol, hcl, nl, hdl⟩ := hl
    simp only at hcl hdl
    subst hcl
    subst hdl
    have keep : (s.heap.push (emptySet w)).get? l = some { cls := .type "list", dict := od, data := .seq items nl, slots := os } := Heap.get?_push_of_some _ hol
    have s1 := F.sub_list_set
    have s2 := F.sub_list_frozenset
    have s3 : (Value.type "list" == Value.type "dict") = false := by decide
    have isl : (s.heap.push (emptySet w)).IsList l items := ⟨_, keep, rfl, nl, rfl⟩
    unfold Builtin.«set.__init__» noKeywords Builtin.Frozenset.updateFrom
    generalize hPI : pyIter = PI
    wp_walk
    subst hPI
    refine wpAny_pyIter_list isl (wpAny_bind (wpAny_runValue ?_))
    have lt : l < s.heap.objs.size := Heap.lt_size hol
    have sz : (s.heap.push (emptySet w)).objs.size = s.heap.objs.size + 1 := Heap.size_push ..
    have ne1 : l ≠ (s.heap.push (emptySet w)).objs.size := by rw [sz]; exact Nat.ne_of_lt (Nat.lt_succ_of_lt lt)
    have ne2 : s.heap.objs.size ∉ [(s.heap.push (emptySet w)).objs.size, l] := by
      rw [sz]
      intro z
      rcases List.mem_cons.mp z with z | z
      · exact absurd z (Nat.ne_of_lt (Nat.lt_succ_self _))
      · exact absurd (List.mem_singleton.mp z) (Nat.ne_of_gt lt)
    have each : ∀ (i : Nat) (v : Value), items[i]? = some v → ∃ k t, ns[i]? = some k ∧ v = .int k t := fun i v hv => by
      have hi : i < ns.length := size ▸ (Array.getElem?_eq_some_iff.mp hv).1
      obtain ⟨t, e⟩ := IntsAre.int_at hit i v (by rw [Array.getElem?_toList]; exact hv)
      exact ⟨ns[i], t, List.getElem?_eq_getElem hi, by rw [e, List.getD_eq_getElem?_getD, List.getElem?_eq_getElem hi]; rfl⟩
    refine set_update_ints ((Walks.list (show A.in1.in1.in1.handled = none by simp [hh]) _ l ne1 items).toS) s.heap.objs.size ne2 ns size hb each (items.size - 0) 0 _ (by omega) (Nat.zero_le _) ⟨⟨_, Heap.get?_push_size _ rfl, rfl, rfl⟩, isl.push _⟩ ⟨0, Nat.le_refl 0, setR_new_at (Heap.get?_push_of_some _ at0)⟩ fun s' c hm hc hS => ?_
    obtain ⟨h', g, d, tk, o⟩ := s'
    cases (show g = s.gens from hm.gens)
    cases (show d = s.drawn from hm.drawn)
    cases (show o = s.os from hm.os)
    refine (show wpAny _ _ _ _ _ _ from wpAny_pure (show wpAny _ _ (ret Value.none) _ _ _ from wpAny_pure ⟨rfl, h', tk, c, rfl, hS, size ▸ hc, fun b o e => ?_⟩))
    have hb0 : b < s.heap.objs.size := Heap.lt_size e
    refine hm.heap b o (fun z => ?_) (Heap.get?_push_of_some _ (Heap.get?_push_of_some _ e))
    rcases List.mem_cons.mp z with z | z
    · exact absurd z (Nat.ne_of_lt hb0)
    · exact absurd ((List.mem_singleton.mp z).trans sz) (Nat.ne_of_lt (Nat.lt_succ_of_lt hb0))
  · rcases r with _ | fl
    case error => exact hz
    cases fl <;> first | exact hz.elim | skip
    obtain ⟨rfl, f⟩ := hz
    obtain ⟨h', tk, c, rfl, hS, hc, k⟩ := id f
    repeat (any_goals (first | assumption | wp_step))
    exact hq _ ⟨_, _, _, rfl, hS, hc, k⟩
end
section
variable {X : Cx}
/-- set(xs), at most 60 ints: a set of just these -/
def rSetLi (K : PySem.W.Frag) (w : World) : List V → Hp → VK → Prop := fun xs H Q => ∃ (a : Addr) (ns : List Int), xs = [V.ref a] ∧ SqL K H a (ns.map V.int) ∧ ns.length ≤ 1000 ∧
  ∀ (p : Addr) (c : Nat), H p = none → c ≤ ns.length → Q (.ref p) (upd H p (SetO w p (fun k => decide (k ∈ ns)) c))
theorem cr_setLi (hc : X.calm = true) : CallR X (.type "set") (rSetLi X.K X.w) := by
  intro pins s σ H vs us Q I r h
  obtain ⟨a, ns, rfl, hS, hl, q⟩ := h
  rw [Vals.ref1 r]
  obtain ⟨its, rv, pl, hz⟩ := I.list hS
  refine call_set_li ns (I.ok.hd hc) pl.isList (by simpa using Vals.ints rv) (by unfold scanBound; omega) fun s' f => ?_
  obtain ⟨h', tk, c, rfl, R, hcn, k⟩ := f
  have hn : H s.heap.objs.size = none := I.hok.fresh (Nat.le_refl _)
  have J : Inv X pins σ (upd H s.heap.objs.size (SetO X.w s.heap.objs.size (fun k => decide (k ∈ ns)) c)) { s with heap := h', toks := tk } := I.laid (t' := tk) k (Nat.le_refl _) (setO_new R)
  exact ⟨.ref s.heap.objs.size, _, J, rfl, q _ _ hn hcn⟩
end
end Pot

/-! The rules whose readings name the written part, with it as a letter of its own. -/
namespace Pot
open PySem PySem.Spec PyProof.Rows L2
section
variable {X : Cx} {K : PySem.W.Frag}
theorem kx_list (h : X.K = K := by rfl) : IxR X (rIxL K) := h ▸ ix_list
theorem kx_tup (h : X.K = K := by rfl) : IxR X (rIxT K) := h ▸ ix_tup
theorem kl_list (h : X.K = K := by rfl) : SlR X (rSlL K) := h ▸ sl_list
theorem kl_tup (h : X.K = K := by rfl) : SlR X (rSlA K) := h ▸ sl_tupA
theorem ko_in (h : X.K = K := by rfl) : OpR X (compareOp .In) (rIn K false) := h ▸ op_in_seq
theorem ko_eq (hu : X.A.units + 64 < cLine) (h : X.K = K := by rfl) : OpR X (compareOp .Eq) (rEqD K) := h ▸ op_eqD hu
theorem ko_ne (hu : X.A.units + 64 < cLine) (h : X.K = K := by rfl) : OpR X (compareOp .NotEq) (rNeD K) := h ▸ op_neD hu
def rLen (K : PySem.W.Frag) : List V → Hp → VK → Prop := fun xs H Q => ∃ x n, xs = [x] ∧ LenV K x H n ∧ Q (.int n) H
theorem kc_len (h : X.K = K := by rfl) : CallR X (.builtin "len") (rLen K) := by subst h; exact call_len
def rListOf (K : PySem.W.Frag) : List V → Hp → VK → Prop := fun xs H Q => ∃ p ys, xs = [.ref p] ∧ (SqL K H p ys ∨ SqT K H p ys) ∧ ∀ l, H l = none → Q (.ref l) (upd H l (.lst ys))
theorem kc_list (h : X.K = K := by rfl) : CallR X (.type "list") (rListOf K) := by subst h; exact call_list_of
def rTupleOf (K : PySem.W.Frag) : List V → Hp → VK → Prop := fun xs H Q => ∃ p ys, xs = [.ref p] ∧ ((SqL K H p ys ∧ ∀ l, H l = none → Q (.ref l) (upd H l (.tup ys))) ∨ (SqT K H p ys ∧ Q (.ref p) H))
theorem kc_tuple (h : X.K = K := by rfl) : CallR X (.type "tuple") (rTupleOf K) := by subst h; exact call_tuple_of
theorem kc_sum (hc : X.calm = true := by rfl) (h : X.K = K := by rfl) : CallR X (.builtin "sum") (rSum K) := h ▸ cr_sum hc
theorem kc_all (hc : X.calm = true := by rfl) (h : X.K = K := by rfl) : CallR X (.builtin "all") (rAll K) := h ▸ cr_all hc
theorem kc_any (hc : X.calm = true := by rfl) (h : X.K = K := by rfl) : CallR X (.builtin "any") (rAny K) := h ▸ cr_any hc
theorem kc_sorted (h : X.K = K := by rfl) : CallR X (.builtin "sorted") (rSorted K) := h ▸ cr_sorted
theorem kc_sortedS (h : X.K = K := by rfl) : CallR X (.builtin "sorted") (rSortedS K) := h ▸ cr_sortedS
theorem kc_isi (h : X.K = K := by rfl) : CallR X (.builtin "isinstance") (rIsi K) := h ▸ call_isi
theorem kc_isiT (h : X.K = K := by rfl) : CallR X (.builtin "isinstance") (rIsiT K) := h ▸ call_isiT
theorem kc_repr (gd : X.A.guards = some []) (hu : X.A.units + 64 < cLine) (h : X.K = K := by rfl) : CallR X (.builtin "repr") (rRepr K) := h ▸ cr_repr gd hu
theorem kc_setLi {w : World} (hc : X.calm = true := by rfl) (h : X.K = K := by rfl) (hw : X.w = w := by rfl) : CallR X (.type "set") (rSetLi K w) := by subst h; subst hw; exact cr_setLi hc
theorem kc_sortedSet {w : World} (hc : X.calm = true := by rfl) (hw : X.w = w := by rfl) : CallR X (.builtin "sorted") (rSortedSet w) := hw ▸ cr_sortedSet hc
theorem ki_list {tg l : Expr} {tl : TE} (hl : PE X l tl) (h : X.K = K := by rfl) : PI X tg l (iList K tl) := h ▸ pi_list hl
theorem ki_tup {tg l : Expr} {tl : TE} (hl : PE X l tl) (h : X.K = K := by rfl) : PI X tg l (iTup K tl) := h ▸ pi_tup hl
theorem ki_zip {e e2 : Expr} {ta : TA} {p pos tpos : Pos} {elts : List Expr} {kk : Nat} (hg : Gl X "zip") (hm : X.mg "zip" = none) (ha : PA X [e, e2] ta) (hs : starEach [e, e2] X.env = (false, eval e X.env) :: starEach [e2] X.env := by rfl)
    (hpl : (backTo pos (starEach [e2] X.env)).any (·.1) = false := by rfl) (h : X.K = K := by rfl) : PI X (.Tuple elts kk tpos) (.Call (.Name "zip" p) [e, e2] [] pos) (RZ.iZipA K ta) := h ▸ RZ.pi_zipA hg hm ha hs hpl
theorem ki_enum {e : Expr} {ta : TA} {p pos tpos : Pos} {elts : List Expr} {kk : Nat} (hg : Gl X "enumerate") (hm : X.mg "enumerate" = none) (ha : PA X [e] ta) (hs : starEach [e] X.env = [(false, eval e X.env)] := by rfl) (h : X.K = K := by rfl)
    : PI X (.Tuple elts kk tpos) (.Call (.Name "enumerate" p) [e] [] pos) (iEnum K ta) := h ▸ pi_enum hg hm ha hs
theorem kg_tup {pos : Pos} {es : List Expr} {k : Nat} {t : TGs} {n : Nat} (h : PGs X es t) (hc : X.calm = true := by rfl) (hn : (assignEach es X.env).length = n := by rfl) (hst : (assignEach es X.env).findIdx? (·.1) = none := by rfl) (hk : X.K = K := by rfl) : PG X (.Tuple es k pos) (gTup K n t) := hk ▸ pg_tup hc h hn hst
def tTru (K : PySem.W.Frag) (ta : TE) : TT := fun σ H Q => ta σ H fun x H' => ∃ k, TruV K x H' k ∧ Q k H'
theorem kt_truth {a : Expr} {ta : TE} (ha : PE X a ta) (he : ∀ whole, isTrue a X.env whole = (do let v ← whole; standAt a.pos; holding [v] (truthy v)) := by intro _; rfl) (h : X.K = K := by rfl) : PT X a (tTru K ta) := by subst h; exact pt_truth ha he
def rJoin (K : PySem.W.Frag) : V → List V → Hp → VK → Prop := fun x xs H Q => ∃ a p, ∃ ys : List Str, x = .str a ∧ xs = [.ref p] ∧ (SqL K H p (ys.map V.str) ∨ SqT K H p (ys.map V.str)) ∧ (ys.map (·.length)).sum + ys.length * a.length ≤ 16777216 ∧ Q (.str (Txt.join a ys)) H
theorem ke_join {o e : Expr} {to te : TE} {apos pos : Pos} (ho : PE X o to) (he : PE X e te) (hs : starEach [e] X.env = [(false, eval e X.env)] := by rfl) (hbase : attributeBase o "join" X.env (eval o X.env) = eval o X.env := by rfl) (hline : (apos.endLine == pos.line) = true := by rfl) (h : X.K = K := by rfl) :
    PE X (.Call (.Attribute o "join" apos) [e] [] pos) (tM1 (rJoin K) to te) := by subst h; exact pe_join ho he hs hbase hline
theorem pss_never {st : List Stmt} : PSs X st (fun _ _ _ => False) := ⟨fun _ _ _ _ _ _ h => h.elim⟩
theorem ps_never {st : Stmt} : PS X st (fun _ _ _ => False) := ⟨fun _ _ _ _ _ _ h => h.elim⟩
theorem pe_never {e : Expr} : PE X e (fun _ _ _ => False) := ⟨fun _ _ _ _ _ _ h => h.elim⟩
theorem tYes_at {σ : L2.St} {H : Hp} {Q : Bool → Hp → Prop} (h : Q true H) : tYes σ H Q := h
end
end Pot

namespace Pot
open PySem PySem.Spec PyProof.Rows L2
/-- built-in names that the module gives no other meaning -/
structure Txt (mg : Str → Option Value) : Prop where
  len : mg "len" = none
  divmod : mg "divmod" = none
  range : mg "range" = none
  sum : mg "sum" = none
  all : mg "all" = none
  any : mg "any" = none
  isinstance : mg "isinstance" = none
  str : mg "str" = none
  int : mg "int" = none
  list : mg "list" = none
  tuple : mg "tuple" = none
  bool : mg "bool" = none
  zip : mg "zip" = none
  set : mg "set" = none
  sorted : mg "sorted" = none
  enumerate : mg "enumerate" = none
  repr : mg "repr" = none
  min : mg "min" = none
  max : mg "max" = none
  abs : mg "abs" = none
/-- a def that may be called by its name: what it keeps, at which level -/
def Cl (P : Program) (w : World) (K : PySem.W.Frag) (mg : Str → Option Value) (base : Heap) (k : Nat) (x : Str) (sp : Sp) : Prop :=
  ∃ (f : Addr) (fd : FuncData) (ps : List Str), FnOk P w K mg base CX0 k f fd ps sp ∧ mg x = some (.ref f) ∧ PySem.W.keepIn K (.ref f) = true ∧ Binds K fd ps []
theorem pe_cl {X : Cx} {k j : Nat} {x : Str} {sp : Sp} {e : Expr} {es : List Expr} {t : TA} {p pos : Pos} (c : Cl X.prog X.w X.K X.mg X.base k x sp) (hr : Room j X.A) (hk : k ≤ j) (hg : Gl X x) (ha : PA X (e :: es) t) (hdb : (x == ("__debug__" : Str)) = false := by decide)
    (he : starEach (e :: es) X.env = (false, eval e X.env) :: starEach es X.env := by rfl) (hpl : (backTo pos (starEach es X.env)).any (·.1) = false := by rfl) : PE X (.Call (.Name x p) (e :: es) [] pos) (tCall sp [] E0 t) := by
  obtain ⟨f, fd, ps, G, hm, kp, b⟩ := c
  exact pe_call G (hr.mono hk) hg hm kp b .nil pass0 ha hdb he hpl
/-! ### the drawing state -/
def dS (c : Addr) (t : Int) : List (Key × V) := [(Sum.inr "cells", .ref c), (Sum.inr "turn", .int t)]
/-- at d stands a state of the law: its cells at c, its turn at most n -/
def StAt (H : Hp) (d c : Addr) (n : Nat) : Prop := d ≠ c ∧ ∃ (xs : List Int) (t : Int),
  H d = some (.dK (dS c t)) ∧ H c = some (.lst (xs.map V.int)) ∧ xs ≠ [] ∧ xs.length ≤ 63 ∧ 0 ≤ t ∧ t ≤ n
/-- all that was tracked stands, but d and c -/
def Kp (d c : Addr) (H H' : Hp) : Prop := ∀ b o, b ≠ d → b ≠ c → H b = some o → H' b = some o
theorem Kp.refl (d c : Addr) (H : Hp) : Kp d c H H := fun _ _ _ _ e => e
theorem Kp.trans {d c : Addr} {H H1 H2 : Hp} (a : Kp d c H H1) (b : Kp d c H1 H2) : Kp d c H H2 := fun x o h1 h2 e => b x o h1 h2 (a x o h1 h2 e)
theorem Kp.of {d c : Addr} {H H' : Hp} (s : Same H H') : Kp d c H H' := fun x o _ _ e => s x o e
theorem same_upd {H : Hp} {p : Addr} {o : HO} (h : H p = none) : Same H (upd H p o) := fun b x e => by
  rw [upd_ne (ne_of_none e h)]
  exact e
theorem same_put {H H' : Hp} {p : Addr} {o : HO} (s : Same H H') (h : H p = none) : Same H (upd H' p o) := fun b x e => by
  rw [upd_ne (ne_of_none e h)]
  exact s b x e
theorem kp_put {d c : Addr} {H H' : Hp} {p : Addr} {o : HO} (s : Kp d c H H') (h : H p = none) : Kp d c H (upd H' p o) := fun b x h1 h2 e => by
  rw [upd_ne (ne_of_none e h)]
  exact s b x h1 h2 e
theorem StAt.mono {H : Hp} {d c : Addr} {n m : Nat} (h : StAt H d c n) (k : n ≤ m) : StAt H d c m := by
  obtain ⟨h0, xs, t, h1, h2, h3, h4, h5, h6⟩ := h
  exact ⟨h0, xs, t, h1, h2, h3, h4, h5, by omega⟩
theorem StAt.same {H H' : Hp} {d c : Addr} {n : Nat} (h : StAt H d c n) (s : Same H H') : StAt H' d c n := by
  obtain ⟨h0, xs, t, h1, h2, h3, h4, h5, h6⟩ := h
  exact ⟨h0, xs, t, s _ _ h1, s _ _ h2, h3, h4, h5, h6⟩
theorem Kp.free {d c : Addr} {H H' : Hp} {n : Nat} {l : Addr} (k : Kp d c H H') (s : StAt H' d c n) (h : H' l = none) : H l = none := by
  obtain ⟨_, xs, t, h1, h2, _⟩ := s
  have n1 : l ≠ d := (ne_of_none h1 h).symm
  have n2 : l ≠ c := (ne_of_none h2 h).symm
  cases e : H l with
  | none => rfl
  | some o =>
    rw [k l o n1 n2 e] at h
    cases h
theorem StAt.ne1 {H : Hp} {d c : Addr} {n : Nat} {l : Addr} (s : StAt H d c n) (h : H l = none) : d ≠ l := by
  obtain ⟨_, xs, t, h1, h2, _⟩ := s
  exact ne_of_none h1 h
theorem StAt.ne2 {H : Hp} {d c : Addr} {n : Nat} {l : Addr} (s : StAt H d c n) (h : H l = none) : c ≠ l := by
  obtain ⟨_, xs, t, h1, h2, _⟩ := s
  exact ne_of_none h2 h
theorem StAt.put {H : Hp} {d c : Addr} {n : Nat} {l : Addr} {o : HO} (s : StAt H d c n) (n1 : d ≠ l) (n2 : c ≠ l) : StAt (upd H l o) d c n := by
  obtain ⟨h0, xs, t, h1, h2, h3, h4, h5, h6⟩ := s
  exact ⟨h0, xs, t, by rw [upd_ne n1]; exact h1, by rw [upd_ne n2]; exact h2, h3, h4, h5, h6⟩
theorem val_turn (c : Addr) (t : Int) : valV (dS c t) (Sum.inr "turn") = some (.int t) := by
  have e : ¬ ((Sum.inr (Str.ofString "cells") : Key) = Sum.inr (Str.ofString "turn")) := by decide +kernel
  unfold dS; rw [valV_neg e, valV_pos rfl]
theorem val_cells (c : Addr) (t : Int) : valV (dS c t) (Sum.inr "cells") = some (.ref c) := by
  unfold dS; rw [valV_pos rfl]
theorem put_turn (c : Addr) (t u : Int) : putK (dS c t) (Sum.inr "turn") (.int u) = dS c u := by
  have e : ¬ ((Sum.inr (Str.ofString "cells") : Key) = Sum.inr (Str.ofString "turn")) := by decide +kernel
  unfold putK dS
  simp [e]

theorem dget_turn {H : Hp} {d c : Addr} {t : Int} (h : H d = some (.dK (dS c t))) : DGet H d (.str "turn") (some (.int t)) := by
  rw [← val_turn c t]; exact DGet.k (k := Sum.inr "turn") h
theorem dget_cells {H : Hp} {d c : Addr} {t : Int} (h : H d = some (.dK (dS c t))) : DGet H d (.str "cells") (some (.ref c)) := by
  rw [← val_cells c t]; exact DGet.k (k := Sum.inr "cells") h
theorem dput_turn {H : Hp} {d c : Addr} {t : Int} (u : Int) (h : H d = some (.dK (dS c t))) : DPut H d (.str "turn") (.int u) (upd H d (.dK (dS c u))) := by
  rw [← put_turn c t u]; exact DPut.k (k := Sum.inr "turn") h (by show 2 < sizeLine; decide)
theorem ge18 (x : Int) : (decide ((10 : Int) ^ (18 : Int).toNat ≤ x) = true) ↔ 1000000000000000000 ≤ x := by
  have e : (10 : Int) ^ (18 : Int).toNat = 1000000000000000000 := by decide
  rw [e, decide_eq_true_eq]
theorem cmul_mod (a b : Int) {m : Int} (h0 : 0 < m) (h1 : m < 2 ^ 64) : CMul (a % m) b := by
  have p := Int.emod_nonneg a (show m ≠ 0 by omega)
  have q := Int.emod_lt_of_pos a h0
  exact .inl ⟨by omega, by omega⟩
theorem mod_at {xs : List Int} {u : Int} (hx : xs ≠ []) : ∃ (j : Nat) (y : Int), u % ((xs.map V.int).length : Int) = (j : Int) ∧ j < xs.length ∧ xs[j]? = some y := by
  have h0 : 0 < xs.length := List.length_pos_iff.mpr hx
  rw [List.length_map]
  have a := Int.emod_nonneg u (show (xs.length : Int) ≠ 0 by omega)
  have b := Int.emod_lt_of_pos u (show (0 : Int) < (xs.length : Int) by omega)
  refine ⟨(u % (xs.length : Int)).toNat, xs[(u % (xs.length : Int)).toNat]'(by omega), by omega, by omega, ?_⟩
  exact List.getElem?_eq_getElem _

section
variable {K : PySem.W.Frag}
theorem cut63 {xs : List V} (h : xs.length ≤ 63) : cutV xs none (some 63) = xs := by
  unfold cutV
  rw [HT.sIx_none, show HT.sIx xs.length xs.length (some 63) = min 63 xs.length from HT.sIx_nat xs.length xs.length 63, Nat.min_eq_right h]
  simp
theorem dp_ints {H : Hp} (ns : List Int) : DpAll K H (ns.map V.int) (ns.map PyData.int) := by
  induction ns with
  | nil => exact .nil
  | cons n r ih => exact .cons (.int n) ih
theorem same_tup {H H' : Hp} {a : Addr} {xs : List V} (e : Same H H') (h : SqT K H a xs) : SqT K H' a xs := by
  rcases h with (h | ⟨o, h⟩) | h
  · exact .inl (.inl (e _ _ h))
  · exact .inl (.inr ⟨o, e _ _ h⟩)
  · exact .inr h
mutual
theorem dp_same {H H' : Hp} (s : Same H H') : ∀ {v : V} {d : PyData}, Dp K H v d → Dp K H' v d
  | _, _, .non => .non
  | _, _, .bl b => .bl b
  | _, _, .int i => .int i
  | _, _, .str x => .str x
  | _, _, .lst h a => .lst (s.seq h) (dpAll_same s a)
  | _, _, .tup h a => .tup (same_tup s h) (dpAll_same s a)
theorem dpAll_same {H H' : Hp} (s : Same H H') : ∀ {vs : List V} {ds : List PyData}, DpAll K H vs ds → DpAll K H' vs ds
  | _, _, .nil => .nil
  | _, _, .cons h t => .cons (dp_same s h) (dpAll_same s t)
end
theorem dpAll_len {H : Hp} : ∀ {vs : List V} {ds : List PyData}, DpAll K H vs ds → vs.length = ds.length
  | _, _, .nil => rfl
  | _, _, .cons _ t => by rw [List.length_cons, List.length_cons, dpAll_len t]
theorem dpAll_at {H : Hp} : ∀ {vs : List V} {ds : List PyData} {i : Nat} {v : V}, DpAll K H vs ds → vs[i]? = some v → ∃ d, ds[i]? = some d ∧ Dp K H v d
  | _, _, _, _, .nil, h => by simp at h
  | _, _, 0, _, .cons h _, e => ⟨_, rfl, by cases e; exact h⟩
  | _, _, i + 1, _, .cons _ t, e => dpAll_at (i := i) t e
theorem depth_at : ∀ {ds : List PyData} {i : Nat} {d : PyData}, ds[i]? = some d → d.depth ≤ PyData.depthAll ds
  | [], _, _, h => by simp at h
  | x :: r, 0, d, h => by cases h; unfold PyData.depthAll; exact Nat.le_max_left ..
  | x :: r, i + 1, d, h => by
    have := depth_at (ds := r) (i := i) (d := d) h
    unfold PyData.depthAll
    exact Nat.le_trans this (Nat.le_max_right ..)
theorem tyx_list {H : Hp} {a : Addr} {xs : List V} (h : SqL K H a xs) : TyX K H (.ref a) (.type "list") := by
  rcases h with (h | ⟨o, h⟩) | ⟨o, its, n, h1, h2, _⟩
  · exact .base (.lst h)
  · exact .base (.frz h)
  · exact .kList h1 h2
theorem tyx_tup {H : Hp} {a : Addr} {xs : List V} (h : SqT K H a xs) : TyX K H (.ref a) (.type "tuple") := by
  rcases h with (h | ⟨o, h⟩) | ⟨o, its, n, h1, h2, _⟩
  · exact .base (.tup h)
  · exact .fTuple h
  · exact .kTuple h1 h2
theorem walk_zipT {a b : Addr} {xs ys : List V} {n : Nat} (hn : n = min xs.length ys.length) : Walk (RZ.ItzT K a b) n (fun H => SqT K H a xs ∧ SqT K H b ys) (YPair (fun i => xs[i]?) (fun i => ys[i]?)) := by
  subst hn
  refine ⟨fun i _ hi q => ?_, fun _ q => ⟨xs, ys, q.1, q.2, by omega⟩, fun i H v H' _ q y => ?_⟩
  · exact ⟨xs, ys, xs[i]'(by omega), ys[i]'(by omega), q.1, q.2, List.getElem?_eq_getElem _, List.getElem?_eq_getElem _⟩
  · obtain ⟨T, x, z, e1, e2, e3, e4, e5⟩ := y
    exact ⟨T, x, z, e1, e2, e3, e4 xs q.1, e5 ys q.2⟩
/-- the longest list within -/
def widAll : List PyData → Nat
  | [] => 0
  | x :: xs => max (wid x) (widAll xs)
where wid : PyData → Nat
  | .list xs => max xs.length (widAll xs)
  | .tuple xs => max xs.length (widAll xs)
  | _ => 0
theorem wid_at : ∀ {ds : List PyData} {i : Nat} {d : PyData}, ds[i]? = some d → widAll.wid d ≤ widAll ds
  | [], _, _, h => by simp at h
  | x :: r, 0, d, h => by cases h; unfold widAll; exact Nat.le_max_left ..
  | x :: r, i + 1, d, h => by
    have := wid_at (ds := r) (i := i) (d := d) h
    unfold widAll
    exact Nat.le_trans this (Nat.le_max_right ..)
theorem depth_ints (ns : List Int) : (PyData.list (ns.map PyData.int)).depth = 1 := by
  have h : ∀ l : List Int, PyData.depthAll (l.map PyData.int) = 0 := by
    intro l
    induction l with
    | nil => rfl
    | cons x r ih =>
      show max 0 (PyData.depthAll (r.map PyData.int)) = 0
      rw [ih]
      rfl
  show PyData.depthAll (ns.map PyData.int) + 1 = 1
  rw [h]
theorem wid_ints (ns : List Int) : widAll.wid (PyData.list (ns.map PyData.int)) = ns.length := by
  have h : ∀ l : List Int, widAll (l.map PyData.int) = 0 := by
    intro l
    induction l with
    | nil => rfl
    | cons x r ih =>
      show max 0 (widAll (r.map PyData.int)) = 0
      rw [ih]
      rfl
  show max (ns.map PyData.int).length (widAll (ns.map PyData.int)) = ns.length
  rw [h, List.length_map, Nat.max_zero]
theorem flat_ints (ns : List Int) : (ns.map V.int).all flatV = true := by
  rw [List.all_eq_true]
  intro x hx
  obtain ⟨k, _, rfl⟩ := List.mem_map.mp hx
  rfl
end
section
variable {P : Program} {w : World} {K : PySem.W.Frag} {mg : Str → Option Value} {base : Heap}
/-- a def with values that may be left out -/
abbrev FunV (K : PySem.W.Frag) (x : Str) (st : Stmt) (dvs : List V) (f : Addr) (fd : FuncData) : Prop := FunD K x x (defArgs st) (defBody st) (defScope st) dvs [] f fd
theorem okD {x : Str} {st : Stmt} {dvs : List V} {f : Addr} {fd : FuncData} {N ps : List Str} {k : Nat} {sp : Sp} (F : FunV K x st dvs f fd) (S : FnScope N ps (defScope st)) (len : ∀ vs H Q E, sp vs H Q E → vs.length = ps.length)
    (body : ∀ (cdv : Value) (A : Around) (outer : List Env) (s : Shared) (H : Hp) (vs : List V) (Q : VK) (E : XK), Room k (A.deeper (envOfC x (defScope st) s.heap.objs.size f cdv)) → sp vs H Q E →
      ∃ t, PSs (cxOf CX0 P w K mg base N x (defScope st) f cdv A outer s H E).nox (defBody st) t ∧ t { nx := fun _ H' => Q .non H', rt := Q } (start N vs) H) : FnOk P w K mg base CX0 (k + 1) f fd ps sp :=
  FunD.ok F S len fun cdv A outer s H vs Q E hr h => by
    obtain ⟨t, ht, hq⟩ := body cdv A outer s H vs Q E hr h
    exact ⟨t, ht.nox, hq⟩
/-- a def that may be called by its name, the values ds being left out -/
def ClD (P : Program) (w : World) (K : PySem.W.Frag) (mg : Str → Option Value) (base : Heap) (k : Nat) (x : Str) (ds : List V) (sp : Sp) : Prop :=
  ∃ (f : Addr) (fd : FuncData) (ps : List Str) (dus : List Value), FnOk P w K mg base CX0 k f fd ps sp ∧ mg x = some (.ref f) ∧ PySem.W.keepIn K (.ref f) = true ∧ Binds K fd ps dus ∧ Vals ds dus
theorem pe_cd {X : Cx} {k j : Nat} {x : Str} {ds : List V} {sp : Sp} {e : Expr} {es : List Expr} {t : TA} {p pos : Pos} (c : ClD X.prog X.w X.K X.mg X.base k x ds sp) (hr : Room j X.A) (hk : k ≤ j) (hg : Gl X x) (ha : PA X (e :: es) t) (hdb : (x == ("__debug__" : Str)) = false := by decide)
    (he : starEach (e :: es) X.env = (false, eval e X.env) :: starEach es X.env := by rfl) (hpl : (backTo pos (starEach es X.env)).any (·.1) = false := by rfl) : PE X (.Call (.Name x p) (e :: es) [] pos) (tCall sp ds E0 t) := by
  obtain ⟨f, fd, ps, dus, G, hm, kp, b, dv⟩ := c
  exact pe_call G (hr.mono hk) hg hm kp b dv pass0 ha hdb he hpl
theorem Cl.mono {k j : Nat} {x : Str} {sp : Sp} (c : Cl P w K mg base k x sp) (h : k ≤ j) : Cl P w K mg base j x sp := by
  obtain ⟨f, fd, ps, G, r⟩ := c
  exact ⟨f, fd, ps, G.mono h, r⟩
end
end Pot

namespace Pot
open PySem PySem.Spec PyProof.Rows L2
/-! ### a box of three numbers from which is drawn, and all that stands beside it -/
def Bx (H : Hp) (b : Addr) : Prop := ∃ x y z : Int, H b = some (.lst [.int x, .int y, .int z])
/-- the heap without some -/
def off (H : Hp) (S : List Addr) : Hp := fun x => if x ∈ S then none else H x
theorem off_in {H : Hp} {S : List Addr} {x : Addr} (h : x ∈ S) : off H S x = none := if_pos h
theorem off_out {H : Hp} {S : List Addr} {x : Addr} (h : x ∉ S) : off H S x = H x := if_neg h
theorem off_mem {H : Hp} {S : List Addr} {x : Addr} {o : HO} (h : off H S x = some o) : x ∉ S := fun e => by rw [off_in e] at h; cases h
theorem off_sub {H : Hp} {S : List Addr} : Same (off H S) H := fun x o h => by
  have n := off_mem h
  rw [off_out n] at h; exact h
theorem off_mono {H : Hp} {S T : List Addr} (h : ∀ x ∈ T, x ∈ S) : Same (off H S) (off H T) := fun x o e => by
  have n := off_mem e
  rw [off_out n] at e
  rw [off_out fun z => n (h x z)]; exact e
/-- what stands beside S stands -/
abbrev Sm (S : List Addr) (H H' : Hp) : Prop := Same (off H S) (off H' S)
theorem sm_mono {H H' : Hp} {S T : List Addr} (h : ∀ x ∈ T, x ∈ S) (s : Sm T H H') : Sm S H H' := fun x o e => by
  have n := off_mem e
  rw [off_out n] at e ⊢
  have n2 : x ∉ T := fun z => n (h x z)
  have := s x o (by rw [off_out n2]; exact e)
  rw [off_out n2] at this; exact this
theorem sm_one {H H' : Hp} {S : List Addr} {b : Addr} (h : b ∈ S) (s : Sm [b] H H') : Sm S H H' := sm_mono (fun x hx => by rw [List.mem_singleton.mp hx]; exact h) s
theorem sm_of {H H' : Hp} {S : List Addr} (s : Same H H') : Sm S H H' := fun x o h => by
  have n := off_mem h
  rw [off_out n] at h ⊢; exact s x o h
theorem sm_put {H : Hp} {S : List Addr} {p : Addr} {o : HO} (h : H p = none) : Sm S H (upd H p o) := sm_of (same_upd h)
theorem sm_wr {H : Hp} {S : List Addr} {p : Addr} {o : HO} (h : p ∈ S) : Sm S H (upd H p o) := fun x u e => by
  have n := off_mem e
  rw [off_out n] at e ⊢
  have ne : x ≠ p := fun z => n (by rw [z]; exact h)
  rw [upd_ne ne]; exact e
theorem at_off {H : Hp} {S : List Addr} {x : Addr} {o : HO} (h : off H S x = some o) : H x = some o := off_sub x o h
theorem Bx.bx {H : Hp} {b : Addr} (B : Bx H b) : Bx H b := B
theorem Bx.ne {H : Hp} {b p : Addr} (B : Bx H b) (h : H p = none) : p ≠ b := fun e => by
  obtain ⟨x, y, z, B⟩ := B
  rw [e, B] at h; cases h
theorem Bx.same {H H' : Hp} {b : Addr} (B : Bx H b) (s : Same H H') : Bx H' b := by
  obtain ⟨x, y, z, B⟩ := B
  exact ⟨x, y, z, s _ _ B⟩
theorem Bx.put {H : Hp} {b p : Addr} {o : HO} (B : Bx H b) (h : H p = none) : Bx (upd H p o) b := B.same (same_upd h)
theorem Bx.wr {H : Hp} {b p : Addr} {o : HO} (B : Bx H b) (h : p ≠ b) : Bx (upd H p o) b := by
  obtain ⟨x, y, z, B⟩ := B
  exact ⟨x, y, z, by rw [upd_ne h.symm]; exact B⟩
/-- all of S are there -/
def Live (S : List Addr) (H : Hp) : Prop := ∀ s ∈ S, H s ≠ none
theorem Live.same {S : List Addr} {H H' : Hp} (L : Live S H) (s : Same H H') : Live S H' := fun x hx e => by
  cases h : H x with
  | none => exact L x hx h
  | some o => rw [s x o h] at e; cases e
theorem Live.box {S : List Addr} {H H' : Hp} {b : Addr} (L : Live S H) (B : Bx H' b) (s : Sm [b] H H') : Live S H' := fun x hx e => by
  by_cases hb : x = b
  · obtain ⟨_, _, _, B⟩ := B
    rw [hb, B] at e; cases e
  · have n : x ∉ [b] := fun z => hb (List.mem_singleton.mp z)
    cases h : H x with
    | none => exact L x hx h
    | some o =>
      have := s x o (by rw [off_out n]; exact h)
      rw [off_out n, e] at this; cases this
theorem Live.put {S : List Addr} {H : Hp} {p : Addr} {o : HO} (L : Live S H) (h : H p = none) : Live S (upd H p o) := L.same (same_upd h)
theorem Live.wr {S : List Addr} {H : Hp} {p : Addr} {o : HO} (L : Live S H) : Live S (upd H p o) := fun x hx e => by
  by_cases hp : x = p
  · rw [hp, upd_same] at e; cases e
  · rw [upd_ne hp] at e; exact L x hx e
theorem Live.one {H : Hp} {b : Addr} (B : Bx H b) : Live [b] H := fun x hx e => by
  obtain ⟨_, _, _, B⟩ := B
  rw [List.mem_singleton.mp hx, B] at e; cases e
theorem Live.out {S : List Addr} {H : Hp} {p : Addr} (L : Live S H) (h : H p = none) : p ∉ S := fun z => L p z h
theorem Live.cons {S : List Addr} {H : Hp} {p : Addr} {o : HO} (L : Live S H) (h : H p = some o) : Live (p :: S) H := fun x hx e => by
  rcases List.mem_cons.mp hx with z | z
  · rw [z, h] at e; cases e
  · exact L x z e
theorem off_new {H : Hp} {S : List Addr} {p : Addr} {o : HO} (L : Live S H) (h : H p = none) : off (upd H p o) S p = some o := by
  rw [off_out (L.out h)]; exact upd_same
theorem off_upd {H : Hp} {S : List Addr} {p : Addr} {o : HO} (h : p ∉ S) : off (upd H p o) S p = some o := by
  rw [off_out h]; exact upd_same
section
variable {K : PySem.W.Frag}
theorem sq_off {H : Hp} {S : List Addr} {a : Addr} {xs : List V} (h : SqL K (off H S) a xs) : SqL K H a xs := off_sub.seq h
theorem sqt_off {H : Hp} {S : List Addr} {a : Addr} {xs : List V} (h : SqT K (off H S) a xs) : SqT K H a xs := same_tup off_sub h
theorem dp_off {H : Hp} {S : List Addr} {v : V} {d : PyData} (h : Dp K (off H S) v d) : Dp K H v d := dp_same off_sub h
/-- a new list is none of S, beside which the rest stands as it was -/
theorem off_fresh {H : Hp} {S : List Addr} {p : Addr} {o : HO} (h : H p = none) : off (upd H p o) (p :: S) = off H S := by
  funext x; unfold off
  by_cases e : x = p
  · subst e
    rw [if_pos List.mem_cons_self, h]
    split <;> rfl
  · have : (x ∈ p :: S) ↔ x ∈ S := by rw [List.mem_cons]; exact ⟨fun z => z.resolve_left e, .inr⟩
    by_cases m : x ∈ S
    · rw [if_pos m, if_pos (this.mpr m)]
    · rw [if_neg m, if_neg fun z => m (this.mp z), upd_ne e]
end
/-! ### what is made of numbers, texts, truths, None, lists and tuples -/
/-- numbers within m, texts of at most 2000 signs -/
def gdAll (m : Nat) : List PyData → Prop
  | [] => True
  | x :: xs => gd m x ∧ gdAll m xs
where gd (m : Nat) : PyData → Prop
  | .none => True
  | .bool _ => True
  | .int i => i.natAbs ≤ m
  | .str x => x.length ≤ 2000 ∧ ∀ c ∈ x.cps.toList, c < 1114112
  | .list xs => gdAll m xs
  | .tuple xs => gdAll m xs
  | .dict _ => False
abbrev gd (m : Nat) (d : PyData) : Prop := gdAll.gd m d
theorem gdAll_iff {m : Nat} : ∀ {ds : List PyData}, gdAll m ds ↔ ∀ d ∈ ds, gd m d
  | [] => ⟨fun _ _ h => (List.not_mem_nil h).elim, fun _ => trivial⟩
  | x :: xs => by
    constructor
    · intro h d hd
      rcases List.mem_cons.mp hd with e | e
      · rw [e]; exact h.1
      · exact gdAll_iff.mp h.2 d e
    · intro h
      exact ⟨h x List.mem_cons_self, gdAll_iff.mpr fun d hd => h d (List.mem_cons_of_mem _ hd)⟩
mutual
theorem gd_mono {m n : Nat} (h : m ≤ n) : ∀ d : PyData, gd m d → gd n d
  | .none, _ => trivial
  | .bool _, _ => trivial
  | .int i, g => Nat.le_trans g h
  | .str _, g => g
  | .list xs, g => gdAll_mono h xs g
  | .tuple xs, g => gdAll_mono h xs g
  | .dict _, g => g.elim
theorem gdAll_mono {m n : Nat} (h : m ≤ n) : ∀ ds : List PyData, gdAll m ds → gdAll n ds
  | [], _ => trivial
  | x :: xs, g => ⟨gd_mono h x g.1, gdAll_mono h xs g.2⟩
end
theorem log_small' {i : Int} (h : i.natAbs ≤ 2000000) : i.natAbs.log2 < 1920 := by
  by_cases z : i.natAbs = 0
  · rw [z]; decide
  · have := (Nat.log2_lt z).mpr (show i.natAbs < 2 ^ 21 from Nat.lt_of_le_of_lt h (by decide))
    omega
mutual
theorem gd_fine {m : Nat} (h : m ≤ 2000000) : ∀ d : PyData, gd m d → fineAll.fine d
  | .none, _ => trivial
  | .bool _, _ => trivial
  | .int i, g => log_small' (Nat.le_trans g h)
  | .str _, g => fun c hc => Nat.lt_trans (g.2 c hc) (by decide)
  | .list xs, g => gdAll_fine h xs g
  | .tuple xs, g => gdAll_fine h xs g
  | .dict _, g => g.elim
theorem gdAll_fine {m : Nat} (h : m ≤ 2000000) : ∀ ds : List PyData, gdAll m ds → fineAll ds
  | [], _ => trivial
  | x :: xs, g => ⟨gd_fine h x g.1, gdAll_fine h xs g.2⟩
end
theorem costAll_app (xs ys : List PyData) : costAll (xs ++ ys) = costAll xs + costAll ys := by
  induction xs with
  | nil => simp [costAll]
  | cons x xs ih => simp only [List.cons_append, costAll, ih]; omega
theorem cost_mem {ds : List PyData} {d : PyData} (h : d ∈ ds) : costAll.cost d + 2 ≤ costAll ds := by
  induction ds with
  | nil => exact (List.not_mem_nil h).elim
  | cons x xs ih =>
    show _ ≤ costAll.cost x + 2 + costAll xs
    rcases List.mem_cons.mp h with e | e
    · rw [e]; omega
    · have := ih e; omega
theorem len_cost : ∀ ds : List PyData, 2 * ds.length ≤ costAll ds
  | [] => Nat.le_refl _
  | x :: xs => by
    have := len_cost xs
    show 2 * (xs.length + 1) ≤ costAll.cost x + 2 + costAll xs
    omega
theorem depthAll_iff {D : Nat} : ∀ {ds : List PyData}, PyData.depthAll ds ≤ D ↔ ∀ d ∈ ds, d.depth ≤ D
  | [] => ⟨fun _ _ h => (List.not_mem_nil h).elim, fun _ => Nat.zero_le _⟩
  | x :: xs => by
    show max x.depth (PyData.depthAll xs) ≤ D ↔ _
    rw [Nat.max_le, depthAll_iff (ds := xs)]
    constructor
    · rintro ⟨h1, h2⟩ d hd
      rcases List.mem_cons.mp hd with e | e
      · rw [e]; exact h1
      · exact h2 d e
    · intro h
      exact ⟨h x List.mem_cons_self, fun d hd => h d (List.mem_cons_of_mem _ hd)⟩
/-- rows of parts: of numbers within m, their cost, how deep and how wide each -/
structure Ths (m C D W : Nat) (ds : List PyData) : Prop where
  g : ∀ d ∈ ds, gd m d
  c : costAll ds ≤ C
  d : ∀ d ∈ ds, d.depth ≤ D
  w : ∀ d ∈ ds, widAll.wid d ≤ W
/-- a thing: of numbers within m, its cost, how deep, how wide -/
structure Th (m C D W : Nat) (dd : PyData) : Prop where
  g : gd m dd
  c : costAll.cost dd ≤ C
  d : dd.depth ≤ D
  w : widAll.wid dd ≤ W
theorem widAll_iff {D : Nat} : ∀ {ds : List PyData}, widAll ds ≤ D ↔ ∀ d ∈ ds, widAll.wid d ≤ D
  | [] => ⟨fun _ _ h => (List.not_mem_nil h).elim, fun _ => Nat.zero_le _⟩
  | x :: xs => by
    show max (widAll.wid x) (widAll xs) ≤ D ↔ _
    rw [Nat.max_le, widAll_iff (ds := xs)]
    constructor
    · rintro ⟨h1, h2⟩ d hd
      rcases List.mem_cons.mp hd with e | e
      · rw [e]; exact h1
      · exact h2 d e
    · intro h
      exact ⟨h x List.mem_cons_self, fun d hd => h d (List.mem_cons_of_mem _ hd)⟩
section
variable {m n C E D F W U : Nat} {d x : PyData} {ds xs ys : List PyData}
theorem Th.mono (h : Th m C D W d) (a : m ≤ n) (b : C ≤ E) (c : D ≤ F) (e : W ≤ U) : Th n E F U d := ⟨gd_mono a d h.g, Nat.le_trans h.c b, Nat.le_trans h.d c, Nat.le_trans h.w e⟩
theorem Ths.mono (h : Ths m C D W ds) (a : m ≤ n) (b : C ≤ E) (c : D ≤ F) (e : W ≤ U) : Ths n E F U ds := ⟨fun x hx => gd_mono a x (h.g x hx), Nat.le_trans h.c b, fun x hx => Nat.le_trans (h.d x hx) c, fun x hx => Nat.le_trans (h.w x hx) e⟩
theorem Ths.app (h : Ths m C D W xs) (k : Ths m E D W ys) : Ths m (C + E) D W (xs ++ ys) :=
  ⟨fun d hd => (List.mem_append.mp hd).elim (h.g d) (k.g d), by rw [costAll_app]; exact Nat.add_le_add h.c k.c, fun d hd => (List.mem_append.mp hd).elim (h.d d) (k.d d), fun d hd => (List.mem_append.mp hd).elim (h.w d) (k.w d)⟩
theorem Ths.nil : Ths m 0 D W [] := ⟨fun _ h => (List.not_mem_nil h).elim, Nat.le_refl _, fun _ h => (List.not_mem_nil h).elim, fun _ h => (List.not_mem_nil h).elim⟩
theorem Ths.one (h : Th m C D W x) : Ths m (C + 2) D W [x] :=
  ⟨fun d hd => by rw [List.mem_singleton.mp hd]; exact h.g, by show costAll.cost x + 2 + 0 ≤ _; have := h.c; omega, fun d hd => by rw [List.mem_singleton.mp hd]; exact h.d, fun d hd => by rw [List.mem_singleton.mp hd]; exact h.w⟩
theorem Ths.mem (h : Ths m C D W ds) (e : d ∈ ds) : Th m C D W d := ⟨h.g d e, by have := cost_mem e; have := h.c; omega, h.d d e, h.w d e⟩
theorem Ths.len (h : Ths m C D W ds) : 2 * ds.length ≤ C := Nat.le_trans (len_cost ds) h.c
theorem Ths.list (h : Ths m C D W ds) (l : ds.length ≤ W) : Th m (C + 3) (D + 1) W (.list ds) :=
  ⟨gdAll_iff.mpr h.g, by show costAll ds + 3 ≤ _; have := h.c; omega, by show PyData.depthAll ds + 1 ≤ _; have := depthAll_iff.mpr h.d; omega, by show max ds.length (widAll ds) ≤ W; exact Nat.max_le.mpr ⟨l, widAll_iff.mpr h.w⟩⟩
theorem Ths.tuple (h : Ths m C D W ds) (l : ds.length ≤ W) : Th m (C + 3) (D + 1) W (.tuple ds) :=
  ⟨gdAll_iff.mpr h.g, by show costAll ds + 3 ≤ _; have := h.c; omega, by show PyData.depthAll ds + 1 ≤ _; have := depthAll_iff.mpr h.d; omega, by show max ds.length (widAll ds) ≤ W; exact Nat.max_le.mpr ⟨l, widAll_iff.mpr h.w⟩⟩
theorem Th.ofList (h : Th m C D W (.list ds)) : Ths m (C - 3) (D - 1) W ds ∧ ds.length ≤ W ∧ 3 ≤ C ∧ 1 ≤ D := by
  have h1 : costAll ds + 3 ≤ C := h.c
  have h2 : PyData.depthAll ds + 1 ≤ D := h.d
  have h3 : max ds.length (widAll ds) ≤ W := h.w
  exact ⟨⟨gdAll_iff.mp h.g, by omega, depthAll_iff.mp (by omega), widAll_iff.mp (Nat.le_trans (Nat.le_max_right ..) h3)⟩, Nat.le_trans (Nat.le_max_left ..) h3, by omega, by omega⟩
theorem Th.ofTuple (h : Th m C D W (.tuple ds)) : Ths m (C - 3) (D - 1) W ds ∧ ds.length ≤ W ∧ 3 ≤ C ∧ 1 ≤ D := by
  have h1 : costAll ds + 3 ≤ C := h.c
  have h2 : PyData.depthAll ds + 1 ≤ D := h.d
  have h3 : max ds.length (widAll ds) ≤ W := h.w
  exact ⟨⟨gdAll_iff.mp h.g, by omega, depthAll_iff.mp (by omega), widAll_iff.mp (Nat.le_trans (Nat.le_max_right ..) h3)⟩, Nat.le_trans (Nat.le_max_left ..) h3, by omega, by omega⟩
theorem costAll_take (n : Nat) (ds : List PyData) : costAll (ds.take n) ≤ costAll ds := by
  have := costAll_app (ds.take n) (ds.drop n)
  rw [List.take_append_drop] at this; omega
theorem costAll_drop (n : Nat) (ds : List PyData) : costAll (ds.drop n) ≤ costAll ds := by
  have := costAll_app (ds.take n) (ds.drop n)
  rw [List.take_append_drop] at this; omega
theorem costAll_rev : ∀ ds : List PyData, costAll ds.reverse = costAll ds
  | [] => rfl
  | x :: xs => by rw [List.reverse_cons, costAll_app, costAll_rev xs]; show _ + (costAll.cost x + 2 + 0) = costAll.cost x + 2 + costAll xs; omega
theorem Ths.sub (h : Ths m C D W ds) (s : ∀ x ∈ xs, x ∈ ds) (c : costAll xs ≤ C) : Ths m C D W xs := ⟨fun d hd => h.g d (s d hd), c, fun d hd => h.d d (s d hd), fun d hd => h.w d (s d hd)⟩
theorem Ths.take (h : Ths m C D W ds) (n : Nat) : Ths m C D W (ds.take n) := h.sub (fun d hd => List.mem_of_mem_take hd) (Nat.le_trans (costAll_take n ds) h.c)
theorem Ths.drop (h : Ths m C D W ds) (n : Nat) : Ths m C D W (ds.drop n) := h.sub (fun d hd => List.mem_of_mem_drop hd) (Nat.le_trans (costAll_drop n ds) h.c)
theorem Ths.rev (h : Ths m C D W ds) : Ths m C D W ds.reverse := h.sub (fun d hd => List.mem_reverse.mp hd) (by rw [costAll_rev]; exact h.c)
theorem costAll_set : ∀ (ds : List PyData) (i : Nat) (x : PyData), costAll (ds.set i x) ≤ costAll ds + (costAll.cost x + 2)
  | [], _, _ => Nat.zero_le _
  | y :: ys, 0, x => by show costAll.cost x + 2 + costAll ys ≤ costAll.cost y + 2 + costAll ys + _; omega
  | y :: ys, i + 1, x => by
    have := costAll_set ys i x
    show costAll.cost y + 2 + costAll (ys.set i x) ≤ costAll.cost y + 2 + costAll ys + _
    omega
theorem Ths.set {i : Nat} (h : Ths m C D W ds) (k : Th m E D W x) : Ths m (C + E + 2) D W (ds.set i x) :=
  ⟨fun d hd => (List.mem_or_eq_of_mem_set hd).elim (h.g d) fun e => by rw [e]; exact k.g, Nat.le_trans (costAll_set ds i x) (by have := h.c; have := k.c; omega), fun d hd => (List.mem_or_eq_of_mem_set hd).elim (h.d d) fun e => by rw [e]; exact k.d, fun d hd => (List.mem_or_eq_of_mem_set hd).elim (h.w d) fun e => by rw [e]; exact k.w⟩
end
section
variable {K : PySem.W.Frag} {H : Hp}
theorem dpAll_app' : ∀ {xs ys : List V} {ds es : List PyData}, DpAll K H xs ds → DpAll K H ys es → DpAll K H (xs ++ ys) (ds ++ es)
  | _, _, _, _, .nil, h => h
  | _, _, _, _, .cons h t, h2 => .cons h (dpAll_app' t h2)
theorem dpAll_take : ∀ {xs : List V} {ds : List PyData} (n : Nat), DpAll K H xs ds → DpAll K H (xs.take n) (ds.take n)
  | _, _, 0, _ => .nil
  | _, _, _ + 1, .nil => .nil
  | _, _, n + 1, .cons h t => .cons h (dpAll_take n t)
theorem dpAll_drop : ∀ {xs : List V} {ds : List PyData} (n : Nat), DpAll K H xs ds → DpAll K H (xs.drop n) (ds.drop n)
  | _, _, 0, h => h
  | _, _, _ + 1, .nil => .nil
  | _, _, n + 1, .cons _ t => dpAll_drop n t
theorem dpAll_rev : ∀ {xs : List V} {ds : List PyData}, DpAll K H xs ds → DpAll K H xs.reverse ds.reverse
  | _, _, .nil => .nil
  | _, _, .cons h t => by rw [List.reverse_cons, List.reverse_cons]; exact dpAll_app' (dpAll_rev t) (.cons h .nil)
theorem dpAll_set : ∀ {xs : List V} {ds : List PyData} {i : Nat} {v : V} {d : PyData}, DpAll K H xs ds → Dp K H v d → DpAll K H (xs.set i v) (ds.set i d)
  | _, _, _, _, _, .nil, _ => .nil
  | _, _, 0, _, _, .cons _ t, k => .cons k t
  | _, _, _ + 1, _, _, .cons h t, k => .cons h (dpAll_set t k)
/-- a slice of a row of parts -/
theorem dp_cut {xs : List V} {ds : List PyData} {lo hi : Option Int} {m C D W : Nat} (h : DpAll K H xs ds) (t : Ths m C D W ds) : ∃ es, DpAll K H (cutV xs lo hi) es ∧ Ths m C D W es ∧ es.length ≤ ds.length := by
  unfold cutV
  exact ⟨_, dpAll_take _ (dpAll_drop _ h), (t.drop _).take _, by rw [List.length_take, List.length_drop]; omega⟩
theorem dp_lst' {v : V} {ds : List PyData} (h : Dp K H v (.list ds)) : ∃ a xs, v = .ref a ∧ SqL K H a xs ∧ DpAll K H xs ds := by
  cases h with
  | lst h a => exact ⟨_, _, rfl, h, a⟩
end
end Pot
namespace Pot
open PySem PySem.Spec PyProof.Rows L2
theorem sm_at {H H' : Hp} {S : List Addr} {x : Addr} {o : HO} (s : Sm S H H') (n : x ∉ S) (h : H x = some o) : H' x = some o := by
  have := s x o (by rw [off_out n]; exact h)
  rw [off_out n] at this; exact this
theorem sm1_at {H H' : Hp} {b x : Addr} {o : HO} (s : Sm [b] H H') (n : x ≠ b) (h : H x = some o) : H' x = some o := sm_at s (fun z => n (List.mem_singleton.mp z)) h
theorem smp {H H' : Hp} {S : List Addr} {p : Addr} {o : HO} (s : Sm S H H') (h : H p = none) : Sm S H (upd H' p o) := fun x u e => by
  have n := off_mem e
  have ne : x ≠ p := fun z => by
    rw [off_out n, z, h] at e; cases e
  have := s x u e
  rw [off_out n] at this ⊢
  rw [upd_ne ne]; exact this
theorem sm_free {H H' : Hp} {b l : Addr} (s : Sm [b] H H') (B : Bx H' b) (h : H' l = none) : H l = none := by
  have nb := B.ne h
  have n : l ∉ [b] := fun z => nb (List.mem_singleton.mp z)
  cases e : H l with
  | none => rfl
  | some o => rw [sm_at s n e] at h; cases h
theorem cut_map {α : Type} (f : α → V) (ns : List α) (lo hi : Option Int) : cutV (ns.map f) lo hi = ((ns.drop (HT.sIx ns.length 0 lo)).take (HT.sIx ns.length ns.length hi - HT.sIx ns.length 0 lo)).map f := by
  unfold cutV
  rw [List.length_map, List.map_take, List.map_drop]
theorem cut_head {xs : List V} {k : Nat} : cutV xs none (some (k : Int)) = xs.take k := by
  unfold cutV
  rw [HT.sIx_none, HT.sIx_nat, List.drop_zero, Nat.sub_zero]
  by_cases h : k ≤ xs.length
  · rw [Nat.min_eq_left h]
  · rw [Nat.min_eq_right (by omega), List.take_length, List.take_of_length_le (by omega)]
theorem cut_tail {xs : List V} {k : Nat} : cutV xs (some (k : Int)) none = xs.drop k := by
  unfold cutV
  rw [HT.sIx_none, HT.sIx_nat]
  by_cases h : k ≤ xs.length
  · rw [Nat.min_eq_left h, List.take_of_length_le (by rw [List.length_drop]; exact Nat.le_refl _)]
  · rw [Nat.min_eq_right (by omega), Nat.sub_self, List.take_zero, List.drop_of_length_le (by omega)]
end Pot
namespace Pot
open PySem PySem.Spec PyProof.Rows L2
section
variable {K : PySem.W.Frag} {H : Hp} {t : Addr} {d : PyData} {ds : List PyData}
theorem seq_dp {x : V} (h : Dp K H x d) (e : d = .list ds ∨ d = .tuple ds) : ∃ t zs, x = .ref t ∧ (SqL K H t zs ∨ SqT K H t zs) ∧ DpAll K H zs ds := by
  rcases e with rfl | rfl
  · cases h with
    | lst h a => exact ⟨_, _, rfl, .inl h, a⟩
  · cases h with
    | tup h a => exact ⟨_, _, rfl, .inr h, a⟩
theorem len_dp (h : Dp K H (.ref t) d) (e : d = .list ds ∨ d = .tuple ds) : LenV K (.ref t) H ds.length := by
  rcases e with rfl | rfl
  · cases h with
    | lst h a => exact .inl ⟨_, h, (dpAll_len a).symm⟩
  · cases h with
    | tup h a => exact .inr ⟨_, h, (dpAll_len a).symm⟩
theorem Th.parts {m C D W : Nat} (h : Th m C D W d) (e : d = .list ds ∨ d = .tuple ds) : Ths m (C - 3) (D - 1) W ds ∧ ds.length ≤ W ∧ 3 ≤ C ∧ 1 ≤ D := by
  rcases e with rfl | rfl
  · exact h.ofList
  · exact h.ofTuple
end
theorem sm_in {H H' : Hp} {S : List Addr} {x : Addr} {o : HO} (s : Sm S H H') (h : off H S x = some o) : off H' S x = some o := s x o h
end Pot
namespace Pot
open PySem PySem.Spec PyProof.Rows L2
theorem costAll_set_eq : ∀ {ds : List PyData} {i : Nat} {x y : PyData}, ds[i]? = some y → costAll (ds.set i x) + costAll.cost y = costAll ds + costAll.cost x
  | [], _, _, _, h => by simp at h
  | z :: zs, 0, x, y, h => by
    have e : z = y := by simpa using h
    subst e
    show costAll.cost x + 2 + costAll zs + costAll.cost z = costAll.cost z + 2 + costAll zs + costAll.cost x
    omega
  | z :: zs, i + 1, x, y, h => by
    have := costAll_set_eq (ds := zs) (i := i) (x := x) (y := y) (by simpa using h)
    show costAll.cost z + 2 + costAll (zs.set i x) + costAll.cost y = costAll.cost z + 2 + costAll zs + costAll.cost x
    omega
theorem codes_ofString (s : String) : ∀ c ∈ (Str.ofString s).cps.toList, c < 1114112 := by
  intro c hc
  rw [Str.ofString_eq_toList] at hc
  have : c ∈ s.toList.map Char.toNat := by simpa using hc
  obtain ⟨ch, _, rfl⟩ := List.mem_map.mp this
  have v := ch.valid
  have e : ch.toNat = ch.val.toNat := rfl
  rcases v with v | ⟨_, v⟩
  · have : ch.val.toNat < 0xD800 := v
    omega
  · have : ch.val.toNat < 0x110000 := v
    omega
theorem th_text {i : Int} (h : i.natAbs ≤ 2000000) {m : Nat} : Th m 19212 0 0 (.str (toString i)) := by
  have l : (Str.ofString (toString i)).length ≤ 1921 := PyProof.Rows.int_text_len_1921 (log_small' h)
  exact ⟨⟨by omega, codes_ofString _⟩, by show 10 * (Str.ofString (toString i)).length + 2 ≤ 19212; omega, Nat.le_refl _, Nat.le_refl _⟩
end Pot

namespace Pot
open PySem PySem.Spec PyProof.Rows L2
theorem Ths.parts2 {m C E D W a b : Nat} {ds es : List PyData} (h : Ths m C D W ds) (hab : a ≤ b) (k : Ths m E D W es) : Ths m (C + E) D W (ds.take a ++ es ++ ds.drop b) := by
  have mem : ∀ d, d ∈ ds.take a ++ es ++ ds.drop b → d ∈ ds ∨ d ∈ es := fun d hd => by
    rcases List.mem_append.mp hd with z | z
    · rcases List.mem_append.mp z with y | y
      · exact .inl (List.mem_of_mem_take y)
      · exact .inr y
    · exact .inl (List.mem_of_mem_drop z)
  refine ⟨fun d hd => (mem d hd).elim (h.g d) (k.g d), ?_, fun d hd => (mem d hd).elim (h.d d) (k.d d), fun d hd => (mem d hd).elim (h.w d) (k.w d)⟩
  rw [costAll_app, costAll_app]
  have e := costAll_app (ds.take a) (ds.drop a)
  rw [List.take_append_drop] at e
  have e2 : ds.drop b = (ds.drop a).drop (b - a) := by rw [List.drop_drop]; congr 1; omega
  have e3 := costAll_drop (b - a) (ds.drop a)
  rw [← e2] at e3
  have := h.c
  have := k.c
  omega
end Pot

namespace Pot
open PySem PySem.Spec PyProof.Rows L2
theorem nodup_le {α : Type} [BEq α] [LawfulBEq α] : ∀ {ks l : List α}, ks.Nodup → (∀ k ∈ ks, k ∈ l) → ks.length ≤ l.length
  | [], _, _, _ => Nat.zero_le _
  | k :: ks, l, h, s => by
    have hk := s k List.mem_cons_self
    have h2 := (List.nodup_cons.mp h)
    have := nodup_le (ks := ks) (l := l.erase k) h2.2 fun x hx => by
      have ne : x ≠ k := fun e => h2.1 (e ▸ hx)
      exact (List.mem_erase_of_ne ne).mpr (s x (List.mem_cons_of_mem _ hx))
    rw [List.length_erase_of_mem hk] at this
    have : 0 < l.length := List.length_pos_of_mem hk
    simp only [List.length_cons]
    omega
section
variable {X : Cx} {K : PySem.W.Frag}
theorem ko_notIn (h : X.K = K := by rfl) : OpR X (compareOp .NotIn) (rIn K true) := h ▸ op_notIn_seq
/-- set(xs) of ints: how many members it has -/
def rSetLj (K : PySem.W.Frag) (w : World) : List V → Hp → VK → Prop := fun xs H Q => ∃ (a : Addr) (ns : List Int), xs = [V.ref a] ∧ SqL K H a (ns.map V.int) ∧ ns.length ≤ 4000 ∧
  ∀ (p : Addr) (ks : List Int), H p = none → ks.Nodup → (∀ k, k ∈ ks ↔ k ∈ ns) → Q (.ref p) (upd H p (SetO w p (fun k => decide (k ∈ ns)) ks.length))
theorem cr_setLj (hc : X.calm = true) : CallR X (.type "set") (rSetLj X.K X.w) := by
  intro pins s σ H vs us Q I r h
  obtain ⟨a, ns, rfl, hS, hl, q⟩ := h
  rw [Vals.ref1 r]
  obtain ⟨its, rv, pl, hz⟩ := I.list hS
  refine call_set_li ns (I.ok.hd hc) pl.isList (by simpa using Vals.ints rv) (by unfold scanBound; omega) fun s' f => ?_
  obtain ⟨h', tk, c, rfl, R, hcn, k⟩ := f
  have hn : H s.heap.objs.size = none := I.hok.fresh (Nat.le_refl _)
  have J : Inv X pins σ (upd H s.heap.objs.size (SetO X.w s.heap.objs.size (fun k => decide (k ∈ ns)) c)) { s with heap := h', toks := tk } := I.laid (t' := tk) k (Nat.le_refl _) (setO_new R)
  obtain ⟨o, es, ep, t, _, _, _, _, nod, mem, _, _, size, _⟩ := R
  have q2 := q s.heap.objs.size (es.toList.map keyOf) hn nod fun k => by rw [← mem k, decide_eq_true_eq]
  rw [List.length_map, Array.length_toList, size] at q2
  exact ⟨.ref s.heap.objs.size, _, J, rfl, q2⟩
theorem kc_setLj {w : World} (hc : X.calm = true := by rfl) (h : X.K = K := by rfl) (hw : X.w = w := by rfl) : CallR X (.type "set") (rSetLj K w) := by subst h; subst hw; exact cr_setLj hc
end
end Pot

namespace Pot
open PySem PySem.Spec PyProof.Rows L2
/-! ### kinds of data -/
def tyD : PyData → String
  | .none => "NoneType"
  | .bool _ => "bool"
  | .int _ => "int"
  | .str _ => "str"
  | .list _ => "list"
  | .tuple _ => "tuple"
  | .dict _ => "dict"
def isIntD : PyData → Bool
  | .int _ => true
  | .bool _ => true
  | _ => false
def isBoolD : PyData → Bool
  | .bool _ => true
  | _ => false
def isStrD : PyData → Bool
  | .str _ => true
  | _ => false
def isListD : PyData → Bool
  | .list _ => true
  | _ => false
def isTupD : PyData → Bool
  | .tuple _ => true
  | _ => false
section
variable {K : PySem.W.Frag} {H : Hp} {x : V} {d : PyData} {Q : VK}
theorem tyx_dp (h : Dp K H x d) : TyX K H x (.type (tyD d)) := by
  cases h with
  | non => exact .base .non
  | bl b => exact .base (.bl b)
  | int i => exact .base (.int i)
  | str z => exact .base (.str z)
  | lst h _ => exact tyx_list h
  | tup h _ => exact tyx_tup h
theorem kit_int (h : Dp K H x d) : PySem.W.kitOne K (.type (tyD d)) (.type "int") = some (isIntD d) := by
  cases h with
  | non => exact kit_ty (show kitB "NoneType" "int" = some false by decide +kernel)
  | bl _ => exact kit_ty (show kitB "bool" "int" = some true by decide +kernel)
  | int _ => exact kit_ty (show kitB "int" "int" = some true by decide +kernel)
  | str _ => exact kit_ty (show kitB "str" "int" = some false by decide +kernel)
  | lst _ _ => exact kit_ty (show kitB "list" "int" = some false by decide +kernel)
  | tup _ _ => exact kit_ty (show kitB "tuple" "int" = some false by decide +kernel)
theorem kit_bool (h : Dp K H x d) : PySem.W.kitOne K (.type (tyD d)) (.type "bool") = some (isBoolD d) := by
  cases h with
  | non => exact kit_ty (show kitB "NoneType" "bool" = some false by decide +kernel)
  | bl _ => exact kit_ty (show kitB "bool" "bool" = some true by decide +kernel)
  | int _ => exact kit_ty (show kitB "int" "bool" = some false by decide +kernel)
  | str _ => exact kit_ty (show kitB "str" "bool" = some false by decide +kernel)
  | lst _ _ => exact kit_ty (show kitB "list" "bool" = some false by decide +kernel)
  | tup _ _ => exact kit_ty (show kitB "tuple" "bool" = some false by decide +kernel)
theorem kit_str (h : Dp K H x d) : PySem.W.kitOne K (.type (tyD d)) (.type "str") = some (isStrD d) := by
  cases h with
  | non => exact kit_ty (show kitB "NoneType" "str" = some false by decide +kernel)
  | bl _ => exact kit_ty (show kitB "bool" "str" = some false by decide +kernel)
  | int _ => exact kit_ty (show kitB "int" "str" = some false by decide +kernel)
  | str _ => exact kit_ty (show kitB "str" "str" = some true by decide +kernel)
  | lst _ _ => exact kit_ty (show kitB "list" "str" = some false by decide +kernel)
  | tup _ _ => exact kit_ty (show kitB "tuple" "str" = some false by decide +kernel)
theorem kit_list (h : Dp K H x d) : PySem.W.kitOne K (.type (tyD d)) (.type "list") = some (isListD d) := by
  cases h with
  | non => exact kit_ty (show kitB "NoneType" "list" = some false by decide +kernel)
  | bl _ => exact kit_ty (show kitB "bool" "list" = some false by decide +kernel)
  | int _ => exact kit_ty (show kitB "int" "list" = some false by decide +kernel)
  | str _ => exact kit_ty (show kitB "str" "list" = some false by decide +kernel)
  | lst _ _ => exact kit_ty (show kitB "list" "list" = some true by decide +kernel)
  | tup _ _ => exact kit_ty (show kitB "tuple" "list" = some false by decide +kernel)
theorem kit_tup (h : Dp K H x d) : PySem.W.kitOne K (.type (tyD d)) (.type "tuple") = some (isTupD d) := by
  cases h with
  | non => exact kit_ty (show kitB "NoneType" "tuple" = some false by decide +kernel)
  | bl _ => exact kit_ty (show kitB "bool" "tuple" = some false by decide +kernel)
  | int _ => exact kit_ty (show kitB "int" "tuple" = some false by decide +kernel)
  | str _ => exact kit_ty (show kitB "str" "tuple" = some false by decide +kernel)
  | lst _ _ => exact kit_ty (show kitB "list" "tuple" = some false by decide +kernel)
  | tup _ _ => exact kit_ty (show kitB "tuple" "tuple" = some true by decide +kernel)
theorem kit_lt (h : Dp K H x d) : PySem.W.kitAny K (.type (tyD d)) [.type "list", .type "tuple"] = some (isListD d || isTupD d) := by
  cases h <;> rfl
end
/-! ### numbers within bounds -/
def numD (lo hi : Int) : PyData → Bool
  | .int i => decide (lo ≤ i) && decide (i ≤ hi)
  | _ => false
def toI : PyData → Int
  | .int i => i
  | _ => 0
theorem numD_int {lo hi : Int} : ∀ {d : PyData}, numD lo hi d = true → d = .int (toI d) ∧ lo ≤ toI d ∧ toI d ≤ hi
  | .int i, h => by
    obtain ⟨h1, h2⟩ := Bool.and_eq_true_iff.mp (show (decide (lo ≤ i) && decide (i ≤ hi)) = true from h)
    exact ⟨rfl, of_decide_eq_true h1, of_decide_eq_true h2⟩
/-- rising -/
def risI : List Int → Bool
  | a :: b :: r => decide (a < b) && risI (b :: r)
  | _ => true
def risD (lo hi : Int) : PyData → Bool
  | .list ds => ds.all (numD lo hi) && risI (ds.map toI)
  | _ => false
theorem risI_pair : ∀ {ns : List Int}, risI ns = true ↔ ns.Pairwise (· < ·)
  | [] => by simp [risI]
  | [a] => by simp [risI]
  | a :: b :: r => by
    have ih := risI_pair (ns := b :: r)
    show (decide (a < b) && risI (b :: r)) = true ↔ _
    rw [Bool.and_eq_true_iff, decide_eq_true_eq, ih]
    constructor
    · rintro ⟨h1, h2⟩
      refine List.pairwise_cons.mpr ⟨fun x hx => ?_, h2⟩
      rcases List.mem_cons.mp hx with e | e
      · rw [e]; exact h1
      · exact Int.lt_trans h1 ((List.pairwise_cons.mp h2).1 x e)
    · intro h
      obtain ⟨h1, h2⟩ := List.pairwise_cons.mp h
      exact ⟨h1 b List.mem_cons_self, h2⟩
theorem nums_of {lo hi : Int} {ds : List PyData} (h : ds.all (numD lo hi) = true) : ds = (ds.map toI).map PyData.int ∧ ∀ k ∈ ds.map toI, lo ≤ k ∧ k ≤ hi := by
  rw [List.all_eq_true] at h
  constructor
  · rw [List.map_map]
    conv => lhs; rw [← List.map_id ds]
    exact List.map_congr_left fun d hd => (numD_int (h d hd)).1
  · intro k hk
    obtain ⟨d, hd, rfl⟩ := List.mem_map.mp hk
    exact (numD_int (h d hd)).2
section
variable {K : PySem.W.Frag} {H : Hp}
theorem dp_intsV : ∀ {xs : List V} {ns : List Int}, DpAll K H xs (ns.map PyData.int) → xs = ns.map V.int
  | [], [], _ => rfl
  | [], _ :: _, h => by cases h
  | _ :: _, [], h => by cases h
  | x :: xs, n :: ns, h => by
    cases h with
    | cons h t => cases h; rw [dp_intsV t]; rfl
end
/-- of a row that rises just the same: a row in which all stand in order, none twice -/
theorem sorted_uniq : ∀ {xs ys : List Int}, xs.Pairwise (· < ·) → ys.Pairwise (· < ·) → (∀ k, k ∈ xs ↔ k ∈ ys) → xs = ys
  | [], [], _, _, _ => rfl
  | [], y :: ys, _, _, h => by have := (h y).mpr List.mem_cons_self; simp at this
  | x :: xs, [], _, _, h => by have := (h x).mp List.mem_cons_self; simp at this
  | x :: xs, y :: ys, h1, h2, h => by
    rw [List.pairwise_cons] at h1 h2
    have e : x = y := by
      rcases List.mem_cons.mp ((h x).mp List.mem_cons_self) with e | e
      · exact e
      · rcases List.mem_cons.mp ((h y).mpr List.mem_cons_self) with e2 | e2
        · exact e2.symm
        · have := h2.1 x e; have := h1.1 y e2; omega
    subst e
    have : xs = ys := sorted_uniq h1.2 h2.2 fun k => by
      constructor
      · intro hk
        rcases List.mem_cons.mp ((h k).mp (List.mem_cons_of_mem _ hk)) with e | e
        · have := h1.1 k hk; omega
        · exact e
      · intro hk
        rcases List.mem_cons.mp ((h k).mpr (List.mem_cons_of_mem _ hk)) with e | e
        · have := h2.1 k hk; omega
        · exact e
    rw [this]
theorem eqv_ints : ∀ xs ys : List Int, PyData.eqv (.list (xs.map PyData.int)) (.list (ys.map PyData.int)) = decide (xs = ys)
  | [], [] => rfl
  | [], _ :: _ => rfl
  | _ :: _, [] => rfl
  | x :: xs, y :: ys => by
    have ih := eqv_ints xs ys
    show (PyData.eqv (.int x) (.int y) && PyData.eqvAll (xs.map PyData.int) (ys.map PyData.int)) = _
    rw [show PyData.eqvAll (xs.map PyData.int) (ys.map PyData.int) = decide (xs = ys) from ih]
    show ((x == y) && _) = _
    by_cases h : x = y
    · subst h; simp
    · simp [h]
/-- thing == sorted(set(thing)): just where it rises -/
theorem eq_sorted {ns zs : List Int} (h : zs.Pairwise (· < ·)) (m : ∀ k, k ∈ zs ↔ k ∈ ns) : decide (ns = zs) = risI ns := by
  by_cases e : ns = zs
  · rw [decide_eq_true e, e]; exact (risI_pair.mpr h).symm
  · rw [decide_eq_false e]
    cases hr : risI ns with
    | false => rfl
    | true => exact absurd (sorted_uniq (risI_pair.mp hr) h fun k => (m k).symm) e
theorem nodup_60 {ks : List Int} (h : ks.Nodup) (b : ∀ k ∈ ks, 0 ≤ k ∧ k ≤ 60) : ks.length < 64 := by
  have := nodup_le (l := (List.range 61).map fun (i : Nat) => (i : Int)) h fun k hk => by
    obtain ⟨h0, h1⟩ := b k hk
    exact List.mem_map.mpr ⟨k.toNat, List.mem_range.mpr (by omega), by omega⟩
  rw [List.length_map, List.length_range] at this
  omega
end Pot
namespace Pot
open PySem PySem.Spec PyProof.Rows L2
/-! ### a comprehension that changes nothing that stood: out i is what is told up to turn i -/
def PvL (H1 : Hp) (D : Addr) (out : Nat → List V) (i : Nat) (H2 : Hp) : Prop := Same H1 H2 ∧ H2 D = some (.lst (out i))
section
variable {H1 H2 H3 : Hp} {D : Addr} {out : Nat → List V} {i : Nat} {y : V}
theorem pv_start (nD : H1 D = none) (e : out 0 = []) : PvL H1 D out 0 (upd H1 D (.lst [])) := ⟨same_upd nD, by rw [e]; exact upd_same⟩
theorem pv_put (nD : H1 D = none) (p : PvL H1 D out i H2) (s : Same H2 H3) (e : out (i + 1) = out i ++ [y]) (l : (out i).length < sizeLine) : ∃ acc, H3 D = some (.lst acc) ∧ acc.length < sizeLine ∧ PvL H1 D out (i + 1) (upd H3 D (.lst (acc ++ [y]))) :=
  ⟨out i, s _ _ p.2, l, same_put (p.1.trans s) nD, by rw [e]; exact upd_same⟩
theorem pv_skip (p : PvL H1 D out i H2) (s : Same H2 H3) (e : out (i + 1) = out i) : PvL H1 D out (i + 1) H3 := ⟨p.1.trans s, by rw [e]; exact s _ _ p.2⟩
end
theorem take_map {α : Type} (f : α → V) {l : List α} {i : Nat} {x : α} (h : l[i]? = some x) : (l.take (i + 1)).map f = (l.take i).map f ++ [f x] := by
  rw [List.take_add_one, h, List.map_append]; rfl
theorem take_len_lt {α : Type} {f : α → V} {l : List α} {i : Nat} (h : i < 100000) : ((l.take i).map f).length < sizeLine := by
  rw [List.length_map, List.length_take, sizeLine_eq]; omega
theorem take_len_le {α : Type} {f : α → V} {l : List α} {i : Nat} (h : l.length < 100000) : ((l.take i).map f).length < sizeLine := by
  rw [List.length_map, List.length_take, sizeLine_eq]; omega
/-- each below the next -/
def rb : List Int → List Bool
  | a :: b :: r => decide (a < b) :: rb (b :: r)
  | _ => []
theorem rb_all : ∀ ns : List Int, (rb ns).all id = risI ns
  | [] => rfl
  | [_] => rfl
  | a :: b :: r => by show (decide (a < b) && (rb (b :: r)).all id) = _; rw [rb_all (b :: r)]; rfl
theorem rb_len : ∀ ns : List Int, (rb ns).length = ns.length - 1
  | [] => rfl
  | [_] => rfl
  | a :: b :: r => by show (rb (b :: r)).length + 1 = _; rw [rb_len (b :: r)]; simp
theorem rb_at : ∀ {ns : List Int} {i : Nat} {x y : Int}, ns[i]? = some x → ns[i + 1]? = some y → (rb ns)[i]? = some (decide (x < y))
  | [], _, _, _, h, _ => by simp at h
  | [_], i, _, _, _, h => by simp at h
  | a :: b :: r, 0, x, y, h, k => by
    have e1 : a = x := by simpa using h
    have e2 : b = y := by simpa using k
    subst e1 e2; rfl
  | a :: b :: r, i + 1, x, y, h, k => rb_at (ns := b :: r) (i := i) (by simpa using h) (by simpa using k)
/-- what is told of each of some data -/
theorem all_map {ds : List PyData} {f : PyData → Bool} : (ds.map f).all id = ds.all f := by
  rw [List.all_map]; rfl
end Pot
namespace Pot
open PySem PySem.Spec PyProof.Rows L2
theorem pv_end {H1 H2 : Hp} {D : Addr} {out : Nat → List V} {n : Nat} {zs : List V} (p : PvL H1 D out n H2) (e : out n = zs) : Same H1 H2 ∧ H2 D = some (.lst zs) := ⟨p.1, by rw [← e]; exact p.2⟩
theorem take_all {α : Type} {f : α → V} {l : List α} {n : Nat} (h : l.length ≤ n) : (l.take n).map f = l.map f := by rw [List.take_of_length_le h]
end Pot

namespace Pot
open PySem PySem.Spec PyProof.Rows L2
/-! ### palettes as data -/
abbrev Col := Str × Int × Int × Int
abbrev Wsh := Str × Str × Option Int
def colD (c : Col) : PyData := .tuple [.str c.1, .int c.2.1, .int c.2.2.1, .int c.2.2.2]
def optD : Option Int → PyData
  | none => .none
  | some i => .int i
def washD (r : Wsh) : PyData := .tuple [.str r.1, .str r.2.1, optD r.2.2]
def palD (cs : List Col) (ws : List Wsh) : PyData := .tuple [.tuple (cs.map colD), .tuple (ws.map washD)]
def optV : Option Int → V
  | none => .non
  | some i => .int i
def namV : Option Str → V
  | none => .non
  | some z => .str z
/-- the washing between two: the first row that tells -/
def washF (ws : List Wsh) (a : Option Str) (b : Str) : Option Int := match ws with
  | [] => some 0
  | r :: ws => if some r.1 = a ∧ r.2.1 = b then r.2.2 else washF ws a b
/-- the washing of a row -/
def sumF (ws : List Wsh) : Option Str → List Str → Int → Option Int
  | _, [], h => some h
  | a, b :: r, h => match washF ws a b with
    | none => none
    | some k => sumF ws (some b) r (h + k)
section
variable {K : PySem.W.Frag} {H : Hp}
theorem dp_tup {v : V} {ds : List PyData} (h : Dp K H v (.tuple ds)) : ∃ a xs, v = .ref a ∧ SqT K H a xs ∧ DpAll K H xs ds := by
  cases h with
  | tup h a => exact ⟨_, _, rfl, h, a⟩
theorem dp_lst {v : V} {ds : List PyData} (h : Dp K H v (.list ds)) : ∃ a xs, v = .ref a ∧ SqL K H a xs ∧ DpAll K H xs ds := by
  cases h with
  | lst h a => exact ⟨_, _, rfl, h, a⟩
theorem dp_str {v : V} {z : Str} (h : Dp K H v (.str z)) : v = .str z := by cases h; rfl
theorem dp_int {v : V} {z : Int} (h : Dp K H v (.int z)) : v = .int z := by cases h; rfl
theorem dp_opt {v : V} : ∀ {z : Option Int}, Dp K H v (optD z) → v = optV z
  | none, h => by cases h; rfl
  | some i, h => by cases h; rfl
theorem opt_dp : ∀ (z : Option Int), Dp K H (optV z) (optD z)
  | none => .non
  | some i => .int i
theorem dp_two {xs : List V} {d e : PyData} (h : DpAll K H xs [d, e]) : ∃ x y, xs = [x, y] ∧ Dp K H x d ∧ Dp K H y e := by
  cases h with
  | cons h1 t => cases t with
    | cons h2 t => cases t; exact ⟨_, _, rfl, h1, h2⟩
theorem dp_three {xs : List V} {d e f : PyData} (h : DpAll K H xs [d, e, f]) : ∃ x y z, xs = [x, y, z] ∧ Dp K H x d ∧ Dp K H y e ∧ Dp K H z f := by
  cases h with
  | cons h1 t => obtain ⟨y, z, rfl, h2, h3⟩ := dp_two t; exact ⟨_, _, _, rfl, h1, h2, h3⟩
theorem dp_four {xs : List V} {d e f g : PyData} (h : DpAll K H xs [d, e, f, g]) : ∃ x y z u, xs = [x, y, z, u] ∧ Dp K H x d ∧ Dp K H y e ∧ Dp K H z f ∧ Dp K H u g := by
  cases h with
  | cons h1 t => obtain ⟨y, z, u, rfl, h2, h3, h4⟩ := dp_three t; exact ⟨_, _, _, _, rfl, h1, h2, h3, h4⟩
/-- a colour's tuple -/
theorem col_dp {v : V} {c : Col} (h : Dp K H v (colD c)) : ∃ a, v = .ref a ∧ SqT K H a [.str c.1, .int c.2.1, .int c.2.2.1, .int c.2.2.2] := by
  obtain ⟨a, xs, rfl, hs, ha⟩ := dp_tup h
  obtain ⟨x, y, z, u, rfl, h1, h2, h3, h4⟩ := dp_four ha
  rw [dp_str h1, dp_int h2, dp_int h3, dp_int h4] at hs
  exact ⟨a, rfl, hs⟩
theorem wash_dp {v : V} {r : Wsh} (h : Dp K H v (washD r)) : ∃ a, v = .ref a ∧ SqT K H a [.str r.1, .str r.2.1, optV r.2.2] := by
  obtain ⟨a, xs, rfl, hs, ha⟩ := dp_tup h
  obtain ⟨x, y, z, rfl, h1, h2, h3⟩ := dp_three ha
  rw [dp_str h1, dp_str h2, dp_opt h3] at hs
  exact ⟨a, rfl, hs⟩
/-- a palette in the heap -/
theorem pal_dp {v : V} {cs : List Col} {ws : List Wsh} (h : Dp K H v (palD cs ws)) :
    ∃ p c w xs ys, v = .ref p ∧ SqT K H p [.ref c, .ref w] ∧ SqT K H c xs ∧ DpAll K H xs (cs.map colD) ∧ SqT K H w ys ∧ DpAll K H ys (ws.map washD) := by
  obtain ⟨p, zs, rfl, hp, hz⟩ := dp_tup h
  obtain ⟨x, y, rfl, h1, h2⟩ := dp_two hz
  obtain ⟨c, xs, rfl, hc, hx⟩ := dp_tup h1
  obtain ⟨w, ys, rfl, hw, hy⟩ := dp_tup h2
  exact ⟨p, c, w, xs, ys, rfl, hp, hc, hx, hw, hy⟩
theorem dpAll_map_at {α : Type} {f : α → PyData} {xs : List V} {l : List α} {i : Nat} {x : V} (h : DpAll K H xs (l.map f)) (e : xs[i]? = some x) : ∃ y, l[i]? = some y ∧ Dp K H x (f y) := by
  obtain ⟨d, g, p⟩ := dpAll_at h e
  rw [List.getElem?_map] at g
  obtain ⟨y, hy, rfl⟩ := Option.map_eq_some_iff.mp g
  exact ⟨y, hy, p⟩
theorem dpAll_map_len {α : Type} {f : α → PyData} {xs : List V} {l : List α} (h : DpAll K H xs (l.map f)) : xs.length = l.length := by
  rw [dpAll_len h, List.length_map]
end
theorem decS {a b : Str} : decide (V.str a = V.str b) = decide (a = b) := by
  by_cases h : a = b
  · subst h; rw [decide_eq_true rfl, decide_eq_true rfl]
  · rw [decide_eq_false h, decide_eq_false fun z => h (V.str.inj z)]
/-- behind rows that don't tell -/
theorem washF_skip {a : Option Str} {b : Str} : ∀ {ws : List Wsh} {i : Nat}, (∀ j r, j < i → ws[j]? = some r → ¬ (some r.1 = a ∧ r.2.1 = b)) → washF ws a b = washF (ws.drop i) a b
  | ws, 0, _ => rfl
  | [], i + 1, _ => rfl
  | r :: ws, i + 1, h => by
    show (if some r.1 = a ∧ r.2.1 = b then r.2.2 else washF ws a b) = washF (ws.drop i) a b
    rw [if_neg (h 0 r (Nat.succ_pos _) rfl)]
    exact washF_skip (a := a) (b := b) (ws := ws) (i := i) fun j q hj e => h (j + 1) q (Nat.succ_lt_succ hj) e
theorem washF_at {a : Option Str} {b : Str} {ws : List Wsh} {i : Nat} {r : Wsh} (h : ∀ j r, j < i → ws[j]? = some r → ¬ (some r.1 = a ∧ r.2.1 = b)) (e : ws[i]? = some r) (hr : some r.1 = a ∧ r.2.1 = b) : washF ws a b = r.2.2 := by
  rw [washF_skip h, List.drop_eq_getElem_cons (List.getElem?_eq_some_iff.mp e).1, (List.getElem?_eq_some_iff.mp e).2]
  unfold washF
  rw [if_pos hr]
theorem washF_none {a : Option Str} {b : Str} {ws : List Wsh} (h : ∀ j r, j < ws.length → ws[j]? = some r → ¬ (some r.1 = a ∧ r.2.1 = b)) : washF ws a b = some 0 := by
  rw [washF_skip h, List.drop_length]
  rfl
/-! ### data without lists stays while the law draws -/
def noLAll : List PyData → Prop
  | [] => True
  | x :: xs => noL x ∧ noLAll xs
where noL : PyData → Prop
  | .list _ => False
  | .dict _ => False
  | .tuple xs => noLAll xs
  | _ => True
section
variable {K : PySem.W.Frag}
theorem kp_tup {d c : Addr} {H H' : Hp} {n : Nat} {a : Addr} {xs : List V} (st : StAt H d c n) (k : Kp d c H H') (h : SqT K H a xs) : SqT K H' a xs := by
  obtain ⟨_, ys, t, h1, h2, _⟩ := st
  have go : ∀ o, (H a = some (.tup xs) ∨ H a = some (.frz o (.tup xs))) → a ≠ d ∧ a ≠ c := fun o e => by
    constructor
    · intro z; subst z; rw [h1] at e; rcases e with e | e <;> cases e
    · intro z; subst z; rw [h2] at e; rcases e with e | e <;> cases e
  rcases h with (h | ⟨o, h⟩) | h
  · have g := go ⟨.none, none, .fields #[], #[]⟩ (.inl h); exact .inl (.inl (k _ _ g.1 g.2 h))
  · have g := go o (.inr h); exact .inl (.inr ⟨o, k _ _ g.1 g.2 h⟩)
  · exact .inr h
mutual
theorem dp_kp {d c : Addr} {H H' : Hp} {n : Nat} (st : StAt H d c n) (k : Kp d c H H') : ∀ {v : V} {e : PyData}, noLAll.noL e → Dp K H v e → Dp K H' v e
  | _, _, _, .non => .non
  | _, _, _, .bl b => .bl b
  | _, _, _, .int i => .int i
  | _, _, _, .str x => .str x
  | _, _, h, .lst _ _ => h.elim
  | _, _, h, .tup s a => .tup (kp_tup st k s) (dpAll_kp st k h a)
theorem dpAll_kp {d c : Addr} {H H' : Hp} {n : Nat} (st : StAt H d c n) (k : Kp d c H H') : ∀ {vs : List V} {es : List PyData}, noLAll es → DpAll K H vs es → DpAll K H' vs es
  | _, _, _, .nil => .nil
  | _, _, h, .cons x t => .cons (dp_kp st k h.1 x) (dpAll_kp st k h.2 t)
end
mutual
theorem dp_go {H H' : Hp} (go : ∀ a us, SqT K H a us → SqT K H' a us) : ∀ {v : V} {e : PyData}, noLAll.noL e → Dp K H v e → Dp K H' v e
  | _, _, _, .non => .non
  | _, _, _, .bl b => .bl b
  | _, _, _, .int i => .int i
  | _, _, _, .str x => .str x
  | _, _, h, .lst _ _ => h.elim
  | _, _, h, .tup s a => .tup (go _ _ s) (dpAll_go go h a)
theorem dpAll_go {H H' : Hp} (go : ∀ a us, SqT K H a us → SqT K H' a us) : ∀ {vs : List V} {es : List PyData}, noLAll es → DpAll K H vs es → DpAll K H' vs es
  | _, _, _, .nil => .nil
  | _, _, h, .cons x t => .cons (dp_go go h.1 x) (dpAll_go go h.2 t)
end
theorem noL_map {α : Type} {f : α → PyData} (h : ∀ x, noLAll.noL (f x)) : ∀ l : List α, noLAll (l.map f)
  | [] => trivial
  | x :: r => ⟨h x, noL_map h r⟩
theorem noL_col (c : Col) : noLAll.noL (colD c) := ⟨trivial, trivial, trivial, trivial, trivial⟩
theorem noL_wash (r : Wsh) : noLAll.noL (washD r) := ⟨trivial, trivial, by cases r.2.2 <;> trivial, trivial⟩
theorem noL_pal (cs : List Col) (ws : List Wsh) : noLAll.noL (palD cs ws) := ⟨noL_map noL_col cs, noL_map noL_wash ws, trivial⟩
theorem dpAll_app {H : Hp} : ∀ {xs ys : List V} {ds es : List PyData}, DpAll K H xs ds → DpAll K H ys es → DpAll K H (xs ++ ys) (ds ++ es)
  | _, _, _, _, .nil, h => h
  | _, _, _, _, .cons h t, h2 => .cons h (dpAll_app t h2)
end
/-! ### how long a palette's text may be -/
structure PalOk (cs : List Col) (ws : List Wsh) : Prop where
  nc : cs.length ≤ 20
  nw : ws.length ≤ 60
  cn : ∀ c ∈ cs, c.1.length ≤ 9 ∧ (∀ x ∈ c.1.cps.toList, x < 1114112) ∧ c.2.1.natAbs < 10000 ∧ c.2.2.1.natAbs < 10000 ∧ c.2.2.2.natAbs < 10000
  wn : ∀ r ∈ ws, (r.1.length ≤ 9 ∧ ∀ x ∈ r.1.cps.toList, x < 1114112) ∧ (r.2.1.length ≤ 9 ∧ ∀ x ∈ r.2.1.cps.toList, x < 1114112) ∧ ∀ i, r.2.2 = some i → i.natAbs < 10000
theorem PalOk.addC {cs : List Col} {ws : List Wsh} {c : Col} (h : PalOk cs ws) (n : cs.length < 20) (ok : c.1.length ≤ 9 ∧ (∀ x ∈ c.1.cps.toList, x < 1114112) ∧ c.2.1.natAbs < 10000 ∧ c.2.2.1.natAbs < 10000 ∧ c.2.2.2.natAbs < 10000) : PalOk (cs ++ [c]) ws :=
  ⟨by rw [List.length_append]; exact n, h.nw, fun x hx => (List.mem_append.mp hx).elim (h.cn x) fun z => by rw [List.mem_singleton.mp z]; exact ok, h.wn⟩
theorem PalOk.addW {cs : List Col} {ws : List Wsh} {r : Wsh} (h : PalOk cs ws) (n : ws.length < 60) (ok : (r.1.length ≤ 9 ∧ ∀ x ∈ r.1.cps.toList, x < 1114112) ∧ (r.2.1.length ≤ 9 ∧ ∀ x ∈ r.2.1.cps.toList, x < 1114112) ∧ ∀ i, r.2.2 = some i → i.natAbs < 10000) : PalOk cs (ws ++ [r]) :=
  ⟨h.nc, by rw [List.length_append]; exact n, h.cn, fun x hx => (List.mem_append.mp hx).elim (h.wn x) fun z => by rw [List.mem_singleton.mp z]; exact ok⟩
theorem log_small {i : Int} (h : i.natAbs < 10000) : i.natAbs.log2 < 1920 := by
  by_cases z : i.natAbs = 0
  · rw [z]; decide
  · have := (Nat.log2_lt z).mpr (show i.natAbs < 2 ^ 14 from Nat.lt_of_lt_of_le h (by decide))
    omega
theorem fineAll_map {α : Type} {f : α → PyData} : ∀ {l : List α}, (∀ x ∈ l, fineAll.fine (f x)) → fineAll (l.map f)
  | [], _ => trivial
  | x :: r, h => ⟨h x List.mem_cons_self, fineAll_map fun y hy => h y (List.mem_cons_of_mem _ hy)⟩
theorem costAll_map {α : Type} {f : α → PyData} {b : Nat} : ∀ {l : List α}, (∀ x ∈ l, costAll.cost (f x) ≤ b) → costAll (l.map f) ≤ l.length * (b + 2)
  | [], _ => Nat.zero_le _
  | x :: r, h => by
    have h1 := h x List.mem_cons_self
    have h2 := costAll_map (l := r) fun y hy => h y (List.mem_cons_of_mem _ hy)
    show costAll.cost (f x) + 2 + costAll (r.map f) ≤ (r.length + 1) * (b + 2)
    rw [Nat.succ_mul]
    omega
theorem depthAll_map {α : Type} {f : α → PyData} {b : Nat} : ∀ {l : List α}, (∀ x ∈ l, (f x).depth ≤ b) → PyData.depthAll (l.map f) ≤ b
  | [], _ => Nat.zero_le _
  | x :: r, h => by
    show max (f x).depth (PyData.depthAll (r.map f)) ≤ b
    exact Nat.max_le.mpr ⟨h x List.mem_cons_self, depthAll_map fun y hy => h y (List.mem_cons_of_mem _ hy)⟩
theorem fine_col {c : Col} (h : c.1.length ≤ 9 ∧ (∀ x ∈ c.1.cps.toList, x < 1114112) ∧ c.2.1.natAbs < 10000 ∧ c.2.2.1.natAbs < 10000 ∧ c.2.2.2.natAbs < 10000) : fineAll.fine (colD c) :=
  ⟨fun x hx => Nat.lt_trans (h.2.1 x hx) (by decide), log_small h.2.2.1, log_small h.2.2.2.1, log_small h.2.2.2.2, trivial⟩
theorem fine_opt {o : Option Int} (h : ∀ i, o = some i → i.natAbs < 10000) : fineAll.fine (optD o) := by
  cases o with
  | none => trivial
  | some i => exact log_small (h i rfl)
theorem pal_fine {cs : List Col} {ws : List Wsh} (h : PalOk cs ws) : fineAll.fine (palD cs ws) :=
  ⟨fineAll_map fun c hc => fine_col (h.cn c hc), fineAll_map fun r hr => ⟨fun x hx => Nat.lt_trans ((h.wn r hr).1.2 x hx) (by decide), fun x hx => Nat.lt_trans ((h.wn r hr).2.1.2 x hx) (by decide), fine_opt (h.wn r hr).2.2, trivial⟩, trivial⟩
theorem cost_opt (o : Option Int) : costAll.cost (optD o) ≤ 1921 := by
  cases o with
  | none => decide
  | some i => exact Nat.le_refl _
theorem pal_cost {cs : List Col} {ws : List Wsh} (h : PalOk cs ws) : costAll.cost (palD cs ws) ≤ 1000000 := by
  have h1 : costAll (cs.map colD) ≤ cs.length * (10000 + 2) := costAll_map fun c hc => by
    have := (h.cn c hc).1
    show (10 * c.1.length + 2) + 2 + (1921 + 2 + (1921 + 2 + (1921 + 2 + 0))) + 3 ≤ 10000
    omega
  have h2 : costAll (ws.map washD) ≤ ws.length * (10000 + 2) := costAll_map fun r hr => by
    have a := (h.wn r hr).1.1
    have b := (h.wn r hr).2.1.1
    have c := cost_opt r.2.2
    show (10 * r.1.length + 2) + 2 + ((10 * r.2.1.length + 2) + 2 + (costAll.cost (optD r.2.2) + 2 + 0)) + 3 ≤ 10000
    omega
  have h3 := Nat.mul_le_mul_right 10002 h.nc
  have h4 := Nat.mul_le_mul_right 10002 h.nw
  show (costAll (cs.map colD) + 3) + 2 + ((costAll (ws.map washD) + 3) + 2 + 0) + 3 ≤ 1000000
  omega
theorem depth_opt (o : Option Int) : (optD o).depth = 0 := by cases o <;> rfl
theorem pal_depth (cs : List Col) (ws : List Wsh) : (palD cs ws).depth ≤ 3 := by
  have h1 : PyData.depthAll (cs.map colD) ≤ 1 := depthAll_map fun c _ => by show 1 ≤ 1; decide
  have h2 : PyData.depthAll (ws.map washD) ≤ 1 := depthAll_map fun r _ => by
    show max 0 (max 0 (max (optD r.2.2).depth 0)) + 1 ≤ 1
    rw [depth_opt]
    decide
  show max (PyData.depthAll (cs.map colD) + 1) (max (PyData.depthAll (ws.map washD) + 1) 0) + 1 ≤ 3
  omega
end Pot

namespace Pot
open PySem PySem.Spec PyProof.Rows L2
/-! ### a box of three numbers whose last is at most n -/
def Bq (H : Hp) (b : Addr) (n : Nat) : Prop := ∃ x y z : Int, H b = some (.lst [.int x, .int y, .int z]) ∧ 0 ≤ z ∧ z ≤ n
section
variable {H H' : Hp} {b p : Addr} {n m : Nat} {o : HO}
theorem Bq.bx (B : Bq H b n) : Bx H b := by
  obtain ⟨x, y, z, h, _⟩ := B
  exact ⟨x, y, z, h⟩
theorem Bq.same (B : Bq H b n) (s : Same H H') : Bq H' b n := by
  obtain ⟨x, y, z, h, h2⟩ := B
  exact ⟨x, y, z, s _ _ h, h2⟩
theorem Bq.put (B : Bq H b n) (h : H p = none) : Bq (upd H p o) b n := B.same (same_upd h)
theorem Bq.wr (B : Bq H b n) (h : p ≠ b) : Bq (upd H p o) b n := by
  obtain ⟨x, y, z, e, h2⟩ := B
  exact ⟨x, y, z, by rw [upd_ne h.symm]; exact e, h2⟩
theorem Bq.mono (B : Bq H b n) (h : n ≤ m) : Bq H b m := by
  obtain ⟨x, y, z, e, h1, h2⟩ := B
  exact ⟨x, y, z, e, h1, by omega⟩
theorem Bq.ne (B : Bq H b n) (h : H p = none) : p ≠ b := B.bx.ne h
theorem Live.q (B : Bq H b n) : Live [b] H := Live.one B.bx
end
theorem b01 (k : Bool) : -(2 ^ 64 : Int) < (if k = true then 1 else 0) ∧ (if k = true then 1 else 0) < (2 ^ 64 : Int) := by cases k <;> decide
theorem CDivW.of {i j : Int} (h0 : 0 < j) (h1 : j < 2 ^ 64) : CDivW i j := by
  refine ⟨h0, ?_⟩
  have z : j.natAbs ≠ 0 := by omega
  have := (Nat.log2_lt z).mpr (show j.natAbs < 2 ^ 64 by omega)
  omega
mutual
theorem gd_lay {m : Nat} : ∀ d : PyData, gd m d → d.canLay0 = true
  | .none, _ => rfl
  | .bool _, _ => rfl
  | .int _, _ => rfl
  | .str x, g => by
    show x.cps.all (fun c => decide (c < 0x110000)) = true
    rw [← Array.all_toList, List.all_eq_true]
    exact fun c hc => decide_eq_true (g.2 c hc)
  | .list xs, g => gdAll_lay xs g
  | .tuple xs, g => gdAll_lay xs g
  | .dict _, g => g.elim
theorem gdAll_lay {m : Nat} : ∀ ds : List PyData, gdAll m ds → PyData.canLayAll0 ds = true
  | [], _ => rfl
  | x :: xs, g => by
    show (x.canLay0 && PyData.canLayAll0 xs) = true
    rw [gd_lay x g.1, gdAll_lay xs g.2]; rfl
end
theorem Th.shaped {m C D W : Nat} {d : PyData} (h : Th m C D W d) (hD : D ≤ 64) : SeqAt.shaped d = true := by
  unfold SeqAt.shaped
  rw [gd_lay d h.g, decide_eq_true (Nat.le_trans h.d hD)]; rfl
theorem gd_shaped {m : Nat} {d : PyData} (h : gd m d) (hD : d.depth ≤ 64) : SeqAt.shaped d = true := by
  unfold SeqAt.shaped
  rw [gd_lay d h, decide_eq_true hD]; rfl
end Pot

set_option maxHeartbeats 2000000
namespace RLam
open PySem PySem.Spec PyProof.Rows L2 PySem.Calls
/-! ### a lambda with one value by place, its answer the first part of a row of a captured list, turned -/
section
variable {prog : Program} {w : World} {B : Around} {s : Shared}
theorem ld_captured {E : Value → Shared → Prop} {env : Env} {o : Str} {co : Addr} {v : Value} {Q : Value → Shared → Prop} {p : Pos} (hk : env.scope.kind = .function) (hl : env.kindOf o = some .free) (hc : env.cells.lookup o = some co) (hv : s.heap.IsCell co (some v))
    (h : Q v s) (hd : (o == ("__debug__" : Str)) = false) (hcd : (o == ("__classdict__" : Str)) = false) : wpAny (model prog w) B (eval (.Name o p) env) Q E s :=
  wpAny_Name (wpAny_loadName_free hk hl hc hv h hcd) hd
theorem ld_own {E : Value → Shared → Prop} {env : Env} {o : Str} {m : Str → Option Value} {v : Value} {Q : Value → Shared → Prop} {p : Pos} (hk : env.scope.kind = .function) (hl : env.kindOf o = some .local) (hn : s.heap.Ns env.locals m) (hv : m o = some v)
    (h : Q v s) (hd : (o == ("__debug__" : Str)) = false) : wpAny (model prog w) B (eval (.Name o p) env) Q E s :=
  wpAny_Name (wpAny_loadName_local hk hl hn hv h) hd
theorem turn_neg {f c' co L tp : Addr} {q o n : Str} {params : Arguments} {scope : Scope} {cl : List (Str × Addr)} {pm ctv : Value} {its us : List Value} {i : Nat} {t0 t1 : Tok} {r : Int} {p1 p2 p3 p4 p5 p6 : Pos} {j : Nat}
    (hf : s.heap.get? f = some (PySem.W.kla_obj "<lambda>" q params (.UnaryOp .USub (.Subscript (.Subscript (.Name o p1) (.Name n p2) p3) (.Constant (.int 0) j p4) p5) p6) scope cl pm c' ctv))
    (hcd : ∃ (oc : Obj) (vs : Array Value) (t : Tok), s.heap.get? c' = some oc ∧ oc.data = .fields vs ∧ vs[1]? = some (.str q t))
    (hroom : B.depth < recursionLimit) (lim : s.heap.NoLimit) (hco : scope.isCoroutine = false) (hge : scope.isGenerator = false) (hk : scope.kind = .function) (hnc : ∀ x ∈ scope.names, x.2 ≠ .cell)
    (hn : scope.names.lookup n = some .local) (ho : scope.names.lookup o = some .free)
    (hbind : ∀ (u v : Value), bindArgs (PySem.W.kla_fn "<lambda>" q params (.UnaryOp .USub (.Subscript (.Subscript (.Name o p1) (.Name n p2) p3) (.Constant (.int 0) j p4) p5) p6) scope cl pm u ctv) ⟨[v], []⟩ = pure [(n, v)])
    (hcl : cl.lookup o = some co) (hcell : s.heap.IsCell co (some (.ref L))) (hL : s.heap.IsList L its.toArray) (hi : its[i]? = some (.ref tp)) (hi63 : i < 2 ^ 63) (hT : IsTup s.heap tp us.toArray) (hu : us[0]? = some (.int r t1)) (hus : us.length < 2 ^ 63)
    (hd1 : (o == ("__debug__" : Str)) = false := by decide) (hd2 : (o == ("__classdict__" : Str)) = false := by decide) (hd3 : (n == ("__debug__" : Str)) = false := by decide) :
    wpAny (model prog w) B (call (.ref f) [.int (i : Int) t0]) (PySem.W.KeyPure (.int (-r)) s) (fun _ _ => False) s := by
  refine wpAny_call (PySem.W.kla_callFunE hroom hf rfl hco hge rfl ?_ ?_)
  · obtain ⟨oc, vs, t, a, b, c⟩ := hcd
    exact ⟨c', oc, vs, t, rfl, a, b, c⟩
  rw [hbind]
  refine wpAny_pure (wpAny_newFunctionEnv hnc (fun y hy => ?_) (fun h₁ hns hsb => ⟨lim.fresh _ hsb, ?_⟩) hk)
  · rw [List.mem_singleton] at hy
    rw [hy]
    exact hn
  have kp : ∀ b o, s.heap.get? b = some o → h₁.get? b = some o := fun b o e => hsb.extBut b o (Nat.ne_of_lt (Heap.lt_size e)) (Heap.get?_push_of_some _ e)
  have hcell' : h₁.IsCell co (some (.ref L)) := by
    obtain ⟨oc, e1, e2⟩ := hcell
    exact ⟨oc, kp _ _ e1, e2⟩
  have hL' : h₁.IsList L its.toArray := by
    obtain ⟨oc, e1, e2⟩ := hL
    exact ⟨oc, kp _ _ e1, e2⟩
  have hT' : IsTup h₁ tp us.toArray := hT.keeps kp
  refine PySem.W.kla_codeExpr ?_
  refine UnaryOp_ (Subscript_ (Subscript_ (ld_captured hk ho hcl hcell' (ld_own (v := .int (i : Int) t0) hk hn hns ?_ ?_ hd3) hd1 hd2)))
  · show ([(n, Value.int (i : Int) t0)] : List (Str × Value)).reverse.lookup n = _
    simp [List.lookup]
  · have l63 := line63
    refine item_listR (x := .ref tp) hL' (by omega) (by omega) (by simpa using hi) ?_ (by with_unfolding_all rfl)
    refine wpAny_Constant_int ?_
    refine subscriptTail_builtinR (x := .int r t1) hT'.typeIs slot_tuple_getitem.lookup (getItem_tuple (j := 0) (x := .int r t1) (Q := fun u s' => u = .int r t1 ∧ _) hT' (by omega) (by omega) ?_ ?_ ⟨rfl, ?_⟩) (by with_unfolding_all rfl)
    · rw [List.size_toArray]
      have hz : 0 < us.length := (List.getElem?_eq_some_iff.mp hu).1
      exact seqIndex_of (by omega) (by omega)
    · simpa using hu
    · exact neg_int ⟨_, _, rfl, fun b o e => kp b o e, .int _ _⟩
end

/-! ### lists of values -/
theorem each_of {β : Type} {f : β → V} : ∀ {bs : List β} {us : List Value}, Vals (bs.map f) us → PySem.W.EachIs (fun u b => RelV (f b) u) us bs
  | [], _, r => by
    cases r
    exact .nil
  | b :: bs, _, r => by
    cases r with
    | cons a r => exact .cons a (each_of r)
theorem of_each {β : Type} {f : β → V} : ∀ {bs : List β} {us : List Value}, PySem.W.EachIs (fun u b => RelV (f b) u) us bs → Vals (bs.map f) us
  | _, _, .nil => .nil
  | _, _, .cons a r => .cons a (of_each r)
theorem sqL_ext {K : PySem.W.Frag} {H H' : Hp} {a : Addr} {xs : List V} (h : SqL K H a xs) (e : LamX.ExtN H H') : SqL K H' a xs := by
  rcases h with (h | ⟨o, h⟩) | h
  · exact .inl (.inl (e _ _ h fun ps z => by cases z))
  · exact .inl (.inr ⟨o, e _ _ h fun ps z => by cases z⟩)
  · exact .inr h
theorem sqT_ext {K : PySem.W.Frag} {H H' : Hp} {a : Addr} {xs : List V} (h : SqT K H a xs) (e : LamX.ExtN H H') : SqT K H' a xs := by
  rcases h with (h | ⟨o, h⟩) | h
  · exact .inl (.inl (e _ _ h fun ps z => by cases z))
  · exact .inl (.inr ⟨o, e _ _ h fun ps z => by cases z⟩)
  · exact .inr h
/-- the names of a lambda with the parameter n that reads o -/
structure LamN (sc scope : Scope) (n o : Str) : Prop where
  kind : scope.kind = .function
  co : scope.isCoroutine = false
  gen : scope.isGenerator = false
  cells : ∀ x ∈ scope.names, x.2 ≠ .cell
  par : scope.names.lookup n = some .local
  free : scope.names.lookup o = some .free
  up : ∀ y ∈ scope.names, y.2 = .free → sc.names.lookup y.1 = some .cell ∨ sc.names.lookup y.1 = some .free
theorem cr_range1 {X : Cx} : CallR X (.type "range") (fun vs H Q => ∃ i, vs = [V.int i] ∧ ∀ p, H p = none → Q (.ref p) (upd H p (.rng 0 i))) := by
  intro pins s σ H vs us Q I r h
  obtain ⟨i, rfl, q⟩ := h
  obtain ⟨u1, rfl, ri⟩ := vals1 r
  obtain ⟨t, rfl⟩ := ri
  refine call_range_1 ⟨.ref s.heap.objs.size, upd H s.heap.objs.size (.rng 0 i), I.laid (t' := s.toks + 2) (fun b o e => Heap.get?_push_of_some _ e) (Nat.le_refl _) ?_, rfl, q _ (I.hok.fresh (Nat.le_refl _))⟩
  exact ⟨_, _, _, Heap.get?_push_size _ rfl⟩
/-- sorted(range(m), key=lambda n: -o[n][0]) -/
def tSortLam (K : PySem.W.Frag) (T : List (Addr × Str)) (io : Nat) (ta : TA) : TE := fun σ H Q => ta σ H fun vs H1 => ∃ (p L : Addr) (m : Nat) (xs : List V) (rk : Nat → Int), vs = [V.ref p] ∧ H1 p = some (.rng 0 (m : Int)) ∧ m ≤ 2 ^ 24 ∧ LamX.Tabs T H1 ∧
  σ[io]? = some (some (.ref L)) ∧ SqL K H1 L xs ∧ (∀ i, i < m → ∃ (tp : Addr) (us : List V), xs[i]? = some (.ref tp) ∧ SqT K H1 tp us ∧ us[0]? = some (.int (rk i))) ∧
  ∀ H2, LamX.ExtN H1 H2 → LamX.Tabs T H2 → ∀ q, H2 q = none → Q (.ref q) (upd H2 q (.lst (((List.range m).mergeSort fun i j => decide (-rk i ≤ -rk j)).map fun i : Nat => V.int (i : Int))))
section
variable {X : Cx} {k : Nat} {T : List (Addr × Str)} {io : Nat} {ta : TA} {e : Expr} {n o : Str} {c P : Addr} {params : Arguments} {scope : Scope} {p kpos lpos pos p1 p2 p3 p4 p5 p6 : Pos} {j : Nat}
theorem pe_sortLam (hc : X.calm = true) (hg : Gl X "sorted") (hm : X.mg "sorted" = none) (ha : PA X [e] ta) (TB : LamX.TabB X.base X.mg c P) (hcode : X.env.code = .ref c) (hmT : (P, X.env.qual ++ "<lambda>") ∈ T) (hu : ∀ p ∈ T, p.1 = P → p.2 = X.env.qual ++ "<lambda>")
    (hr : Room (k + 1) X.A) (L : LamN X.env.scope scope n o) (hN : X.N[io]? = some o) (hdef : defaultsOf params X.env = ([], []))
    (hbind : ∀ (q : Str) (cl : List (Str × Addr)) (pm ctv u v : Value), bindArgs (PySem.W.kla_fn "<lambda>" q params (.UnaryOp .USub (.Subscript (.Subscript (.Name o p1) (.Name n p2) p3) (.Constant (.int 0) j p4) p5) p6) scope cl pm u ctv) ⟨[v], []⟩ = pure [(n, v)])
    (hd1 : (o == ("__debug__" : Str)) = false := by decide) (hd2 : (o == ("__classdict__" : Str)) = false := by decide) (hd3 : (n == ("__debug__" : Str)) = false := by decide)
    (he : backTo pos (starEach [e] X.env) = (false, eval e X.env) :: backTo pos (starEach [] X.env) := by rfl) (hpl : (backTo pos (starEach [e] X.env)).any (·.1) = false := by rfl) :
    PE X (.Call (.Name "sorted" p) [e] [⟨some "key", .Lambda params (.UnaryOp .USub (.Subscript (.Subscript (.Name o p1) (.Name n p2) p3) (.Constant (.int 0) j p4) p5) p6) scope lpos, kpos⟩] pos) (tSortLam X.K T io ta) := by
  refine ⟨fun pins s σ H Q I h => ?_⟩
  refine wpAny_Call_Name_kw (ld_blt I hg hm (by rfl) ?_)
  refine PyProof.Rows.callWith_kw (thn (ha.run pos pins s σ H _ I h) fun us s1 ⟨vs, H1, I1, r1, q1⟩ => ?_) he hpl (by rfl) (by rfl)
  obtain ⟨pr, La, m, xs, rk, rfl, hpr, hm24, hT, hσ, hL, hrow, q⟩ := q1
  obtain rfl := Vals.ref1 r1
  have hfree : ∀ y ∈ scope.names, y.2 = .free → ∃ c, X.env.cells.lookup y.1 = some c := fun y hy e => by
    rcases L.up y hy e with k | k
    · exact I1.ok.has _ (.inl k)
    · exact I1.ok.has _ (.inr k)
  show wpAny _ _ (evalAll [do let v ← eval _ X.env; standAt pos; pure v]) _ _ s1
  refine wpAny_evalAll_cons (wpAny_bind (LamX.lam_make2 I1 TB hcode hmT hu hT hdef hfree fun f c' pm ctv H2 s2 I2 eN T2 hf hfn hfr hco => wpAny_bind (wpAny_standAt (wpAny_pure (wpAny_evalAll_nil ?_)))))
  show wpAny _ _ (call (.builtin "sorted") [.ref pr] [(Str.ofString "key", .ref f)]) _ _ _
  obtain ⟨tr, tr2, tr3, hrg⟩ := I2.hok pr _ (eN _ _ hpr fun ps z => by cases z)
  obtain ⟨⟨oc, vsc, tc, hoc, hdc, hvc⟩, _, _⟩ := I2.hok c' _ hco
  obtain ⟨its, rv, pl, hz⟩ := I2.list (sqL_ext hL eN)
  have hup := L.up (o, .free) (PySem.mem_of_lookup L.free) rfl
  obtain ⟨mm, hns, hlk⟩ := I2.loc
  obtain ⟨u0, ru0, hlook⟩ := hlk io o (.ref La) hN hσ (hup.elim (fun z => .inr (.inl z)) (fun z => .inr (.inr z)))
  obtain rfl : u0 = Value.ref La := ru0
  obtain ⟨co, hcc, hcell⟩ : ∃ co, X.env.cells.lookup o = some co ∧ s2.heap.IsCell co (some (.ref La)) := by
    rcases hlook with ⟨z, _⟩ | ⟨_, z⟩
    · have z : X.env.scope.names.lookup o = some .local := z
      rcases hup with y | y <;> rw [show X.env.scope.names.lookup o = _ from y] at z <;> cases z
    · exact z
  have hcl : (cloFrom X.env.cells scope.names []).lookup o = some co := by
    obtain ⟨c1, e1⟩ := mem_lookup (cloFrom_has (cells := X.env.cells) (acc := []) (PySem.mem_of_lookup L.free))
    rcases cloFrom_mem (PySem.mem_of_lookup e1) with hm | ⟨h1, h2⟩
    · cases hm
    · rw [e1, h2, hcc]
      rfl
  have lim2 := I2.nolimit
  refine PyProof.Rows.call_function_entry_kw PyProof.Rows.kind_sorted PyProof.Rows.plain_sorted PyProof.Rows.entry_sorted (PyProof.Rows.ksk_s1 _ _) ?_
  unfold Builtin.«sorted»
  refine wpAny_bind (m := checkCount "sorted" 1 1 _) (wpAny_pure ?_)
  refine wpAny_bind (L2.collect_range (A := X.A.in1) (a := 0) (b := (m : Int)) (c := 1) (n := m) (I2.ok.hd hc) hrg (small_one (by omega) (by omega) (by omega) (by omega)) (by have e := rangeSize_nat 0 (m : Int); rw [e]; omega) hm24 fun h' tk acc hk hacc => ?_)
  have I3 : Inv X pins σ H2 { s2 with heap := h', toks := tk } := I2.kept hk
  have hal : acc.toList.length = m := by rw [Array.length_toList]; exact hacc.1
  refine wpAny_bind (wpAny_newList ?_ (by rw [hal, sizeLine_eq]; omega))
  have hoL : (h'.push (seqObj "list" acc.toList.toArray 0)).get? h'.objs.size = some (seqObj "list" acc.toList.toArray 0) := Heap.get?_push_size _ rfl
  show wpAny _ _ _ _ _ { s2 with heap := h'.push (seqObj "list" acc.toList.toArray 0), toks := tk }
  have hE : PySem.W.EachIs (fun (u : Value) (i : Nat) => RelV (V.int (i : Int)) u) acc.toList (List.range m) := by
    refine each_of ?_
    rw [← hal]
    refine vals_of_get acc.toList _ fun j u hj => ?_
    obtain ⟨t, rfl⟩ := hacc.2 j u (by rw [← hj, Array.getElem?_toList])
    exact ⟨t, by rw [Int.mul_one, Int.zero_add]⟩
  have old : ∀ b o, s2.heap.get? b = some o → b ≠ h'.objs.size ∧ (h'.push (seqObj "list" acc.toList.toArray 0)).get? b = some o := fun b o e => ⟨Nat.ne_of_lt (Heap.lt_size (hk b o e)), Heap.get?_push_of_some _ (hk b o e)⟩
  refine wpAny_bind (wpAny_holding (PySem.W.list_sort_key_data (b := false) (s := { s2 with heap := h'.push (seqObj "list" acc.toList.toArray 0), toks := tk }) (fun i : Nat => PyData.int (-rk i)) hoL hE (PySem.W.AllAlike.of fun _ _ => rfl) (PySem.W.Sortable.others fun b => ⟨fun z => (nomatch z), fun xs z => (nomatch z)⟩) (by rw [List.length_range, sizeLine_eq]; omega)
    (fun x _ => ?_) (PyProof.Rows.ksk_l1 _ _) (PyProof.Rows.ksk_t1 _ _) (fun v i hv hi hh tk2 kp => ?_) fun out cc hh tk2 kp hD hlen eo => ?_))
  · have := hr.un
    show X.A.units + 1 + 1 + 0 < _
    omega
  · obtain ⟨t0, rfl⟩ := hv
    have hi' : i < m := List.mem_range.mp hi
    obtain ⟨tp, us, hx, hS, hu0⟩ := hrow i hi'
    have kp2 : ∀ b o, s2.heap.get? b = some o → hh.get? b = some o := fun b o e => kp b o (old b o e).1 (old b o e).2
    obtain ⟨w1, ew, rw1⟩ := rv.get hx
    obtain rfl : w1 = Value.ref tp := rw1
    obtain ⟨us', rv', pl', hz'⟩ := I2.tuple (sqT_ext hS eN)
    obtain ⟨w2, ew2, rw2⟩ := rv'.get hu0
    obtain ⟨t3, rfl⟩ := rw2
    have l63 := line63
    have hpL : hh.IsList La its.toArray := by
      obtain ⟨oc, e1, e2⟩ := pl.isList
      exact ⟨oc, kp2 _ _ e1, e2⟩
    have hpC : hh.IsCell co (some (.ref La)) := by
      obtain ⟨oc, e1, e2⟩ := hcell
      exact ⟨oc, kp2 _ _ e1, e2⟩
    exact turn_neg (s := { s2 with heap := hh, toks := tk2 }) (kp2 _ _ hf) ⟨oc, vsc, tc, kp2 _ _ hoc, hdc, hvc⟩ hr.depth (lim2.keeps kp2) L.co L.gen L.kind L.cells L.par L.free (fun u v => hbind _ _ _ _ _ _) hcl hpC hpL ew (by omega) (pl'.keeps kp2) ew2 (by have := rv'.length; omega) hd1 hd2 hd3
  · rw [PySem.W.dataLe_int] at eo
    have hE2 : Vals (((List.range m).mergeSort fun i j => decide (-rk i ≤ -rk j)).map fun i : Nat => V.int (i : Int)) out := of_each eo
    refine wpAny_pure ⟨_, rfl, .ref h'.objs.size, upd H2 h'.objs.size (.lst _), I3.laid (t' := tk2) (fun b u e => ?_) (Nat.le_refl _) ⟨?_, out, cc, hE2, hD⟩, rfl, q H2 eN T2 _ (I3.hok.fresh (Nat.le_refl _))⟩
    · exact kp b u (Nat.ne_of_lt (Heap.lt_size e)) (Heap.get?_push_of_some _ e)
    · rw [List.length_map, List.length_mergeSort, List.length_range, sizeLine_eq]
      omega
end
end RLam

namespace Pot
open PySem PySem.Spec PyProof.Rows L2
section
variable {X : Cx} {K : PySem.W.Frag}
/-- len of a set of ints -/
def rLenSet (w : World) : List V → Hp → VK → Prop := fun xs H Q => ∃ (a : Addr) (S : Int → Bool) (n : Nat), xs = [V.ref a] ∧ H a = some (SetO w a S n) ∧ Q (.int n) H
theorem cr_lenSet : CallR X (.builtin "len") (rLenSet X.w) := by
  intro pins s σ H vs us Q I r h
  obtain ⟨a, S, n, rfl, ha, q⟩ := h
  rw [Vals.ref1 r]
  obtain ⟨o, es, ep, t, ho, hex, hd, _, _, _, hb, hf, rfl, _⟩ := setO_get I ha
  exact PySem.call_len_set ho hex hd hf (by unfold scanBound at hb; omega) ⟨.int _, H, I.tok _, ⟨_, rfl⟩, q⟩
theorem kc_lenSet {w : World} (hw : X.w = w := by rfl) : CallR X (.builtin "len") (rLenSet w) := by subst hw; exact cr_lenSet
/-- repr of any data -/
def rReprA (K : PySem.W.Frag) : List V → Hp → VK → Prop := fun xs H Q => ∃ (x : V) (d : PyData), xs = [x] ∧ Dp K H x d ∧ fineAll.fine d ∧ d.depth ≤ 60 ∧ costAll.cost d ≤ 16777216 ∧ Q (.str d.shown) H
theorem cr_reprA (gd : X.A.guards = some []) (hu : X.A.units + 64 < cLine) : CallR X (.builtin "repr") (rReprA X.K) := by
  intro pins s σ H vs us Q I r h
  obtain ⟨x, d, rfl, dp, sh, dep, sz, q⟩ := h
  obtain ⟨u, rfl, rx⟩ := vals1 r
  have sz2 := Nat.le_trans (shown_len d sh) (by rw [sizeLine_eq]; exact sz : costAll.cost d ≤ sizeLine)
  cases x with
  | ref a =>
    cases rx
    obtain ⟨as, rd⟩ := Dp.reads I d (.ref a) (.ref a) dp rfl
    refine repr_of_reads' rd (fine_show d sh) (fun z => ?_) gd (by omega) (fun _ _ e => e) (fun h' u tk k => ⟨.str d.shown, H, I.kept k, ⟨u, rfl⟩, q⟩) sz2
    rw [dp_noDict dp] at z
    cases z
  | int i =>
    cases dp
    obtain ⟨t, rfl⟩ := rx
    exact PySem.P.repr_of_int sh ⟨.str _, H, I.tok _, ⟨_, rfl⟩, q⟩
  | str z =>
    cases dp
    obtain ⟨t, rfl⟩ := rx
    exact PySem.P.repr_of_str ⟨.str _, H, I.tok _, ⟨_, rfl⟩, q⟩ sz2
  | bl b =>
    cases dp
    cases rx
    refine PySem.P.repr_of_bool ⟨.str _, H, I.tok _, ⟨_, rfl⟩, ?_⟩
    exact q
  | non =>
    cases dp
    cases rx
    exact PySem.P.repr_of_none ⟨.str _, H, I.tok _, ⟨_, rfl⟩, q⟩
  | _ => cases dp
theorem kc_reprA (gd : X.A.guards = some []) (hu : X.A.units + 64 < cLine) (h : X.K = K := by rfl) : CallR X (.builtin "repr") (rReprA K) := h ▸ cr_reprA gd hu
end
theorem short_of {α : Type} [DecidableEq α] : ∀ {ns : List α}, ¬ ns.Nodup → ∃ ns' : List α, ns'.length < ns.length ∧ ∀ k ∈ ns, k ∈ ns'
  | [], h => (h List.nodup_nil).elim
  | x :: ns, h => by
    by_cases hx : x ∈ ns
    · exact ⟨ns, by simp, fun k hk => by
        rcases List.mem_cons.mp hk with e | e
        · rw [e]; exact hx
        · exact e⟩
    · obtain ⟨ns', l, s⟩ := short_of (ns := ns) fun hn => h (List.nodup_cons.mpr ⟨hx, hn⟩)
      exact ⟨x :: ns', by simp only [List.length_cons]; omega, fun k hk => by
        rcases List.mem_cons.mp hk with e | e
        · rw [e]; exact List.mem_cons_self
        · exact List.mem_cons_of_mem _ (s k e)⟩
theorem set_count {ks ns : List Int} (hk : ks.Nodup) (h : ∀ k, k ∈ ks ↔ k ∈ ns) : ks.length ≤ ns.length ∧ (ks.length = ns.length ↔ ns.Nodup) := by
  have le := nodup_le hk fun k x => (h k).mp x
  refine ⟨le, fun e => ?_, fun hn => Nat.le_antisymm le (nodup_le hn fun k x => (h k).mpr x)⟩
  by_cases hn : ns.Nodup
  · exact hn
  · obtain ⟨ns', l, s⟩ := short_of hn
    have := nodup_le hk fun k x => s k ((h k).mp x)
    omega
end Pot

namespace Pot
open PySem PySem.Spec PyProof.Rows L2
section
variable {X : Cx} {K : PySem.W.Frag}
theorem ko_inD (hu : X.A.units + 65 < cLine) (h : X.K = K := by rfl) : OpR X (compareOp .In) (rInD K) := h ▸ op_inD hu
theorem ko_notInD (hu : X.A.units + 65 < cLine) (h : X.K = K := by rfl) : OpR X (compareOp .NotIn) (rNotInD K) := h ▸ op_notInD hu
/-- a text thrice -/
def rRep3 : R2 := fun x y H Q => ∃ z : Str, x = .str z ∧ y = .int 3 ∧ z.length ≤ 100000 ∧ ∀ z' : Str, z'.length ≤ 3 * z.length → (∀ c ∈ z'.cps.toList, c ∈ z.cps.toList) → Q (.str z') H
theorem mul3_len (z : Str) : (Txt.mul z 3).length ≤ 3 * z.length ∧ ∀ c ∈ (Txt.mul z 3).cps.toList, c ∈ z.cps.toList := by
  unfold Txt.mul
  rw [if_neg (show ¬ (3 : Int) < 1 by decide)]
  split
  · exact ⟨by omega, fun c h => h⟩
  · constructor
    · show Array.size _ ≤ _
      simp [List.replicate]
      show z.cps.size + (z.cps.size + z.cps.size) ≤ 3 * z.cps.size
      omega
    · intro c h
      simp [List.replicate] at h
      simpa using h
theorem op_rep3 : OpR X (binaryOp .Mult) rRep3 := by
  intro pins sh sg H xv yv v1 u1 Q I r1 r2 h
  obtain ⟨z, rfl, rfl, hz, q⟩ := h
  obtain ⟨tk1, rfl⟩ := r1
  obtain ⟨tk2, rfl⟩ := r2
  have m3 := mul3_len z
  refine SB.mul ⟨by decide, fun _ _ hh => ?_, fun _ _ => ?_⟩ (fun tt kk => ⟨.str (Txt.mul z 3), H, I.tok _, ⟨_, rfl⟩, q _ m3.1 m3.2⟩)
  · have : ((2 : Int) ^ 63 - 1) / 3 = 3074457345618258602 := by decide
    omega
  · have e : (3 : Int).toNat = 3 := rfl
    rw [e]
    show decide _ = false
    refine decide_eq_false ?_
    have := sizeLine_eq
    omega
end
end Pot

namespace Pot
open PySem PySem.Spec PyProof.Rows L2
open Sem (wp)
/-! ### enumerate of a list or a tuple -/
set_option maxHeartbeats 1000000 in
theorem en_new {v : Value} {ob : Obj} {Ok : Heap → Prop} (B : Begins v ob Ok) :
    Meets (Builtin.«enumerate.__new__» ⟨[.type "enumerate", v], []⟩) (fun _ R s => Ok s.heap ∧ R (.ok (.ret (.ref (s.heap.push ob).objs.size))) { s with heap := (s.heap.push ob).push { cls := .type "enumerate", data := .fields #[.none, .bool false, .ref s.heap.objs.size, rawInt 0, .none, .none] } }) :=
  .of_wp fun prog w A R st hst => by
    obtain ⟨hp, gl, dd, tt, oo⟩ := st; obtain ⟨ok1, fin⟩ := hst; have isub := sub_enumerate
    have go : ∀ {A1 : Around} {E1 : Value → Shared → Prop} {Q1 : Value → Shared → Prop}, Q1 (.ref hp.objs.size) ⟨hp.push ob, gl, dd, tt, oo⟩ → wpAny (model prog w) A1 (pyIter v) Q1 E1 ⟨hp, gl, dd, tt, oo⟩ := fun z => B.iter prog w _ _ ⟨hp, gl, dd, tt, oo⟩ _ ok1 z
    wp_walk using go
    refine wpAny_stack_any fun stk => wpAny_pure ?_
    split
    · rename_i cc _ _ _ _ _; cases (cc == Value.type "enumerate") <;> (wp_walk using go; exact ⟨_, rfl, fin⟩)
    · wp_walk using go; exact ⟨_, rfl, fin⟩
/-- some untracked cells written, nothing new -/
theorem inv_ch {X : Cx} {pins : List (Addr × Obj)} {σ : L2.St} {H : Hp} {s : Shared} {h2 : Heap} {tk : Nat} {ch : List Addr} (I : Inv X pins σ H s) (kp : ∀ b o, b ∉ ch → s.heap.get? b = some o → h2.get? b = some o) (fo : ∀ b ∈ ch, FpOk X pins H b) :
    Inv X pins σ H { s with heap := h2, toks := tk } := by
  have out : ∀ c u, H c = some u → c ∉ ch := fun c u e z => by have := (fo c z).1; rw [this] at e; cases e
  refine I.step (g' := s.gens) (d' := s.drawn) (ch := ch) (fun c hc => let ⟨_, a2, _, a4, a5, a6⟩ := fo c hc; ⟨a4, a2, a5, a6⟩) (fun c o _ _ n e _ => kp c o n e) (fun c o _ _ n e _ => ⟨o.slots, kp c o n e⟩) (fun _ _ _ _ z => z) (fun c o n e => ⟨o, kp c o n e⟩) (fun _ _ z => z) (fun _ _ _ z => z) (fun c ps e => ⟨#[], by rw [e]; simp⟩) (fun mm hm => ?_) (fun c u e => ?_) I.bare
  · obtain ⟨o, e1, e2, ho, rest⟩ := hm; exact ⟨o, e1, e2, kp _ o (fun z => (fo _ z).2.1 rfl) ho, rest⟩
  · refine (I.hok c u e).stay (fun c2 v hc q => kp c2 v ?_ q) (fun _ z => z) fun _ _ z => z
    rcases hc with z | z
    · rw [z]; exact out c u e
    · exact out c2 _ z
def ItT (K : PySem.W.Frag) (a : Addr) : It :=
  ⟨fun i H => ∃ (xs : List V) (x : V), SqT K H a xs ∧ xs[i]? = some x, fun i H v H' => ∃ T x, v = .ref T ∧ H T = none ∧ H' = upd H T (.tup [.int (i : Nat), x]) ∧ ∀ xs, SqT K H a xs → xs[i]? = some x, fun i H => ∃ xs : List V, SqT K H a xs ∧ xs.length ≤ i⟩
/-- an iterator of a tuple that has come to its end -/
theorem drawsEnd {prog : Program} {w : World} {A : Around} (hh : A.handled = none) (it t : Addr) (items : Array Value) (i : Nat) (hi : items[i]? = none) :
    Draws prog w A it [it, t] i (fun _ _ => False) (fun j h => j = i ∧ h.IsTupleIter it t j ∧ h.IsTuple t items) where
  live := fun _ _ st => let ⟨o, ho, _⟩ := st.2.1; ⟨o, ho⟩
  frame := fun _ _ _ st hk => ⟨st.1, st.2.1.at fun o e => hk it (by simp) o e, st.2.2.at fun o e => hk t (by simp) o e⟩
  item := fun j _ _ _ hj st _ => absurd st.1 (Nat.ne_of_lt hj)
  done := fun s Q E st hE => wpAny_nextOf_tuple_end hh st.2.1 st.2.2 hi hE
theorem turn_enT {P : Program} {w : World} {K : PySem.W.Frag} {elts : List Expr} {kk : Nat} {tpos : Pos} (a e it : Addr) (ne1 : e ≠ it) :
    Turn P w K (.Tuple elts kk tpos) (ItT K a) [e, it] e (fun i h => (∃ old, IsEnum h e it (0 + ((i : Nat) : Int)) old) ∧ h.IsTupleIter it a i) where
  mem := by simp
  obj := fun i h st b hb => by
    obtain ⟨⟨old, he⟩, ⟨o, ho, hc, hd⟩⟩ := st
    rcases List.mem_cons.mp hb with z | z
    · rw [z]; exact ⟨_, he, fun v q => nomatch q⟩
    · rw [List.mem_singleton.mp z]; exact ⟨o, ho, fun v q => by rw [hd] at q; cases q⟩
  keep := fun i h h' st k => let ⟨⟨old, he⟩, hi⟩ := st; ⟨⟨old, k e (by simp) _ he⟩, hi.at fun o q => k it (by simp) o q⟩
  item := by
    intro X q1 q2 q3 hc i pins s σ H E I hf st hg; subst q1 q2 q3
    obtain ⟨⟨old, he⟩, hit⟩ := st
    obtain ⟨xs, x, hq, hx⟩ := hg
    obtain ⟨its, vals_, p, _⟩ := I.tuple hq
    obtain ⟨u, hu, ru⟩ := vals_.get hx
    have at_ : its.toArray[i]? = some u := by simpa using hu
    have hlt : i < its.toArray.size := (Array.getElem?_eq_some_iff.mp at_).1
    have nt : ∀ b ∈ [e, it], a ≠ b := fun b hb z => by
      obtain ⟨o, ho, cl, _⟩ := p
      rcases List.mem_cons.mp hb with y | y
      · rw [z, y] at ho
        rw [show s.heap.get? e = _ from he] at ho; cases ho; injection cl with cl; exact absurd cl (by decide)
      · rw [z, List.mem_singleton.mp y] at ho
        obtain ⟨o2, ho2, cl2, _⟩ := hit
        rw [ho2] at ho; cases ho
        rw [cl2] at cl; injection cl with cl; exact absurd cl (by decide)
    have G := GoesN.enumFrom (elts := elts) (x1 := kk) (pos := tpos) 0 (Draws.tuple (prog := X.prog) (w := X.w) (A := X.A.in1) (I.ok.hd hc) it a (nt it (by simp)) its.toArray) e ne1 (by simp [ne1, (nt e (by simp)).symm]) (by simp)
    refine G.goes i s _ _ hlt ⟨⟨old, he⟩, hit, p⟩ fun v h2 tk hY st2 hk _ => ?_
    obtain ⟨T, t, u2, rfl, hn, hu2, hT⟩ := hY
    have eu : u2 = u := Option.some.inj (hu2.symm.trans at_)
    subst eu
    rw [Int.zero_add] at hT
    have new : ObjOk X.prog X.w (upd H T (.tup [.int (i : Nat), x])) h2 T (.tup [.int (i : Nat), x]) := ⟨by show 2 ≤ sizeLine; decide, [.int i t, u2], .cons ⟨_, rfl⟩ (.cons ru .nil), hT⟩
    have I1 : Inv X pins σ (upd H T (.tup [.int (i : Nat), x])) { s with heap := h2, toks := tk } := I.turnedNew (ch := [e, it]) (fun b ob hb q => hk b ob hb q) hf hn new
    refine ⟨.ref T, _, I1, rfl, ⟨T, x, rfl, I.hok.fresh hn, rfl, fun ys hy => by rw [I.tuple_inj hy hq]; exact hx⟩, ⟨st2.1, st2.2.1⟩, fun b hb => ?_⟩
    have hb0 := (hf b hb).1
    have hbT : b ≠ T := by
      rcases List.mem_cons.mp hb with y | y
      · rw [y]; exact Nat.ne_of_lt (Nat.lt_of_lt_of_le (Heap.lt_size he) hn)
      · rw [List.mem_singleton.mp y]
        obtain ⟨o2, ho2, _⟩ := hit
        exact Nat.ne_of_lt (Nat.lt_of_lt_of_le (Heap.lt_size ho2) hn)
    rw [upd_ne hbT]; exact hb0
  done := by
    intro X q1 q2 q3 hc i pins s σ H E I hf st hg; subst q1 q2 q3
    obtain ⟨⟨old, he⟩, hit⟩ := st
    obtain ⟨xs, hq, hx⟩ := hg
    obtain ⟨its, vals_, p, _⟩ := I.tuple hq
    have hl := vals_.length
    have nt : ∀ b ∈ [e, it], a ≠ b := fun b hb z => by
      obtain ⟨o, ho, cl, _⟩ := p
      rcases List.mem_cons.mp hb with y | y
      · rw [z, y] at ho
        rw [show s.heap.get? e = _ from he] at ho; cases ho; injection cl with cl; exact absurd cl (by decide)
      · rw [z, List.mem_singleton.mp y] at ho
        obtain ⟨o2, ho2, cl2, _⟩ := hit
        rw [ho2] at ho; cases ho
        rw [cl2] at cl; injection cl with cl; exact absurd cl (by decide)
    have G := GoesN.enumFrom (elts := elts) (x1 := kk) (pos := tpos) 0 (drawsEnd (prog := X.prog) (w := X.w) (A := X.A.in1) (I.ok.hd hc) it a its.toArray i (by simp; omega)) e ne1 (by simp [ne1, (nt e (by simp)).symm]) (by simp)
    exact G.stops s _ _ ⟨⟨old, he⟩, rfl, hit, p⟩ fun h2 tk hk _ => inv_ch I hk hf
  self := fun _ _ _ _ _ st fin => let ⟨⟨_, he⟩, _⟩ := st; wpAny_pyIter_enum he fin
/-- enumerate(v), v a list or a tuple -/
def iEnA (K : PySem.W.Frag) (ta : TA) : TI := fun σ H R => ta σ H fun vs H1 => ∃ a xs, vs = [.ref a] ∧ ((SqL K H1 a xs ∧ R (Ite K a) H1) ∨ (SqT K H1 a xs ∧ R (ItT K a) H1))
theorem pi_enA {X : Cx} {e : Expr} {ta : TA} {p pos tpos : Pos} {elts : List Expr} {kk : Nat} (hg : Gl X "enumerate") (hm : X.mg "enumerate" = none) (ha : PA X [e] ta) (hs : starEach [e] X.env = [(false, eval e X.env)] := by rfl) :
    PI X (.Tuple elts kk tpos) (.Call (.Name "enumerate" p) [e] [] pos) (iEnA X.K ta) := by
  refine ⟨fun pins s σ H R I hi => ?_⟩
  refine Call_ (ld_blt I hg hm boot_enumerate (PyProof.Rows.callWith_type1 (thn (ha.run pos pins s σ H _ I hi) fun us s1 ⟨vs, H1, I1, r1, q1⟩ => ?_) hs rfl))
  obtain ⟨a, xs, ex, q⟩ := q1
  subst ex
  cases r1 with
  | cons r rr =>
    cases rr; cases r
    rcases q with ⟨hq, q⟩ | ⟨hq, q⟩
    · obtain ⟨its, rv, p2, hz⟩ := I1.list hq
      refine call_enumerate_list p2.isList fun h2 he hit hsz hk => wpAny_pyIter_enum he ?_
      refine ⟨s1.heap.objs.size + 1, [s1.heap.objs.size + 1, s1.heap.objs.size], _, _, H1, rfl, I1.kept (t' := s1.toks) hk, turn_enum a (s1.heap.objs.size + 1) s1.heap.objs.size, ⟨⟨.none, he⟩, hit, Nat.succ_ne_self _⟩, fun b hb => ?_, q⟩
      have hge : s1.heap.objs.size ≤ b := by
        rcases List.mem_cons.mp hb with z | z
        · rw [z]; exact Nat.le_add_right _ _
        · rw [List.mem_singleton.mp z]; exact Nat.le_refl _
      exact I1.fpOk hge (I1.hok.fresh hge)
    · obtain ⟨its, rv, p2, hz⟩ := I1.tuple hq
      refine callType_new F.called_enumerate (by decide) (F.typeCall_enumerate_1 _) (F.newCall_enumerate_1 _) (fun obj => F.args_object_init_2 obj _) F.entry_enumerate_new (en_new (begins_tuple a its.toArray)) ⟨p2, ?_⟩
      have sz : (s1.heap.push { cls := .type "tuple_iterator", data := .fields #[.ref a, .int 0 0] }).objs.size = s1.heap.objs.size + 1 := Heap.size_push ..
      show _ ∧ _
      rw [sz]
      have he : IsEnum ((s1.heap.push { cls := .type "tuple_iterator", data := .fields #[.ref a, .int 0 0] }).push { cls := .type "enumerate", data := .fields #[.none, .bool false, .ref s1.heap.objs.size, rawInt 0, .none, .none] }) (s1.heap.objs.size + 1) s1.heap.objs.size (0 + ((0 : Nat) : Int)) .none := by
        have g := Heap.get?_push_size (s1.heap.push { cls := .type "tuple_iterator", data := .fields #[.ref a, .int 0 0] }) (o := { cls := .type "enumerate", data := .fields #[.none, .bool false, .ref s1.heap.objs.size, rawInt 0, .none, .none] }) rfl
        rw [sz] at g; exact g
      refine ⟨⟨_, he, rfl⟩, wpAny_pyIter_enum he ⟨s1.heap.objs.size + 1, [s1.heap.objs.size + 1, s1.heap.objs.size], _, _, H1, rfl, I1.kept (t' := s1.toks) (fun b o z => Heap.get?_push_of_some _ (Heap.get?_push_of_some _ z)), turn_enT a (s1.heap.objs.size + 1) s1.heap.objs.size (Nat.succ_ne_self _), ⟨⟨.none, he⟩, ⟨_, Heap.get?_push_of_some _ (Heap.get?_push_size _ rfl), rfl, rfl⟩⟩, fun b hb => ?_, q⟩⟩
      have hge : s1.heap.objs.size ≤ b := by
        rcases List.mem_cons.mp hb with z | z
        · rw [z]; exact Nat.le_add_right _ _
        · rw [List.mem_singleton.mp z]; exact Nat.le_refl _
      exact I1.fpOk hge (I1.hok.fresh hge)
theorem walk_enT {K : PySem.W.Frag} {a : Addr} {xs : List V} : Walk (ItT K a) xs.length (fun H => SqT K H a xs) (YPair (fun i => some (.int (i : Nat))) (fun i => xs[i]?)) := by
  refine ⟨fun i _ hi hs => ⟨xs, xs[i], hs, by simp [hi]⟩, fun _ hs => ⟨xs, hs, Nat.le_refl _⟩, fun i H v H2 _ hs y => ?_⟩
  obtain ⟨T, x, e1, e2, e3, e4⟩ := y
  exact ⟨T, .int (i : Nat), x, e1, e2, e3, rfl, e4 xs hs⟩
theorem ko_catA {X : Cx} {K : PySem.W.Frag} (h : X.K = K := by rfl) : OpR X (binaryOp .Add) (rCatA K) := h ▸ op_catA
theorem ki_enA {X : Cx} {K : PySem.W.Frag} {e : Expr} {ta : TA} {p pos tpos : Pos} {elts : List Expr} {kk : Nat} (hg : Gl X "enumerate") (hm : X.mg "enumerate" = none) (ha : PA X [e] ta) (hs : starEach [e] X.env = [(false, eval e X.env)] := by rfl) (h : X.K = K := by rfl)
    : PI X (.Tuple elts kk tpos) (.Call (.Name "enumerate" p) [e] [] pos) (iEnA K ta) := h ▸ pi_enA hg hm ha hs
end Pot

namespace Pot
open PySem PySem.Spec PyProof.Rows L2
open Sem (wp)
/-! ### zip of three lists of one length -/
def It3 (K : PySem.W.Frag) (a b c : Addr) : It :=
  ⟨fun i H => ∃ (xs ys zs : List V) (x y z : V), SqL K H a xs ∧ SqL K H b ys ∧ SqL K H c zs ∧ xs[i]? = some x ∧ ys[i]? = some y ∧ zs[i]? = some z,
   fun i H v H2 => ∃ T x y z, v = .ref T ∧ H T = none ∧ H2 = upd H T (.tup [x, y, z]) ∧ (∀ xs, SqL K H a xs → xs[i]? = some x) ∧ (∀ ys, SqL K H b ys → ys[i]? = some y) ∧ ∀ zs, SqL K H c zs → zs[i]? = some z,
   fun i H => ∃ xs ys zs : List V, SqL K H a xs ∧ SqL K H b ys ∧ SqL K H c zs ∧ xs.length ≤ i ∧ ys.length ≤ i ∧ zs.length ≤ i⟩
/-- an iterator of a list that has come to its end -/
theorem drawsEndL {prog : Program} {w : World} {A : Around} (hh : A.handled = none) (it t : Addr) (items : Array Value) (i : Nat) (hi : items[i]? = none) :
    Draws prog w A it [it, t] i (fun _ _ => False) (fun j h => j = i ∧ h.IsListIter it t j ∧ h.IsList t items) where
  live := fun _ _ st => let ⟨o, ho, _⟩ := st.2.1; ⟨o, ho⟩
  frame := fun _ _ _ st hk => ⟨st.1, st.2.1.at fun o e => hk it (by simp) o e, st.2.2.at fun o e => hk t (by simp) o e⟩
  item := fun j _ _ _ hj st _ => absurd st.1 (Nat.ne_of_lt hj)
  done := fun s Q E st hE => wpAny_nextOf_list_end hh st.2.1 st.2.2 hi hE
theorem turn_z3 {P : Program} {w : World} {K : PySem.W.Frag} {elts : List Expr} {kk : Nat} {tpos : Pos} {a b c z TI TO i1 i2 i3 : Addr} (D : ZipSep3 z TI TO i1 i2 i3 [i1, a] [i2, b] [i3, c]) (n1 : a ≠ i1) (n2 : b ≠ i2) (n3 : c ≠ i3) :
    Turn P w K (.Tuple elts kk tpos) (It3 K a b c) [z, TI, TO, i1, i2, i3] z (fun i h => IsZip h z TI TO .none ∧ IsTupOf3 h TI (.ref i1) (.ref i2) (.ref i3) ∧ (∃ x y u, IsTupOf3 h TO x y u) ∧ h.IsListIter i1 a i ∧ h.IsListIter i2 b i ∧ h.IsListIter i3 c i) where
  mem := by simp
  obj := fun i h st m hm => by
    obtain ⟨hz, hTI, ⟨x, y, u, hTO⟩, ⟨o1, e1, _, d1⟩, ⟨o2, e2, _, d2⟩, ⟨o3, e3, _, d3⟩⟩ := st
    simp only [List.mem_cons, List.not_mem_nil, or_false] at hm
    rcases hm with e | e | e | e | e | e
    · subst e; exact ⟨_, hz, fun v q => nomatch q⟩
    · subst e; exact ⟨_, hTI, fun v q => nomatch q⟩
    · subst e; exact ⟨_, hTO, fun v q => nomatch q⟩
    · subst e; exact ⟨o1, e1, fun v q => by rw [d1] at q; cases q⟩
    · subst e; exact ⟨o2, e2, fun v q => by rw [d2] at q; cases q⟩
    · subst e; exact ⟨o3, e3, fun v q => by rw [d3] at q; cases q⟩
  keep := fun i h h2 st k => by
    obtain ⟨hz, hTI, ⟨x, y, u, hTO⟩, g1, g2, g3⟩ := st
    exact ⟨k z (by simp) _ hz, k TI (by simp) _ hTI, ⟨x, y, u, k TO (by simp) _ hTO⟩, g1.at fun o q => k i1 (by simp) o q, g2.at fun o q => k i2 (by simp) o q, g3.at fun o q => k i3 (by simp) o q⟩
  item := by
    intro X q1 q2 q3 hc i pins s σ H E I hf st hg; subst q1 q2 q3
    obtain ⟨hz, hTI, ⟨x0, y0, u0, hTO⟩, g1, g2, g3⟩ := st
    obtain ⟨xs, ys, us, x, y, u, hqa, hqb, hqc, hx, hy, hu⟩ := hg
    obtain ⟨its1, vs1, p1, _⟩ := I.list hqa
    obtain ⟨its2, vs2, p2, _⟩ := I.list hqb
    obtain ⟨its3, vs3, p3, _⟩ := I.list hqc
    obtain ⟨w1, hw1, r1⟩ := vs1.get hx
    obtain ⟨w2, hw2, r2⟩ := vs2.get hy
    obtain ⟨w3, hw3, r3⟩ := vs3.get hu
    have at1 : its1.toArray[i]? = some w1 := by simpa using hw1
    have at2 : its2.toArray[i]? = some w2 := by simpa using hw2
    have at3 : its3.toArray[i]? = some w3 := by simpa using hw3
    have l1 : i < its1.toArray.size := (Array.getElem?_eq_some_iff.mp at1).1
    have l2 : i < its2.toArray.size := (Array.getElem?_eq_some_iff.mp at2).1
    have l3 : i < its3.toArray.size := (Array.getElem?_eq_some_iff.mp at3).1
    have hh := I.ok.hd hc
    have G := GoesN.zip3 (elts := elts) (x1 := kk) (pos := tpos) D (Draws.list (prog := X.prog) (w := X.w) (A := X.A.in1) hh i1 a n1 its1.toArray) (Draws.list (prog := X.prog) (w := X.w) (A := X.A.in1) hh i2 b n2 its2.toArray) (Draws.list (prog := X.prog) (w := X.w) (A := X.A.in1) hh i3 c n3 its3.toArray)
    refine G.goes i s _ _ (by omega) ⟨hz, hTI, ⟨x0, y0, u0, hTO⟩, ⟨g1, p1.isList⟩, ⟨g2, p2.isList⟩, ⟨g3, p3.isList⟩⟩ fun v h2 tk hY st2 hk _ => ?_
    obtain ⟨T, t1, t2, t3, rfl, hn, e1, e2, e3, hT⟩ := hY
    cases Option.some.inj (e1.symm.trans at1)
    cases Option.some.inj (e2.symm.trans at2)
    cases Option.some.inj (e3.symm.trans at3)
    have new : ObjOk X.prog X.w (upd H T (.tup [x, y, u])) h2 T (.tup [x, y, u]) := ⟨by show 3 ≤ sizeLine; decide, [w1, w2, w3], .cons r1 (.cons r2 (.cons r3 .nil)), hT⟩
    have I1 : Inv X pins σ (upd H T (.tup [x, y, u])) { s with heap := h2, toks := tk } := I.turnedNew (ch := [z, TI, TO, i1, i2, i3]) (fun m ob hm q => hk m ob (fun e => hm (by simp only [List.mem_cons, List.not_mem_nil, or_false] at e ⊢; rcases e with e | e | e | e | e <;> simp [e])) q) hf hn new
    refine ⟨.ref T, _, I1, rfl, ⟨T, x, y, u, rfl, I.hok.fresh hn, rfl, fun l hl => by rw [I.list_inj hl hqa]; exact hx, fun l hl => by rw [I.list_inj hl hqb]; exact hy, fun l hl => by rw [I.list_inj hl hqc]; exact hu⟩, ⟨st2.1, st2.2.1, st2.2.2.1, st2.2.2.2.1.1, st2.2.2.2.2.1.1, st2.2.2.2.2.2.1⟩, fun m hm => ?_⟩
    have hm0 := (hf m hm).1
    have live : ∃ o, s.heap.get? m = some o := by
      obtain ⟨o1, f1, _⟩ := g1
      obtain ⟨o2, f2, _⟩ := g2
      obtain ⟨o3, f3, _⟩ := g3
      simp only [List.mem_cons, List.not_mem_nil, or_false] at hm
      rcases hm with e | e | e | e | e | e
      · subst e; exact ⟨_, hz⟩
      · subst e; exact ⟨_, hTI⟩
      · subst e; exact ⟨_, hTO⟩
      · subst e; exact ⟨_, f1⟩
      · subst e; exact ⟨_, f2⟩
      · subst e; exact ⟨_, f3⟩
    obtain ⟨o, ho⟩ := live
    rw [upd_ne (Nat.ne_of_lt (Nat.lt_of_lt_of_le (Heap.lt_size ho) hn))]; exact hm0
  done := by
    intro X q1 q2 q3 hc i pins s σ H E I hf st hg; subst q1 q2 q3
    obtain ⟨hz, hTI, ⟨x0, y0, u0, hTO⟩, g1, g2, g3⟩ := st
    obtain ⟨xs, ys, us, hqa, hqb, hqc, hx, hy, hu⟩ := hg
    obtain ⟨its1, vs1, p1, _⟩ := I.list hqa
    obtain ⟨its2, vs2, p2, _⟩ := I.list hqb
    obtain ⟨its3, vs3, p3, _⟩ := I.list hqc
    have m1 := vs1.length
    have m2 := vs2.length
    have m3 := vs3.length
    have hh := I.ok.hd hc
    have G := GoesN.zip3 (elts := elts) (x1 := kk) (pos := tpos) D (drawsEndL (prog := X.prog) (w := X.w) (A := X.A.in1) hh i1 a its1.toArray i (by simp; omega)) (drawsEndL (prog := X.prog) (w := X.w) (A := X.A.in1) hh i2 b its2.toArray i (by simp; omega)) (drawsEndL (prog := X.prog) (w := X.w) (A := X.A.in1) hh i3 c its3.toArray i (by simp; omega))
    rw [Nat.min_self, Nat.min_self] at G
    exact G.stops s _ _ ⟨hz, hTI, ⟨x0, y0, u0, hTO⟩, ⟨rfl, g1, p1.isList⟩, ⟨rfl, g2, p2.isList⟩, ⟨rfl, g3, p3.isList⟩⟩ fun h2 tk hk _ => inv_ch (ch := [z, TI, TO, i1, i2, i3]) I (fun m o hm q => hk m o (fun e => hm (by simp only [List.mem_cons, List.not_mem_nil, or_false] at e ⊢; rcases e with e | e | e | e | e <;> simp [e])) q) hf
  self := fun _ _ _ _ _ st fin => wpAny_pyIter_zip st.1 fin
def iZip3 (K : PySem.W.Frag) (ta : TA) : TI := fun σ H R => ta σ H fun vs H1 => ∃ a b c xs ys zs, vs = [.ref a, .ref b, .ref c] ∧ SqL K H1 a xs ∧ SqL K H1 b ys ∧ SqL K H1 c zs ∧ R (It3 K a b c) H1
theorem pi_zip3 {X : Cx} {e e2 e3 : Expr} {ta : TA} {p pos tpos : Pos} {elts : List Expr} {kk : Nat} (hg : Gl X "zip") (hm : X.mg "zip" = none) (ha : PA X [e, e2, e3] ta)
    (hs : starEach [e, e2, e3] X.env = (false, eval e X.env) :: starEach [e2, e3] X.env := by rfl) (hpl : (backTo pos (starEach [e2, e3] X.env)).any (·.1) = false := by rfl) :
    PI X (.Tuple elts kk tpos) (.Call (.Name "zip" p) [e, e2, e3] [] pos) (iZip3 X.K ta) := by
  refine ⟨fun pins s σ H R I hi => ?_⟩
  refine Call_ (ld_blt I hg hm PyProof.Rows.boot_zip (PyProof.Rows.callWith_type1 (thn (ha.run pos pins s σ H _ I hi) fun us s1 ⟨vs, H1, I1, r1, q1⟩ => ?_) hs hpl))
  obtain ⟨a, b, c, xs, ys, zs, ex, qa, qb, qc, q⟩ := q1
  subst ex
  cases r1 with
  | cons ra rr =>
    cases rr with
    | cons rb rr =>
      cases rr with
      | cons rc rr =>
        cases rr; cases ra; cases rb; cases rc
        obtain ⟨its1, _, p1, _⟩ := I1.list qa
        obtain ⟨its2, _, p2, _⟩ := I1.list qb
        obtain ⟨its3, _, p3, _⟩ := I1.list qc
        refine zip_begins3 (begins_list a its1.toArray) (begins_list b its2.toArray) (begins_list c its3.toArray) p1.isList p2.isList p3.isList fun h2 hz hTI hTO f1 f2 f3 hsz hk => wpAny_pyIter_zip hz ?_
        have below : ∀ {l : Addr} {its : List Value} {n : Nat}, s1.heap.get? l = some { cls := .type "list", data := .seq its.toArray n } → ∀ m ∈ [l], m < s1.heap.objs.size := fun h m hm => by rw [List.mem_singleton.mp hm]; exact Heap.lt_size h
        refine ⟨s1.heap.objs.size + 5, [s1.heap.objs.size + 5, s1.heap.objs.size + 3, s1.heap.objs.size + 4, s1.heap.objs.size, s1.heap.objs.size + 1, s1.heap.objs.size + 2], _, _, H1, rfl, I1.kept (t' := s1.toks) hk, turn_z3 (zip_sep3 (N := s1.heap.objs.size) (fp1 := [a]) (fp2 := [b]) (fp3 := [c]) ?_ ?_ ?_) ?_ ?_ ?_, ⟨hz, hTI, ⟨_, _, _, hTO⟩, ⟨_, f1, rfl, rfl⟩, ⟨_, f2, rfl, rfl⟩, ⟨_, f3, rfl, rfl⟩⟩, fun m hm => ?_, q⟩
        · exact fun m hm => by rw [List.mem_singleton.mp hm]; exact p1.lt
        · exact fun m hm => by rw [List.mem_singleton.mp hm]; exact p2.lt
        · exact fun m hm => by rw [List.mem_singleton.mp hm]; exact p3.lt
        · exact Nat.ne_of_lt p1.lt
        · exact Nat.ne_of_lt (Nat.lt_of_lt_of_le p2.lt (Nat.le_add_right _ _))
        · exact Nat.ne_of_lt (Nat.lt_of_lt_of_le p3.lt (Nat.le_add_right _ _))
        · have hge : s1.heap.objs.size ≤ m := by
            simp only [List.mem_cons, List.not_mem_nil, or_false] at hm
            rcases hm with e | e | e | e | e | e <;> (rw [e]; first | exact Nat.le_refl _ | exact Nat.le_add_right _ _)
          exact I1.fpOk hge (I1.hok.fresh hge)
theorem ki_zip3 {X : Cx} {K : PySem.W.Frag} {e e2 e3 : Expr} {ta : TA} {p pos tpos : Pos} {elts : List Expr} {kk : Nat} (hg : Gl X "zip") (hm : X.mg "zip" = none) (ha : PA X [e, e2, e3] ta)
    (hs : starEach [e, e2, e3] X.env = (false, eval e X.env) :: starEach [e2, e3] X.env := by rfl) (hpl : (backTo pos (starEach [e2, e3] X.env)).any (·.1) = false := by rfl) (h : X.K = K := by rfl) :
    PI X (.Tuple elts kk tpos) (.Call (.Name "zip" p) [e, e2, e3] [] pos) (iZip3 K ta) := h ▸ pi_zip3 hg hm ha hs hpl
def Y3 (f g k : Nat → Option V) : Nat → Hp → V → Hp → Prop := fun i H v H2 => ∃ T x y z, v = .ref T ∧ H T = none ∧ H2 = upd H T (.tup [x, y, z]) ∧ f i = some x ∧ g i = some y ∧ k i = some z
theorem walk_z3 {K : PySem.W.Frag} {a b c : Addr} {xs ys zs : List V} (h1 : ys.length = xs.length) (h2 : zs.length = xs.length) : Walk (It3 K a b c) xs.length (fun H => SqL K H a xs ∧ SqL K H b ys ∧ SqL K H c zs) (Y3 (fun i => xs[i]?) (fun i => ys[i]?) (fun i => zs[i]?)) := by
  refine ⟨fun i _ hi hs => ⟨xs, ys, zs, xs[i], ys[i]'(by omega), zs[i]'(by omega), hs.1, hs.2.1, hs.2.2, by simp [hi], by simp [show i < ys.length by omega], by simp [show i < zs.length by omega]⟩, fun _ hs => ⟨xs, ys, zs, hs.1, hs.2.1, hs.2.2, by omega, by omega, by omega⟩, fun i H v H2 _ hs y => ?_⟩
  obtain ⟨T, x, y, z, e1, e2, e3, e4, e5, e6⟩ := y
  exact ⟨T, x, y, z, e1, e2, e3, e4 xs hs.1, e5 ys hs.2.1, e6 zs hs.2.2⟩
end Pot

namespace Pot
open PySem PySem.Spec PyProof.Rows L2
open PySem.Calls
open PySem.W (sortingHeap copyHeap sortLe alike alikeAll keyToks keyToksAll dataLt dataKind KatLex SortsAt sortVals dataType EachIs)
/-! ### sorted of rows that are told apart by parts that can be compared -/
/-- up to the first part in which they differ, that one too, two rows are alike -/
def okCmp : List PyData → List PyData → Bool
  | x :: xs, y :: ys => alike x y && (!PyData.eqv x y || okCmp xs ys)
  | [], [] => true
  | _, _ => false
section
variable {prog : Program} {w : World} {A : Around} {s : Shared}
theorem kat_ok {b fin : Bool} {Q : Bool → Shared → Prop} : ∀ (xs ys : List PyData) (i : Nat) (vs ws : List Value) (as bs : List Addr), ReadsAll s.heap vs xs as → ReadsAll s.heap ws ys bs → okCmp xs ys = true → A.units + min (PyData.depthAll xs) (PyData.depthAll ys) < cLine → (b = true → i = 0 → ∀ x r t, xs = x :: r → x ≠ .tuple t) → fin = decide (xs.length < ys.length) →
    Q (PyProof.Rows.lexLt itemOrd (keyToksAll xs) (keyToksAll ys)) s → KatLex prog w A b fin Q (vs.zip ws) i s := by
  intro xs
  induction xs with
  | nil =>
    intro ys i vs ws as bs ra rb ok hu hb hf hq
    have := PySem.W.katLex_alike (prog := prog) (w := w) (A := A) (s := s) (b := b) (fin := fin) (Q := Q) [] ys i vs ws as bs ra rb
    cases ys with
    | nil => exact this rfl hu hb hf hq
    | cons y ys => cases ok
  | cons x xs ih =>
    intro ys i vs ws as bs ra rb ok hu hb hf hq
    cases ys with
    | nil => cases ok
    | cons y ys =>
      obtain ⟨al, nx⟩ := Bool.and_eq_true_iff.mp ok
      have hf2 : fin = decide (xs.length < ys.length) := by rw [hf]; simp only [List.length_cons, Nat.add_lt_add_iff_right]
      cases ra with
      | cons r rs =>
        cases rb with
        | cons r2 rs2 =>
          rw [List.zip_cons_cons]
          refine PySem.W.kat_cons (PySem.W.eqAt_alike x y A s _ _ _ _ r r2 al (SeqAt.room_head hu) prog w _ _ ?_)
          cases ex : PyData.eqv x y with
          | true =>
            rw [PySem.W.dataLt_all_yes al ex] at hq
            rw [ex] at nx
            exact PySem.W.kat_yes (ih ys (i + 1) _ _ _ _ rs rs2 nx (SeqAt.room_tail hu) (fun _ h0 => absurd h0 (Nat.succ_ne_zero i)) hf2 hq)
          | false =>
            rw [PySem.W.dataLt_all_no al ex] at hq
            refine PySem.W.kat_no (PySem.W.oneLt_alike (fun hbi t => ?_) r r2 al (PySem.W.ne_none_of al ex) (SeqAt.room_head hu) hq)
            obtain ⟨b1, b2⟩ := Bool.and_eq_true_iff.mp hbi
            exact hb b1 (by simpa using b2) x xs t rfl
theorem key_of {h : Heap} {ds : List PyData} {v : Value} {d : PyData} {as : List Addr} (hd : d ∈ ds) (r : Reads h v d as) : (dataKind h ds).keyOf v = some (keyToks d) := by
  have ex : ∃ e, e ∈ ds ∧ ∃ bs, Reads h v e bs := ⟨d, hd, as, r⟩
  have eq1 : (dataKind h ds).keyOf v = some (keyToks ex.choose) := dif_pos ex
  obtain ⟨_, bs, r2⟩ := ex.choose_spec
  rw [eq1, (Reads.unique r2 _ _ r).1]
/-- rows that can be sorted: tuples with a first part, the first parts alike, each two comparable -/
structure RowsCmp (ds : List PyData) : Prop where
  form : ∀ d ∈ ds, ∃ x r, d = .tuple (x :: r)
  first : ∀ x r x2 r2, PyData.tuple (x :: r) ∈ ds → PyData.tuple (x2 :: r2) ∈ ds → alike x x2 = true
  cmp : ∀ xs ys, PyData.tuple xs ∈ ds → PyData.tuple ys ∈ ds → okCmp xs ys = true
theorem sorts_rows {vs : List Value} {ds : List PyData} (e : EachIs (fun v d => ∃ as, Reads s.heap v d as) vs ds) (W : RowsCmp ds) (hu : ∀ d, d ∈ ds → A.units + d.depth < cLine) : SortsAt prog w A s (dataKind s.heap ds) vs := by
  refine ⟨fun v hv => ?_, ?_⟩
  · obtain ⟨d, hd, as, r⟩ := e.left v hv
    exact ⟨_, key_of hd r⟩
  · cases hds : ds with
    | nil =>
      rw [hds] at e
      cases e
      exact ⟨general', fun E x y a b Q ha _ _ => (by obtain ⟨d, _, hd, _⟩ := PySem.W.dataKind_inv ha; exact absurd hd (by simp)), fun h2 => absurd h2 (by simp)⟩
    | cons d0 ds0 =>
      rw [← hds]
      have m0 : d0 ∈ ds := by rw [hds]; exact List.mem_cons_self
      obtain ⟨x0, r0, e0⟩ := W.form d0 m0
      have m0 : PyData.tuple (x0 :: r0) ∈ ds := by rw [← e0]; exact m0
      refine ⟨tuples' (dataType x0 != Value.type "tuple"), ?_, fun h2 E Q hq => ?_⟩
      · intro E x y a b Q ha hb hq
        obtain ⟨d, as, hd, ra, rfl⟩ := PySem.W.dataKind_inv ha
        obtain ⟨d2, as2, hd2, rb, rfl⟩ := PySem.W.dataKind_inv hb
        obtain ⟨x1, r1, rfl⟩ := W.form d hd
        obtain ⟨x2, r2, rfl⟩ := W.form d2 hd2
        have room : A.units + min (PyData.tuple (x1 :: r1)).depth (PyData.tuple (x2 :: r2)).depth < cLine := Nat.lt_of_le_of_lt (Nat.add_le_add_left (Nat.min_le_left _ _) _) (hu _ hd)
        have hq2 : Q (dataLt (.tuple (x1 :: r1)) (.tuple (x2 :: r2))) s := hq
        rw [PySem.W.dataLt_tuple] at hq2
        cases ra with
        | @tuple l o us n _ _ h1 h2 h3 h4 =>
          cases rb with
          | @tuple l2 o2 us2 n2 _ _ k1 k2 k3 k4 =>
            have z1 : us.size = (x1 :: r1).length := by simpa using SeqAt.ReadsAll.length _ _ _ h4
            have z2 : us2.size = (x2 :: r2).length := by simpa using SeqAt.ReadsAll.length _ _ _ k4
            refine PySem.W.kat_lt h1 h3 k1 k3 (kat_ok (prog := prog) (w := w) (A := A) (s := s) (x1 :: r1) (x2 :: r2) 0 _ _ _ _ h4 k4 (W.cmp _ _ hd hd2) (by have := SeqAt.room_in room; omega) (fun hb1 _ xx rr t ex => ?_) (by rw [z1, z2]) hq2)
            obtain ⟨rfl, rfl⟩ := List.cons.inj ex
            rw [← PySem.W.dataType_alike (W.first _ _ _ _ hd m0)] at hb1
            exact PySem.W.dataType_tuple hb1 t
      · obtain ⟨fs, t1, t2, t3⟩ := PySem.W.each_katTups e W.form
        refine PySem.W.kat_kind (T := dataType x0) t1 (by omega) (fun f hf => ?_) (beq_self_eq_true _) hq
        obtain ⟨xx, rr, as, m1, m2⟩ := t3 f hf
        rw [← PySem.W.dataType_alike (W.first _ _ _ _ m1 m0)]
        exact PySem.W.looks_reads m2
end
theorem perm_lift {α β : Type} (f : α → β) {out l : List β} (h : out.Perm l) : ∀ L : List α, L.map f = l → ∃ L2 : List α, L2.Perm L ∧ L2.map f = out := by
  induction h with
  | nil => intro L e; exact ⟨L, .refl _, e⟩
  | cons x _ ih =>
    intro L e
    cases L with
    | nil => cases e
    | cons y L =>
      obtain ⟨e1, e2⟩ := List.cons.inj e
      obtain ⟨L2, p2, m2⟩ := ih L e2
      exact ⟨y :: L2, p2.cons y, by rw [List.map_cons, m2, e1]⟩
  | swap x y l =>
    intro L e
    match L, e with
    | a :: b :: L, e =>
      obtain ⟨e1, e2⟩ := List.cons.inj e
      obtain ⟨e2, e3⟩ := List.cons.inj e2
      exact ⟨b :: a :: L, .swap a b L, by rw [List.map_cons, List.map_cons, e1, e2, e3]⟩
  | trans _ _ ih1 ih2 =>
    intro L e
    obtain ⟨L2, p2, m2⟩ := ih2 L e
    obtain ⟨L3, p3, m3⟩ := ih1 L2 m2
    exact ⟨L3, p3.trans p2, m3⟩
section
variable {X : Cx} {K : PySem.W.Frag}
theorem each_reads {pins : List (Addr × Obj)} {σ : L2.St} {H : Hp} {s : Shared} (I : Inv X pins σ H s) : ∀ {xs : List V} {its : List Value} {ds : List PyData}, Vals xs its → DpAll X.K H xs ds → ∃ L : List (Value × V × PyData), L.map (·.1) = its ∧ L.map (·.2.1) = xs ∧ L.map (·.2.2) = ds ∧ ∀ t ∈ L, RelV t.2.1 t.1 ∧ Dp X.K H t.2.1 t.2.2
  | _, _, _, .nil, .nil => ⟨[], rfl, rfl, rfl, fun _ h => (List.not_mem_nil h).elim⟩
  | _, _, _, .cons (a := x) (b := u) r rs, .cons (d := d) p ps => by
    obtain ⟨L, h1, h2, h3, h4⟩ := each_reads I rs ps
    refine ⟨(u, x, d) :: L, by rw [List.map_cons, h1], by rw [List.map_cons, h2], by rw [List.map_cons, h3], fun t ht => ?_⟩
    rcases List.mem_cons.mp ht with e | e
    · rw [e]; exact ⟨r, p⟩
    · exact h4 t e
/-- sorted of a list of rows: a new list of the same ones -/
def rSortedR (K : PySem.W.Frag) : List V → Hp → VK → Prop := fun vs H Q => ∃ (a : Addr) (xs : List V) (ds : List PyData), vs = [V.ref a] ∧ SqL K H a xs ∧ DpAll K H xs ds ∧ RowsCmp ds ∧ (∀ d ∈ ds, d.depth ≤ 60) ∧
  ∀ (zs : List V) (es : List PyData) (p : Addr), DpAll K H zs es → es.Perm ds → H p = none → Q (.ref p) (upd H p (.lst zs))
theorem cr_sortedR (hu : X.A.units + 70 < cLine) : CallR X (.builtin "sorted") (rSortedR X.K) := by
  intro pins s σ H vs0 us0 Q I r h
  obtain ⟨a, xs, ds, rfl, hs, da, W, dep, q⟩ := h
  obtain ⟨its, rv, hl, hz⟩ := I.list hs
  rw [Vals.ref1 r]
  obtain ⟨L, e1, e2, e3, all⟩ := each_reads I rv da
  have er : EachIs (fun v d => ∃ as, Reads s.heap v d as) its ds := by
    rw [← e1, ← e3]
    clear e1 e2 e3
    induction L with
    | nil => exact .nil
    | cons t L ih =>
      have ht := all t List.mem_cons_self
      exact .cons (Dp.reads I _ _ _ ht.2 ht.1) (ih fun x hx => all x (List.mem_cons_of_mem _ hx))
  have ll : its.length = xs.length := by rw [← e1, ← e2, List.length_map, List.length_map]
  have ln : its.length ≤ sizeLine := by rw [ll]; exact hz
  have er' : EachIs (fun v d => ∃ as, Reads (sortingHeap (copyHeap s.heap its) (s.heap.objs.size + 1) its) v d as) its ds := er.mono fun _ _ ⟨as, r⟩ => ⟨as, PyProof.Rows.Reads.keeps (fun _ _ => PySem.W.sorting_copy_old) r⟩
  have S := sorts_rows (prog := X.prog) (w := X.w) (A := X.A.in1.in1) (s := { s with heap := sortingHeap (copyHeap s.heap its) (s.heap.objs.size + 1) its }) er' W (fun d hd => by have := dep d hd; simp only [Around.in1]; omega)
  refine PySem.W.sorted_vals hl.isList S ln ?_
  generalize eo : sortVals _ false its its = out
  have po : out.Perm its := by
    rw [← eo]
    unfold sortVals
    have := (List.mergeSort_perm (its.zip its) (sortLe (dataKind (sortingHeap (copyHeap s.heap its) (s.heap.objs.size + 1) its) ds).toKeyOrd false fun p : Keyed => PySem.W.keyD (dataKind (sortingHeap (copyHeap s.heap its) (s.heap.objs.size + 1) its) ds) p.1)).map Prod.snd
    rw [List.map_snd_zip (Nat.le_refl _)] at this
    exact this
  obtain ⟨L2, p2, m2⟩ := perm_lift (·.1) po L e1
  have rv2 : Vals (L2.map (·.2.1)) out := by
    rw [← m2]
    clear m2
    have hh : ∀ t ∈ L2, RelV t.2.1 t.1 := fun t ht => (all t (p2.mem_iff.mp ht)).1
    clear p2
    induction L2 with
    | nil => exact .nil
    | cons t L2 ih => exact .cons (hh t List.mem_cons_self) (ih fun x hx => hh x (List.mem_cons_of_mem _ hx))
  have dp2 : DpAll X.K H (L2.map (·.2.1)) (L2.map (·.2.2)) := by
    have hh : ∀ t ∈ L2, Dp X.K H t.2.1 t.2.2 := fun t ht => (all t (p2.mem_iff.mp ht)).2
    clear p2 m2 rv2
    induction L2 with
    | nil => exact .nil
    | cons t L2 ih => exact .cons (hh t List.mem_cons_self) (ih fun x hx => hh x (List.mem_cons_of_mem _ hx))
  have pd : (L2.map (·.2.2)).Perm ds := by rw [← e3]; exact p2.map _
  obtain ⟨ep, hat⟩ := PyProof.Rows.sortedAll_at s.heap its out.toArray
  have fr : H (s.heap.objs.size + 1) = none := I.hok.fresh (Nat.le_succ _)
  exact ⟨.ref _, upd H (s.heap.objs.size + 1) (.lst (L2.map (·.2.1))), I.laid (t' := s.toks) (fun _ _ => PyProof.Rows.sortedAll_old) (Nat.le_succ _) ⟨by rw [List.length_map, p2.length_eq, ← List.length_map (f := fun x : Value × V × PyData => x.1), e1]; exact ln, out, ep, rv2, hat⟩, rfl, q _ _ _ dp2 pd fr⟩
theorem kc_sortedR (hu : X.A.units + 70 < cLine) (h : X.K = K := by rfl) : CallR X (.builtin "sorted") (rSortedR K) := h ▸ cr_sortedR hu
end
end Pot

namespace Pot
open PySem PySem.Spec PyProof.Rows L2
open PySem.W (sortingHeap copyHeap sortLe alike alikeAll dataLt dataLe EachIs AllAlike Sortable)
section
variable {X : Cx} {K : PySem.W.Frag}
/-! ### two data of one form told apart by their order -/
theorem op_ltD (hu : X.A.units + 70 < cLine) : OpR X (compareOp .Lt) (fun x y H Q => ∃ da db, Dp X.K H x da ∧ Dp X.K H y db ∧ alike da db = true ∧ da ≠ .none ∧ da.depth ≤ 60 ∧ Q (.bl (dataLt da db)) H) := by
  intro pins s σ H x y v u Q I rx ry h
  obtain ⟨da, db, d1, d2, al, nn, dep, q⟩ := h
  obtain ⟨as, r1⟩ := Dp.reads I _ _ _ d1 rx
  obtain ⟨bs, r2⟩ := Dp.reads I _ _ _ d2 ry
  exact PySem.W.lt_data r1 r2 al nn (Nat.lt_of_le_of_lt (Nat.add_le_add_left (Nat.min_le_left _ _) _) (by omega)) ⟨.bl _, H, I, rfl, q⟩
theorem ko_ltD (hu : X.A.units + 70 < cLine) (h : X.K = K := by rfl) : OpR X (compareOp .Lt) (fun x y H Q => ∃ da db, Dp K H x da ∧ Dp K H y db ∧ alike da db = true ∧ da ≠ .none ∧ da.depth ≤ 60 ∧ Q (.bl (dataLt da db)) H) := h ▸ op_ltD hu
/-! ### sorted of rows, told by what they stand for -/
def rSortedE {β : Type} (K : PySem.W.Frag) (enc : β → PyData) : List V → Hp → VK → Prop := fun vs H Q => ∃ (a : Addr) (xs : List V) (bs : List β), vs = [V.ref a] ∧ SqL K H a xs ∧ DpAll K H xs (bs.map enc) ∧
  ∀ (zs : List V) (p : Addr), DpAll K H zs ((bs.mergeSort (dataLe false enc)).map enc) → H p = none → Q (.ref p) (upd H p (.lst zs))
theorem each_dp {β : Type} {enc : β → PyData} {pins : List (Addr × Obj)} {σ : L2.St} {H : Hp} {s : Shared} (I : Inv X pins σ H s) : ∀ {bs : List β} {xs : List V} {its : List Value}, Vals xs its → DpAll X.K H xs (bs.map enc) →
    EachIs (fun v b => ∃ x, RelV x v ∧ Dp X.K H x (enc b)) its bs ∧ EachIs (fun v b => ∃ as, Reads s.heap v (enc b) as) its bs
  | [], _, _, r, d => by
    cases d
    cases r
    exact ⟨.nil, .nil⟩
  | b :: bs, _, _, r, d => by
    cases d with
    | cons p ps =>
      cases r with
      | cons q qs =>
        obtain ⟨e1, e2⟩ := each_dp I qs ps
        exact ⟨.cons ⟨_, q, p⟩ e1, .cons (Dp.reads I _ _ _ p q) e2⟩
theorem dp_each {β : Type} {enc : β → PyData} {H : Hp} : ∀ {bs : List β} {its : List Value}, EachIs (fun v b => ∃ x, RelV x v ∧ Dp K H x (enc b)) its bs → ∃ xs, Vals xs its ∧ DpAll K H xs (bs.map enc)
  | _, _, .nil => ⟨[], .nil, .nil⟩
  | _, _, .cons ⟨x, r, d⟩ e => by
    obtain ⟨xs, rs, ds⟩ := dp_each e
    exact ⟨x :: xs, .cons r rs, .cons d ds⟩
theorem cr_sortedE {β : Type} {enc : β → PyData} (hu : X.A.units + 70 < cLine) (al : ∀ b b', alike (enc b) (enc b') = true) (tp : ∀ b, ∃ x r, enc b = .tuple (x :: r)) (dep : ∀ b, (enc b).depth ≤ 60) : CallR X (.builtin "sorted") (rSortedE X.K enc) := by
  intro pins s σ H vs0 us0 Q I r h
  obtain ⟨a, xs, bs, rfl, hs, da, q⟩ := h
  obtain ⟨its, rv, hl, hz⟩ := I.list hs
  rw [Vals.ref1 r]
  obtain ⟨e, er⟩ := each_dp I rv da
  have ln : bs.length ≤ sizeLine := by rw [← e.length, ← rv.length]; exact hz
  refine PySem.W.sorted_data hl.isList e er (AllAlike.of al) (Sortable.tuples tp) ln (fun b _ => by have := dep b; omega) fun out lo eo => ?_
  obtain ⟨zs, rz, dz⟩ := dp_each eo
  obtain ⟨ep, hat⟩ := PyProof.Rows.sortedAll_at s.heap its out.toArray
  exact ⟨.ref _, upd H (s.heap.objs.size + 1) (.lst zs), I.laid (t' := s.toks) (fun _ _ => PyProof.Rows.sortedAll_old) (Nat.le_succ _) ⟨by rw [rz.length, lo]; exact ln, out, ep, rz, hat⟩, rfl, q _ _ dz (I.hok.fresh (Nat.le_succ _))⟩
theorem kc_sortedE {β : Type} {enc : β → PyData} (hu : X.A.units + 70 < cLine) (al : ∀ b b', alike (enc b) (enc b') = true) (tp : ∀ b, ∃ x r, enc b = .tuple (x :: r)) (dep : ∀ b, (enc b).depth ≤ 60) (h : X.K = K := by rfl) : CallR X (.builtin "sorted") (rSortedE K enc) := h ▸ cr_sortedE hu al tp dep
/-! ### a[i] op= e of a list -/
def rGetL (K : PySem.W.Frag) : V → V → Hp → VK → Prop := fun x y H Q => ∃ (a : Addr) (xs : List V) (i : Nat) (v : V), x = .ref a ∧ y = .int (i : Int) ∧ SqL K H a xs ∧ xs[i]? = some v ∧ Q v H
theorem get_list : PGet X (rGetL X.K) := by
  intro pins s σ H x y ov iv Q I rx ry h
  obtain ⟨a, xs, i, v, rfl, rfl, hs, g, q⟩ := h
  cases rx
  obtain ⟨t, rfl⟩ := ry
  obtain ⟨its, r, pl, hz⟩ := I.list hs
  obtain ⟨u, eu, ru⟩ := r.get g
  have hi := (List.getElem?_eq_some_iff.mp g).1
  have := line63
  exact wpAny_getItem_list pl.isList (by omega) (by omega) (by simpa using eu) ⟨v, H, I, ru, q⟩
theorem kget_list (h : X.K = K := by rfl) : PGet X (rGetL K) := h ▸ get_list
end
end Pot

namespace Pot
open PySem PySem.Spec PyProof.Rows L2
/-! ### the least and the greatest of a list of numbers -/
section
variable {X : Cx} {K : PySem.W.Frag}
theorem kc_min (hc : X.calm = true := by rfl) (h : X.K = K := by rfl) : CallR X (.builtin "min") (rMin K) := h ▸ cr_min hc
theorem kc_max (hc : X.calm = true := by rfl) (h : X.K = K := by rfl) : CallR X (.builtin "max") (rMax K) := h ▸ cr_max hc
end
end Pot

namespace Pot
open PySem PySem.Spec PyProof.Rows L2
theorem up_by {sc scope : Scope} (h : (scope.names.all fun y => !decide (y.2 = .free) || (decide (sc.names.lookup y.1 = some .cell) || decide (sc.names.lookup y.1 = some .free))) = true) : ∀ y ∈ scope.names, y.2 = .free → sc.names.lookup y.1 = some .cell ∨ sc.names.lookup y.1 = some .free := fun y hy e => by
  have z := List.all_eq_true.mp h y hy
  simp only [Bool.or_eq_true, Bool.not_eq_true', decide_eq_true_eq, decide_eq_false_iff_not] at z
  exact z.resolve_left fun n => n e
/-! ### a def whose code object is known -/
theorem okC {P : Program} {w : World} {K : PySem.W.Frag} {mg : Str → Option Value} {base : Heap} {x qual : Str} {st : Stmt} {f c : Addr} {fd : FuncData} {N ps : List Str} {k : Nat} {sp : Sp} (F : Fun K x qual st f fd) (hc : fd.code = .ref c)
    (S : FnScope N ps (defScope st)) (many : ∀ vs H Q E, sp vs H Q E → vs.length = ps.length)
    (body : ∀ (A : Around) (outer : List Env) (s : Shared) (H : Hp) (vs : List V) (Q : VK) (E : XK), Room k (A.deeper (envOfC qual (defScope st) s.heap.objs.size f (.ref c))) → sp vs H Q E →
      ∃ t, PSs (cxOf CX0 P w K mg base N qual (defScope st) f (.ref c) A outer s H E).nox (defBody st) t ∧ t { nx := fun _ H' => Q .non H', rt := Q } (start N vs) H) : FnOk P w K mg base CX0 (k + 1) f fd ps sp := by
  obtain ⟨oc, od, kV, doc, pm, an, cdv, ct, osl, rfl, at_, code⟩ := F.ex
  have e : cdv = .ref c := hc
  subst e
  refine fn_of at_ code S many fun A outer s H vs Q E room want => ?_
  obtain ⟨t, ht, hq⟩ := body A outer s H vs Q E room want
  exact ⟨t, ht.nox, hq⟩
/-! ### the law's own call, where tables of code objects grow -/
theorem law_callGT {P : Program} {w : World} {K : PySem.W.Frag} {mg mb : Str → Option Value} {k : Nat} {fa a : Addr} {cs : List (Addr × Addr)} {fd : FuncData} {x : Str} {sp : Sp} {s : Shared} {vs : List Value} {ns : List Int}
    (kin : K.In s.heap) (glob : s.heap.Ns mainGlobals mg) (blt : s.heap.Ns builtinsNs mb) (boot : ∀ y : Str, y ≠ "__name__" → mb y = bootBuiltins y) (lim : s.heap.NoLimit) (gens : s.gens = #[])
    (tabs : ∀ p ∈ cs, s.heap.get? p.2 = some (PySem.W.tabObj #[])) (out : ∀ p ∈ cs, K.lookup p.2 = none) (code : ∀ p ∈ cs, PySem.W.CodeHd s.heap p.1 p.2)
    (bmain : ∃ (bm : Addr) (ob : Obj), mg "__builtins__" = some (.ref bm) ∧ bm ≠ builtinsNs ∧ s.heap.get? bm = some ob ∧ ob.cls = .type "module" ∧ ob.dict = some builtinsNs ∧ ob.data = .plain)
    (obj : s.heap.get? a = some { cls := .type "list", data := .seq vs.toArray }) (whole : IntsAre vs ns) (small : ns.length ≤ sizeLine) (room : Room k callerA)
    (F : ∀ base : Heap, K.In base → base.Ns mainGlobals mg → (∀ p ∈ cs, LamX.TabB base mg p.1 p.2) → FnG P w K mg base k fa fd [x] sp) (bind : ∀ (s : Shared) (u : Value), BindsTo s fd ⟨[u], []⟩ [(x, u)])
    (want : ∀ H : Hp, (∀ p ∈ cs, H p.2 = some (.tbl #[])) → SqL K H a (ns.map V.int) → sp [.ref a] H (fun v _ => v = .bl true) E0) :
    codeAny (model P w) callerA (.call (.ref fa) ⟨[.ref a], []⟩) (fun r s' => r = .ok (.ret (.bool true)) ∧ OldK s.heap s'.heap ∧ s'.os = s.os ∧ AllBare s'.gens) s := by
  have rv := vals_ints whole
  have nv := whole.length
  obtain ⟨isT, eT⟩ : ∃ isT : Addr → Prop, isT = fun b => ∃ p ∈ cs, p.2 = b := ⟨_, rfl⟩
  have inT : ∀ p ∈ cs, isT p.2 := fun p hp => by rw [eT]; exact ⟨p, hp, rfl⟩
  have atT : ∀ {b}, isT b → s.heap.get? b = some (PySem.W.tabObj #[]) := fun {b} h => by
    rw [eT] at h
    obtain ⟨p, hp, rfl⟩ := h
    exact tabs p hp
  have outT : ∀ {b}, isT b → K.lookup b = none := fun {b} h => by
    rw [eT] at h
    obtain ⟨p, hp, rfl⟩ := h
    exact out p hp
  have ofT : ∀ {b}, isT b → ∃ p ∈ cs, p.2 = b := fun {b} h => by rw [eT] at h; exact h
  have aT : ¬ isT a := fun h => by
    have z := (atT h).symm.trans obj
    have z2 : Data.fields #[] = Data.seq vs.toArray _ := congrArg Obj.data (Option.some.inj z)
    cases z2
  clear eT
  -- the tables, and the script where it isn't one of the written part
  obtain ⟨H, H1, H2, H3, H4⟩ : ∃ H : Hp, (∀ b, isT b → H b = some (.tbl #[])) ∧ SqL K H a (ns.map V.int) ∧ HOk P w H s.heap ∧ (∀ b u, H b = some u → (isT b ∧ u = .tbl #[]) ∨ (b = a ∧ K.lookup a = none ∧ ∃ ob xs, u = .frz ob (.lst xs))) := by
    have cl := fun b => Classical.propDecidable (isT b)
    cases lk : K.lookup a with
    | some o =>
      have same := kin a o lk
      rw [obj] at same
      cases same
      have hit : ∀ b u, (if isT b then some (HO.tbl #[]) else none) = some u → isT b ∧ u = .tbl #[] := fun b u z => by
        split at z
        · cases z; exact ⟨‹_›, rfl⟩
        · cases z
      refine ⟨fun b => if isT b then some (.tbl #[]) else none, fun b h => if_pos h, .inr ⟨_, vs.toArray, _, lk, rfl, rfl, rfl, by rw [List.size_toArray, nv]; exact small, by simpa using rv⟩, fun b u z => ?_, fun b u z => .inl (hit b u z)⟩
      obtain ⟨h, rfl⟩ := hit b u z
      exact atT h
    | none =>
      have hit : ∀ b u, (if isT b then some (HO.tbl #[]) else if b = a then some (HO.frz { cls := .type "list", data := .seq vs.toArray } (.lst (ns.map V.int))) else none) = some u → (isT b ∧ u = .tbl #[]) ∨ (b = a ∧ u = .frz { cls := .type "list", data := .seq vs.toArray } (.lst (ns.map V.int))) := fun b u z => by
        split at z
        · cases z; exact .inl ⟨‹_›, rfl⟩
        · split at z
          · cases z; exact .inr ⟨‹_›, rfl⟩
          · cases z
      refine ⟨fun b => if isT b then some (.tbl #[]) else if b = a then some (.frz { cls := .type "list", data := .seq vs.toArray } (.lst (ns.map V.int))) else none, fun b h => if_pos h, .inl (.inr ⟨{ cls := .type "list", data := .seq vs.toArray }, (if_neg aT).trans (if_pos rfl)⟩), fun b u z => ?_, fun b u z => (hit b u z).imp id fun h => ⟨h.1, rfl, _, _, h.2⟩⟩
      rcases hit b u z with ⟨h, rfl⟩ | ⟨rfl, rfl⟩
      · exact atT h
      · exact ⟨obj, by rw [List.length_map]; exact small, vs, _, rv, obj⟩
  have hid : ∀ {b : Addr} {o : Obj}, s.heap.get? b = some o → H b = none → (hidT s.heap H).get? b = some o := fun e n => hidT_get e n
  have no : ∀ {b : Addr} {o : Obj}, s.heap.get? b = some o → (∀ us n, o.data ≠ .seq us n) → o.data ≠ .fields #[] → H b = none := fun {b o} e n1 n2 => by
    cases q : H b with
    | none => rfl
    | some u =>
      rcases H4 b u q with ⟨h, _⟩ | ⟨rfl, _⟩
      · rw [atT h] at e
        cases e
        exact absurd rfl n2
      · rw [obj] at e
        cases e
        exact absurd rfl (n1 _ _)
  have kinB : K.In (hidT s.heap H) := fun b o e => hid (kin b o e) (by
    cases q : H b with
    | none => rfl
    | some u =>
      rcases H4 b u q with ⟨h, _⟩ | ⟨rfl, h, _⟩
      · rw [outT h] at e; cases e
      · rw [h] at e; cases e)
  have ns_ : ∀ {b : Addr} {m : Str → Option Value}, s.heap.Ns b m → (hidT s.heap H).Ns b m := fun {b m} h => by
    obtain ⟨o, es, ep, e, d, r⟩ := h
    exact ⟨o, es, ep, hid e (no e (fun us n z => by rw [d] at z; cases z) fun z => by rw [d] at z; cases z), d, r⟩
  have md : Mod K mg (hidT s.heap H) := ⟨kinB, ns_ glob, ⟨mb, ns_ blt, boot⟩, by obtain ⟨mc, h1, h2⟩ := lim; exact ⟨mc, ns_ h1, h2⟩⟩
  have globNe : ∀ {b : Addr} {o : Obj}, s.heap.get? b = some o → (∀ es ep, o.data ≠ .dict es ep) → b ≠ mainGlobals := fun {b o} e n z => by
    obtain ⟨o2, es, ep, e2, d, _⟩ := glob
    rw [z, e2] at e
    cases e
    exact n _ _ d
  have tb : ∀ p ∈ cs, LamX.TabB (hidT s.heap H) mg p.1 p.2 := fun p hp => by
    have hTp := tabs p hp
    refine ⟨?_, ?_, fun z => globNe hTp (fun es ep q => by cases q) z.symm⟩
    · obtain ⟨o, us, file, tf, flags, tg, inF, text, tt, e1, r1, r2, r3, r⟩ := code p hp
      exact ⟨o, us, file, tf, flags, tg, inF, text, tt, hid e1 (no e1 (fun us n z => by rw [r2] at z; cases z) fun z => by rw [r2] at z; cases z; simp at r3), r1, r2, r3, r⟩
    · obtain ⟨bm, ob, b1, b2, b3, b4, b5, b6⟩ := bmain
      refine ⟨bm, ob, b1, b2, globNe b3 (fun es ep q => by rw [b6] at q; cases q), fun q => ?_, hid b3 (no b3 (fun us n z => by rw [b6] at z; cases z) fun z => by rw [b6] at z; cases z), b4, b5, b6⟩
      rw [q, hTp] at b3
      cases b3
      cases b6
  have e0 : Env0 P w K mg (hidT s.heap H) callerA [] s H := ⟨rfl, md, fun b o e => of_hidT e, Nat.le_of_eq (hidT_size _ _), trivial, (fun b hb => nomatch (show b ∈ ([] : List Addr) from hb)), H3, .of_eq gens⟩
  refine codeAny_mono ((F _ kinB (ns_ glob) tb).does callerA [] s H ⟨[.ref a], []⟩ [.ref a] [.ref a] _ rfl room e0 (bind s (.ref a)) (.cons rfl .nil) (want H (fun p hp => H1 _ (inT p hp)) H2)) fun res s' h => ?_
  rcases res with _ | fl
  case error => exact (show False from h).elim
  cases fl <;> first | exact (show False from h).elim | skip
  obtain ⟨v, H', os, bare, un, fine', rel, q⟩ := h
  cases (show v = .bl true from q)
  cases (show _ = Value.bool true from rel)
  have key : ∀ b o, ¬ isT b → s.heap.get? b = some o → s'.heap.get? b = some o := fun b o nb e => by
    cases q : H b with
    | none => exact un.keep b o e q (fun z => nomatch (show b ∈ ([] : List Addr) from z)) (fun z => nomatch z)
    | some u =>
      rcases H4 b u q with ⟨h, _⟩ | ⟨rfl, _, ob, xs, rfl⟩
      · exact absurd h nb
      · have e1 := (H3 _ _ q).1
        have e2 := (fine' _ _ (un.frzs _ ob _ q)).1
        rw [e] at e1; cases e1
        exact e2
  have grow : ∀ {b}, isT b → ∃ more : Array Value, s'.heap.get? b = some (PySem.W.tabObj more) := fun {b} h => by
    obtain ⟨more, z⟩ := un.tbls b #[] (H1 b h)
    exact ⟨_, fine' b _ z⟩
  refine ⟨rfl, ⟨fun b o e => ?_, fun b o e => ?_⟩, os, bare⟩
  · by_cases hb : isT b
    · obtain ⟨more, hm⟩ := grow hb
      obtain ⟨p, hp, rfl⟩ := ofT hb
      rw [tabs p hp] at e
      cases e
      exact .inr (.inl ⟨((code p hp).tab (tabs p hp)).isCodeTable, rfl, #[], more, rfl, (by rw [Array.empty_append]; exact hm)⟩)
    · exact .inl (key b o hb e)
  · by_cases hb : isT b
    · exact (grow hb).elim fun more hm => ⟨_, hm⟩
    · exact ⟨o, key b o hb e⟩
theorem walkGT {l : PySem.W.OpenLaw} {n k : Nat} {q : Program} {loose : List Str} {XP : (Str → Option Value) → Heap → Prop} {YP : World → Heap → Prop} {d : DefRec} {K : Params → PySem.W.Frag} {x : Str}
    (most : l.most = some n) (fits : n ≤ sizeLine) (plain : d.params.defaults = []) (room : Room k callerA) (part : ∀ (w : World) (h : Heap), YP w h → (K w.params).In h)
    (F : ∀ (w : World) (mg : Str → Option Value) (fa : Addr) (h : Heap), YP w h → (K w.params).In h → h.Ns mainGlobals mg → mg d.name = some (.ref fa) →
      ∃ (fd : FuncData) (cs : List (Addr × Addr)) (sp : Sp), (∀ p ∈ cs, h.get? p.2 = some (PySem.W.tabObj #[])) ∧ (∀ p ∈ cs, (K w.params).lookup p.2 = none) ∧ (∀ p ∈ cs, PySem.W.CodeHd h p.1 p.2) ∧ (∀ (s : Shared) (u : Value), BindsTo s fd ⟨[u], []⟩ [(x, u)]) ∧
        (∀ (H : Hp) (a : Addr) (ns : List Int), ns.length ≤ n → (∀ p ∈ cs, H p.2 = some (.tbl #[])) → SqL (K w.params) H a (ns.map V.int) → sp [.ref a] H (fun v _ => v = .bl true) E0) ∧
        ∀ base : Heap, (K w.params).In base → base.Ns mainGlobals mg → (∀ p ∈ cs, LamX.TabB base mg p.1 p.2) → FnG l.prog w (K w.params) mg base k fa fd [x] sp) :
    PySem.W.WalkO q loose XP YP l.row.toRowW d [] (fun f vs => PySem.call f vs) := by
  refine Att.attach_call most plain fun w s₀ s₁ mg mb fa o pm cd doc a vs ns G Y _ _ _ named obj whole len gens => ?_
  obtain ⟨fd, cs, sp, hT, nT, C, bind, want, hF⟩ := F w mg fa _ Y (part w _ Y) G.T.g named
  exact law_callGT (part w _ Y) G.T.g G.T.b G.T.builtins G.T.nolimit gens hT nT C G.T.bmain obj whole (Nat.le_trans len fits) room hF bind fun H hH seq => want H a ns len hH seq
end Pot

namespace Pot
open PySem PySem.Spec PyProof.Rows L2
/-! ### dicts whose keys are tuples: one written with one pair, the greatest of the values -/
def tDispT (tk tv : TE) : TE := fun σ H Q => ∀ p, H p = none → tk σ (upd H p (.dT [])) fun x H1 => tv σ H1 fun y H2 => ∃ (b : Addr) (k : List Key), x = .ref b ∧ H2 b = some (.tup (k.map kV)) ∧ H2 p = some (.dT []) ∧ Q (.ref p) (upd H2 p (.dT [(k, y)]))
def rValsT : V → List V → Hp → VK → Prop := fun x xs H Q => ∃ (a : Addr) (kvs : List (List Key × V)), x = .ref a ∧ xs = [] ∧ H a = some (.dT kvs) ∧ ∀ p, H p = none → Q (.ref p) (upd H p (viewO "dict_values" p a))
def rMaxT : List V → Hp → VK → Prop := fun xs H Q => ∃ (p a : Addr) (kvs : List (List Key × V)) (ns : List Int), xs = [.ref p] ∧ H p = some (viewO "dict_values" p a) ∧ H a = some (.dT kvs) ∧ kvs.map Prod.snd = ns.map V.int ∧ 0 < ns.length ∧ ∀ m, m ∈ ns → (∀ y, y ∈ ns → y ≤ m) → Q (.int m) H
section
variable {X : Cx}
theorem pe_dispT {k v : Expr} {pos : Pos} {tk tv : TE} (hu : X.A.units + 1 < cLine) (hk : PE X k tk) (hv : PE X v tv) : PE X (.Dict [some k] [v] pos) (tDispT tk tv) := by
  refine ⟨fun pins s σ H Q I q => ?_⟩
  have fresh := I.hok.fresh (Nat.le_refl s.heap.objs.size)
  have J := I.laid (t' := s.toks) (a := s.heap.objs.size) (o := .dT []) (h' := s.heap.push { cls := .type "dict", data := .dict #[] }) (fun _ _ z => Heap.get?_push_of_some _ z) (Nat.le_refl _) (dt_empty s.heap I.big)
  have two : PPs X pos [some k] [v] [(tk, tv)] := pps_cons hk hv pps_nil
  rw [arm_eval_Dict, zip_pairTrees [some k] [v] X.env pos rfl rfl, dictDisplay_pairs _ (by exact List.cons_ne_nil _ _) (by exact Nat.le_of_ble_eq_true rfl)]
  have go := two.run pins _ σ _ (fun ps H2 => match ps with
    | [(x, y)] => ∃ (b : Addr) (k : List Key), x = .ref b ∧ H2 b = some (.tup (k.map kV)) ∧ H2 s.heap.objs.size = some (.dT []) ∧ Q (.ref s.heap.objs.size) (upd H2 s.heap.objs.size (.dT [(k, y)]))
    | _ => False) J (q _ fresh)
  refine wpAny_bind (wpAny_standAt (wpAny_bind (wpAny_subDictH (knd := tupleKind (mixKind X.prog X.w)) (Q := fun d s2 => wpAny (model X.prog X.w) X.A (pure (Value.ref d)) (EP X pins σ Q) X.xe s2) (show X.A.units < cLine by omega) (by exact Nat.le_of_ble_eq_true rfl) (thn go fun ws s2 res => ?_))))
  obtain ⟨ps, H2, I2, rel, z⟩ := res
  cases rel with
  | nil => exact z.elim
  | @cons a0 b0 as bs r0 t =>
    cases t with
    | cons _ _ => exact z.elim
    | nil =>
      obtain ⟨x, y⟩ := a0
      obtain ⟨u, r⟩ := b0
      obtain ⟨r1, r2⟩ := r0
      obtain ⟨b, ks, rfl, hb, hd, z⟩ := z
      obtain rfl : u = Value.ref b := r1
      obtain ⟨small, sys, xs, kt, dd⟩ := dt_of I2.hok hd
      cases kt
      refine ⟨[(ks, b, r)], ⟨rfl, rfl, L2.key_of I2.hok hb, trivial⟩, dd, fun h2 tk dd2 only => wpAny_pure ?_⟩
      obtain ⟨o, es, ep, at_, c1, c2, c3, c4, c5⟩ := dd2
      have J2 := d_write (t' := tk) I2 (by rw [hd]; exact True.intro) only ⟨o, at_⟩ (ob := .dT [(ks, y)]) ⟨by show 1 ≤ sizeLine; decide, sys, _, .cons ⟨rfl, by rw [upd_ne (ne_of hb hd (fun w => nomatch w))]; exact hb, r2⟩ .nil, o, es, ep, at_, c1, c2, c3, c5⟩
      exact ⟨.ref _, _, J2, rfl, z⟩
theorem mt_valuesT : MtR X "dict.values" rValsT := by
  intro pins s σ H x xs v us Q I rx rxs h
  obtain ⟨a, kvs, rfl, rfl, at_, q⟩ := h
  cases rx
  cases rxs
  obtain ⟨_, sys, xs, _, dd⟩ := dt_of I.hok at_
  obtain ⟨o, es, ep, lies, c1, c2, _⟩ := id dd
  refine call_meetsIn PySem.F.slot_dict_values dd.typeIs PySem.F.entry_dict_values (PySem.F.args_dict_values_1 _) (meets_dict_values_raw a sys) ⟨⟨es, ep, o, lies, c1, c2⟩, ?_⟩
  exact ⟨.ref s.heap.objs.size, _, I.laid (t' := s.toks) (fun _ _ z => Heap.get?_push_of_some _ z) (Nat.le_refl _) (viewO_ok (Heap.get?_push_size _ rfl)), rfl, q _ (I.hok.fresh (Nat.le_refl _))⟩
theorem mates {α β : Type} {F : α → β → Prop} : ∀ {l : List α} {m : List β} {i : Nat} {y : β}, Paired F l m → m[i]? = some y → ∃ x, l[i]? = some x ∧ F x y
  | _, _, i, y, .nil, g => by simp at g
  | _, _, 0, y, .cons (a := x) f _, g => ⟨x, rfl, by cases g; exact f⟩
  | _, _, i + 1, y, .cons _ t, g => mates (i := i) t g
theorem cr_maxT (hc : X.calm = true) : CallR X (.builtin "max") rMaxT := by
  intro pins s σ H xs us Q I rx h
  obtain ⟨p, a, kvs, ns, rfl, view, at_, vals, some_, q⟩ := h
  rw [Vals.ref1 rx]
  have hv : s.heap.get? p = some (DSub.viewOb "dict_values" a) := (show ObjOk X.prog X.w H s.heap p (viewO "dict_values" p a) from I.hok p _ view).1
  obtain ⟨_, sys, xs, kt, dd⟩ := dt_of I.hok at_
  obtain ⟨o, es, ep, lies, c1, c2, c3, c4, c5⟩ := id dd
  have n1 : kvs.length = ns.length := by simpa using congrArg List.length vals
  have n2 : xs.length = kvs.length := (Paired.length kt).symm
  have n3 : es.size = ns.length := by rw [size_of_entries c3]; omega
  have val : ∀ (i : Nat) (e : DictEntry), es[i]? = some e → ∃ t, e.val = .int (ns.getD i 0) t := fun i e g => by
    rw [entry_at c3, Option.map_eq_some_iff] at g
    obtain ⟨y, gy, rfl⟩ := g
    obtain ⟨x, gx, f⟩ := mates kt gy
    have g2 : (kvs.map Prod.snd)[i]? = some x.2 := by rw [List.getElem?_map, gx]; rfl
    rw [vals, List.getElem?_map, Option.map_eq_some_iff] at g2
    obtain ⟨n, gn, ex⟩ := g2
    have r := f.2.2
    rw [← ex] at r
    obtain ⟨t, et⟩ := r
    refine ⟨t, ?_⟩
    rw [List.getD_eq_getElem?_getD, gn]
    exact et
  have la : a < s.heap.objs.size := Heap.lt_size lies
  refine call_max_walk (DSub.iter_vals hv lies c2 ?_)
  refine ⟨s.heap.objs.size, [s.heap.objs.size, a], [s.heap.objs.size], es.size, fun i v => ∃ t, v = .int (ns.getD i 0) t, _, fun i j => decide (ns.getD i 0 > ns.getD j 0), rfl, DSub.walksVal (a := a) (show X.A.in1.handled = none from I.ok.hd hc) (Nat.ne_of_lt la) c2 val, ⟨Heap.get?_push_size _ rfl, Heap.get?_push_of_some _ lies⟩, fun b hb => ?_, by omega, CmpOf.ints_gt (fun i => ns.getD i 0) (fun i v z => z), fun v h2 tk is_ keep => ?_⟩
  · show b < (s.heap.push _).objs.size
    rw [Heap.size_push]
    rcases List.mem_cons.mp hb with e | e
    · exact e ▸ Nat.lt_succ_self _
    · exact List.mem_singleton.mp e ▸ Nat.lt_succ_of_lt la
  · obtain ⟨t, rfl⟩ := is_
    obtain ⟨b1, b2⟩ := argBest_gt (fun i => ns.getD i 0) (es.size - 1)
    refine ⟨.int _, H, I.kept (t' := tk) fun b u g => keep b u (fun m => ?_) (Heap.get?_push_of_some _ g), ⟨t, rfl⟩, q _ ?_ fun y hy => ?_⟩
    · rw [List.mem_singleton.mp m] at g
      exact absurd (Heap.lt_size g) (Nat.lt_irrefl _)
    · have lb : argBest (fun i j => decide (ns.getD i 0 > ns.getD j 0)) (es.size - 1) ≤ es.size - 1 := b1
      exact PySem.getD_mem (by omega)
    · obtain ⟨j, lj, e⟩ := List.mem_iff_getElem.mp hy
      have top : ns.getD j 0 ≤ ns.getD (argBest (fun i j => decide (ns.getD i 0 > ns.getD j 0)) (es.size - 1)) 0 := b2 j (by omega)
      have g : ns.getD j 0 = y := by rw [List.getD_eq_getElem?_getD, List.getElem?_eq_getElem lj, ← e]; rfl
      rw [g] at top
      exact top
end
end Pot

namespace Pot
open PySem PySem.Spec PyProof.Rows L2
open Sem (wp)
/-! ### zip of a list and a tuple of one length -/
def ItM (K : PySem.W.Frag) (a b : Addr) : It :=
  ⟨fun i H => ∃ (xs ys : List V) (x y : V), SqL K H a xs ∧ SqT K H b ys ∧ xs[i]? = some x ∧ ys[i]? = some y,
   fun i H v H2 => ∃ T x y, v = .ref T ∧ H T = none ∧ H2 = upd H T (.tup [x, y]) ∧ (∀ xs, SqL K H a xs → xs[i]? = some x) ∧ ∀ ys, SqT K H b ys → ys[i]? = some y,
   fun i H => ∃ xs ys : List V, SqL K H a xs ∧ SqT K H b ys ∧ xs.length ≤ i ∧ ys.length ≤ i⟩
theorem drawsEndM {prog : Program} {w : World} {A : Around} (hh : A.handled = none) (it t : Addr) (items : Array Value) (i : Nat) (hi : items[i]? = none) :
    Draws prog w A it [it, t] i (fun _ _ => False) (fun j h => j = i ∧ h.IsListIter it t j ∧ h.IsList t items) where
  live := fun _ _ st => let ⟨o, ho, _⟩ := st.2.1; ⟨o, ho⟩
  frame := fun _ _ _ st hk => ⟨st.1, st.2.1.at fun o e => hk it (by simp) o e, st.2.2.at fun o e => hk t (by simp) o e⟩
  item := fun j _ _ _ hj st _ => absurd st.1 (Nat.ne_of_lt hj)
  done := fun s Q E st hE => wpAny_nextOf_list_end hh st.2.1 st.2.2 hi hE
theorem drawsEndT {prog : Program} {w : World} {A : Around} (hh : A.handled = none) (it t : Addr) (items : Array Value) (i : Nat) (hi : items[i]? = none) :
    Draws prog w A it [it, t] i (fun _ _ => False) (fun j h => j = i ∧ h.IsTupleIter it t j ∧ h.IsTuple t items) where
  live := fun _ _ st => let ⟨o, ho, _⟩ := st.2.1; ⟨o, ho⟩
  frame := fun _ _ _ st hk => ⟨st.1, st.2.1.at fun o e => hk it (by simp) o e, st.2.2.at fun o e => hk t (by simp) o e⟩
  item := fun j _ _ _ hj st _ => absurd st.1 (Nat.ne_of_lt hj)
  done := fun s Q E st hE => wpAny_nextOf_tuple_end hh st.2.1 st.2.2 hi hE
theorem turn_zM {P : Program} {w : World} {K : PySem.W.Frag} {elts : List Expr} {kk : Nat} {tpos : Pos} {a b z TI TO i1 i2 : Addr} (D : ZipSep2 z TI TO i1 i2 [i1, a] [i2, b]) (n1 : a ≠ i1) (n2 : b ≠ i2) :
    Turn P w K (.Tuple elts kk tpos) (ItM K a b) [z, TI, TO, i1, i2] z (fun i h => IsZip h z TI TO .none ∧ IsTupOf2 h TI (.ref i1) (.ref i2) ∧ (∃ x y, IsTupOf2 h TO x y) ∧ h.IsListIter i1 a i ∧ h.IsTupleIter i2 b i) where
  mem := by simp
  obj := fun i h st m hm => by
    obtain ⟨hz, hTI, ⟨x, y, hTO⟩, ⟨o1, e1, _, d1⟩, ⟨o2, e2, _, d2⟩⟩ := st
    simp only [List.mem_cons, List.not_mem_nil, or_false] at hm
    rcases hm with e | e | e | e | e
    · subst e; exact ⟨_, hz, fun v q => nomatch q⟩
    · subst e; exact ⟨_, hTI, fun v q => nomatch q⟩
    · subst e; exact ⟨_, hTO, fun v q => nomatch q⟩
    · subst e; exact ⟨o1, e1, fun v q => by rw [d1] at q; cases q⟩
    · subst e; exact ⟨o2, e2, fun v q => by rw [d2] at q; cases q⟩
  keep := fun i h h2 st k => by
    obtain ⟨hz, hTI, ⟨x, y, hTO⟩, g1, g2⟩ := st
    exact ⟨k z (by simp) _ hz, k TI (by simp) _ hTI, ⟨x, y, k TO (by simp) _ hTO⟩, g1.at fun o q => k i1 (by simp) o q, g2.at fun o q => k i2 (by simp) o q⟩
  item := by
    intro X q1 q2 q3 hc i pins s σ H E I hf st hg; subst q1 q2 q3
    obtain ⟨hz, hTI, ⟨x0, y0, hTO⟩, g1, g2⟩ := st
    obtain ⟨xs, ys, x, y, hqa, hqb, hx, hy⟩ := hg
    obtain ⟨its1, vs1, p1, _⟩ := I.list hqa
    obtain ⟨its2, vs2, p2, _⟩ := I.tuple hqb
    obtain ⟨w1, hw1, r1⟩ := vs1.get hx
    obtain ⟨w2, hw2, r2⟩ := vs2.get hy
    have at1 : its1.toArray[i]? = some w1 := by simpa using hw1
    have at2 : its2.toArray[i]? = some w2 := by simpa using hw2
    have l1 : i < its1.toArray.size := (Array.getElem?_eq_some_iff.mp at1).1
    have l2 : i < its2.toArray.size := (Array.getElem?_eq_some_iff.mp at2).1
    have hh := I.ok.hd hc
    have G := GoesN.zip2 (elts := elts) (x1 := kk) (pos := tpos) D (Draws.list (prog := X.prog) (w := X.w) (A := X.A.in1) hh i1 a n1 its1.toArray) (Draws.tuple (prog := X.prog) (w := X.w) (A := X.A.in1) hh i2 b n2 its2.toArray)
    refine G.goes i s _ _ (by omega) ⟨hz, hTI, ⟨x0, y0, hTO⟩, ⟨g1, p1.isList⟩, ⟨g2, p2⟩⟩ fun v h2 tk hY st2 hk _ => ?_
    obtain ⟨T, t1, t2, rfl, hn, e1, e2, hT⟩ := hY
    cases Option.some.inj (e1.symm.trans at1)
    cases Option.some.inj (e2.symm.trans at2)
    have new : ObjOk X.prog X.w (upd H T (.tup [x, y])) h2 T (.tup [x, y]) := ⟨by show 2 ≤ sizeLine; decide, [w1, w2], .cons r1 (.cons r2 .nil), hT⟩
    have I1 : Inv X pins σ (upd H T (.tup [x, y])) { s with heap := h2, toks := tk } := I.turnedNew (ch := [z, TI, TO, i1, i2]) (fun m ob hm q => hk m ob (fun e => hm (by simp only [List.mem_cons, List.not_mem_nil, or_false] at e ⊢; rcases e with e | e | e | e <;> simp [e])) q) hf hn new
    refine ⟨.ref T, _, I1, rfl, ⟨T, x, y, rfl, I.hok.fresh hn, rfl, fun l hl => by rw [I.list_inj hl hqa]; exact hx, fun l hl => by rw [I.tuple_inj hl hqb]; exact hy⟩, ⟨st2.1, st2.2.1, st2.2.2.1, st2.2.2.2.1.1, st2.2.2.2.2.1⟩, fun m hm => ?_⟩
    have hm0 := (hf m hm).1
    have live : ∃ o, s.heap.get? m = some o := by
      obtain ⟨o1, f1, _⟩ := g1
      obtain ⟨o2, f2, _⟩ := g2
      simp only [List.mem_cons, List.not_mem_nil, or_false] at hm
      rcases hm with e | e | e | e | e
      · subst e; exact ⟨_, hz⟩
      · subst e; exact ⟨_, hTI⟩
      · subst e; exact ⟨_, hTO⟩
      · subst e; exact ⟨_, f1⟩
      · subst e; exact ⟨_, f2⟩
    obtain ⟨o, ho⟩ := live
    rw [upd_ne (Nat.ne_of_lt (Nat.lt_of_lt_of_le (Heap.lt_size ho) hn))]; exact hm0
  done := by
    intro X q1 q2 q3 hc i pins s σ H E I hf st hg; subst q1 q2 q3
    obtain ⟨hz, hTI, ⟨x0, y0, hTO⟩, g1, g2⟩ := st
    obtain ⟨xs, ys, hqa, hqb, hx, hy⟩ := hg
    obtain ⟨its1, vs1, p1, _⟩ := I.list hqa
    obtain ⟨its2, vs2, p2, _⟩ := I.tuple hqb
    have m1 := vs1.length
    have m2 := vs2.length
    have hh := I.ok.hd hc
    have G := GoesN.zip2 (elts := elts) (x1 := kk) (pos := tpos) D (drawsEndM (prog := X.prog) (w := X.w) (A := X.A.in1) hh i1 a its1.toArray i (by simp; omega)) (drawsEndT (prog := X.prog) (w := X.w) (A := X.A.in1) hh i2 b its2.toArray i (by simp; omega))
    rw [Nat.min_self] at G
    exact G.stops s _ _ ⟨hz, hTI, ⟨x0, y0, hTO⟩, ⟨rfl, g1, p1.isList⟩, ⟨rfl, g2, p2⟩⟩ fun h2 tk hk _ => inv_ch (ch := [z, TI, TO, i1, i2]) I (fun m o hm q => hk m o (fun e => hm (by simp only [List.mem_cons, List.not_mem_nil, or_false] at e ⊢; rcases e with e | e | e | e <;> simp [e])) q) hf
  self := fun _ _ _ _ _ st fin => wpAny_pyIter_zip st.1 fin
def iZipM (K : PySem.W.Frag) (ta : TA) : TI := fun σ H R => ta σ H fun vs H1 => ∃ a b xs ys, vs = [.ref a, .ref b] ∧ SqL K H1 a xs ∧ SqT K H1 b ys ∧ R (ItM K a b) H1
theorem pi_zipM {X : Cx} {e e2 : Expr} {ta : TA} {p pos tpos : Pos} {elts : List Expr} {kk : Nat} (hg : Gl X "zip") (hm : X.mg "zip" = none) (ha : PA X [e, e2] ta)
    (hs : starEach [e, e2] X.env = (false, eval e X.env) :: starEach [e2] X.env := by rfl) (hpl : (backTo pos (starEach [e2] X.env)).any (·.1) = false := by rfl) :
    PI X (.Tuple elts kk tpos) (.Call (.Name "zip" p) [e, e2] [] pos) (iZipM X.K ta) := by
  refine ⟨fun pins s σ H R I hi => ?_⟩
  refine Call_ (ld_blt I hg hm PyProof.Rows.boot_zip (PyProof.Rows.callWith_type1 (thn (ha.run pos pins s σ H _ I hi) fun us s1 ⟨vs, H1, I1, r1, q1⟩ => ?_) hs hpl))
  obtain ⟨a, b, xs, ys, ex, qa, qb, q⟩ := q1
  subst ex
  cases r1 with
  | cons ra rr =>
    cases rr with
    | cons rb rr =>
      cases rr; cases ra; cases rb
      obtain ⟨its1, _, p1, _⟩ := I1.list qa
      obtain ⟨its2, _, p2, _⟩ := I1.tuple qb
      have p2l : b < s1.heap.objs.size := by
        obtain ⟨o, e, _⟩ := p2
        exact Heap.lt_size e
      refine zip_begins2 (begins_list a its1.toArray) (begins_tuple b its2.toArray) p1.isList p2 fun h2 hz hTI hTO f1 f2 hsz hk => wpAny_pyIter_zip hz ?_
      refine ⟨s1.heap.objs.size + 4, [s1.heap.objs.size + 4, s1.heap.objs.size + 2, s1.heap.objs.size + 3, s1.heap.objs.size, s1.heap.objs.size + 1], _, _, H1, rfl, I1.kept (t' := s1.toks) hk, turn_zM (zip_sep2 (N := s1.heap.objs.size) (fp1 := [a]) (fp2 := [b]) ?_ ?_) ?_ ?_, ⟨hz, hTI, ⟨_, _, hTO⟩, ⟨_, f1, rfl, rfl⟩, ⟨_, f2, rfl, rfl⟩⟩, fun m hm => ?_, q⟩
      · exact fun m hm => by rw [List.mem_singleton.mp hm]; exact p1.lt
      · exact fun m hm => by rw [List.mem_singleton.mp hm]; exact p2l
      · exact Nat.ne_of_lt p1.lt
      · exact Nat.ne_of_lt (Nat.lt_of_lt_of_le p2l (Nat.le_add_right _ _))
      · have hge : s1.heap.objs.size ≤ m := by
          simp only [List.mem_cons, List.not_mem_nil, or_false] at hm
          rcases hm with e | e | e | e | e <;> (rw [e]; first | exact Nat.le_refl _ | exact Nat.le_add_right _ _)
        exact I1.fpOk hge (I1.hok.fresh hge)
theorem ki_zipM {X : Cx} {K : PySem.W.Frag} {e e2 : Expr} {ta : TA} {p pos tpos : Pos} {elts : List Expr} {kk : Nat} (hg : Gl X "zip") (hm : X.mg "zip" = none) (ha : PA X [e, e2] ta)
    (hs : starEach [e, e2] X.env = (false, eval e X.env) :: starEach [e2] X.env := by rfl) (hpl : (backTo pos (starEach [e2] X.env)).any (·.1) = false := by rfl) (h : X.K = K := by rfl) :
    PI X (.Tuple elts kk tpos) (.Call (.Name "zip" p) [e, e2] [] pos) (iZipM K ta) := h ▸ pi_zipM hg hm ha hs hpl
def YM (f g : Nat → Option V) : Nat → Hp → V → Hp → Prop := fun i H v H2 => ∃ T x y, v = .ref T ∧ H T = none ∧ H2 = upd H T (.tup [x, y]) ∧ f i = some x ∧ g i = some y
theorem walk_zM {K : PySem.W.Frag} {a b : Addr} {xs ys : List V} (h1 : ys.length = xs.length) : Walk (ItM K a b) xs.length (fun H => SqL K H a xs ∧ SqT K H b ys) (YM (fun i => xs[i]?) (fun i => ys[i]?)) := by
  refine ⟨fun i _ hi hs => ⟨xs, ys, xs[i], ys[i]'(by omega), hs.1, hs.2, by simp [hi], by simp [show i < ys.length by omega]⟩, fun _ hs => ⟨xs, ys, hs.1, hs.2, by omega, by omega⟩, fun i H v H2 _ hs y => ?_⟩
  obtain ⟨T, x, y, e1, e2, e3, e4, e5⟩ := y
  exact ⟨T, x, y, e1, e2, e3, e4 xs hs.1, e5 ys hs.2⟩
end Pot

namespace Pot
open PySem PySem.Spec PyProof.Rows L2
/-! ### calls by names alone -/
section
variable {X : Cx} {CX : CXT} {k : Nat} {f : Addr} {fd : FuncData} {ps ks : List Str} {sp : Sp} {E : XK} {x : Str} {p pos : Pos} {kws : List Keyword} {tk : TA} {g : List Value → List Value → List Value} {gV : List V → List V → List V}
theorem pe_callK0 (F : FnOk X.prog X.w X.K X.mg X.base CX k f fd ps sp) (hr : Room k X.A) (hg : Gl X x) (hm : X.mg x = some (.ref f)) (hk : PySem.W.keepIn X.K (.ref f) = true) (hb : KBinds X.K fd ps ks g gV) (hx : Passes CX X E)
    (hkw : PK X kws tk) (hall : (backToKw pos (keywordEach kws X.env)).all (·.1.isSome) = true := by rfl) (hks : (backToKw pos (keywordEach kws X.env)).filterMap (·.1) = ks := by rfl)
    (hdb : (x == ("__debug__" : Str)) = false := by decide)
    (hpl : ((backTo pos (starEach [] X.env)).any (·.1) || (backToKw pos (keywordEach kws X.env)).any (·.1.isNone)) = false := by rfl) :
    PE X (.Call (.Name x p) [] kws pos) (tCallK sp gV E tNil tk) := by
  refine ⟨fun pins s σ H Q I h => ?_⟩
  refine wpAny_Call_Name_kw (ld_glob I hg hm ?_ hdb)
  refine PySem.W.callWith_KW0 (h₀ := X.base) I.ok.mod.kin hk hall (thn (hkw.run pos pins s σ H _ I h) fun ws s2 ⟨zs, H2, I2, rz, q2⟩ => ⟨I2.kIn, ?_⟩) hpl
  rw [hks]
  exact run_fnk F hr hb hx I2 .nil rz q2
end
def ClK (P : Program) (w : World) (K : PySem.W.Frag) (mg : Str → Option Value) (base : Heap) (k : Nat) (x : Str) (ks : List Str) (gV : List V → List V → List V) (sp : Sp) : Prop :=
  ∃ (f : Addr) (fd : FuncData) (ps : List Str) (g : List Value → List Value → List Value), FnOk P w K mg base CX0 k f fd ps sp ∧ mg x = some (.ref f) ∧ PySem.W.keepIn K (.ref f) = true ∧ KBinds K fd ps ks g gV
theorem pe_ck {X : Cx} {k j : Nat} {x : Str} {ks : List Str} {gV : List V → List V → List V} {sp : Sp} {kws : List Keyword} {t : TA} {p pos : Pos} (c : ClK X.prog X.w X.K X.mg X.base k x ks gV sp) (hr : Room j X.A) (hk : k ≤ j) (hg : Gl X x) (ha : PK X kws t)
    (hall : (backToKw pos (keywordEach kws X.env)).all (·.1.isSome) = true := by rfl) (hks : (backToKw pos (keywordEach kws X.env)).filterMap (·.1) = ks := by rfl) (hdb : (x == ("__debug__" : Str)) = false := by decide)
    (hpl : ((backTo pos (starEach [] X.env)).any (·.1) || (backToKw pos (keywordEach kws X.env)).any (·.1.isNone)) = false := by rfl) : PE X (.Call (.Name x p) [] kws pos) (tCallK sp gV E0 tNil t) := by
  obtain ⟨f, fd, ps, g, G, hm, kp, b⟩ := c
  exact pe_callK0 G (hr.mono hk) hg hm kp b pass0 ha hall hks hdb hpl
/-- three, handed in from the last to the first -/
def rev3 {α : Type} : List α → List α → List α
  | [], [a, b, c] => [c, b, a]
  | _, _ => []
theorem kb_rev3 {K : PySem.W.Frag} {x qual : Str} {st : Stmt} {f : Addr} {fd : FuncData} {k1 k2 k3 : Str} (F : Fun K x qual st f fd)
    (h : ∀ (kV doc pm : Value) (an : Option Addr) (cdv ct a b c : Value), bindArgs (PySem.W.fnOf x qual (defArgs st) (defBody st) (defScope st) .none kV doc pm an cdv ct) ⟨[], [(k3, a), (k2, b), (k1, c)]⟩ = pure [(k1, c), (k2, b), (k3, a)]) : KBinds K fd [k1, k2, k3] [k3, k2, k1] rev3 rev3 := by
  obtain ⟨oc, od, kV, doc, pm, an, cdv, ct, osl, rfl, lk, hcd⟩ := F.ex
  refine ⟨fun s us ws _ hl => ?_, fun {vs us zs ws} r rz => ?_⟩
  · match us, ws, hl with
    | [], [a, b, c], _ => exact .of_eq (h kV doc pm an cdv ct a b c)
    | [], [], hl => cases hl
    | [], [_], hl => cases hl
    | [], [_, _], hl => cases hl
    | [], _ :: _ :: _ :: _ :: _, hl => cases hl
    | _ :: _, _, hl => cases hl
  · cases r with
    | nil =>
      cases rz with
      | nil => exact .nil
      | cons a rz =>
        cases rz with
        | nil => exact .nil
        | cons b rz =>
          cases rz with
          | nil => exact .nil
          | cons c rz =>
            cases rz with
            | nil => exact .cons c (.cons b (.cons a .nil))
            | cons _ _ => exact .nil
    | cons _ _ => exact .nil
/-- four, from the last to the first, of a def with defaults -/
def rev4 {α : Type} : List α → List α → List α
  | [], [a, b, c, d] => [d, c, b, a]
  | _, _ => []
theorem kb_rev4D {K : PySem.W.Frag} {x : Str} {st : Stmt} {dvs : List V} {f : Addr} {fd : FuncData} {k1 k2 k3 k4 : Str} (F : FunV K x st dvs f fd) (hd : dvs ≠ [])
    (h : ∀ (T : Addr) (kV doc pm : Value) (an : Option Addr) (cdv ct a b c d : Value) (its : List Value), its.length = dvs.length → ∃ k, bindArgs (PySem.W.fnOf x x (defArgs st) (defBody st) (defScope st) (.ref T) kV doc pm an cdv ct) ⟨[], [(k4, a), (k3, b), (k2, c), (k1, d)]⟩ = seqItems? (.ref T) >>= k ∧ k (some its.toArray) = pure [(k1, d), (k2, c), (k3, b), (k4, a)]) : KBinds K fd [k1, k2, k3, k4] [k4, k3, k2, k1] rev4 rev4 := by
  obtain ⟨oc, od, dV, kV, doc, pm, an, cdv, ct, osl, rfl, lk, hcd, hD, hK⟩ := F.ex
  refine ⟨fun s us ws X hl => ?_, fun {vs us zs ws} r rz => ?_⟩
  · rcases hD with ⟨e, _⟩ | ⟨_, T, o, its, m, rfl, lT, oT, rT⟩
    · exact absurd e hd
    · match us, ws, hl with
      | [], [a, b, c, d], _ =>
        obtain ⟨k, e1, e2⟩ := h T kV doc pm an cdv ct a b c d its rT.length.symm
        refine BindsTo.of_looks fun M => ?_
        show PySem.W.Looks M s.heap (bindArgs _ ⟨[], [(k4, a), (k3, b), (k2, c), (k1, d)]⟩) _
        rw [e1]
        exact looks_items X lT oT (.of_pure e2)
      | [], [], hl => cases hl
      | [], [_], hl => cases hl
      | [], [_, _], hl => cases hl
      | [], [_, _, _], hl => cases hl
      | [], _ :: _ :: _ :: _ :: _ :: _, hl => cases hl
      | _ :: _, _, hl => cases hl
  · cases r with
    | nil =>
      cases rz with
      | nil => exact .nil
      | cons a rz =>
        cases rz with
        | nil => exact .nil
        | cons b rz =>
          cases rz with
          | nil => exact .nil
          | cons c rz =>
            cases rz with
            | nil => exact .nil
            | cons d rz =>
              cases rz with
              | nil => exact .cons d (.cons c (.cons b (.cons a .nil)))
              | cons _ _ => exact .nil
    | cons _ _ => exact .nil
/-! ### a list or a tuple walked -/
def iAnyS (K : PySem.W.Frag) (tl : TE) : TI := fun σ H R => iList K tl σ H R ∨ iTup K tl σ H R
theorem ki_anyS {X : Cx} {K : PySem.W.Frag} {tg l : Expr} {tl : TE} (hl : PE X l tl) (h : X.K = K := by rfl) : PI X tg l (iAnyS K tl) :=
  ⟨fun pins s σ H R I z => z.elim (fun z => (ki_list hl h).run pins s σ H R I z) (fun z => (ki_tup hl h).run pins s σ H R I z)⟩
end Pot

namespace Pot
open PySem PySem.Spec PyProof.Rows L2
/-- sum of a tuple of numbers -/
def rSumT (K : PySem.W.Frag) : List V → Hp → VK → Prop := fun vs H Q => ∃ (a : Addr) (ns : List Int), vs = [V.ref a] ∧ SqT K H a (ns.map V.int) ∧ Q (.int ns.sum) H
theorem kc_sumT {X : Cx} {K : PySem.W.Frag} (hc : X.calm = true := by rfl) (h : X.K = K := by rfl) : CallR X (.builtin "sum") (rSumT K) := by
  subst h
  intro pins s σ H vs us Q I r z
  obtain ⟨a, ns, rfl, hs, q⟩ := z
  obtain ⟨its, rv, hl, _⟩ := I.tuple hs
  rw [Vals.ref1 r]
  have hi := rv.ints
  obtain ⟨xs, hx⟩ := hi.allInts.items
  have hn : numsOf its.toArray.toList = ns := by rw [show its.toArray.toList = its from rfl, hi.numsOf]
  have hl : s.heap.IsTuple a its.toArray := hl
  rw [hx] at hl hn
  rw [nums_intItems] at hn
  refine PySem.W.ktm_sumG (I.ok.hd hc) hl fun h' tk t' hk => ?_
  rw [preSum_eq, List.take_of_length_le (by simp), hn]
  exact ⟨.int _, H, I.kept hk, ⟨_, rfl⟩, q⟩
/-- four by names: the last, the third, the first, the second -/
def mix4 {α : Type} : List α → List α → List α
  | [], [a, b, c, d] => [c, d, b, a]
  | _, _ => []
theorem kb_mix4 {K : PySem.W.Frag} {x qual : Str} {st : Stmt} {f : Addr} {fd : FuncData} {k1 k2 k3 k4 : Str} (F : Fun K x qual st f fd)
    (h : ∀ (kV doc pm : Value) (an : Option Addr) (cdv ct a b c d : Value), bindArgs (PySem.W.fnOf x qual (defArgs st) (defBody st) (defScope st) .none kV doc pm an cdv ct) ⟨[], [(k4, a), (k3, b), (k1, c), (k2, d)]⟩ = pure [(k1, c), (k2, d), (k3, b), (k4, a)]) : KBinds K fd [k1, k2, k3, k4] [k4, k3, k1, k2] mix4 mix4 := by
  obtain ⟨oc, od, kV, doc, pm, an, cdv, ct, osl, rfl, lk, hcd⟩ := F.ex
  refine ⟨fun s us ws _ hl => ?_, fun {vs us zs ws} r rz => ?_⟩
  · match us, ws, hl with
    | [], [a, b, c, d], _ => exact .of_eq (h kV doc pm an cdv ct a b c d)
    | [], [], hl => cases hl
    | [], [_], hl => cases hl
    | [], [_, _], hl => cases hl
    | [], [_, _, _], hl => cases hl
    | [], _ :: _ :: _ :: _ :: _ :: _, hl => cases hl
    | _ :: _, _, hl => cases hl
  · cases r with
    | nil =>
      cases rz with
      | nil => exact .nil
      | cons a rz =>
        cases rz with
        | nil => exact .nil
        | cons b rz =>
          cases rz with
          | nil => exact .nil
          | cons c rz =>
            cases rz with
            | nil => exact .nil
            | cons d rz =>
              cases rz with
              | nil => exact .cons c (.cons d (.cons b (.cons a .nil)))
              | cons _ _ => exact .nil
    | cons _ _ => exact .nil
end Pot

namespace Pot
open PySem PySem.Spec PyProof.Rows L2
def topS (i : Nat) : Stmt := PySem.Challenge.pw_potround_k44_shared_by_all_ways.main.body.getD i (.Pass ⟨0, 0, 0, 0⟩)
section
variable {P : Program} {w : World} {K : PySem.W.Frag} {mg : Str → Option Value} {base : Heap}
abbrev s__law_take : Stmt := topS 8
def n__law_take : List Str := ["_law_state", "_law_many", "_law_digit", "_law_low", "_law_high", "_law_turn", "_law_once", "_law_twice"]
theorem sc__law_take : FnScope n__law_take ["_law_state", "_law_many"] (defScope s__law_take) := ⟨rfl, rfl, rfl, by decide +kernel, rfl, by decide +kernel, by decide +kernel⟩
/-! ### _law_take -/
def spTake : Sp := fun vs H Q _ => ∃ (b : Addr) (m : Int) (n : Nat), vs = [.ref b, .int m] ∧ 0 < m ∧ m < 1073741824 ∧ Bq H b n ∧ n < 2 ^ 40 ∧
  ∀ H' r, 0 ≤ r → r < m → Bq H' b (n + 1) → Sm [b] H H' → Q (.int r) H'
theorem ok_take {f : Addr} {fd : FuncData} {k : Nat} (F : Fun K "_law_take" "_law_take" s__law_take f fd) (T : Txt mg) :
    FnOk P w K mg base CX0 (k + 1) f fd ["_law_state", "_law_many"] spTake := by
  refine F.ok sc__law_take (fun vs H Q E h => ?_) (fun cdv A outer s H vs Q E hr h => ?_)
  · obtain ⟨b, m, n, rfl, _⟩ := h
    rfl
  · obtain ⟨b, m, n, rfl, hm0, hm1, ⟨x, y, z, B, z0, zn⟩, hn, q⟩ := h
    have nd := sc__law_take.nd
    refine ⟨_, (pss_cons (ps_if (pt_cmpR op_gt (pe_ix (kx_list (K := K)) (pv 0) pe_int (fun _ _ => rfl)) pe_int (nomark _))
          (pss_cons (ps_asg (pe_callB call_divmod (by rfl) T.divmod (by decide +kernel) (pa_cons (pe_ix (kx_list (K := K)) (pv 0) pe_int (fun _ _ => rfl)) (pa_cons (pv 1) pa_nil))) (kg_tup (K := K) (n := 2) (pgs_cons (pg_sub (pv 0) pe_int set_list) (pgs_cons (pg_name (i := 2) nd rfl (.inl rfl)) pgs_nil))))
          (pss_one (ps_ret (pv 2))))
          pss_nil)
      (pss_cons (ps_asg (pe_op op_add (pe_ix (kx_list (K := K)) (pv 0) pe_int (fun _ _ => rfl)) pe_int) (pg_sub (pv 0) pe_int set_list))
      (pss_cons (ps_par3 (i := 3) (j := 4) (l := 5) rfl nd rfl rfl rfl (by decide) (by decide) (by decide) rfl rfl rfl (pa_cons (pe_op op_mod (pe_ix (kx_list (K := K)) (pv 0) pe_int (fun _ _ => rfl)) pe_int) (pa_cons (pe_op op_fdivW (pe_ix (kx_list (K := K)) (pv 0) pe_int (fun _ _ => rfl)) pe_int) (pa_cons (pe_ix (kx_list (K := K)) (pv 0) pe_int (fun _ _ => rfl)) pa_nil))) rfl)
      (pss_cons (ps_set (i := 6) nd rfl (.inl rfl) (pe_op op_mod (pe_op op_mul (pe_op op_add (pe_op op_add (pv 3) (pe_op op_mul (pe_op op_mul (pv 5) (pv 5)) pe_int)) pe_int) pe_int) pe_int))
      (pss_cons (ps_set (i := 7) nd rfl (.inl rfl) (pe_op op_mod (pe_op op_add (pe_op op_add (pe_op op_mul (pv 6) (pe_op op_add (pe_op op_mod (pv 6) pe_int) pe_int)) (pv 4)) (pv 5)) pe_int))
      (pss_one (ps_ret (pe_op op_mod (pe_op op_fdiv (pe_op op_mod (pe_op op_add (pe_op op_mul (pv 7) pe_int) (pv 6)) pe_int) pe_int) (pv 1))))))))), ?_⟩
    refine ⟨_, rfl, b, _, 0, .int x, rfl, rfl, SqL.of B, rfl, _, _, rfl, rfl, _, rfl, ite2 (fun hb => ?_) (fun hb => ?_)⟩
    · refine ⟨_, rfl, b, _, 0, .int x, rfl, rfl, SqL.of B, rfl, _, rfl, _, _, rfl, ⟨hm0, hm1⟩, fun p np => ?_⟩
      have nb : b ≠ p := ne_of_none B np
      have B1 : upd H p (.tup [.int (x / m), .int (x % m)]) b = some (.lst [.int x, .int y, .int z]) := by rw [upd_ne nb]; exact B
      refine ⟨p, _, rfl, .inl (.inl upd_same), rfl, _, _, rfl, _, rfl, b, _, 0, 0, rfl, rfl, B1, rfl, ?_⟩
      refine ⟨_, _, rfl, rfl, _, rfl, ?_⟩
      exact q _ _ (Int.emod_nonneg _ (by omega)) (Int.emod_lt_of_pos _ hm0) ⟨_, _, _, upd_same, z0, by omega⟩ ((sm_put np).trans (sm_wr List.mem_cons_self))
    · refine ⟨_, rfl, b, _, 2, .int z, rfl, rfl, SqL.of B, rfl, _, _, rfl, rfl, _, rfl, b, _, 2, 2, rfl, rfl, B, rfl, ?_⟩
      have B2 : upd H b (.lst [.int x, .int y, .int (z + 1)]) b = some (.lst [.int x, .int y, .int (z + 1)]) := upd_same
      have s2 : Sm [b] H (upd H b (.lst [.int x, .int y, .int (z + 1)])) := sm_wr List.mem_cons_self
      show tSeq _ _ _ _ (upd H b (.lst [.int x, .int y, .int (z + 1)]))
      generalize upd H b (.lst [.int x, .int y, .int (z + 1)]) = H2 at B2 s2 ⊢
      have t2 : z + 1 < 2 ^ 41 := by omega
      refine ⟨_, rfl, b, _, 1, .int y, rfl, rfl, SqL.of B2, rfl, _, _, rfl, rfl, (by show (0 : Int) < 2147483629; decide), ?_⟩
      refine ⟨_, rfl, b, _, 1, .int y, rfl, rfl, SqL.of B2, rfl, _, _, rfl, rfl, CDivW.of (by decide) (by decide), ?_⟩
      refine ⟨_, rfl, b, _, 2, .int (z + 1), rfl, rfl, SqL.of B2, rfl, _, _, _, rfl, ?_⟩
      refine ⟨_, rfl, _, rfl, _, rfl, _, _, rfl, rfl, .inl ⟨by omega, by omega⟩, _, _, rfl, rfl, .inr ⟨by decide, by decide⟩, _, _, rfl, rfl, _, _, rfl, rfl, _, _, rfl, rfl, .inr ⟨by decide, by decide⟩, _, _, rfl, rfl, (by show (0 : Int) < 2147483647; decide), ?_⟩
      refine ⟨_, rfl, _, rfl, _, _, rfl, rfl, (by show (0 : Int) < 30011; decide), _, _, rfl, rfl, _, _, rfl, rfl, cmul_mod _ _ (by decide) (by decide), _, rfl, _, _, rfl, rfl, _, rfl, _, _, rfl, rfl, _, _, rfl, rfl, (by show (0 : Int) < 2147483587; decide), ?_⟩
      refine ⟨_, rfl, _, _, rfl, rfl, .inr ⟨by decide, by decide⟩, _, rfl, _, _, rfl, rfl, _, _, rfl, rfl, (by show (0 : Int) < 2147483629; decide), _, _, rfl, rfl, ⟨by decide, by decide⟩, _, rfl, _, _, rfl, rfl, hm0, ?_⟩
      exact q _ _ (Int.emod_nonneg _ (by omega)) (Int.emod_lt_of_pos _ hm0) ⟨_, _, _, B2, by omega, by omega⟩ s2

abbrev s__law_begin : Stmt := topS 7
def n__law_begin : List Str := ["_law_script", "_law_k", "_law_cell"]
theorem sc__law_begin : FnScope n__law_begin ["_law_script", "_law_k"] (defScope s__law_begin) := ⟨rfl, rfl, rfl, by decide +kernel, rfl, by decide +kernel, by decide +kernel⟩
/-! ### _law_begin -/
def spBegin (K : PySem.W.Frag) : Sp := fun vs H Q _ => ∃ (a : Addr) (ns : List Int) (k : Nat), vs = [.ref a, .int (k : Nat)] ∧ SqL K H a (ns.map V.int) ∧ k ≤ 63 ∧ ∀ H' b, Same H H' → Bq H' b 0 → H b = none → Q (.ref b) H'
theorem ok_begin {f : Addr} {fd : FuncData} {k : Nat} (F : Fun K "_law_begin" "_law_begin" s__law_begin f fd) (T : Txt mg) : FnOk P w K mg base CX0 (k + 1) f fd ["_law_script", "_law_k"] (spBegin K) := by
  refine F.ok sc__law_begin (fun vs H Q E h => ?_) (fun cdv A outer s H vs Q E hr h => ?_)
  · obtain ⟨a, ns, k, rfl, _⟩ := h
    rfl
  · obtain ⟨a, ns, k, rfl, hS, h63, q⟩ := h
    have nd := sc__law_begin.nd
    refine ⟨_, (pss_cons (ps_set (i := 2) nd rfl (.inl rfl) (pe_ifExp (pt_cmpR op_lt (pv 1) (pe_callB (kc_len (K := K)) (by rfl) T.len PySem.boot_len (pa_cons (pv 0) pa_nil)) (nomark _)) (pe_ix (kx_list (K := K)) (pv 0) (pv 1) (fun _ _ => rfl)) pe_int))
      (pss_one (ps_ret (pe_lst (pa_cons (pe_op op_mul (pe_callB call_abs (by rfl) T.abs (by decide +kernel) (pa_cons (pv 2) pa_nil)) (pe_callTy call_int1 (by rfl) T.int (by decide +kernel) (pa_cons (pe_cmpR op_ge (pe_callB call_abs (by rfl) T.abs (by decide +kernel) (pa_cons (pv 2) pa_nil)) (pe_op op_pow pe_int pe_int) (nomark _)) pa_nil))) (pa_cons (pe_op op_add (pe_op op_add (pe_op op_mod (pe_callB call_abs (by rfl) T.abs (by decide +kernel) (pa_cons (pv 2) pa_nil)) (pe_op op_pow pe_int pe_int)) (pe_op op_mul pe_int (pv 1))) (pe_callTy call_int1 (by rfl) T.int (by decide +kernel) (pa_cons (pe_cmpR op_lt (pv 2) pe_int (nomark _)) pa_nil))) (pa_cons pe_int pa_nil))))))), ?_⟩
    refine ⟨_, rfl, _, rfl, _, _, rfl, .inl ⟨_, hS, rfl⟩, _, _, rfl, rfl, _, rfl, ite2 (fun hb => ?_) (fun hb => ?_)⟩
    · have hk : k < ns.length := by have := of_decide_eq_true hb; rw [List.length_map] at this; omega
      refine ⟨_, rfl, _, rfl, a, _, _, _, rfl, rfl, hS, atI_nat (by rw [List.getElem?_map, List.getElem?_eq_getElem hk]; rfl), ?_⟩
      refine ⟨_, rfl, _, rfl, _, rfl, _, rfl, _, _, rfl, rfl, ⟨by decide, by decide, by decide⟩, _, _, rfl, rfl, .inr ⟨_, rfl, _, _, rfl, rfl, .inr (b01 _), ?_⟩⟩
      refine ⟨_, rfl, _, rfl, _, _, rfl, rfl, ⟨by decide, by decide, by decide⟩, _, _, rfl, rfl, (by show (0 : Int) < 10 ^ 40; decide), _, rfl, _, _, rfl, rfl, .inl ⟨by decide, by decide⟩, _, _, rfl, rfl, _, rfl, _, _, rfl, rfl, .inr ⟨_, rfl, _, _, rfl, rfl, (by show 3 ≤ sizeLine; decide), fun p np => ?_⟩⟩
      exact q _ _ (same_upd np) ⟨_, _, _, upd_same, Int.le_refl _, Int.le_refl _⟩ np
    · skip
      refine ⟨_, rfl, _, rfl, _, rfl, _, rfl, _, _, rfl, rfl, ⟨by decide, by decide, by decide⟩, _, _, rfl, rfl, .inr ⟨_, rfl, _, _, rfl, rfl, .inr (b01 _), ?_⟩⟩
      refine ⟨_, rfl, _, rfl, _, _, rfl, rfl, ⟨by decide, by decide, by decide⟩, _, _, rfl, rfl, (by show (0 : Int) < 10 ^ 40; decide), _, rfl, _, _, rfl, rfl, .inl ⟨by decide, by decide⟩, _, _, rfl, rfl, _, rfl, _, _, rfl, rfl, .inr ⟨_, rfl, _, _, rfl, rfl, (by show 3 ≤ sizeLine; decide), fun p np => ?_⟩⟩
      exact q _ _ (same_upd np) ⟨_, _, _, upd_same, Int.le_refl _, Int.le_refl _⟩ np

end
end Pot

namespace Pot
open PySem PySem.Spec PyProof.Rows L2
section
variable {P : Program} {w : World} {K : PySem.W.Frag} {mg : Str → Option Value} {base : Heap}
theorem sm_wr0 {H H2 : Hp} {S : List Addr} {L : Addr} {o : HO} (s : Sm S H H2) (n : H L = none) : Sm S H (upd H2 L o) := fun x u e => by
  have nm := off_mem e
  have e2 := s x u e
  rw [off_out nm] at e e2 ⊢
  have ne : x ≠ L := fun z => by rw [z, n] at e; cases e
  rw [upd_ne ne]; exact e2
abbrev Pc := Int × Int
def pc0 : Pc := (0, 0)
def pcD (p : Pc) : PyData := .tuple [.int p.1, .int p.2]
def PcOk (p : Pc) : Prop := 1 ≤ p.1 ∧ p.1 ≤ 9 ∧ 0 ≤ p.2 ∧ p.2 ≤ 1000000000
theorem pc_dp {H : Hp} {v : V} {p : Pc} (h : Dp K H v (pcD p)) : ∃ a, v = .ref a ∧ SqT K H a [.int p.1, .int p.2] := by
  obtain ⟨a, xs, rfl, hs, ha⟩ := dp_tup h
  obtain ⟨x, y, rfl, h1, h2⟩ := dp_two ha
  rw [dp_int h1, dp_int h2] at hs
  exact ⟨a, rfl, hs⟩
theorem pcs_at {H : Hp} {xs : List V} {ps : List Pc} (h : DpAll K H xs (ps.map pcD)) {i : Nat} {v : V} (g : xs[i]? = some v) : ∃ a, v = .ref a ∧ SqT K H a [.int (ps.getD i pc0).1, .int (ps.getD i pc0).2] ∧ i < ps.length ∧ Dp K H v (pcD (ps.getD i pc0)) := by
  obtain ⟨d, gd, dp⟩ := dpAll_at h g
  rw [List.getElem?_map] at gd
  obtain ⟨p, gp, rfl⟩ := Option.map_eq_some_iff.mp gd
  have e : ps.getD i pc0 = p := by rw [List.getD_eq_getElem?_getD, gp]; rfl
  rw [e]
  obtain ⟨a, rfl, hs⟩ := pc_dp dp
  exact ⟨a, rfl, hs, (List.getElem?_eq_some_iff.mp gp).1, dp⟩
theorem pcs_getD {ps : List Pc} {p : Pc → Prop} (h : ∀ x ∈ ps, p x) {i : Nat} (hi : i < ps.length) : p (ps.getD i pc0) := by
  rw [List.getD_eq_getElem?_getD, List.getElem?_eq_getElem hi]
  exact h _ (List.getElem_mem hi)
/-- all but lists and tables stays -/
def Nl (H H' : Hp) : Prop := ∀ x o, H x = some o → (∀ l, o ≠ .lst l) → (∀ p, o ≠ .tbl p) → H' x = some o
theorem Nl.refl (H : Hp) : Nl H H := fun _ _ h _ _ => h
theorem Nl.trans {H H1 H2 : Hp} (a : Nl H H1) (b : Nl H1 H2) : Nl H H2 := fun x o h n m => b x o (a x o h n m) n m
theorem Nl.same {H H' : Hp} (s : Same H H') : Nl H H' := fun x o h _ _ => s x o h
theorem Nl.ext {H H' : Hp} (s : LamX.ExtN H H') : Nl H H' := fun x o h _ m => s x o h m
theorem Nl.box {H H' : Hp} {b : Addr} (s : Sm [b] H H') (B : Bx H b) : Nl H H' := fun x o h n _ => by
  have ne : x ≠ b := fun z => by
    obtain ⟨_, _, _, e⟩ := B
    rw [z, e] at h
    exact n _ (Option.some.inj h).symm
  exact sm_at s (by simp [ne]) h
theorem Nl.put {H : Hp} {p : Addr} {o : HO} (h : H p = none) : Nl H (upd H p o) := Nl.same (same_upd h)
theorem Nl.wr {H : Hp} {p : Addr} {o : HO} {l : List V} (h : H p = some (.lst l)) : Nl H (upd H p o) := fun x u e n _ => by
  have ne : x ≠ p := fun z => by rw [z, h] at e; exact n _ (Option.some.inj e).symm
  rw [upd_ne ne]; exact e
theorem sqT_nl {H H' : Hp} {a : Addr} {xs : List V} (s : Nl H H') (h : SqT K H a xs) : SqT K H' a xs := by
  rcases h with (h | ⟨o, h⟩) | h
  · exact .inl (.inl (s _ _ h (fun l z => by cases z) fun l z => by cases z))
  · exact .inl (.inr ⟨o, s _ _ h (fun l z => by cases z) fun l z => by cases z⟩)
  · exact .inr h
theorem pcs_nl {H H' : Hp} (s : Nl H H') : ∀ {ps : List Pc} {xs : List V}, DpAll K H xs (ps.map pcD) → DpAll K H' xs (ps.map pcD)
  | [], _, h => by
    cases h
    exact .nil
  | p :: ps, _, h => by
    cases h with
    | cons a r =>
      obtain ⟨t, rfl, ht⟩ := pc_dp a
      exact .cons (.tup (sqT_nl s ht) (.cons (.int _) (.cons (.int _) .nil))) (pcs_nl s r)

end
end Pot

namespace Pot
open PySem PySem.Spec PyProof.Rows L2
section
variable {P : Program} {w : World} {K : PySem.W.Frag} {mg : Str → Option Value} {base : Heap}
/-- how many pairs of a rank and more come to -/
def abvF (ps : List Pc) (r : Int) : Int := (((ps.filter fun p => decide (r ≤ p.1))).map (·.2)).sum
def lackF (cs os : List Pc) (r : Int) : Int := max 0 (abvF os r - abvF cs r)
abbrev Rw := Nat × Nat × Int
def rwD (r : Rw) : PyData := .tuple [.int (r.1 : Int), .int (r.2.1 : Int), .int r.2.2]
theorem rw_al : ∀ b b' : Rw, PySem.W.alike (rwD b) (rwD b') = true := fun b b' => by simp [rwD, PySem.W.alike, PySem.W.alikeAll]
theorem rw_tp : ∀ b : Rw, ∃ x r, rwD b = .tuple (x :: r) := fun b => ⟨_, _, rfl⟩
theorem rw_dep : ∀ b : Rw, (rwD b).depth ≤ 60 := fun b => by simp [rwD, PyData.depth, PyData.depthAll]
/-- one crew's turn for the order o of rank rk -/
def mkStep (cs : List Pc) (o : Nat) (rk : Int) (s : List Int × Int × List Rw) (k : Nat) : List Int × Int × List Rw :=
  if rk ≤ (cs.getD k pc0).1 ∧ 0 < (if s.2.1 < s.1.getD k 0 then s.2.1 else s.1.getD k 0) then
    (s.1.set k (s.1.getD k 0 - (if s.2.1 < s.1.getD k 0 then s.2.1 else s.1.getD k 0)), s.2.1 - (if s.2.1 < s.1.getD k 0 then s.2.1 else s.1.getD k 0), s.2.2 ++ [(o, k, if s.2.1 < s.1.getD k 0 then s.2.1 else s.1.getD k 0)])
  else s
def madeF (cs os : List Pc) (o : Nat) (left : List Int) (i : Nat) : List Int × Int × List Rw := (List.range i).foldl (mkStep cs o (os.getD o pc0).1) (left, (os.getD o pc0).2, [])
theorem madeF_one (cs os : List Pc) (o : Nat) (left : List Int) (i : Nat) : madeF cs os o left (i + 1) = mkStep cs o (os.getD o pc0).1 (madeF cs os o left i) i := by
  unfold madeF
  rw [List.range_succ, List.foldl_append]; rfl
def shStep (cs os : List Pc) (s : List Int × List Rw) (o : Nat) : List Int × List Rw := ((madeF cs os o s.1 cs.length).1, s.2 ++ (madeF cs os o s.1 cs.length).2.2)
def ordF (os : List Pc) : List Nat := (List.range os.length).mergeSort fun i j => decide (-(os.getD i pc0).1 ≤ -(os.getD j pc0).1)
def shF (cs os : List Pc) (i : Nat) : List Int × List Rw := ((ordF os).take i).foldl (shStep cs os) (cs.map (·.2), [])
theorem shF_one {cs os : List Pc} {i o : Nat} (g : (ordF os)[i]? = some o) : shF cs os (i + 1) = shStep cs os (shF cs os i) o := by
  unfold shF
  rw [List.take_add_one, g, List.foldl_append]; rfl
def rowsF (cs os : List Pc) : List Rw := (shF cs os os.length).2
def sumR (rs : List Rw) : Int := (rs.map fun r => r.2.2).sum
def lackingF (cs os : List Pc) : Int := (os.map (·.2)).sum - sumR (rowsF cs os)

def spAbv (K : PySem.W.Frag) : Sp := fun vs H Q _ => ∃ (a : Addr) (xs : List V) (ps : List Pc) (r : Int), vs = [.ref a, .int r] ∧ SqL K H a xs ∧ DpAll K H xs (ps.map pcD) ∧ ps.length ≤ 20 ∧ ∀ H', Same H H' → Q (.int (abvF ps r)) H'
abbrev s_sum_from : Stmt := topS 5
def n_sum_from : List Str := ["pairs", "rank", "own", "many"]
theorem sc_sum_from : FnScope n_sum_from ["pairs", "rank"] (defScope s_sum_from) := ⟨rfl, rfl, rfl, by decide +kernel, rfl, by decide +kernel, by decide +kernel⟩
theorem ok_sumfrom {f : Addr} {fd : FuncData} {k : Nat} (F : Fun K "sum_from" "sum_from" s_sum_from f fd) (T : Txt mg) : FnOk P w K mg base CX0 (k + 1) f fd ["pairs", "rank"] (spAbv K) := by
  refine F.ok sc_sum_from (fun vs H Q E h => ?_) (fun cdv A outer s H vs Q E hr h => ?_)
  · obtain ⟨a, xs, ps, r, rfl, _⟩ := h
    rfl
  · obtain ⟨a, xs, ps, r, rfl, hS, da, lp, q⟩ := h
    have nd := sc_sum_from.nd
    have lx : xs.length = ps.length := dpAll_map_len da
    refine ⟨_, (pss_one (ps_ret (pe_callB (kc_sum (K := K)) (by rfl) T.sum (by decide +kernel) (pa_cons (pe_lc (own := [("own", 2), ("many", 3)]) rfl nd (ki_list (K := K) (pv 0)) (blkOk_by (N := n_sum_from) (sc := defScope s_sum_from) (by decide +kernel)) (fun _ _ _ _ _ => (kg_tup (K := K) (n := 2) (pgs_cons (pg_name (i := 2) nd rfl (.inl rfl)) (pgs_cons (pg_name (i := 3) nd rfl (.inl rfl)) pgs_nil)))) (fun _ _ _ _ _ => (pts_one (pt_cmpR op_ge (pv 2) (pv 1) (nomark _)))) (fun _ _ _ _ _ => (pv 3))) pa_nil)))), ?_⟩
    refine ⟨_, rfl, a, rfl, ⟨_, hS⟩, fun D nD => ?_⟩
    refine lc_it (walk_list (xs := xs)) (PvL H D fun i => (((ps.take i).filter fun p => decide (r ≤ p.1)).map (·.2)).map V.int) (pv_start nD rfl) (fun i H4 _ h => h.1.seq hS) ?_ ?_
    · rintro i y H4 H5 hi p ⟨rfl, gx⟩
      obtain ⟨b, rfl, hb, hi2, _⟩ := pcs_at (dpAll_same p.1 da) gx
      have gp : ps[i]? = some (ps.getD i pc0) := by rw [List.getD_eq_getElem?_getD, List.getElem?_eq_getElem hi2]; rfl
      generalize ps.getD i pc0 = pr at hb gp
      refine ⟨b, _, rfl, hb, rfl, _, _, rfl, _, _, rfl, rfl, rfl, ?_⟩
      have lf : ((((ps.take i).filter fun p => decide (r ≤ p.1)).map (·.2)).map V.int).length < sizeLine := by
        rw [List.length_map, List.length_map, sizeLine_eq]
        have := List.length_filter_le (fun p : Pc => decide (r ≤ p.1)) (ps.take i)
        rw [List.length_take] at this
        omega
      refine ⟨_, rfl, _, rfl, _, _, rfl, rfl, _, rfl, ite2 (fun h1 => ?_) (fun h1 => ?_)⟩
      · refine ⟨_, rfl, ?_⟩
        exact pv_put nD p (Same.refl _) (by rw [List.take_add_one, gp, List.filter_append, Option.toList_some, List.filter_cons_of_pos (p := fun p : Pc => decide (r ≤ p.1)) h1, List.map_append, List.map_append]; rfl) lf
      · exact pv_skip p (Same.refl _) (by rw [List.take_add_one, gp, List.filter_append, Option.toList_some, List.filter_cons_of_neg (p := fun p : Pc => decide (r ≤ p.1)) h1, List.filter_nil, List.append_nil])
    · intro H4 p
      obtain ⟨s4, hD⟩ := pv_end p (show _ = (((ps.filter fun p => decide (r ≤ p.1))).map (·.2)).map V.int by rw [lx, List.take_length])
      refine ⟨D, _, rfl, SqL.of hD, ?_⟩
      exact q _ s4
abbrev s__law_above : Stmt := topS 9
def n__law_above : List Str := ["_law_pairs", "_law_rank", "_law_own", "_law_many"]
theorem sc__law_above : FnScope n__law_above ["_law_pairs", "_law_rank"] (defScope s__law_above) := ⟨rfl, rfl, rfl, by decide +kernel, rfl, by decide +kernel, by decide +kernel⟩
theorem ok_labove {f : Addr} {fd : FuncData} {k : Nat} (F : Fun K "_law_above" "_law_above" s__law_above f fd) (T : Txt mg) : FnOk P w K mg base CX0 (k + 1) f fd ["_law_pairs", "_law_rank"] (spAbv K) := by
  refine F.ok sc__law_above (fun vs H Q E h => ?_) (fun cdv A outer s H vs Q E hr h => ?_)
  · obtain ⟨a, xs, ps, r, rfl, _⟩ := h
    rfl
  · obtain ⟨a, xs, ps, r, rfl, hS, da, lp, q⟩ := h
    have nd := sc__law_above.nd
    have lx : xs.length = ps.length := dpAll_map_len da
    refine ⟨_, (pss_one (ps_ret (pe_callB (kc_sum (K := K)) (by rfl) T.sum (by decide +kernel) (pa_cons (pe_lc (own := [("_law_own", 2), ("_law_many", 3)]) rfl nd (ki_list (K := K) (pv 0)) (blkOk_by (N := n__law_above) (sc := defScope s__law_above) (by decide +kernel)) (fun _ _ _ _ _ => (kg_tup (K := K) (n := 2) (pgs_cons (pg_name (i := 2) nd rfl (.inl rfl)) (pgs_cons (pg_name (i := 3) nd rfl (.inl rfl)) pgs_nil)))) (fun _ _ _ _ _ => (pts_one (pt_cmpR op_ge (pv 2) (pv 1) (nomark _)))) (fun _ _ _ _ _ => (pv 3))) pa_nil)))), ?_⟩
    refine ⟨_, rfl, a, rfl, ⟨_, hS⟩, fun D nD => ?_⟩
    refine lc_it (walk_list (xs := xs)) (PvL H D fun i => (((ps.take i).filter fun p => decide (r ≤ p.1)).map (·.2)).map V.int) (pv_start nD rfl) (fun i H4 _ h => h.1.seq hS) ?_ ?_
    · rintro i y H4 H5 hi p ⟨rfl, gx⟩
      obtain ⟨b, rfl, hb, hi2, _⟩ := pcs_at (dpAll_same p.1 da) gx
      have gp : ps[i]? = some (ps.getD i pc0) := by rw [List.getD_eq_getElem?_getD, List.getElem?_eq_getElem hi2]; rfl
      generalize ps.getD i pc0 = pr at hb gp
      refine ⟨b, _, rfl, hb, rfl, _, _, rfl, _, _, rfl, rfl, rfl, ?_⟩
      have lf : ((((ps.take i).filter fun p => decide (r ≤ p.1)).map (·.2)).map V.int).length < sizeLine := by
        rw [List.length_map, List.length_map, sizeLine_eq]
        have := List.length_filter_le (fun p : Pc => decide (r ≤ p.1)) (ps.take i)
        rw [List.length_take] at this
        omega
      refine ⟨_, rfl, _, rfl, _, _, rfl, rfl, _, rfl, ite2 (fun h1 => ?_) (fun h1 => ?_)⟩
      · refine ⟨_, rfl, ?_⟩
        exact pv_put nD p (Same.refl _) (by rw [List.take_add_one, gp, List.filter_append, Option.toList_some, List.filter_cons_of_pos (p := fun p : Pc => decide (r ≤ p.1)) h1, List.map_append, List.map_append]; rfl) lf
      · exact pv_skip p (Same.refl _) (by rw [List.take_add_one, gp, List.filter_append, Option.toList_some, List.filter_cons_of_neg (p := fun p : Pc => decide (r ≤ p.1)) h1, List.filter_nil, List.append_nil])
    · intro H4 p
      obtain ⟨s4, hD⟩ := pv_end p (show _ = (((ps.filter fun p => decide (r ≤ p.1))).map (·.2)).map V.int by rw [lx, List.take_length])
      refine ⟨D, _, rfl, SqL.of hD, ?_⟩
      exact q _ s4
abbrev s_lack_by : Stmt := topS 4
def n_lack_by : List Str := ["crews", "orders", "rank"]
theorem sc_lack_by : FnScope n_lack_by ["crews", "orders", "rank"] (defScope s_lack_by) := ⟨rfl, rfl, rfl, by decide +kernel, rfl, by decide +kernel, by decide +kernel⟩
def spLack (K : PySem.W.Frag) : Sp := fun vs H Q _ => ∃ (c o : Addr) (xs ys : List V) (cs os : List Pc) (r : Int), vs = [.ref c, .ref o, .int r] ∧ SqL K H c xs ∧ SqL K H o ys ∧ DpAll K H xs (cs.map pcD) ∧ DpAll K H ys (os.map pcD) ∧ cs.length ≤ 20 ∧ os.length ≤ 20 ∧ ∀ H', Same H H' → Q (.int (lackF cs os r)) H'
theorem ok_lackby {f : Addr} {fd : FuncData} {k : Nat} (F : Fun K "lack_by" "lack_by" s_lack_by f fd) (T : Txt mg) (c_sum_from : Cl P w K mg base (k + 1) "sum_from" (spAbv K)) : FnOk P w K mg base CX0 (k + 2) f fd ["crews", "orders", "rank"] (spLack K) := by
  refine F.ok sc_lack_by (fun vs H Q E h => ?_) (fun cdv A outer s H vs Q E hr h => ?_)
  · obtain ⟨c, o, xs, ys, cs, os, r, rfl, _⟩ := h
    rfl
  · obtain ⟨c, o, xs, ys, cs, os, r, rfl, hC, hO, dc, dO, lc, lo, q⟩ := h
    have nd := sc_lack_by.nd
    refine ⟨_, (pss_one (ps_ret (pe_callB (call_max2 rfl) (by rfl) T.max (by decide +kernel) (pa_cons pe_int (pa_cons (pe_op op_sub (pe_cl c_sum_from hr (by omega) (by rfl) (pa_cons (pv 1) (pa_cons (pv 2) pa_nil))) (pe_cl c_sum_from hr (by omega) (by rfl) (pa_cons (pv 0) (pa_cons (pv 2) pa_nil)))) pa_nil))))), ?_⟩
    refine ⟨_, rfl, _, rfl, o, ys, os, r, rfl, hO, dO, lo, fun H1 s1 => ⟨_, rfl, _, rfl, c, xs, cs, r, rfl, s1.seq hC, dpAll_same s1 dc, lc, fun H2 s2 => ?_⟩⟩
    refine ⟨_, _, rfl, rfl, _, _, rfl, ?_⟩
    have e : (if abvF os r - abvF cs r > 0 then abvF os r - abvF cs r else 0) = lackF cs os r := by
      unfold lackF
      split <;> omega
    rw [e]
    exact q _ (s1.trans s2)
abbrev s_lacking_rank : Stmt := topS 3
def n_lacking_rank : List Str := ["crews", "orders", "lacking", "rank", "many"]
theorem sc_lacking_rank : FnScope n_lacking_rank ["crews", "orders", "lacking"] (defScope s_lacking_rank) := ⟨rfl, rfl, rfl, by decide +kernel, rfl, by decide +kernel, by decide +kernel⟩
def lrF (cs os : List Pc) (l : Int) : Option Int := if l = 0 then none else (((os.filter fun p => decide (lackF cs os p.1 = l))).map (·.1)).min?
def opV : Option Int → V
  | none => .non
  | some h => .int h
def spLr (K : PySem.W.Frag) : Sp := fun vs H Q _ => ∃ (c o : Addr) (xs ys : List V) (cs os : List Pc) (l : Int), vs = [.ref c, .ref o, .int l] ∧ SqL K H c xs ∧ SqL K H o ys ∧ DpAll K H xs (cs.map pcD) ∧ DpAll K H ys (os.map pcD) ∧ cs.length ≤ 20 ∧ os.length ≤ 20 ∧ (l ≠ 0 → ∃ p ∈ os, lackF cs os p.1 = l) ∧
  ∀ H', Same H H' → Q (opV (lrF cs os l)) H'
theorem ok_lr {f : Addr} {fd : FuncData} {k : Nat} (F : Fun K "lacking_rank" "lacking_rank" s_lacking_rank f fd) (T : Txt mg) (c_lack_by : Cl P w K mg base (k + 2) "lack_by" (spLack K)) : FnOk P w K mg base CX0 (k + 3) f fd ["crews", "orders", "lacking"] (spLr K) := by
  refine F.ok sc_lacking_rank (fun vs H Q E h => ?_) (fun cdv A outer s H vs Q E hr h => ?_)
  · obtain ⟨c, o, xs, ys, cs, os, l, rfl, _⟩ := h
    rfl
  · obtain ⟨c, o, xs, ys, cs, os, l, rfl, hC, hO, dc, dO, lc, lo, hl, q⟩ := h
    have nd := sc_lacking_rank.nd
    refine ⟨_, (pss_cons (ps_if (pt_cmpR op_eq (pv 2) pe_int (nomark _))
          (pss_one (ps_ret pe_non))
          pss_nil)
      (pss_one (ps_ret (pe_callB (kc_min (K := K)) (by rfl) T.min (by decide +kernel) (pa_cons (pe_lc (own := [("rank", 3), ("many", 4)]) rfl nd (ki_list (K := K) (pv 1)) (blkOk_by (N := n_lacking_rank) (sc := defScope s_lacking_rank) (by decide +kernel)) (fun _ _ _ _ _ => (kg_tup (K := K) (n := 2) (pgs_cons (pg_name (i := 3) nd rfl (.inl rfl)) (pgs_cons (pg_name (i := 4) nd rfl (.inl rfl)) pgs_nil)))) (fun _ _ _ _ _ => (pts_one (pt_cmpR op_eq (pe_cl c_lack_by hr (by omega) (by rfl) (pa_cons (pv 0) (pa_cons (pv 1) (pa_cons (pv 3) pa_nil)))) (pv 2) (nomark _)))) (fun _ _ _ _ _ => (pv 3))) pa_nil))))), ?_⟩
    refine ⟨_, rfl, rfl, _, rfl, ite2 (fun h1 => ?_) (fun h1 => ?_)⟩
    · have h1 := V.int.inj (of_decide_eq_true h1)
      refine ?_
      have e : lrF cs os l = none := if_pos h1
      have := q H (Same.refl _)
      rw [e] at this
      exact this
    · have h1 : l ≠ 0 := fun z => h1 (decide_eq_true (by rw [z]))
      refine ⟨_, rfl, o, rfl, ⟨_, hO⟩, fun D nD => ?_⟩
      have ly : ys.length = os.length := dpAll_map_len dO
      refine lc_it (walk_list (xs := ys)) (PvL H D fun i => (((os.take i).filter fun p => decide (lackF cs os p.1 = l)).map (·.1)).map V.int) (pv_start nD rfl) (fun i H4 _ h => h.1.seq hO) ?_ ?_
      · rintro i y H4 H5 hi p ⟨rfl, gx⟩
        obtain ⟨b, rfl, hb, hi2, _⟩ := pcs_at (dpAll_same p.1 dO) gx
        have gp : os[i]? = some (os.getD i pc0) := by rw [List.getD_eq_getElem?_getD, List.getElem?_eq_getElem hi2]; rfl
        generalize os.getD i pc0 = pr at hb gp
        refine ⟨b, _, rfl, hb, rfl, _, _, rfl, _, _, rfl, rfl, rfl, ?_⟩
        have lf : ((((os.take i).filter fun p => decide (lackF cs os p.1 = l)).map (·.1)).map V.int).length < sizeLine := by
          rw [List.length_map, List.length_map, sizeLine_eq]
          have := List.length_filter_le (fun p : Pc => decide (lackF cs os p.1 = l)) (os.take i)
          rw [List.length_take] at this
          omega
        refine ⟨_, rfl, _, rfl, _, rfl, c, o, xs, ys, cs, os, _, rfl, p.1.seq hC, p.1.seq hO, dpAll_same p.1 dc, dpAll_same p.1 dO, lc, lo, fun H6 s6 => ⟨_, rfl, rfl, _, rfl, ite2 (fun h1 => ?_) (fun h1 => ?_)⟩⟩
        · replace h1 : decide (lackF cs os pr.1 = l) = true := decide_eq_true (V.int.inj (of_decide_eq_true h1))
          refine ⟨_, rfl, ?_⟩
          exact pv_put nD p s6 (by rw [List.take_add_one, gp, List.filter_append, Option.toList_some, List.filter_cons_of_pos (p := fun p : Pc => decide (lackF cs os p.1 = l)) h1, List.map_append, List.map_append]; rfl) lf
        · replace h1 : ¬ decide (lackF cs os pr.1 = l) = true := fun z => h1 (decide_eq_true (by rw [of_decide_eq_true z]))
          exact pv_skip p s6 (by rw [List.take_add_one, gp, List.filter_append, Option.toList_some, List.filter_cons_of_neg (p := fun p : Pc => decide (lackF cs os p.1 = l)) h1, List.filter_nil, List.append_nil])
      · intro H4 p
        obtain ⟨s4, hD⟩ := pv_end p (show _ = (((os.filter fun p => decide (lackF cs os p.1 = l))).map (·.1)).map V.int by rw [ly, List.take_length])
        obtain ⟨p0, hp0, ep0⟩ := hl h1
        have m0 : p0.1 ∈ ((os.filter fun p => decide (lackF cs os p.1 = l))).map (·.1) := List.mem_map_of_mem (List.mem_filter.mpr ⟨hp0, decide_eq_true ep0⟩)
        refine ⟨D, _, rfl, SqL.of hD, List.length_pos_iff.mpr (List.ne_nil_of_mem m0), fun m hm hmin => ?_⟩
        have e : lrF cs os l = some m := by
          unfold lrF
          rw [if_neg h1]
          exact List.min?_eq_some_iff.mpr ⟨hm, hmin⟩
        have := q H4 s4
        rw [e] at this
        exact this

theorem Nl.one {H H' : Hp} {l : Addr} {xs : List V} (s : Sm [l] H H') (h : H l = some (.lst xs)) : Nl H H' := fun x o e n _ => by
  have ne : x ≠ l := fun z => by rw [z, h] at e; exact n _ (Option.some.inj e).symm
  exact sm_at s (by simp [ne]) e
theorem sqL_sm {H H' : Hp} {c l : Addr} {xs : List V} (s : Sm [l] H H') (n : c ≠ l) (h : SqL K H c xs) : SqL K H' c xs := by
  rcases h with (h | ⟨o, h⟩) | h
  · exact .inl (.inl (sm_at s (by simp [n]) h))
  · exact .inl (.inr ⟨o, sm_at s (by simp [n]) h⟩)
  · exact .inr h
theorem rws_nl {H H' : Hp} (s : Nl H H') : ∀ {rs : List Rw} {xs : List V}, DpAll K H xs (rs.map rwD) → DpAll K H' xs (rs.map rwD)
  | [], _, h => by
    cases h
    exact .nil
  | p :: ps, _, h => by
    cases h with
    | cons a r =>
      obtain ⟨t, ts, rfl, ht, dts⟩ := dp_tup a
      obtain ⟨x, y, z, rfl, d1, d2, d3⟩ := dp_three dts
      rw [dp_int d1, dp_int d2, dp_int d3] at ht
      exact .cons (.tup (sqT_nl s ht) (.cons (.int _) (.cons (.int _) (.cons (.int _) .nil)))) (rws_nl s r)
def spMade (K : PySem.W.Frag) : Sp := fun vs H Q _ => ∃ (c o l : Addr) (n : Nat) (xs ys : List V) (cs os : List Pc) (left : List Int), vs = [.ref c, .ref o, .int (n : Nat), .ref l] ∧ c ≠ l ∧ SqL K H c xs ∧ SqL K H o ys ∧ DpAll K H xs (cs.map pcD) ∧ DpAll K H ys (os.map pcD) ∧ cs.length ≤ 20 ∧ os.length ≤ 20 ∧ n < os.length ∧ H l = some (.lst (left.map V.int)) ∧ left.length = cs.length ∧
  ∀ (H' : Hp) (R : Addr) (us : List V), Sm [l] H H' → H R = none → H' R = some (.lst us) → H' l = some (.lst ((madeF cs os n left cs.length).1.map V.int)) → (madeF cs os n left cs.length).1.length = cs.length → DpAll K H' us ((madeF cs os n left cs.length).2.2.map rwD) → us.length ≤ 20 → Q (.ref R) H'
abbrev s_made_of : Stmt := topS 2
def n_made_of : List Str := ["crews", "orders", "order", "left", "rank", "wanted", "rows", "crew", "many"]
theorem sc_made_of : FnScope n_made_of ["crews", "orders", "order", "left"] (defScope s_made_of) := ⟨rfl, rfl, rfl, by decide +kernel, rfl, by decide +kernel, by decide +kernel⟩
set_option maxHeartbeats 1000000 in
theorem ok_made {f : Addr} {fd : FuncData} {k : Nat} (F : Fun K "made_of" "made_of" s_made_of f fd) (T : Txt mg) : FnOk P w K mg base CX0 (k + 1) f fd ["crews", "orders", "order", "left"] (spMade K) := by
  refine F.ok sc_made_of (fun vs H Q E h => ?_) (fun cdv A outer s H vs Q E hr h => ?_)
  · obtain ⟨c, o, l, n, xs, ys, cs, os, left, rfl, _⟩ := h
    rfl
  · obtain ⟨c, o, l, n, xs, ys, cs, os, left, rfl, cl, hC, hO, dc, dO, lc, lo, hn, hl, ll, q⟩ := h
    have nd := sc_made_of.nd
    have lx : xs.length = cs.length := dpAll_map_len dc
    have ly : ys.length = os.length := dpAll_map_len dO
    /- 0 crews, 1 orders, 2 order, 3 left, 4 rank, 5 wanted, 6 rows, 7 crew, 8 many -/
    refine ⟨_, (pss_cons (ps_asg (pe_ix (kx_list (K := K)) (pv 1) (pv 2) (fun _ _ => rfl)) (kg_tup (K := K) (n := 2) (pgs_cons (pg_name (i := 4) nd rfl (.inl rfl)) (pgs_cons (pg_name (i := 5) nd rfl (.inl rfl)) pgs_nil))))
      (pss_cons (ps_set (i := 6) nd rfl (.inl rfl) (pe_lst pa_nil))
      (pss_cons (ps_for PassesOwn.never rfl (pi_range1 (by rfl) T.range (pa_cons (pe_callB (kc_len (K := K)) (by rfl) T.len PySem.boot_len (pa_cons (pv 0) pa_nil)) pa_nil)) (pg_name (i := 7) nd rfl (.inl rfl))
          (pss_cons (ps_set (i := 8) nd rfl (.inl rfl) (pe_callB (call_min2 rfl) (by rfl) T.min (by decide +kernel) (pa_cons (pe_ix (kx_list (K := K)) (pv 3) (pv 7) (fun _ _ => rfl)) (pa_cons (pv 5) pa_nil))))
          (pss_one (ps_if ((pw_and (pt_cmpR op_ge (pe_ix (kx_tup (K := K)) (pe_ix (kx_list (K := K)) (pv 0) (pv 7) (fun _ _ => rfl)) pe_int (fun _ _ => rfl)) (pv 4) (nomark _)) (pw_and1 (pt_cmpR op_gt (pv 8) pe_int (nomark _))))).pt
              (pss_cons (ps_augS (pv 3) (pv 7) (kget_list (K := K)) (pv 8) ip_sub set_list)
              (pss_cons (ps_aug (i := 5) nd rfl (.inl rfl) (pv 8) ip_sub)
              (pss_one (ps_expr (pe_bm PySem.F.plainAttrs_list PySem.F.slot_list_append PySem.F.type_list_append mt_append (pv 6) (pa_cons (pe_tup (pa_cons (pv 2) (pa_cons (pv 7) (pa_cons (pv 8) pa_nil)))) pa_nil))))))
              pss_nil))))
      (pss_one (ps_ret (pv 6)))))), ?_⟩
    have hny : n < ys.length := by omega
    obtain ⟨a, ea, ha, hn2, _⟩ := pcs_at dO (List.getElem?_eq_getElem hny)
    refine ⟨_, rfl, _, rfl, o, ys, n, _, rfl, rfl, hO, atI_nat (by rw [List.getElem?_eq_getElem hny, ea]), a, _, rfl, ha, rfl, _, _, rfl, _, _, rfl, rfl, ?_⟩
    refine ⟨Nat.zero_le _, fun R nR => ?_⟩
    have lR : l ≠ R := ne_of_none hl nR
    have est : ((((L2.start n_made_of [V.ref c, V.ref o, V.int (n : Int), V.ref l]).set 4 (some (V.int (os.getD n pc0).1))).set 5 (some (V.int (os.getD n pc0).2))).set 6 (some (V.ref R))) = [some (.ref c), some (.ref o), some (.int (n : Int)), some (.ref l), some (.int (os.getD n pc0).1), some (.int (os.getD n pc0).2), some (.ref R), none, none] := rfl
    show tSeq _ _ _ ((((L2.start n_made_of [V.ref c, V.ref o, V.int (n : Int), V.ref l]).set 4 (some (V.int (os.getD n pc0).1))).set 5 (some (V.int (os.getD n pc0).2))).set 6 (some (V.ref R))) (upd H R (.lst []))
    rw [est]
    have su := same_upd (o := .lst []) nR
    refine ⟨_, rfl, _, _, rfl, .inl ⟨_, su.seq hC, rfl⟩, _, rfl, (by omega), (by omega), ?_⟩
    refine for_it walk_range (fun i σ H2 => ∃ v7 v8 us, σ = [some (.ref c), some (.ref o), some (.int (n : Int)), some (.ref l), some (.int (os.getD n pc0).1), some (.int (madeF cs os n left i).2.1), some (.ref R), v7, v8] ∧ Sm [l] H H2 ∧ H2 R = some (.lst us) ∧ H2 l = some (.lst ((madeF cs os n left i).1.map V.int)) ∧ (madeF cs os n left i).1.length = cs.length ∧ DpAll K H2 us ((madeF cs os n left i).2.2.map rwD) ∧ us.length ≤ i)
      ⟨_, _, [], rfl, sm_put nR, upd_same, su _ _ hl, ll, .nil, Nat.le_refl _⟩ (fun _ _ _ _ _ => trivial) ?_ ?_
    · rintro i x σ H2 H3 hi ⟨v7, v8, us, rfl, sm, hR, hl2, ll2, du, lu⟩ ⟨rfl, rfl⟩
      have hic : i < cs.length := by omega
      have nl := Nl.one sm hl
      have hC2 : SqL K H3 c xs := sqL_sm sm cl hC
      have dc2 := pcs_nl nl dc
      have e0 : (fun i : Nat => V.int (0 + (i : Int))) i = V.int (i : Int) := by show V.int (0 + _) = _; rw [Int.zero_add]
      rw [e0]
      rw [madeF_one]
      generalize madeF cs os n left i = st at hl2 ll2 du ⊢
      obtain ⟨lf, wt, rs⟩ := st
      have gl : (lf.map V.int)[i]? = some (.int (lf.getD i 0)) := by
        have : i < lf.length := by rw [show lf.length = cs.length from ll2]; exact hic
        rw [List.getElem?_map, List.getElem?_eq_getElem this, List.getD_eq_getElem?_getD, List.getElem?_eq_getElem this]; rfl
      refine ⟨_, rfl, _, rfl, l, _, i, _, rfl, rfl, SqL.of hl2, atI_nat gl, _, rfl, _, _, rfl, ?_⟩
      have hix : i < xs.length := by omega
      obtain ⟨b, eb, hb, hi2, _⟩ := pcs_at dc2 (List.getElem?_eq_getElem hix)
      obtain ⟨mn, emn⟩ : ∃ mn : Int, (if wt < lf.getD i 0 then wt else lf.getD i 0) = mn := ⟨_, rfl⟩
      have eS : mkStep cs n (os.getD n pc0).1 (lf, wt, rs) i = if (os.getD n pc0).1 ≤ (cs.getD i pc0).1 ∧ 0 < mn then (lf.set i (lf.getD i 0 - mn), wt - mn, rs ++ [(n, i, mn)]) else (lf, wt, rs) := by
        unfold mkStep
        simp only [emn]
      rw [emn, eS]
      refine ⟨_, rfl, _, rfl, c, xs, i, _, rfl, rfl, hC2, atI_nat (by rw [List.getElem?_eq_getElem hix, eb]), b, _, 0, _, rfl, rfl, hb, rfl, _, rfl, _, _, rfl, rfl, _, rfl, ite2 (fun h1 => ?_) (fun h1 => ?_)⟩
      · have h1 := of_decide_eq_true h1
        refine ⟨_, rfl, _, _, rfl, rfl, _, rfl, ite2 (fun h2 => ?_) (fun h2 => ?_)⟩
        · have h2 := of_decide_eq_true h2
          rw [if_pos ⟨h1, h2⟩]
          have lml : (lf.map V.int).length = cs.length := by rw [List.length_map]; exact ll2
          have gm : (lf.map V.int).set i (.int (lf.getD i 0 - mn)) = (lf.set i (lf.getD i 0 - mn)).map V.int := by rw [List.map_set]
          refine ⟨_, rfl, _, rfl, ⟨l, _, i, _, rfl, rfl, SqL.of hl2, gl, _, rfl, _, _, rfl, rfl, l, _, i, i, rfl, rfl, hl2, Evl.ixN_nat (by rw [lml]; exact hic), ?_⟩⟩
          rw [gm]
          refine ⟨_, rfl, _, rfl, _, _, rfl, rfl, ?_⟩
          have hR2 : upd H3 l (.lst ((lf.set i (lf.getD i 0 - mn)).map V.int)) R = some (.lst us) := by rw [upd_ne (Ne.symm lR)]; exact hR
          have du2 := rws_nl (Nl.wr (o := .lst ((lf.set i (lf.getD i 0 - mn)).map V.int)) hl2) du
          have hl3 : upd H3 l (.lst ((lf.set i (lf.getD i 0 - mn)).map V.int)) l = _ := upd_same
          have sm2 : Sm [l] H (upd H3 l (.lst ((lf.set i (lf.getD i 0 - mn)).map V.int))) := sm.trans (sm_wr List.mem_cons_self)
          generalize upd H3 l (.lst ((lf.set i (lf.getD i 0 - mn)).map V.int)) = H4 at hR2 du2 hl3 sm2 ⊢
          refine ⟨_, rfl, .inl ⟨rfl, _, SqL.of hR2⟩, _, rfl, _, rfl, _, rfl, (by show 3 ≤ sizeLine; decide), fun t nt => ?_⟩
          have st := same_upd (o := .tup [.int (n : Int), .int (i : Int), .int mn]) nt
          have hR3 := st _ _ hR2
          have hl3 := st _ _ hl3
          have du3 := rws_nl (Nl.same st) du2
          have ht : upd H4 t (.tup [.int (n : Int), .int (i : Int), .int mn]) t = _ := upd_same
          have sm3 := sm2.trans (sm_of (S := [l]) st)
          generalize upd H4 t (.tup [.int (n : Int), .int (i : Int), .int mn]) = H5 at hR3 hl3 du3 ht sm3 ⊢
          refine ⟨R, _, _, rfl, rfl, hR3, (by rw [sizeLine_eq]; omega), ?_⟩
          refine ⟨_, _, us ++ [.ref t], rfl, sm_wr0 sm3 nR, upd_same, ?_, by rw [List.length_set]; exact ll2, ?_, by rw [List.length_append]; show us.length + 1 ≤ _; omega⟩
          · rw [upd_ne lR]; exact hl3
          · rw [List.map_append]
            have nw := Nl.wr (o := .lst (us ++ [.ref t])) hR3
            exact dpAll_app (rws_nl nw du3) (.cons (.tup (sqT_nl nw (.inl (.inl ht))) (.cons (.int _) (.cons (.int _) (.cons (.int _) .nil)))) .nil)
        · rw [if_neg (fun z => h2 (decide_eq_true z.2))]
          exact ⟨_, _, us, rfl, sm, hR, hl2, ll2, du, by omega⟩
      · rw [if_neg (fun z => h1 (decide_eq_true z.1))]
        exact ⟨_, _, us, rfl, sm, hR, hl2, ll2, du, by omega⟩
    · rintro σ H2 ⟨v7, v8, us, rfl, sm, hR, hl2, ll2, du, lu⟩
      rw [show ((xs.length : Int)).toNat = cs.length by omega] at hl2 ll2 du
      exact ⟨_, rfl, q _ R us sm nR hR hl2 ll2 du (by omega)⟩

end
end Pot

namespace Pot
open PySem PySem.Spec PyProof.Rows L2
section
variable {P : Program} {w : World} {K : PySem.W.Frag} {mg : Str → Option Value} {base : Heap}
/-! ### the mathematics of shared -/
def sg (f : Nat → Int) : Nat → Int
  | 0 => 0
  | n + 1 => sg f n + f n
theorem sg_congr {f g : Nat → Int} : ∀ {n : Nat}, (∀ k, k < n → f k = g k) → sg f n = sg g n
  | 0, _ => rfl
  | n + 1, h => by
    show sg f n + f n = sg g n + g n
    rw [sg_congr (n := n) fun k hk => h k (by omega), h n (by omega)]
theorem sg_one {f g : Nat → Int} {i : Nat} : ∀ {n : Nat}, i < n → (∀ k, k ≠ i → f k = g k) → sg f n = sg g n + (f i - g i)
  | 0, h, _ => absurd h (by omega)
  | n + 1, hi, h => by
    show sg f n + f n = sg g n + g n + _
    by_cases e : i = n
    · subst e
      rw [sg_congr (n := i) fun k hk => h k (by omega)]
      omega
    · rw [sg_one (n := n) (by omega) h, h n (fun z => e z.symm)]
      omega
theorem sg_nonneg {f : Nat → Int} : ∀ {n : Nat}, (∀ k, k < n → 0 ≤ f k) → 0 ≤ sg f n
  | 0, _ => Int.le_refl 0
  | n + 1, h => by
    have := sg_nonneg (n := n) fun k hk => h k (by omega)
    have := h n (by omega)
    show 0 ≤ sg f n + f n
    omega
theorem sg_le {f g : Nat → Int} : ∀ {n : Nat}, (∀ k, k < n → f k ≤ g k) → sg f n ≤ sg g n
  | 0, _ => Int.le_refl 0
  | n + 1, h => by
    have := sg_le (n := n) fun k hk => h k (by omega)
    have := h n (by omega)
    show sg f n + f n ≤ sg g n + g n
    omega
theorem sg_zero {f : Nat → Int} {n : Nat} (h : ∀ k, k < n → f k = 0) : sg f n = 0 := by
  rw [sg_congr (g := fun _ => 0) h]
  clear h
  induction n with
  | zero => rfl
  | succ n ih => show sg _ n + 0 = 0; rw [ih]; rfl
theorem sum_app (a b : List Int) : (a ++ b).sum = a.sum + b.sum := by
  induction a with
  | nil => simp
  | cons x a ih => simp only [List.cons_append, List.sum_cons, ih]; omega
theorem perm_sum {a b : List Int} (p : a.Perm b) : a.sum = b.sum := by
  induction p with
  | nil => rfl
  | cons x _ ih => simp only [List.sum_cons, ih]
  | swap x y l => simp only [List.sum_cons]; omega
  | trans _ _ h1 h2 => exact h1.trans h2
def gF (ps : List Pc) (r : Int) (k : Nat) : Int := if r ≤ (ps.getD k pc0).1 then (ps.getD k pc0).2 else 0
theorem abv_take (ps : List Pc) (r : Int) : ∀ i, i ≤ ps.length → abvF (ps.take i) r = sg (gF ps r) i
  | 0, _ => rfl
  | i + 1, h => by
    have e : ps[i]? = some (ps.getD i pc0) := by rw [List.getD_eq_getElem?_getD, List.getElem?_eq_getElem (by omega)]; rfl
    have ih := abv_take ps r i (by omega)
    show _ = sg (gF ps r) i + gF ps r i
    rw [← ih]
    unfold abvF gF
    rw [List.take_add_one, e, Option.toList_some, List.filter_append, List.map_append, sum_app]
    by_cases hr : r ≤ (ps.getD i pc0).1
    · rw [if_pos hr, List.filter_cons_of_pos (p := fun p : Pc => decide (r ≤ p.1)) (decide_eq_true hr)]
      simp
    · rw [if_neg hr, List.filter_cons_of_neg (p := fun p : Pc => decide (r ≤ p.1)) (by simpa using hr)]
      simp
theorem abv_sg (ps : List Pc) (r : Int) : abvF ps r = sg (gF ps r) ps.length := by
  rw [← abv_take ps r ps.length (Nat.le_refl _), List.take_length]
/-- what is left of the crews of a rank and more -/
def avF (cs : List Pc) (r : Int) (lf : List Int) : Nat → Int := sg fun k => if r ≤ (cs.getD k pc0).1 then lf.getD k 0 else 0
/-- rows of one crew, of one order -/
def crS (rs : List Rw) (k : Nat) : Int := ((rs.filter fun r => decide (r.2.1 = k)).map fun r => r.2.2).sum
def orS (rs : List Rw) (o : Nat) : Int := ((rs.filter fun r => decide (r.1 = o)).map fun r => r.2.2).sum
theorem fs_app {p : Rw → Bool} (rs ts : List Rw) : (((rs ++ ts).filter p).map fun r => r.2.2).sum = ((rs.filter p).map fun r => r.2.2).sum + ((ts.filter p).map fun r => r.2.2).sum := by
  rw [List.filter_append, List.map_append, sum_app]
theorem crS_one (r : Rw) (k : Nat) : crS [r] k = if r.2.1 = k then r.2.2 else 0 := by
  unfold crS
  by_cases h : r.2.1 = k
  · simp [h]
  · simp [h]
theorem orS_one (r : Rw) (k : Nat) : orS [r] k = if r.1 = k then r.2.2 else 0 := by
  unfold orS
  by_cases h : r.1 = k
  · simp [h]
  · simp [h]
theorem sumR_app (rs ts : List Rw) : sumR (rs ++ ts) = sumR rs + sumR ts := by
  unfold sumR
  rw [List.map_append, sum_app]
theorem getD_set (l : List Int) (i k : Nat) (v : Int) (hi : i < l.length) : (l.set i v).getD k 0 = if k = i then v else l.getD k 0 := by
  rw [List.getD_eq_getElem?_getD, List.getD_eq_getElem?_getD, List.getElem?_set]
  by_cases h : i = k
  · subst h
    simp [hi]
  · rw [if_neg h, if_neg (fun z => h z.symm)]
/-- what stands within one order's turns -/
structure MadeI (cs : List Pc) (o : Nat) (rk : Int) (l0 : List Int) (w : Int) (i : Nat) (s : List Int × Int × List Rw) : Prop where
  len : s.1.length = l0.length
  w0 : 0 ≤ s.2.1
  wm : s.2.1 = w - sumR s.2.2
  nn : ∀ k, 0 ≤ s.1.getD k 0
  up : ∀ k, s.1.getD k 0 = l0.getD k 0 - crS s.2.2 k
  rows : ∀ r ∈ s.2.2, r.1 = o ∧ r.2.1 < i ∧ rk ≤ (cs.getD r.2.1 pc0).1 ∧ 1 ≤ r.2.2
  inc : s.2.2.Pairwise fun a b => a.2.1 < b.2.1
  av : ∀ r, r ≤ rk → avF cs r s.1 l0.length = avF cs r l0 l0.length - sumR s.2.2
  out : s.2.1 = 0 ∨ ∀ k, k < i → rk ≤ (cs.getD k pc0).1 → s.1.getD k 0 = 0
theorem made_start {cs : List Pc} {o : Nat} {rk : Int} {l0 : List Int} {w : Int} (hw : 0 ≤ w) (hl : ∀ k, 0 ≤ l0.getD k 0) : MadeI cs o rk l0 w 0 (l0, w, []) :=
  ⟨rfl, hw, by show w = w - 0; omega, hl, fun k => by show l0.getD k 0 = l0.getD k 0 - 0; omega, fun r h => (List.not_mem_nil h).elim, .nil, fun r _ => by show avF cs r l0 l0.length = avF cs r l0 l0.length - 0; omega, .inr fun k h => absurd h (by omega)⟩
theorem made_step {cs : List Pc} {o : Nat} {rk : Int} {l0 : List Int} {w : Int} {i : Nat} {s : List Int × Int × List Rw} (h : MadeI cs o rk l0 w i s) (hi : i < l0.length) : MadeI cs o rk l0 w (i + 1) (mkStep cs o rk s i) := by
  obtain ⟨lf, wt, rs⟩ := s
  obtain ⟨h1, h2, h3, h4, h5, h6, h7, h8, h9⟩ := h
  dsimp only at h1 h2 h3 h4 h5 h6 h7 h8 h9
  unfold mkStep
  dsimp only
  obtain ⟨mn, emn⟩ : ∃ mn : Int, (if wt < lf.getD i 0 then wt else lf.getD i 0) = mn := ⟨_, rfl⟩
  rw [emn]
  have ni := h4 i
  have hm1 : mn ≤ wt := by rw [← emn]; split <;> omega
  have hm2 : mn ≤ lf.getD i 0 := by rw [← emn]; split <;> omega
  have hm3 : mn = wt ∨ mn = lf.getD i 0 := by rw [← emn]; split <;> omega
  have hm0 : 0 ≤ mn := by rw [← emn]; split <;> omega
  by_cases hc : rk ≤ (cs.getD i pc0).1 ∧ 0 < mn
  · rw [if_pos hc]
    have gs : ∀ k, (lf.set i (lf.getD i 0 - mn)).getD k 0 = if k = i then lf.getD i 0 - mn else lf.getD k 0 := fun k => getD_set _ _ _ _ (by omega)
    have sr : sumR (rs ++ [(o, i, mn)]) = sumR rs + mn := by rw [sumR_app]; show _ + (mn + 0) = _; omega
    refine ⟨by show (lf.set _ _).length = _; rw [List.length_set]; exact h1, by show 0 ≤ wt - mn; omega, ?_, fun k => ?_, fun k => ?_, fun r hr => ?_, ?_, fun r hr => ?_, ?_⟩
    · show wt - mn = w - sumR (rs ++ [(o, i, mn)])
      rw [sr]; omega
    · show 0 ≤ (lf.set i (lf.getD i 0 - mn)).getD k 0
      rw [gs]
      have := h4 k
      split <;> omega
    · show (lf.set i (lf.getD i 0 - mn)).getD k 0 = l0.getD k 0 - crS (rs ++ [(o, i, mn)]) k
      have e : crS (rs ++ [(o, i, mn)]) k = crS rs k + crS [(o, i, mn)] k := fs_app _ _
      rw [gs, e, crS_one]
      show _ = l0.getD k 0 - (crS rs k + if i = k then mn else 0)
      have := h5 k
      by_cases e : k = i
      · subst e
        rw [if_pos rfl, if_pos rfl]; omega
      · rw [if_neg e, if_neg (fun z => e z.symm)]; omega
    · rcases List.mem_append.mp hr with h | h
      · obtain ⟨a, b, c, d⟩ := h6 r h
        exact ⟨a, by omega, c, d⟩
      · rw [List.mem_singleton.mp h]
        exact ⟨rfl, by show i < i + 1; omega, hc.1, by show 1 ≤ mn; omega⟩
    · refine List.pairwise_append.mpr ⟨h7, List.pairwise_singleton _ _, fun a ha b hb => ?_⟩
      rw [List.mem_singleton.mp hb]
      exact (h6 a ha).2.1
    · show avF cs r (lf.set i (lf.getD i 0 - mn)) l0.length = avF cs r l0 l0.length - sumR (rs ++ [(o, i, mn)])
      have h8 := h8 r hr
      unfold avF at h8 ⊢
      rw [sr, sg_one (i := i) (g := fun k => if r ≤ (cs.getD k pc0).1 then lf.getD k 0 else 0) hi (fun k hk => by rw [gs, if_neg hk]), h8]
      have : r ≤ (cs.getD i pc0).1 := Int.le_trans hr hc.1
      rw [if_pos this, if_pos this, gs, if_pos rfl]
      omega
    · rcases hm3 with e | e
      · exact .inl (by show wt - mn = 0; omega)
      · refine h9.elim (fun z => .inl (by show wt - mn = 0; omega)) fun h9 => .inr fun k hk hr => ?_
        show (lf.set i (lf.getD i 0 - mn)).getD k 0 = 0
        rw [gs]
        split
        · omega
        · exact h9 k (by omega) hr
  · rw [if_neg hc]
    refine ⟨h1, h2, h3, h4, h5, fun r hr => ?_, h7, h8, h9.elim .inl fun h9 => ?_⟩
    · obtain ⟨a, b, c, d⟩ := h6 r hr
      exact ⟨a, by omega, c, d⟩
    · by_cases hk : rk ≤ (cs.getD i pc0).1
      · have : mn = 0 := by have : ¬ 0 < mn := fun z => hc ⟨hk, z⟩; omega
        rcases hm3 with e | e
        · exact .inl (by show wt = 0; omega)
        · refine .inr fun k hkk hr => ?_
          by_cases e2 : k = i
          · subst e2; show lf.getD k 0 = 0; omega
          · exact h9 k (by omega) hr
      · refine .inr fun k hkk hr => ?_
        by_cases e2 : k = i
        · subst e2; exact absurd hr hk
        · exact h9 k (by omega) hr
theorem made_all {cs os : List Pc} {o : Nat} {l0 : List Int} (hw : 0 ≤ (os.getD o pc0).2) (hl : ∀ k, 0 ≤ l0.getD k 0) : ∀ i, i ≤ l0.length → MadeI cs o (os.getD o pc0).1 l0 (os.getD o pc0).2 i (madeF cs os o l0 i)
  | 0, _ => made_start hw hl
  | i + 1, h => by
    rw [madeF_one]
    exact made_step (made_all hw hl i (by omega)) (by omega)
theorem MadeI.min {cs : List Pc} {o : Nat} {rk : Int} {l0 : List Int} {w : Int} {s : List Int × Int × List Rw} (h : MadeI cs o rk l0 w l0.length s) : sumR s.2.2 ≤ w ∧ sumR s.2.2 ≤ avF cs rk l0 l0.length ∧ (sumR s.2.2 = w ∨ sumR s.2.2 = avF cs rk l0 l0.length) := by
  have a := h.av rk (Int.le_refl _)
  have b := h.wm
  have c := h.w0
  have d : 0 ≤ avF cs rk s.1 l0.length := sg_nonneg fun k _ => by
    have := h.nn k
    split <;> omega
  refine ⟨by omega, by omega, h.out.elim (fun z => .inl (by omega)) fun z => .inr ?_⟩
  have : avF cs rk s.1 l0.length = 0 := sg_zero fun k hk => by
    split
    · rename_i q; exact z k hk q
    · rfl
  omega
/-- what the first orders of a row of them come to, of a rank and more -/
def ordS (os : List Pc) (r : Int) (l : List Nat) : Int := (l.map (gF os r)).sum
def ordA (os : List Pc) (l : List Nat) : Int := (l.map fun j => (os.getD j pc0).2).sum
structure ShI (cs os : List Pc) (l : List Nat) (s : List Int × List Rw) : Prop where
  len : s.1.length = cs.length
  nn : ∀ k, 0 ≤ s.1.getD k 0
  up : ∀ k, s.1.getD k 0 = (cs.getD k pc0).2 - crS s.2 k
  rows : ∀ r ∈ s.2, r.1 ∈ l ∧ r.2.1 < cs.length ∧ (os.getD r.1 pc0).1 ≤ (cs.getD r.2.1 pc0).1 ∧ 1 ≤ r.2.2
  two : s.2.Pairwise fun a b => (a.1, a.2.1) ≠ (b.1, b.2.1)
  ors : ∀ o, o ∈ l → orS s.2 o ≤ (os.getD o pc0).2
  av : ∀ r, (∀ j ∈ l, r ≤ (os.getD j pc0).1) → avF cs r s.1 cs.length = abvF cs r - sumR s.2
  low : 0 ≤ ordA os l - sumR s.2
  c1 : ∀ r, ordS os r l - abvF cs r ≤ ordA os l - sumR s.2
  c2 : ordA os l - sumR s.2 = 0 ∨ ∃ j ∈ l, ordA os l - sumR s.2 = ordS os (os.getD j pc0).1 l - abvF cs (os.getD j pc0).1
theorem fs_none {p : Rw → Bool} {rs : List Rw} (h : ∀ r ∈ rs, p r = false) : ((rs.filter p).map fun r => r.2.2).sum = 0 := by
  have : rs.filter p = [] := List.filter_eq_nil_iff.mpr fun r hr => by rw [h r hr]; exact Bool.false_ne_true
  rw [this]; rfl
theorem fs_all {p : Rw → Bool} {rs : List Rw} (h : ∀ r ∈ rs, p r = true) : ((rs.filter p).map fun r => r.2.2).sum = sumR rs := by
  rw [List.filter_eq_self.mpr h]; rfl
theorem sh_start {cs os : List Pc} (hc : ∀ p ∈ cs, PcOk p) : ShI cs os [] (cs.map (·.2), []) := by
  have g : ∀ k, (cs.map (·.2)).getD k 0 = (cs.getD k pc0).2 := fun k => by
    rw [List.getD_eq_getElem?_getD, List.getD_eq_getElem?_getD, List.getElem?_map]
    cases cs[k]? <;> rfl
  have n : ∀ k, 0 ≤ (cs.getD k pc0).2 := fun k => by
    rw [List.getD_eq_getElem?_getD]
    cases e : cs[k]? with
    | none => exact Int.le_refl 0
    | some p => exact (hc p (List.mem_of_getElem? e)).2.2.1
  refine ⟨List.length_map _, fun k => by rw [g]; exact n k, fun k => by rw [g]; show _ = _ - 0; omega, fun r h => (List.not_mem_nil h).elim, .nil, fun o h => (List.not_mem_nil h).elim, fun r _ => ?_, Int.le_refl 0, fun r => ?_, .inl rfl⟩
  · show avF cs r (cs.map (·.2)) cs.length = abvF cs r - 0
    rw [abv_sg]
    unfold avF
    rw [sg_congr (g := gF cs r) fun k hk => by rw [g]; rfl]
    omega
  · show 0 - abvF cs r ≤ 0 - 0
    have : 0 ≤ abvF cs r := by
      rw [abv_sg]
      exact sg_nonneg fun k _ => by
        unfold gF
        have := n k
        split <;> omega
    omega
theorem abv_mono {cs : List Pc} (hc : ∀ k, 0 ≤ (cs.getD k pc0).2) {r r' : Int} (h : r ≤ r') : abvF cs r' ≤ abvF cs r := by
  rw [abv_sg, abv_sg]
  refine sg_le fun k _ => ?_
  have := hc k
  unfold gF
  split <;> split <;> omega
theorem ordS_all {os : List Pc} {r : Int} : ∀ {l : List Nat}, (∀ j ∈ l, r ≤ (os.getD j pc0).1) → ordS os r l = ordA os l
  | [], _ => rfl
  | j :: l, h => by
    have ih := ordS_all (l := l) fun x hx => h x (List.mem_cons_of_mem _ hx)
    unfold ordS ordA at ih ⊢
    rw [List.map_cons, List.map_cons, List.sum_cons, List.sum_cons, ih]
    have : gF os r j = (os.getD j pc0).2 := if_pos (h j List.mem_cons_self)
    rw [this]
theorem ordS_app {os : List Pc} {r : Int} (l : List Nat) (o : Nat) : ordS os r (l ++ [o]) = ordS os r l + gF os r o := by
  unfold ordS
  rw [List.map_append, sum_app]; simp
theorem ordA_app {os : List Pc} (l : List Nat) (o : Nat) : ordA os (l ++ [o]) = ordA os l + (os.getD o pc0).2 := by
  unfold ordA
  rw [List.map_append, sum_app]; simp
theorem sh_step {cs os : List Pc} {l : List Nat} {s : List Int × List Rw} {o : Nat} (h : ShI cs os l s) (hc : ∀ k, 0 ≤ (cs.getD k pc0).2) (hw : 0 ≤ (os.getD o pc0).2) (no : o ∉ l) (hle : ∀ j ∈ l, (os.getD o pc0).1 ≤ (os.getD j pc0).1) : ShI cs os (l ++ [o]) (shStep cs os s o) := by
  obtain ⟨lf, rs⟩ := s
  obtain ⟨h1, h2, h3, h4, h5, h6, h7, h8, h9, h10⟩ := h
  dsimp only at h1 h2 h3 h4 h5 h6 h7 h8 h9 h10
  have M := made_all (cs := cs) (os := os) (o := o) (l0 := lf) hw h2 lf.length (Nat.le_refl _)
  unfold shStep
  dsimp only
  rw [h1] at M
  generalize madeF cs os o lf cs.length = m at M ⊢
  obtain ⟨ml, mw, mr⟩ := m
  rw [← h1] at M
  have M3 := M.min
  obtain ⟨m1, m2, m3, m4, m5, m6, m7, m8, m9⟩ := M
  dsimp only at m1 m2 m3 m4 m5 m6 m7 m8 m9 M3
  obtain ⟨q1, q2, q3⟩ := M3
  have sr : sumR (rs ++ mr) = sumR rs + sumR mr := sumR_app _ _
  have ra := h7 (os.getD o pc0).1 hle
  rw [h1] at q2 q3 m8
  have nrs : orS rs o = 0 := fs_none fun r hr => decide_eq_false fun z => no (by rw [← z]; exact (h4 r hr).1)
  have nmr : orS mr o = sumR mr := fs_all fun r hr => decide_eq_true (m6 r hr).1
  have oA := ordA_app (os := os) l o
  have hS0 : 0 ≤ avF cs (os.getD o pc0).1 lf cs.length := sg_nonneg fun k _ => by
    have := h2 k
    split <;> omega
  have hS : 0 ≤ sumR mr := by omega
  refine ⟨by show ml.length = _; omega, m4, fun k => ?_, fun r hr => ?_, ?_, fun x hx => ?_, fun r hr => ?_, ?_, fun r => ?_, ?_⟩
  · show ml.getD k 0 = _ - crS (rs ++ mr) k
    have e : crS (rs ++ mr) k = crS rs k + crS mr k := fs_app _ _
    have := h3 k
    have := m5 k
    omega
  · rcases List.mem_append.mp hr with h | h
    · obtain ⟨a, b, c, d⟩ := h4 r h
      exact ⟨List.mem_append_left _ a, b, c, d⟩
    · obtain ⟨a, b, c, d⟩ := m6 r h
      exact ⟨List.mem_append_right _ (by rw [a]; simp), by omega, by rw [a]; exact c, d⟩
  · refine List.pairwise_append.mpr ⟨h5, m7.imp fun h z => ?_, fun a ha b hb z => ?_⟩
    · have := (Prod.mk.inj z).2
      omega
    · have e := (Prod.mk.inj z).1
      rw [(m6 b hb).1] at e
      exact no (by rw [← e]; exact (h4 a ha).1)
  · show orS (rs ++ mr) x ≤ _
    have e : orS (rs ++ mr) x = orS rs x + orS mr x := fs_app _ _
    rcases List.mem_append.mp hx with h | h
    · have := h6 x h
      have e2 : orS mr x = 0 := fs_none fun r hr => decide_eq_false fun z => no (by rw [← (m6 r hr).1, z]; exact h)
      omega
    · have e2 := List.mem_singleton.mp h
      subst e2
      omega
  · show avF cs r ml cs.length = abvF cs r - sumR (rs ++ mr)
    have r1 := h7 r fun j hj => hr j (List.mem_append_left _ hj)
    have r2 := m8 r (hr o (List.mem_append_right _ (by simp)))
    omega
  · show 0 ≤ ordA os (l ++ [o]) - sumR (rs ++ mr)
    omega
  · show ordS os r (l ++ [o]) - abvF cs r ≤ ordA os (l ++ [o]) - sumR (rs ++ mr)
    by_cases hr : r ≤ (os.getD o pc0).1
    · have e : ordS os r (l ++ [o]) = ordA os (l ++ [o]) := ordS_all fun j hj => (List.mem_append.mp hj).elim (fun h => Int.le_trans hr (hle j h)) fun h => by rw [List.mem_singleton.mp h]; exact hr
      have := abv_mono hc hr
      omega
    · have e := ordS_app (os := os) (r := r) l o
      have e2 : gF os r o = 0 := if_neg hr
      have := h9 r
      omega
  · show ordA os (l ++ [o]) - sumR (rs ++ mr) = 0 ∨ ∃ j ∈ l ++ [o], ordA os (l ++ [o]) - sumR (rs ++ mr) = ordS os (os.getD j pc0).1 (l ++ [o]) - abvF cs (os.getD j pc0).1
    have eo : ordS os (os.getD o pc0).1 (l ++ [o]) = ordA os (l ++ [o]) := ordS_all fun j hj => (List.mem_append.mp hj).elim (fun h => hle j h) fun h => by rw [List.mem_singleton.mp h]; exact Int.le_refl _
    by_cases hq : sumR mr = avF cs (os.getD o pc0).1 lf cs.length
    · refine .inr ⟨o, List.mem_append_right _ (by simp), ?_⟩
      rw [eo]
      omega
    · have hq2 : sumR mr = (os.getD o pc0).2 := q3.resolve_right hq
      rcases h10 with z | ⟨j, hj, z⟩
      · exact .inl (by omega)
      · have e := ordS_app (os := os) (r := (os.getD j pc0).1) l o
        by_cases hjo : (os.getD j pc0).1 ≤ (os.getD o pc0).1
        · have e3 : (os.getD j pc0).1 = (os.getD o pc0).1 := by have := hle j hj; omega
          have e4 : ordS os (os.getD o pc0).1 l = ordA os l := ordS_all hle
          rw [e3] at z e
          exfalso
          omega
        · have e2 : gF os (os.getD j pc0).1 o = 0 := if_neg hjo
          exact .inr ⟨j, List.mem_append_left _ hj, by omega⟩
theorem ord_perm (os : List Pc) : (ordF os).Perm (List.range os.length) := List.mergeSort_perm _ _
theorem ord_pair (os : List Pc) : (ordF os).Pairwise fun i j => (os.getD j pc0).1 ≤ (os.getD i pc0).1 := by
  have h := List.pairwise_mergeSort (le := fun i j : Nat => decide (-(os.getD i pc0).1 ≤ -(os.getD j pc0).1)) (fun a b c h1 h2 => by simp only [decide_eq_true_eq] at h1 h2 ⊢; omega) (fun a b => by simp only [Bool.or_eq_true, decide_eq_true_eq]; omega) (List.range os.length)
  exact h.imp fun z => by simp only [decide_eq_true_eq] at z; omega
theorem sh_all {cs os : List Pc} (hc : ∀ p ∈ cs, PcOk p) (ho : ∀ p ∈ os, PcOk p) : ∀ i, i ≤ os.length → ShI cs os ((ordF os).take i) (shF cs os i)
  | 0, _ => sh_start hc
  | i + 1, h => by
    have ln : (ordF os).length = os.length := by rw [(ord_perm os).length_eq, List.length_range]
    have hi : i < (ordF os).length := by omega
    have g : (ordF os)[i]? = some (ordF os)[i] := List.getElem?_eq_getElem hi
    rw [shF_one g, List.take_add_one, g, Option.toList_some]
    have ps := ord_pair os
    have nd : (ordF os).Nodup := (ord_perm os).nodup_iff.mpr List.nodup_range
    have sp : ordF os = (ordF os).take i ++ (ordF os)[i] :: (ordF os).drop (i + 1) := by
      rw [← List.drop_eq_getElem_cons hi, List.take_append_drop]
    have gd : ∀ {ps : List Pc}, (∀ p ∈ ps, PcOk p) → ∀ k, 0 ≤ (ps.getD k pc0).2 := fun {ps} h k => by
      rw [List.getD_eq_getElem?_getD]
      cases e : ps[k]? with
      | none => exact Int.le_refl 0
      | some p => exact (h p (List.mem_of_getElem? e)).2.2.1
    refine sh_step (sh_all hc ho i (by omega)) (gd hc) (gd ho _) (fun z => ?_) fun j hj => ?_
    · rw [sp] at nd
      exact (List.nodup_append.mp nd).2.2 _ z _ List.mem_cons_self rfl
    · rw [sp] at ps
      exact (List.pairwise_append.mp ps).2.2 _ hj _ List.mem_cons_self
theorem range_sum (f : Nat → Int) : ∀ n, ((List.range n).map f).sum = sg f n
  | 0 => rfl
  | n + 1 => by rw [List.range_succ, List.map_append, sum_app, range_sum f n]; show _ + (f n + 0) = _ + _; omega
theorem all_sum : ∀ ps : List Pc, (ps.map (·.2)).sum = sg (fun k => (ps.getD k pc0).2) ps.length := fun ps => by
  have e : ps.map (·.2) = (List.range ps.length).map fun k => (ps.getD k pc0).2 := by
    refine List.ext_getElem? fun k => ?_
    rw [List.getElem?_map, List.getElem?_map]
    by_cases hk : k < ps.length
    · rw [List.getElem?_range hk, List.getElem?_eq_getElem hk]
      show some _ = some (ps.getD k pc0).2
      rw [List.getD_eq_getElem?_getD, List.getElem?_eq_getElem hk]; rfl
    · rw [List.getElem?_eq_none (by omega), List.getElem?_eq_none (by simpa using hk)]; rfl
  rw [e, range_sum]
/-- what shared tells of crews and orders -/
structure ShT (cs os : List Pc) (rs : List Rw) (lack : Int) : Prop where
  rows : ∀ r ∈ rs, r.1 < os.length ∧ r.2.1 < cs.length ∧ (os.getD r.1 pc0).1 ≤ (cs.getD r.2.1 pc0).1 ∧ 1 ≤ r.2.2
  two : rs.Pairwise fun a b => (a.1, a.2.1) ≠ (b.1, b.2.1)
  crs : ∀ k, crS rs k ≤ (cs.getD k pc0).2
  ors : ∀ o, o < os.length → orS rs o ≤ (os.getD o pc0).2
  low : 0 ≤ lack
  lk : (os.map (·.2)).sum - sumR rs = lack
  c1 : ∀ r, abvF os r - abvF cs r ≤ lack
  c2 : lack = 0 ∨ ∃ j, j < os.length ∧ lack = abvF os (os.getD j pc0).1 - abvF cs (os.getD j pc0).1
theorem sh_told {cs os : List Pc} (hc : ∀ p ∈ cs, PcOk p) (ho : ∀ p ∈ os, PcOk p) : ShT cs os (rowsF cs os) (lackingF cs os) := by
  have S := sh_all hc ho os.length (Nat.le_refl _)
  have ln : (ordF os).length = os.length := by rw [(ord_perm os).length_eq, List.length_range]
  rw [List.take_of_length_le (by omega)] at S
  have mem : ∀ {j}, j ∈ ordF os ↔ j < os.length := fun {j} => by rw [(ord_perm os).mem_iff, List.mem_range]
  have eS : ∀ r, ordS os r (ordF os) = abvF os r := fun r => by
    unfold ordS
    rw [perm_sum ((ord_perm os).map (gF os r)), range_sum, abv_sg]
  have eA : ordA os (ordF os) = (os.map (·.2)).sum := by
    unfold ordA
    rw [perm_sum ((ord_perm os).map fun j => (os.getD j pc0).2), range_sum, all_sum]
  obtain ⟨h1, h2, h3, h4, h5, h6, h7, h8, h9, h10⟩ := S
  rw [eA] at h8 h9 h10
  refine ⟨fun r hr => ?_, h5, fun k => ?_, fun o h => h6 o (mem.mpr h), h8, rfl, fun r => ?_, ?_⟩
  · obtain ⟨a, b⟩ := h4 r hr
    exact ⟨mem.mp a, b⟩
  · have := h2 k
    have := h3 k
    show crS (shF cs os os.length).2 k ≤ _
    omega
  · have := h9 r
    rw [eS] at this
    exact this
  · rcases h10 with z | ⟨j, hj, z⟩
    · exact .inl z
    · refine .inr ⟨j, mem.mp hj, ?_⟩
      rw [eS] at z
      exact z

theorem sm_lists {H H' : Hp} {S : List Addr} (h : ∀ s ∈ S, ∃ xs, H s = some (.lst xs)) (s : Sm S H H') {b : Addr} {o : HO} (e : H b = some o) (n : ∀ xs, o ≠ .lst xs) : H' b = some o := sm_at s (fun hb => by
  obtain ⟨xs, e2⟩ := h b hb
  rw [e] at e2
  exact n xs (Option.some.inj e2)) e
theorem nl_sm {H H' : Hp} {S : List Addr} (h : ∀ s ∈ S, ∃ xs, H s = some (.lst xs)) (s : Sm S H H') : Nl H H' := fun _ _ e n _ => sm_lists h s e n
theorem tabs_sm {T : List (Addr × Str)} {H H' : Hp} {S : List Addr} (h : ∀ s ∈ S, ∃ xs, H s = some (.lst xs)) (s : Sm S H H') (t : LamX.Tabs T H) : LamX.Tabs T H' := fun p hp => by
  obtain ⟨ps, h1, h2, h3⟩ := t p hp
  exact ⟨ps, sm_lists h s h1 (fun xs z => by cases z), h2, fun pos cv hc => (h3 pos cv hc).imp fun c z => ⟨z.1, sm_lists h s z.2 (fun xs q => by unfold LamX.CodeO at q; cases q)⟩⟩
theorem extN_sm {H H1 H2 : Hp} {S : List Addr} (x : LamX.ExtN H H1) (s : Sm S H1 H2) (f : ∀ s ∈ S, H s = none) : LamX.ExtN H H2 := fun b o e n => sm_at s (fun hb => by rw [f b hb] at e; cases e) (x b o e n)
theorem same_free {H H' : Hp} (s : Same H H') {b : Addr} (h : H' b = none) : H b = none := by
  cases e : H b with
  | none => rfl
  | some o => rw [s _ _ e] at h; cases h
theorem sqL_nl {H H' : Hp} {S : List Addr} {c : Addr} {xs : List V} (s : Sm S H H') (n : c ∉ S) (h : SqL K H c xs) : SqL K H' c xs := by
  rcases h with (h | ⟨o, h⟩) | h
  · exact .inl (.inl (sm_at s n h))
  · exact .inl (.inr ⟨o, sm_at s n h⟩)
  · exact .inr h
theorem rw_at {H : Hp} {xs : List V} {rs : List Rw} (h : DpAll K H xs (rs.map rwD)) {i : Nat} {v : V} (g : xs[i]? = some v) : ∃ (a : Addr) (r : Rw), v = .ref a ∧ SqT K H a [.int (r.1 : Int), .int (r.2.1 : Int), .int r.2.2] ∧ rs[i]? = some r := by
  obtain ⟨r, gr, dr⟩ := dpAll_map_at h g
  obtain ⟨a, ts, rfl, ht, dts⟩ := dp_tup dr
  obtain ⟨x, y, z, rfl, d1, d2, d3⟩ := dp_three dts
  rw [dp_int d1, dp_int d2, dp_int d3] at ht
  exact ⟨a, r, rfl, ht, gr⟩
theorem sh_lr {cs os : List Pc} (hc : ∀ p ∈ cs, PcOk p) (ho : ∀ p ∈ os, PcOk p) : lackingF cs os ≠ 0 → ∃ p ∈ os, lackF cs os p.1 = lackingF cs os := fun n => by
  have S := sh_told hc ho
  rcases S.c2 with z | ⟨j, hj, z⟩
  · exact absurd z n
  · have e : os.getD j pc0 = os[j] := by rw [List.getD_eq_getElem?_getD, List.getElem?_eq_getElem hj]; rfl
    refine ⟨os[j], List.getElem_mem hj, ?_⟩
    rw [e] at z
    have := S.low
    unfold lackF
    omega
def qShared : Str := ("shared" : Str) ++ (".<locals>." : Str) ++ ("<lambda>" : Str)
def sortR (rs : List Rw) : List Rw := rs.mergeSort (PySem.W.dataLe false rwD)
def spShared (K : PySem.W.Frag) (Pt : Addr) : Sp := fun vs H Q _ => ∃ (c o : Addr) (xs ys : List V) (cs os : List Pc), vs = [.ref c, .ref o] ∧ SqL K H c xs ∧ SqL K H o ys ∧ DpAll K H xs (cs.map pcD) ∧ DpAll K H ys (os.map pcD) ∧ cs.length ≤ 20 ∧ os.length ≤ 20 ∧ (∀ p ∈ cs, PcOk p) ∧ (∀ p ∈ os, PcOk p) ∧ (∀ l, H l = none → c ≠ l) ∧ (∀ l, H l = none → o ≠ l) ∧ LamX.Tabs [(Pt, qShared)] H ∧
  ∀ (H' : Hp) (t R : Addr) (zs : List V), LamX.ExtN H H' → LamX.Tabs [(Pt, qShared)] H' → (∀ x u, H x = some u → (∀ ps, u ≠ .tbl ps) → x ≠ R) → H' t = some (.tup [.ref R, .int (lackingF cs os), opV (lrF cs os (lackingF cs os))]) → H' R = some (.lst zs) → DpAll K H' zs ((sortR (rowsF cs os)).map rwD) → zs.length ≤ 400 → Q (.ref t) H'
abbrev s_shared : Stmt := topS 1
def n_shared : List Str := ["crews", "orders", "left", "rows", "order", "lacking", "rank", "pieces", "many", "row"]
theorem sc_shared : FnScope n_shared ["crews", "orders"] (defScope s_shared) := ⟨rfl, rfl, rfl, by decide +kernel, rfl, by decide +kernel, by decide +kernel⟩
set_option maxHeartbeats 2000000 in
theorem ok_shared {f cd0 Pt : Addr} {fd : FuncData} {k : Nat} (F : Fun K "shared" "shared" s_shared f fd) (hcd : fd.code = .ref cd0) (T : Txt mg) (TB : LamX.TabB base mg cd0 Pt) (c_made_of : Cl P w K mg base (k + 1) "made_of" (spMade K)) (c_lacking_rank : Cl P w K mg base (k + 3) "lacking_rank" (spLr K)) : FnOk P w K mg base CX0 (k + 4) f fd ["crews", "orders"] (spShared K Pt) := by
  refine okC F hcd sc_shared (fun vs H Q E h => ?_) (fun A outer s H vs Q E hr h => ?_)
  · obtain ⟨c, o, xs, ys, cs, os, rfl, _⟩ := h
    rfl
  · obtain ⟨c, o, xs, ys, cs, os, rfl, hC, hO, dc, dO, lc, lo, kc, ko, nc, no, tbs, q⟩ := h
    have nd := sc_shared.nd
    have hu70 : (A.deeper (envOfC (Str.ofString "shared") (defScope s_shared) s.heap.objs.size f (.ref cd0))).units + 70 < cLine := by have := hr.un; omega
    have hmT : (Pt, qShared) ∈ [(Pt, qShared)] := List.mem_singleton.mpr rfl
    have huT : ∀ p ∈ [(Pt, qShared)], p.1 = Pt → p.2 = qShared := fun p hp _ => by rw [List.mem_singleton.mp hp]
    have lx : xs.length = cs.length := dpAll_map_len dc
    have ly : ys.length = os.length := dpAll_map_len dO
    /- 0 crews, 1 orders, 2 left, 3 rows, 4 order, 5 lacking, 6 rank, 7 pieces, 8 many, 9 row -/
    refine ⟨_, (pss_cons (ps_setLc (i := 2) (own := [("rank", 6), ("pieces", 7)]) rfl nd rfl rfl (sw_true rfl rfl rfl (by decide +kernel)) (ki_list (K := K) (pv 0)) (blkOk_by (N := n_shared) (sc := defScope s_shared) (by decide +kernel)) (fun _ _ _ _ _ => (kg_tup (K := K) (n := 2) (pgs_cons (pg_name (i := 6) nd rfl (.inl rfl)) (pgs_cons (pg_name (i := 7) nd rfl (.inl rfl)) pgs_nil)))) (fun _ _ _ _ _ => pts_nil) (fun _ _ _ _ _ => (pv 7)))
      (pss_cons (ps_set (i := 3) nd rfl (.inl rfl) (pe_lst pa_nil))
      (pss_cons (ps_for PassesOwn.never rfl (ki_list (K := K) (RLam.pe_sortLam (io := 1) rfl (by rfl) T.sorted (pa_cons (pe_callTy RLam.cr_range1 (by rfl) T.range (by decide +kernel) (pa_cons (pe_callB (kc_len (K := K)) (by rfl) T.len PySem.boot_len (pa_cons (pv 1) pa_nil)) pa_nil)) pa_nil) TB rfl hmT huT hr ⟨rfl, rfl, rfl, by decide +kernel, rfl, rfl, up_by (sc := defScope s_shared) (by decide +kernel)⟩ rfl rfl (fun _ _ _ _ _ _ => rfl))) (pg_name (i := 4) nd rfl (.inl rfl))
          (pss_one (ps_expr (pe_bm PySem.F.plainAttrs_list PySem.F.slot_list_extend PySem.F.type_list_extend mt_extend (pv 3) (pa_cons (pe_cl c_made_of hr (by omega) (by rfl) (pa_cons (pv 0) (pa_cons (pv 1) (pa_cons (pv 4) (pa_cons (pv 2) pa_nil))))) pa_nil)))))
      (pss_cons (ps_set (i := 5) nd rfl (.inl rfl) (pe_op op_sub (pe_callB (kc_sum (K := K)) (by rfl) T.sum (by decide +kernel) (pa_cons (pe_lc (own := [("rank", 6), ("many", 8)]) rfl nd (ki_list (K := K) (pv 1)) (blkOk_by (N := n_shared) (sc := defScope s_shared) (by decide +kernel)) (fun _ _ _ _ _ => (kg_tup (K := K) (n := 2) (pgs_cons (pg_name (i := 6) nd rfl (.inl rfl)) (pgs_cons (pg_name (i := 8) nd rfl (.inl rfl)) pgs_nil)))) (fun _ _ _ _ _ => pts_nil) (fun _ _ _ _ _ => (pv 8))) pa_nil)) (pe_callB (kc_sum (K := K)) (by rfl) T.sum (by decide +kernel) (pa_cons (pe_lc (own := [("row", 9)]) rfl nd (ki_list (K := K) (pv 3)) (blkOk_by (N := n_shared) (sc := defScope s_shared) (by decide +kernel)) (fun _ _ _ _ _ => (pg_name (i := 9) nd rfl (.inl rfl))) (fun _ _ _ _ _ => pts_nil) (fun _ _ _ _ _ => (pe_ix (kx_tup (K := K)) (pv 9) pe_int (fun _ _ => rfl)))) pa_nil))))
      (pss_one (ps_ret (pe_tup (pa_cons (pe_callB (kc_sortedE (K := K) (enc := rwD) hu70 rw_al rw_tp rw_dep) (by rfl) T.sorted (by decide +kernel) (pa_cons (pv 3) pa_nil)) (pa_cons (pv 5) (pa_cons (pe_cl c_lacking_rank hr (by omega) (by rfl) (pa_cons (pv 0) (pa_cons (pv 1) (pa_cons (pv 5) pa_nil)))) pa_nil)))))))))), ?_⟩
    refine ⟨_, rfl, c, rfl, ⟨_, hC⟩, fun L nL => ?_⟩
    refine lc_it (walk_list (xs := xs)) (PvL H L fun i => ((cs.take i).map (·.2)).map V.int) (pv_start nL rfl) (fun i H4 _ h => h.1.seq hC) ?_ ?_
    · rintro i y H4 H5 hi p ⟨rfl, gx⟩
      obtain ⟨b, rfl, hb, hi2, _⟩ := pcs_at (dpAll_same p.1 dc) gx
      have gp : cs[i]? = some (cs.getD i pc0) := by rw [List.getD_eq_getElem?_getD, List.getElem?_eq_getElem hi2]; rfl
      generalize cs.getD i pc0 = pr at hb gp
      refine ⟨b, _, rfl, hb, rfl, _, _, rfl, _, _, rfl, rfl, rfl, tYes_at ?_⟩
      rw [if_pos rfl]
      refine ⟨_, rfl, pv_put nL p (Same.refl _) (by rw [List.take_add_one, gp, List.map_append, List.map_append]; rfl) ?_⟩
      rw [List.length_map, List.length_map, List.length_take, sizeLine_eq]; omega
    intro H2 p
    obtain ⟨s2, hL⟩ := pv_end p (show _ = (cs.map (·.2)).map V.int by rw [lx, List.take_length])
    have tbs2 : LamX.Tabs [(Pt, qShared)] H2 := tbs.ext s2
    have hC := s2.seq hC
    have hO := s2.seq hO
    have dc := dpAll_same s2 dc
    have dO := dpAll_same s2 dO
    have x2 : LamX.ExtN H H2 := .of s2
    clear p
    refine ⟨Nat.zero_le _, fun R nR => ?_⟩
    have LR : L ≠ R := ne_of_none hL nR
    have s3 := same_upd (o := .lst []) nR
    have hC := s3.seq hC
    have hO := s3.seq hO
    have dc := dpAll_same s3 dc
    have dO := dpAll_same s3 dO
    have tbs3 := tbs2.ext s3
    have hL := s3 _ _ hL
    have hR : upd H2 R (.lst []) R = _ := upd_same
    have nR0 : H R = none := same_free s2 nR
    have x3 : LamX.ExtN H (upd H2 R (.lst [])) := x2.trans (.of s3)
    generalize upd H2 R (.lst []) = H3 at hC hO dc dO tbs3 hL hR x3 ⊢
    have est : (((L2.start n_shared [V.ref c, V.ref o]).set 2 (some (V.ref L))).set 3 (some (V.ref R))) = [some (.ref c), some (.ref o), some (.ref L), some (.ref R), none, none, none, none, none, none] := rfl
    show tSeq _ _ _ (((L2.start n_shared [V.ref c, V.ref o]).set 2 (some (V.ref L))).set 3 (some (V.ref R))) _
    rw [est]
    refine ⟨_, rfl, _, _, rfl, .inl ⟨_, hO, rfl⟩, _, rfl, fun rp nrp => ?_⟩
    have sr := same_upd (o := .rng 0 (ys.length : Int)) nrp
    rw [ly] at sr ⊢
    refine ⟨rp, o, os.length, ys, fun i => (os.getD i pc0).1, rfl, upd_same, Nat.le_trans lo (by decide), tbs3.ext sr, rfl, sr.seq hO, fun i hi => ?_, fun H4 x4 tbs4 q0 nq0 => ?_⟩
    · obtain ⟨b, eb, hb, _⟩ := pcs_at (dpAll_same sr dO) (List.getElem?_eq_getElem (show i < ys.length by omega))
      exact ⟨b, _, by rw [List.getElem?_eq_getElem (show i < ys.length by omega), eb], hb, rfl⟩
    replace x4 : LamX.ExtN H3 H4 := (LamX.ExtN.of sr).trans x4
    have nl4 := Nl.ext x4
    have hC := RLam.sqL_ext hC x4
    have hO := RLam.sqL_ext hO x4
    have dc := pcs_nl nl4 dc
    have dO := pcs_nl nl4 dO
    have hL := x4 _ _ hL (fun ps z => by cases z)
    have hR := x4 _ _ hR (fun ps z => by cases z)
    have x5 : LamX.ExtN H H4 := x3.trans x4
    have qL : L ≠ q0 := ne_of_none hL nq0
    have qR : R ≠ q0 := ne_of_none hR nq0
    have s5 := same_upd (o := .lst ((ordF os).map fun i : Nat => V.int (i : Int))) nq0
    have tbs5 := tbs4.ext s5
    have hC := s5.seq hC
    have hO := s5.seq hO
    have dc := dpAll_same s5 dc
    have dO := dpAll_same s5 dO
    have hL := s5 _ _ hL
    have hR := s5 _ _ hR
    have hq : upd H4 q0 (.lst ((ordF os).map fun i : Nat => V.int (i : Int))) q0 = _ := upd_same
    have x5 : LamX.ExtN H (upd H4 q0 (.lst ((ordF os).map fun i : Nat => V.int (i : Int)))) := x5.trans (.of s5)
    clear s3 sr nrp tbs3 tbs4 x3 x4 nl4 tbs2 x2 s2
    have eord : ((List.range os.length).mergeSort fun i j => decide (-(fun i => (os.getD i pc0).1) i ≤ -(fun i => (os.getD i pc0).1) j)).map (fun i : Nat => V.int (i : Int)) = (ordF os).map fun i : Nat => V.int (i : Int) := rfl
    refine ⟨q0, rfl, ⟨_, SqL.of upd_same⟩, ?_⟩
    rw [eord]
    generalize upd H4 q0 (.lst ((ordF os).map fun i : Nat => V.int (i : Int))) = H5 at hC hO dc dO hL hR tbs5 hq x5 ⊢
    have lord : (ordF os).length = os.length := by rw [(ord_perm os).length_eq, List.length_range]
    have LS : ∀ s ∈ [L, R], ∃ xs, H5 s = some (.lst xs) := fun s hs => by
      rcases List.mem_cons.mp hs with rfl | hs
      · exact ⟨_, hL⟩
      · rw [List.mem_singleton.mp hs]; exact ⟨_, hR⟩
    have Lc : c ∉ [L, R] := by simp [nc L nL, nc R nR0]
    have Lo : o ∉ [L, R] := by simp [no L nL, no R nR0]
    refine for_it (walk_list (xs := (ordF os).map fun i : Nat => V.int (i : Int))) (fun i σ H6 => ∃ v4 us, σ = [some (.ref c), some (.ref o), some (.ref L), some (.ref R), v4, none, none, none, none, none] ∧ Sm [L, R] H5 H6 ∧ H6 L = some (.lst ((shF cs os i).1.map V.int)) ∧ (shF cs os i).1.length = cs.length ∧ H6 R = some (.lst us) ∧ DpAll K H6 us ((shF cs os i).2.map rwD) ∧ us.length ≤ 20 * i)
      ⟨_, [], rfl, Same.refl _, hL, List.length_map _, hR, .nil, Nat.le_refl _⟩ (fun i σ H6 _ h => by
        obtain ⟨_, _, _, sm, _⟩ := h
        exact SqL.of (sm_at sm (by simp [Ne.symm qL, Ne.symm qR]) hq)) ?_ ?_
    · rintro i x σ H6 H7 hi ⟨v4, us, rfl, sm, hL2, ll, hR2, du, lu⟩ ⟨rfl, gx⟩
      rw [List.getElem?_map] at gx
      obtain ⟨n, gn, rfl⟩ := Option.map_eq_some_iff.mp gx
      rw [shF_one gn]
      have hn : n < os.length := by
        have := (ord_perm os).mem_iff.mp (List.mem_of_getElem? gn)
        rwa [List.mem_range] at this
      have hi20 : i < 20 := by
        have := (List.getElem?_eq_some_iff.mp gn).1
        omega
      generalize shF cs os i = st at hL2 ll du ⊢
      obtain ⟨lf, rs⟩ := st
      have nl := nl_sm LS sm
      refine ⟨_, rfl, .inl ⟨rfl, _, SqL.of hR2⟩, _, rfl, _, rfl, _, rfl, _, rfl, c, o, L, n, xs, ys, cs, os, lf, rfl, nc L nL, sqL_nl sm Lc hC, sqL_nl sm Lo hO, pcs_nl nl dc, pcs_nl nl dO, lc, lo, hn, hL2, ll, fun H8 Rm vs s8 nRm hRm hL8 ll8 dv lv => ?_⟩
      have RL : R ∉ [L] := by simp [Ne.symm LR]
      have hR8 := sm_at s8 RL hR2
      have nl8 := Nl.one s8 hL2
      have du8 := rws_nl nl8 du
      refine ⟨R, Rm, us, vs, rfl, rfl, hR8, hRm, (by rw [sizeLine_eq]; omega), ?_⟩
      have nlw := Nl.wr (o := .lst (us ++ vs)) hR8
      refine ⟨_, us ++ vs, rfl, ?_, by rw [upd_ne LR]; exact hL8, ll8, upd_same, ?_, by rw [List.length_append]; omega⟩
      · exact sm.trans ((sm_mono (by simp) s8).trans (sm_wr (by simp)))
      · show DpAll K _ (us ++ vs) ((rs ++ _).map rwD)
        rw [List.map_append]
        exact dpAll_app (rws_nl nlw du8) (rws_nl nlw dv)
    · rintro σ H6 ⟨v4, us, rfl, sm, hL2, ll, hR2, du, lu⟩
      have el : ((ordF os).map fun i : Nat => V.int (i : Int)).length = os.length := by rw [List.length_map, lord]
      rw [el] at hL2 ll du lu
      have nl := nl_sm LS sm
      have hC := sqL_nl sm Lc hC
      have hO := sqL_nl sm Lo hO
      have dc := pcs_nl nl dc
      have dO := pcs_nl nl dO
      have tb6 := tabs_sm LS sm tbs5
      have x6 : LamX.ExtN H H6 := extN_sm x5 sm fun s hs => by
        rcases List.mem_cons.mp hs with rfl | hs
        · exact nL
        · rw [List.mem_singleton.mp hs]; exact nR0
      clear hL hR hq
      have lus : us.length = (rowsF cs os).length := dpAll_map_len du
      refine ⟨_, rfl, o, rfl, ⟨_, hO⟩, fun D nD => ?_⟩
      refine lc_it (walk_list (xs := ys)) (PvL H6 D fun i => ((os.take i).map (·.2)).map V.int) (pv_start nD rfl) (fun i H4 _ h => h.1.seq hO) ?_ ?_
      · rintro i y H4 H5 hi p ⟨rfl, gx⟩
        obtain ⟨b, rfl, hb, hi2, _⟩ := pcs_at (dpAll_same p.1 dO) gx
        have gp : os[i]? = some (os.getD i pc0) := by rw [List.getD_eq_getElem?_getD, List.getElem?_eq_getElem hi2]; rfl
        generalize os.getD i pc0 = pr at hb gp
        refine ⟨b, _, rfl, hb, rfl, _, _, rfl, _, _, rfl, rfl, rfl, tYes_at ?_⟩
        rw [if_pos rfl]
        refine ⟨_, rfl, pv_put nD p (Same.refl _) (by rw [List.take_add_one, gp, List.map_append, List.map_append]; rfl) ?_⟩
        rw [List.length_map, List.length_map, List.length_take, sizeLine_eq]; omega
      intro H7 p
      obtain ⟨s7, hD⟩ := pv_end p (show _ = (os.map (·.2)).map V.int by rw [ly, List.take_length])
      clear p
      have hR7 := s7 _ _ hR2
      have hC := s7.seq hC
      have hO := s7.seq hO
      have dc := dpAll_same s7 dc
      have dO := dpAll_same s7 dO
      have du := dpAll_same s7 du
      have tb7 := tb6.ext s7
      have x7 : LamX.ExtN H H7 := x6.trans (.of s7)
      refine ⟨D, _, rfl, SqL.of hD, ?_⟩
      refine ⟨_, rfl, R, rfl, ⟨_, SqL.of hR7⟩, fun E2 nE => ?_⟩
      refine lc_it (walk_list (xs := us)) (PvL H7 E2 fun i => (((rowsF cs os).take i).map fun r => r.2.2).map V.int) (pv_start nE rfl) (fun i H4 _ h => h.1.seq (SqL.of hR7)) ?_ ?_
      · rintro i y H4 H5 hi p ⟨rfl, gx⟩
        obtain ⟨b, r, rfl, hb, gr⟩ := rw_at (dpAll_same p.1 du) gx
        refine ⟨rfl, tYes_at ?_⟩
        rw [if_pos rfl]
        refine ⟨_, rfl, b, _, 2, _, rfl, rfl, hb, rfl, pv_put nE p (Same.refl _) (by rw [List.take_add_one, show (rowsF cs os)[i]? = some r from gr, List.map_append, List.map_append]; rfl) ?_⟩
        rw [List.length_map, List.length_map, List.length_take, sizeLine_eq]; omega
      intro H8 p
      obtain ⟨s8, hE⟩ := pv_end p (show _ = ((rowsF cs os).map fun r => r.2.2).map V.int by rw [lus, List.take_length])
      clear p
      refine ⟨E2, _, rfl, SqL.of hE, _, _, rfl, rfl, ?_⟩
      have hR8 := s8 _ _ hR7
      have hC := s8.seq hC
      have hO := s8.seq hO
      have dc := dpAll_same s8 dc
      have dO := dpAll_same s8 dO
      have du := dpAll_same s8 du
      have tb8 := tb7.ext s8
      have x8 : LamX.ExtN H H8 := x7.trans (.of s8)
      clear x7 x6 x5 tb7 tb6 tbs5 s7 s8 sm nl hR7 hR2 hL2
      refine ⟨_, rfl, R, us, rowsF cs os, rfl, SqL.of hR8, du, fun zs p dz np => ?_⟩
      have sp := same_upd (o := .lst zs) np
      have dz : DpAll K (upd H8 p (.lst zs)) zs ((sortR (rowsF cs os)).map rwD) := dpAll_same sp dz
      have frs : ∀ x u, H x = some u → (∀ ps, u ≠ .tbl ps) → x ≠ p := fun x u e n z => by
        rw [z] at e
        rw [x8 _ _ e n] at np
        cases np
      have hp : upd H8 p (.lst zs) p = _ := upd_same
      refine ⟨_, rfl, _, rfl, _, rfl, _, rfl, c, o, xs, ys, cs, os, lackingF cs os, rfl, sp.seq hC, sp.seq hO, dpAll_same sp dc, dpAll_same sp dO, lc, lo, sh_lr kc ko, fun H9 s9 => ⟨(by show 3 ≤ sizeLine; decide), fun t nt => ?_⟩⟩
      have st := same_upd (o := .tup [.ref p, .int (lackingF cs os), opV (lrF cs os (lackingF cs os))]) nt
      exact q _ t p zs (x8.trans (.of fun b u e => st _ _ (s9 _ _ (sp _ _ e)))) (((tb8.ext sp).ext s9).ext st) frs upd_same (st _ _ (s9 _ _ hp)) (dpAll_same st (dpAll_same s9 dz)) (by rw [dpAll_map_len dz]; show (List.mergeSort _ _).length ≤ _; rw [List.length_mergeSort]; omega)

end
end Pot




namespace Pot
open PySem PySem.Spec PyProof.Rows L2
section
variable {P : Program} {w : World} {K : PySem.W.Frag} {mg : Str → Option Value} {base : Heap}
theorem iteY {c A B : Prop} [Decidable c] (h : c) (a : A) : if decide c = true then A else B := by
  rw [if_pos (decide_eq_true h)]; exact a
theorem iteN {c A B : Prop} [Decidable c] (h : ¬ c) (b : B) : if decide c = true then A else B := by
  rw [if_neg (fun z => h (of_decide_eq_true z))]; exact b
theorem dl3 (a b : Rw) : PySem.W.dataLt (rwD a) (rwD b) = decide ((a.1 : Int) < b.1 ∨ ((a.1 : Int) = b.1 ∧ ((a.2.1 : Int) < b.2.1 ∨ ((a.2.1 : Int) = b.2.1 ∧ a.2.2 < b.2.2)))) := by
  have hi : ∀ (x y : Int), PySem.W.alike (.int x) (.int y) = true := fun _ _ => rfl
  unfold rwD
  rw [PySem.W.dataLt_tuple, PySem.W.dataLt_cons (hi _ _), PySem.W.dataLt_cons (hi _ _), PySem.W.dataLt_cons (hi _ _), PySem.W.dataLt_int, PySem.W.dataLt_int, PySem.W.dataLt_int]
  have e : PyProof.Rows.lexLt PyProof.Rows.itemOrd (PySem.W.keyToksAll []) (PySem.W.keyToksAll []) = false := rfl
  rw [e]
  simp only [PyData.eqv, beq_iff_eq]
  by_cases h1 : (a.1 : Int) = b.1 <;> by_cases h2 : (a.2.1 : Int) = b.2.1 <;> by_cases h3 : a.2.2 = b.2.2 <;> simp [h1, h2, h3]
/-- rows that a crews' and orders' telling may be -/
structure RowsOk (cs os : List Pc) (rs : List Rw) : Prop where
  rows : ∀ r ∈ rs, r.1 < os.length ∧ r.2.1 < cs.length ∧ (os.getD r.1 pc0).1 ≤ (cs.getD r.2.1 pc0).1 ∧ 1 ≤ r.2.2
  rise : rs.Pairwise fun a b => a.1 < b.1 ∨ (a.1 = b.1 ∧ a.2.1 < b.2.1)
  crs : ∀ k, crS rs k ≤ (cs.getD k pc0).2
  ors : ∀ o, o < os.length → orS rs o ≤ (os.getD o pc0).2
theorem sortR_perm (rs : List Rw) : (sortR rs).Perm rs := List.mergeSort_perm _ _
theorem sortR_ok {cs os : List Pc} {rs : List Rw} {l : Int} (h : ShT cs os rs l) : RowsOk cs os (sortR rs) := by
  have p := sortR_perm rs
  refine ⟨fun r hr => h.rows r (p.mem_iff.mp hr), ?_, fun k => ?_, fun o ho => ?_⟩
  · have s : (sortR rs).Pairwise fun a b => PySem.W.dataLe false rwD a b = true := PySem.W.sort_pairwise (PySem.W.sortLe_total _ _ _) rs
    have t : (sortR rs).Pairwise fun a b => (a.1, a.2.1) ≠ (b.1, b.2.1) := (p.pairwise_iff (fun {a b} h => Ne.symm h)).mpr h.two
    refine (s.and t).imp fun {a b} z => ?_
    obtain ⟨z1, z2⟩ := z
    have z1 : (!PySem.W.dataLt (rwD b) (rwD a)) = true := z1
    rw [dl3, Bool.not_eq_true', decide_eq_false_iff_not] at z1
    by_cases e : a.1 = b.1
    · have : a.2.1 ≠ b.2.1 := fun q => z2 (by rw [e, q])
      exact .inr ⟨e, by omega⟩
    · exact .inl (by omega)
  · have := h.crs k
    unfold crS at this ⊢
    rw [perm_sum ((p.filter _).map fun r : Rw => r.2.2)]
    exact this
  · have := h.ors o ho
    unfold orS at this ⊢
    rw [perm_sum ((p.filter _).map fun r : Rw => r.2.2)]
    exact this
def clF (cs : List Pc) (rs : List Rw) (i : Nat) : List Int := (List.range cs.length).map fun k => (cs.getD k pc0).2 - crS (rs.take i) k
def olF (os : List Pc) (rs : List Rw) (i : Nat) : List Int := (List.range os.length).map fun k => (os.getD k pc0).2 - orS (rs.take i) k
theorem range_set {n k : Nat} {f g : Nat → Int} (hk : ∀ j, j ≠ k → g j = f j) : ((List.range n).map f).set k (g k) = (List.range n).map g := by
  refine List.ext_getElem? fun j => ?_
  rw [List.getElem?_set, List.getElem?_map, List.getElem?_map]
  by_cases h : k = j
  · subst h
    rw [if_pos rfl, List.length_map, List.length_range]
    by_cases hn : k < n
    · rw [if_pos hn, List.getElem?_range hn]; rfl
    · rw [if_neg hn, List.getElem?_eq_none (by rw [List.length_range]; omega)]; rfl
  · rw [if_neg h]
    by_cases hn : j < n
    · rw [List.getElem?_range hn]
      show some _ = some _
      rw [hk j (fun z => h z.symm)]
    · rw [List.getElem?_eq_none (by rw [List.length_range]; omega)]; rfl
theorem cl_zero (cs : List Pc) (rs : List Rw) : cs.map (·.2) = clF cs rs 0 := by
  refine List.ext_getElem? fun j => ?_
  unfold clF
  rw [List.getElem?_map, List.getElem?_map]
  by_cases h : j < cs.length
  · rw [List.getElem?_range h, List.getElem?_eq_getElem h]
    show some _ = some ((cs.getD j pc0).2 - 0)
    rw [List.getD_eq_getElem?_getD, List.getElem?_eq_getElem h, Int.sub_zero]; rfl
  · rw [List.getElem?_eq_none (by omega), List.getElem?_eq_none (by rw [List.length_range]; omega)]; rfl
theorem ol_zero (os : List Pc) (rs : List Rw) : os.map (·.2) = olF os rs 0 := by
  refine List.ext_getElem? fun j => ?_
  unfold olF
  rw [List.getElem?_map, List.getElem?_map]
  by_cases h : j < os.length
  · rw [List.getElem?_range h, List.getElem?_eq_getElem h]
    show some _ = some ((os.getD j pc0).2 - 0)
    rw [List.getD_eq_getElem?_getD, List.getElem?_eq_getElem h, Int.sub_zero]; rfl
  · rw [List.getElem?_eq_none (by omega), List.getElem?_eq_none (by rw [List.length_range]; omega)]; rfl
theorem crS_take {rs : List Rw} {i : Nat} {r : Rw} (g : rs[i]? = some r) (k : Nat) : crS (rs.take (i + 1)) k = crS (rs.take i) k + if r.2.1 = k then r.2.2 else 0 := by
  rw [List.take_add_one, g, ← crS_one]
  exact fs_app _ _
theorem orS_take {rs : List Rw} {i : Nat} {r : Rw} (g : rs[i]? = some r) (k : Nat) : orS (rs.take (i + 1)) k = orS (rs.take i) k + if r.1 = k then r.2.2 else 0 := by
  rw [List.take_add_one, g, ← orS_one]
  exact fs_app _ _
theorem cl_set {cs : List Pc} {rs : List Rw} {i : Nat} {r : Rw} (g : rs[i]? = some r) : (clF cs rs i).set r.2.1 ((cs.getD r.2.1 pc0).2 - crS (rs.take i) r.2.1 - r.2.2) = clF cs rs (i + 1) := by
  have e : (cs.getD r.2.1 pc0).2 - crS (rs.take i) r.2.1 - r.2.2 = (fun k => (cs.getD k pc0).2 - crS (rs.take (i + 1)) k) r.2.1 := by
    show _ = (cs.getD r.2.1 pc0).2 - crS (rs.take (i + 1)) r.2.1
    rw [crS_take g, if_pos rfl]; omega
  rw [e]
  exact range_set (f := fun k => (cs.getD k pc0).2 - crS (rs.take i) k) (g := fun k => (cs.getD k pc0).2 - crS (rs.take (i + 1)) k) fun j hj => by
    show (cs.getD j pc0).2 - crS (rs.take (i + 1)) j = (cs.getD j pc0).2 - crS (rs.take i) j
    rw [crS_take g, if_neg (fun z => hj z.symm)]; omega
theorem ol_set {os : List Pc} {rs : List Rw} {i : Nat} {r : Rw} (g : rs[i]? = some r) : (olF os rs i).set r.1 ((os.getD r.1 pc0).2 - orS (rs.take i) r.1 - r.2.2) = olF os rs (i + 1) := by
  have e : (os.getD r.1 pc0).2 - orS (rs.take i) r.1 - r.2.2 = (fun k => (os.getD k pc0).2 - orS (rs.take (i + 1)) k) r.1 := by
    show _ = (os.getD r.1 pc0).2 - orS (rs.take (i + 1)) r.1
    rw [orS_take g, if_pos rfl]; omega
  rw [e]
  exact range_set (f := fun k => (os.getD k pc0).2 - orS (rs.take i) k) (g := fun k => (os.getD k pc0).2 - orS (rs.take (i + 1)) k) fun j hj => by
    show (os.getD j pc0).2 - orS (rs.take (i + 1)) j = (os.getD j pc0).2 - orS (rs.take i) j
    rw [orS_take g, if_neg (fun z => hj z.symm)]; omega
theorem cl_at {cs : List Pc} {rs : List Rw} {i k : Nat} (h : k < cs.length) : ((clF cs rs i).map V.int)[k]? = some (.int ((cs.getD k pc0).2 - crS (rs.take i) k)) := by
  unfold clF
  rw [List.getElem?_map, List.getElem?_map, List.getElem?_range h]; rfl
theorem ol_at {os : List Pc} {rs : List Rw} {i k : Nat} (h : k < os.length) : ((olF os rs i).map V.int)[k]? = some (.int ((os.getD k pc0).2 - orS (rs.take i) k)) := by
  unfold olF
  rw [List.getElem?_map, List.getElem?_map, List.getElem?_range h]; rfl
def lastR (rs : List Rw) : Nat → Int × Int
  | 0 => (-1, -1)
  | i + 1 => match rs[i]? with
    | some r => ((r.1 : Int), (r.2.1 : Int))
    | none => (-1, -1)
theorem last_lt {cs os : List Pc} {rs : List Rw} (h : RowsOk cs os rs) {i : Nat} {r : Rw} (g : rs[i]? = some r) : (lastR rs i).1 < (r.1 : Int) ∨ ((lastR rs i).1 = (r.1 : Int) ∧ (lastR rs i).2 < (r.2.1 : Int)) := by
  cases i with
  | zero => exact .inl (by show (-1 : Int) < _; omega)
  | succ i =>
    have hi := (List.getElem?_eq_some_iff.mp g).1
    have g2 : rs[i]? = some (rs[i]'(by omega)) := List.getElem?_eq_getElem (by omega)
    have q := List.pairwise_iff_getElem.mp h.rise i (i + 1) (by omega) hi (by omega)
    have e : rs[i + 1] = r := (List.getElem?_eq_some_iff.mp g).2
    rw [e] at q
    have el : lastR rs (i + 1) = (((rs[i]'(by omega)).1 : Int), ((rs[i]'(by omega)).2.1 : Int)) := by
      show (match rs[i]? with | some r => ((r.1 : Int), (r.2.1 : Int)) | none => (-1, -1)) = _
      rw [g2]
    rw [el]
    dsimp only
    omega
abbrev s__law_whole : Stmt := topS 10
def n__law_whole : List Str := ["_law_thing"]
theorem sc__law_whole : FnScope n__law_whole ["_law_thing"] (defScope s__law_whole) := ⟨rfl, rfl, rfl, by decide +kernel, rfl, by decide +kernel, by decide +kernel⟩
def spWh : Sp := fun vs H Q _ => ∃ i : Int, vs = [.int i] ∧ ∀ H', Same H H' → Q (.bl true) H'
theorem ok_lwhole {f : Addr} {fd : FuncData} {k : Nat} (F : Fun K "_law_whole" "_law_whole" s__law_whole f fd) (T : Txt mg) : FnOk P w K mg base CX0 (k + 1) f fd ["_law_thing"] spWh := by
  refine F.ok sc__law_whole (fun vs H Q E h => ?_) (fun cdv A outer s H vs Q E hr h => ?_)
  · obtain ⟨i, rfl, _⟩ := h
    rfl
  · obtain ⟨i, rfl, q⟩ := h
    have nd := sc__law_whole.nd
    have dp : Dp K H (.int i) (.int i) := .int i
    refine ⟨_, (pss_one (ps_ret (pe_and (pe_callB (kc_isi (K := K)) (by rfl) T.isinstance (by decide +kernel) (pa_cons (pv 0) (pa_cons (pe_bltn (v := .ty "int") (by rfl) T.int (by decide +kernel) rfl) pa_nil))) (pe_one (pe_not (pe_callB (kc_isi (K := K)) (by rfl) T.isinstance (by decide +kernel) (pa_cons (pv 0) (pa_cons (pe_bltn (v := .ty "bool") (by rfl) T.bool (by decide +kernel) rfl) pa_nil)))))))), ?_⟩
    refine ⟨_, rfl, _, .ty _, _, _, isIntD _, rfl, .ty _, tyx_dp dp, kit_int dp, _, rfl, iteT ?_⟩
    refine ⟨_, rfl, _, .ty _, _, _, isBoolD _, rfl, .ty _, tyx_dp dp, kit_bool dp, _, rfl, ?_⟩
    exact q _ (Same.refl _)
abbrev s__law_are_rows : Stmt := topS 11
def n__law_are_rows : List Str := ["_law_crews", "_law_orders", "_law_thing", "_law_many", "_law_crews_left", "_law_orders_left", "_law_last", "_law_row", "_law_order", "_law_crew", "_law_rank", "_law_pieces", "_law_one"]
theorem sc__law_are_rows : FnScope n__law_are_rows ["_law_crews", "_law_orders", "_law_thing"] (defScope s__law_are_rows) := ⟨rfl, rfl, rfl, by decide +kernel, rfl, by decide +kernel, by decide +kernel⟩
def spArer (K : PySem.W.Frag) : Sp := fun vs H Q _ => ∃ (c o R : Addr) (xs ys zs : List V) (cs os : List Pc) (rs : List Rw), vs = [.ref c, .ref o, .ref R] ∧ SqL K H c xs ∧ SqL K H o ys ∧ DpAll K H xs (cs.map pcD) ∧ DpAll K H ys (os.map pcD) ∧ cs.length ≤ 20 ∧ os.length ≤ 20 ∧
  SqL K H R zs ∧ DpAll K H zs (rs.map rwD) ∧ RowsOk cs os rs ∧ (∀ l, H l = none → c ≠ l ∧ o ≠ l ∧ R ≠ l) ∧ ∀ H', Same H H' → Q (.bl true) H'
set_option maxHeartbeats 2000000 in
theorem ok_arer {f : Addr} {fd : FuncData} {k : Nat} (F : Fun K "_law_are_rows" "_law_are_rows" s__law_are_rows f fd) (T : Txt mg) (c__law_whole : Cl P w K mg base (k + 1) "_law_whole" spWh) : FnOk P w K mg base CX0 (k + 2) f fd ["_law_crews", "_law_orders", "_law_thing"] (spArer K) := by
  refine F.ok sc__law_are_rows (fun vs H Q E h => ?_) (fun cdv A outer s H vs Q E hr h => ?_)
  · obtain ⟨c, o, R, xs, ys, zs, cs, os, rs, rfl, _⟩ := h
    rfl
  · obtain ⟨c, o, R, xs, ys, zs, cs, os, rs, rfl, hC, hO, dc, dO, lc, lo, hR, dz, rok, fr, q⟩ := h
    have nd := sc__law_are_rows.nd
    have hu70 : (A.deeper (envOfC (Str.ofString "_law_are_rows") (defScope s__law_are_rows) s.heap.objs.size f cdv)).units + 70 < cLine := by have := hr.un; omega
    /- 0 _law_crews, 1 _law_orders, 2 _law_thing, 3 _law_many, 4 _law_crews_left, 5 _law_orders_left, 6 _law_last, 7 _law_row, 8 _law_order, 9 _law_crew, 10 _law_rank, 11 _law_pieces, 12 _law_one -/
    refine ⟨_, (pss_cons (ps_if (pt_not (pt_val (pe_callB (kc_isi (K := K)) (by rfl) T.isinstance (by decide +kernel) (pa_cons (pv 2) (pa_cons (pe_bltn (v := .ty "list") (by rfl) T.list (by decide +kernel) rfl) pa_nil)))))
          pss_never
          pss_nil)
      (pss_cons (ps_par3 (i := 4) (j := 5) (l := 6) rfl nd rfl rfl rfl (by decide) (by decide) (by decide) rfl rfl rfl (pa_cons (pe_lc (own := [("_law_rank", 10), ("_law_pieces", 11)]) rfl nd (ki_list (K := K) (pv 0)) (blkOk_by (N := n__law_are_rows) (sc := defScope s__law_are_rows) (by decide +kernel)) (fun _ _ _ _ _ => (kg_tup (K := K) (n := 2) (pgs_cons (pg_name (i := 10) nd rfl (.inl rfl)) (pgs_cons (pg_name (i := 11) nd rfl (.inl rfl)) pgs_nil)))) (fun _ _ _ _ _ => pts_nil) (fun _ _ _ _ _ => (pv 11))) (pa_cons (pe_lc (own := [("_law_rank", 10), ("_law_many", 3)]) rfl nd (ki_list (K := K) (pv 1)) (blkOk_by (N := n__law_are_rows) (sc := defScope s__law_are_rows) (by decide +kernel)) (fun _ _ _ _ _ => (kg_tup (K := K) (n := 2) (pgs_cons (pg_name (i := 10) nd rfl (.inl rfl)) (pgs_cons (pg_name (i := 3) nd rfl (.inl rfl)) pgs_nil)))) (fun _ _ _ _ _ => pts_nil) (fun _ _ _ _ _ => (pv 3))) (pa_cons (pe_tup (pa_cons (pe_un un_neg pe_int) (pa_cons (pe_un un_neg pe_int) pa_nil))) pa_nil))) rfl)
      (pss_cons (ps_for PassesOwn.never rfl (ki_list (K := K) (pv 2)) (pg_name (i := 7) nd rfl (.inl rfl))
          (pss_cons (ps_if ((pw_or (pt_not (pt_val (pe_callB (kc_isi (K := K)) (by rfl) T.isinstance (by decide +kernel) (pa_cons (pv 7) (pa_cons (pe_bltn (v := .ty "tuple") (by rfl) T.tuple (by decide +kernel) rfl) pa_nil))))) (pw_or (pt_cmpR op_ne (pe_callB (kc_len (K := K)) (by rfl) T.len PySem.boot_len (pa_cons (pv 7) pa_nil)) pe_int (nomark _)) (pw_or1 (pt_not (pt_val (pe_callB (kc_all (K := K)) (by rfl) T.all (by decide +kernel) (pa_cons (pe_lc (own := [("_law_one", 12)]) rfl nd (ki_tup (K := K) (pv 7)) (blkOk_by (N := n__law_are_rows) (sc := defScope s__law_are_rows) (by decide +kernel)) (fun _ _ _ _ _ => (pg_name (i := 12) nd rfl (.inl rfl))) (fun _ _ _ _ _ => pts_nil) (fun _ _ _ _ _ => (pe_cl c__law_whole hr (by omega) (by rfl) (pa_cons (pv 12) pa_nil)))) pa_nil)))))))).pt
              pss_never
              pss_nil)
          (pss_cons (ps_asg (pv 7) (kg_tup (K := K) (n := 3) (pgs_cons (pg_name (i := 8) nd rfl (.inl rfl)) (pgs_cons (pg_name (i := 9) nd rfl (.inl rfl)) (pgs_cons (pg_name (i := 3) nd rfl (.inl rfl)) pgs_nil)))))
          (pss_cons (ps_if ((pw_or (pt_not (pt_chain op_le op_lt pe_int (pv 8) (pe_callB (kc_len (K := K)) (by rfl) T.len PySem.boot_len (pa_cons (pv 1) pa_nil)))) (pw_or (pt_not (pt_chain op_le op_lt pe_int (pv 9) (pe_callB (kc_len (K := K)) (by rfl) T.len PySem.boot_len (pa_cons (pv 0) pa_nil)))) (pw_or (pt_cmpR op_lt (pv 3) pe_int (nomark _)) (pw_or1 (pt_not (pt_cmpR (ko_ltD (K := K) hu70) (pv 6) (pe_tup (pa_cons (pv 8) (pa_cons (pv 9) pa_nil))) (nomark _)))))))).pt
              pss_never
              pss_nil)
          (pss_cons (ps_if (pt_cmpR op_gt (pe_ix (kx_tup (K := K)) (pe_ix (kx_list (K := K)) (pv 1) (pv 8) (fun _ _ => rfl)) pe_int (fun _ _ => rfl)) (pe_ix (kx_tup (K := K)) (pe_ix (kx_list (K := K)) (pv 0) (pv 9) (fun _ _ => rfl)) pe_int (fun _ _ => rfl)) (nomark _))
              pss_never
              pss_nil)
          (pss_one (ps_asg (pe_tup (pa_cons (pe_tup (pa_cons (pv 8) (pa_cons (pv 9) pa_nil))) (pa_cons (pe_op op_sub (pe_ix (kx_list (K := K)) (pv 4) (pv 9) (fun _ _ => rfl)) (pv 3)) (pa_cons (pe_op op_sub (pe_ix (kx_list (K := K)) (pv 5) (pv 8) (fun _ _ => rfl)) (pv 3)) pa_nil)))) (kg_tup (K := K) (n := 3) (pgs_cons (pg_name (i := 6) nd rfl (.inl rfl)) (pgs_cons (pg_sub (pv 4) (pv 9) set_list) (pgs_cons (pg_sub (pv 5) (pv 8) set_list) pgs_nil)))))))))))
      (pss_one (ps_ret (pe_cmpR op_ge (pe_callB (kc_min (K := K)) (by rfl) T.min (by decide +kernel) (pa_cons (pe_op op_cat (pe_op op_cat (pv 4) (pv 5)) (pe_lst (pa_cons pe_int pa_nil))) pa_nil)) pe_int (nomark _))))))), ?_⟩
    have lx : xs.length = cs.length := dpAll_map_len dc
    have ly : ys.length = os.length := dpAll_map_len dO
    have lz : zs.length = rs.length := dpAll_map_len dz
    have dp : Dp K H (.ref R) (.list (rs.map rwD)) := .lst hR dz
    refine ⟨_, rfl, _, .ty _, _, _, isListD _, rfl, .ty _, tyx_dp dp, kit_list dp, _, rfl, iteF ?_⟩
    refine ⟨_, rfl, c, rfl, ⟨_, hC⟩, fun D nD => ?_⟩
    refine lc_it (walk_list (xs := xs)) (PvL H D fun i => ((cs.take i).map (·.2)).map V.int) (pv_start nD rfl) (fun i H4 _ h => h.1.seq hC) ?_ ?_
    · rintro i y H4 H5 hi p ⟨rfl, gx⟩
      obtain ⟨b, rfl, hb, hi2, _⟩ := pcs_at (dpAll_same p.1 dc) gx
      have gp : cs[i]? = some (cs.getD i pc0) := by rw [List.getD_eq_getElem?_getD, List.getElem?_eq_getElem hi2]; rfl
      generalize cs.getD i pc0 = pr at hb gp
      refine ⟨b, _, rfl, hb, rfl, _, _, rfl, _, _, rfl, rfl, rfl, tYes_at ?_⟩
      rw [if_pos rfl]
      refine ⟨_, rfl, pv_put nD p (Same.refl _) (by rw [List.take_add_one, gp, List.map_append, List.map_append]; rfl) ?_⟩
      rw [List.length_map, List.length_map, List.length_take, sizeLine_eq]; omega
    intro H2 p
    obtain ⟨s2, hD⟩ := pv_end p (show _ = (cs.map (·.2)).map V.int by rw [lx, List.take_length])
    clear p
    have hC := s2.seq hC
    have hO := s2.seq hO
    have dc := dpAll_same s2 dc
    have dO := dpAll_same s2 dO
    have hR := s2.seq hR
    have dz := dpAll_same s2 dz
    refine ⟨_, rfl, o, rfl, ⟨_, hO⟩, fun D2 nD2 => ?_⟩
    refine lc_it (walk_list (xs := ys)) (PvL H2 D2 fun i => ((os.take i).map (·.2)).map V.int) (pv_start nD2 rfl) (fun i H4 _ h => h.1.seq hO) ?_ ?_
    · rintro i y H4 H5 hi p ⟨rfl, gx⟩
      obtain ⟨b, rfl, hb, hi2, _⟩ := pcs_at (dpAll_same p.1 dO) gx
      have gp : os[i]? = some (os.getD i pc0) := by rw [List.getD_eq_getElem?_getD, List.getElem?_eq_getElem hi2]; rfl
      generalize os.getD i pc0 = pr at hb gp
      refine ⟨b, _, rfl, hb, rfl, _, _, rfl, _, _, rfl, rfl, rfl, tYes_at ?_⟩
      rw [if_pos rfl]
      refine ⟨_, rfl, pv_put nD2 p (Same.refl _) (by rw [List.take_add_one, gp, List.map_append, List.map_append]; rfl) ?_⟩
      rw [List.length_map, List.length_map, List.length_take, sizeLine_eq]; omega
    intro H3 p
    obtain ⟨s3, hD2⟩ := pv_end p (show _ = (os.map (·.2)).map V.int by rw [ly, List.take_length])
    clear p
    have DD : D ≠ D2 := ne_of_none hD nD2
    have hD := s3 _ _ hD
    have hC := s3.seq hC
    have hO := s3.seq hO
    have dc := dpAll_same s3 dc
    have dO := dpAll_same s3 dO
    have hR := s3.seq hR
    have dz := dpAll_same s3 dz
    have s03 := s2.trans s3
    have nD2H : H D2 = none := same_free s2 nD2
    refine ⟨_, rfl, _, rfl, (by show 2 ≤ sizeLine; decide), fun t0 nt0 => ⟨_, _, _, rfl, ?_⟩⟩
    have st0 := same_upd (o := .tup [.int (-1), .int (-1)]) nt0
    have hD := st0 _ _ hD
    have hD2 := st0 _ _ hD2
    have hC := st0.seq hC
    have hO := st0.seq hO
    have dc := dpAll_same st0 dc
    have dO := dpAll_same st0 dO
    have hR := st0.seq hR
    have dz := dpAll_same st0 dz
    have s0 := s03.trans st0
    have ht0 : upd H3 t0 (.tup [.int (-1), .int (-1)]) t0 = _ := upd_same
    generalize upd H3 t0 (.tup [.int (-1), .int (-1)]) = H4 at hD hD2 hC hO dc dO hR dz s0 ht0 ⊢
    have LS : ∀ s ∈ [D, D2], ∃ xs, H4 s = some (.lst xs) := fun s hs => by
      rcases List.mem_cons.mp hs with rfl | hs
      · exact ⟨_, hD⟩
      · rw [List.mem_singleton.mp hs]; exact ⟨_, hD2⟩
    have Lc : c ∉ [D, D2] := by simp [(fr D nD).1, (fr D2 nD2H).1]
    have Lo : o ∉ [D, D2] := by simp [(fr D nD).2.1, (fr D2 nD2H).2.1]
    have LR : R ∉ [D, D2] := by simp [(fr D nD).2.2, (fr D2 nD2H).2.2]
    clear st0 s03 s3 s2 nt0
    show tSeq _ _ _ (((((L2.start n__law_are_rows [V.ref c, V.ref o, V.ref R]).set 4 (some (V.ref D))).set 5 (some (V.ref D2))).set 6 (some (V.ref t0)))) H4
    have est : ((((L2.start n__law_are_rows [V.ref c, V.ref o, V.ref R]).set 4 (some (V.ref D))).set 5 (some (V.ref D2))).set 6 (some (V.ref t0))) = [some (.ref c), some (.ref o), some (.ref R), none, some (.ref D), some (.ref D2), some (.ref t0), none, none, none, none, none, none] := rfl
    rw [est]
    refine ⟨_, rfl, R, rfl, ⟨_, hR⟩, ?_⟩
    refine for_it (walk_list (xs := zs)) (fun i σ H6 => ∃ v3 v7 v8 v9 tl, σ = [some (.ref c), some (.ref o), some (.ref R), v3, some (.ref D), some (.ref D2), some (.ref tl), v7, v8, v9, none, none, none] ∧ Sm [D, D2] H4 H6 ∧ H6 D = some (.lst ((clF cs rs i).map V.int)) ∧ H6 D2 = some (.lst ((olF os rs i).map V.int)) ∧ SqT K H6 tl [.int (lastR rs i).1, .int (lastR rs i).2])
      ⟨_, _, _, _, t0, rfl, Same.refl _, by rw [← cl_zero]; exact hD, by rw [← ol_zero]; exact hD2, .inl (.inl ht0)⟩ (fun i σ H6 _ h => by
        obtain ⟨_, _, _, _, _, _, sm, _⟩ := h
        exact sqL_nl sm LR hR) ?_ ?_
    · rintro i x σ H6 H7 hi ⟨v3, v7, v8, v9, tl, rfl, sm, hD6, hO6, hT⟩ ⟨rfl, gx⟩
      have nl := nl_sm LS sm
      obtain ⟨a, r, rfl, ha, gr⟩ := rw_at (rws_nl nl dz) gx
      obtain ⟨r1, r2, r3, r4⟩ := rok.rows r (List.mem_of_getElem? gr)
      have hC := sqL_nl sm Lc hC
      have hO := sqL_nl sm Lo hO
      have dc := pcs_nl nl dc
      have dO := pcs_nl nl dO
      have dpr : Dp K H7 (.ref a) (rwD r) := .tup ha (.cons (.int _) (.cons (.int _) (.cons (.int _) .nil)))
      refine ⟨_, rfl, _, .ty _, _, _, isTupD _, rfl, .ty _, tyx_dp dpr, kit_tup dpr, _, rfl, iteF ?_⟩
      refine ⟨_, rfl, _, _, rfl, .inr ⟨_, ha, rfl⟩, ?_⟩
      refine ⟨rfl, _, rfl, iteF ?_⟩
      refine ⟨_, rfl, a, rfl, ⟨_, ha⟩, fun E nE => ?_⟩
      refine lc_it (walk_tup (xs := [V.int (r.1 : Int), .int (r.2.1 : Int), .int r.2.2])) (PvL H7 E fun i => (List.replicate i true).map V.bl) (pv_start nE rfl) (fun i H4 _ h => sqT_nl (Nl.same h.1) ha) ?_ ?_
      · rintro j y H8 H9 hj p ⟨rfl, gy⟩
        have hj3 : j < 3 := hj
        obtain ⟨z, rfl⟩ : ∃ z : Int, y = .int z := by
          have hh : j = 0 ∨ j = 1 ∨ j = 2 := by omega
          rcases hh with rfl | rfl | rfl <;> exact ⟨_, (Option.some.inj gy).symm⟩
        refine ⟨rfl, tYes_at ?_⟩
        rw [if_pos rfl]
        refine ⟨_, rfl, z, rfl, fun HA sA => ?_⟩
        exact pv_put nE p sA (by rw [List.replicate_succ', List.map_append]; rfl) (by rw [List.length_map, List.length_replicate, sizeLine_eq]; omega)
      intro H8 p
      obtain ⟨s8, hE⟩ := pv_end p (show _ = ([true, true, true] : List Bool).map V.bl from rfl)
      clear p
      refine ⟨E, _, rfl, SqL.of hE, _, rfl, iteF ?_⟩
      have ha := sqT_nl (Nl.same s8) ha
      refine ⟨_, rfl, a, _, rfl, ha, rfl, _, _, rfl, _, _, rfl, _, _, rfl, rfl, ?_⟩
      have est2 : (((([some (V.ref c), some (V.ref o), some (V.ref R), v3, some (V.ref D), some (V.ref D2), some (V.ref tl), v7, v8, v9, none, none, none].set 7 (some (V.ref a))).set 8 (some (V.int (r.1 : Int)))).set 9 (some (V.int (r.2.1 : Int)))).set 3 (some (V.int r.2.2))) = [some (V.ref c), some (V.ref o), some (V.ref R), some (V.int r.2.2), some (V.ref D), some (V.ref D2), some (V.ref tl), some (V.ref a), some (V.int (r.1 : Int)), some (V.int (r.2.1 : Int)), none, none, none] := rfl
      rw [est2]
      have hC := s8.seq hC
      have hO := s8.seq hO
      have dc := dpAll_same s8 dc
      have dO := dpAll_same s8 dO
      have hT := sqT_nl (Nl.same s8) hT
      have hD8 := s8 _ _ hD6
      have hO8 := s8 _ _ hO6
      have sm8 : Sm [D, D2] H4 H8 := sm.trans (sm_of s8)
      refine ⟨_, rfl, _, _, rfl, rfl, _, rfl, iteY (by omega) ⟨_, rfl, _, _, rfl, .inl ⟨_, hO, rfl⟩, _, _, rfl, rfl, _, rfl, ?_⟩⟩
      refine iteNS (by omega) ?_
      refine ⟨_, rfl, _, _, rfl, rfl, _, rfl, iteY (by omega) ⟨_, rfl, _, _, rfl, .inl ⟨_, hC, rfl⟩, _, _, rfl, rfl, _, rfl, ?_⟩⟩
      refine iteNS (by omega) ?_
      refine ⟨_, rfl, _, _, rfl, rfl, _, rfl, iteN (by omega) ?_⟩
      refine ⟨_, rfl, _, rfl, _, rfl, (by show 2 ≤ sizeLine; decide), fun t1 nt1 => ?_⟩
      have sb := same_upd (o := .tup [.int (r.1 : Int), .int (r.2.1 : Int)]) nt1
      refine ⟨.tuple [.int (lastR rs i).1, .int (lastR rs i).2], .tuple [.int (r.1 : Int), .int (r.2.1 : Int)], .tup (sqT_nl (Nl.same sb) hT) (.cons (.int _) (.cons (.int _) .nil)), .tup (.inl (.inl upd_same)) (.cons (.int _) (.cons (.int _) .nil)), by simp [PySem.W.alike, PySem.W.alikeAll], (fun z => by cases z), by simp [PyData.depth, PyData.depthAll], _, rfl, ?_⟩
      rw [PySem.W.dataLt_ii]
      refine iteNS (last_lt rok gr) ?_
      have hC := sb.seq hC
      have hO := sb.seq hO
      have dc := dpAll_same sb dc
      have dO := dpAll_same sb dO
      have hD8 := sb _ _ hD8
      have hO8 := sb _ _ hO8
      have sm8 := sm8.trans (sm_of (S := [D, D2]) sb)
      generalize upd H8 t1 (.tup [.int (r.1 : Int), .int (r.2.1 : Int)]) = H9 at hC hO dc dO hD8 hO8 sm8 ⊢
      have hiy : r.1 < ys.length := by omega
      have hix : r.2.1 < xs.length := by omega
      obtain ⟨bo, ebo, hbo, _⟩ := pcs_at dO (List.getElem?_eq_getElem hiy)
      obtain ⟨bc, ebc, hbc, _⟩ := pcs_at dc (List.getElem?_eq_getElem hix)
      refine ⟨_, rfl, _, rfl, o, ys, r.1, _, rfl, rfl, hO, atI_nat (by rw [List.getElem?_eq_getElem hiy, ebo]), bo, _, 0, _, rfl, rfl, hbo, rfl, _, rfl, _, rfl, c, xs, r.2.1, _, rfl, rfl, hC, atI_nat (by rw [List.getElem?_eq_getElem hix, ebc]), bc, _, 0, _, rfl, rfl, hbc, rfl, _, _, rfl, rfl, _, rfl, iteN (by omega) ?_⟩
      refine ⟨_, rfl, _, rfl, (by show 2 ≤ sizeLine; decide), fun t2 nt2 => ?_⟩
      have sb := same_upd (o := .tup [.int (r.1 : Int), .int (r.2.1 : Int)]) nt2
      have hD8 := sb _ _ hD8
      have hO8 := sb _ _ hO8
      have sm8 := sm8.trans (sm_of (S := [D, D2]) sb)
      have ht2 : upd H9 t2 (.tup [.int (r.1 : Int), .int (r.2.1 : Int)]) t2 = _ := upd_same
      generalize upd H9 t2 (.tup [.int (r.1 : Int), .int (r.2.1 : Int)]) = HA at hD8 hO8 sm8 ht2 ⊢
      refine ⟨_, rfl, _, rfl, D, _, r.2.1, _, rfl, rfl, SqL.of hD8, atI_nat (cl_at r2), _, rfl, _, _, rfl, rfl, ?_⟩
      refine ⟨_, rfl, _, rfl, D2, _, r.1, _, rfl, rfl, SqL.of hO8, atI_nat (ol_at r1), _, rfl, _, _, rfl, rfl, (by show 3 ≤ sizeLine; decide), fun t3 nt3 => ?_⟩
      have sb := same_upd (o := .tup [.ref t2, .int ((cs.getD r.2.1 pc0).2 - crS (rs.take i) r.2.1 - r.2.2), .int ((os.getD r.1 pc0).2 - orS (rs.take i) r.1 - r.2.2)]) nt3
      have hD8 := sb _ _ hD8
      have hO8 := sb _ _ hO8
      have sm8 := sm8.trans (sm_of (S := [D, D2]) sb)
      have ht2 := sb _ _ ht2
      refine ⟨t3, _, rfl, .inl (.inl upd_same), rfl, ?_⟩
      generalize upd HA t3 (.tup [.ref t2, .int ((cs.getD r.2.1 pc0).2 - crS (rs.take i) r.2.1 - r.2.2), .int ((os.getD r.1 pc0).2 - orS (rs.take i) r.1 - r.2.2)]) = HB at hD8 hO8 sm8 ht2 ⊢
      have lcl : ((clF cs rs i).map V.int).length = cs.length := by unfold clF; rw [List.length_map, List.length_map, List.length_range]
      have lol : ((olF os rs i).map V.int).length = os.length := by unfold olF; rw [List.length_map, List.length_map, List.length_range]
      refine ⟨_, _, rfl, _, _, rfl, _, rfl, _, rfl, D, _, r.2.1, r.2.1, rfl, rfl, hD8, Evl.ixN_nat (by rw [lcl]; exact r2), ?_⟩
      rw [← List.map_set, cl_set gr]
      have hO8 : upd HB D (.lst ((clF cs rs (i + 1)).map V.int)) D2 = some (.lst ((olF os rs i).map V.int)) := by rw [upd_ne (Ne.symm DD)]; exact hO8
      have nlw := Nl.wr (o := .lst ((clF cs rs (i + 1)).map V.int)) hD8
      have sm8 := sm8.trans (sm_wr (o := .lst ((clF cs rs (i + 1)).map V.int)) (show D ∈ [D, D2] by simp))
      have ht2 := nlw _ _ ht2 (fun _ z => by cases z) (fun _ z => by cases z)
      have hD8 : upd HB D (.lst ((clF cs rs (i + 1)).map V.int)) D = _ := upd_same
      generalize upd HB D (.lst ((clF cs rs (i + 1)).map V.int)) = HC at hD8 hO8 sm8 ht2 ⊢
      refine ⟨_, _, rfl, _, rfl, _, rfl, D2, _, r.1, r.1, rfl, rfl, hO8, Evl.ixN_nat (by rw [lol]; exact r1), ?_⟩
      rw [← List.map_set, ol_set gr]
      have nlw := Nl.wr (o := .lst ((olF os rs (i + 1)).map V.int)) hO8
      have lst1 : lastR rs (i + 1) = ((r.1 : Int), (r.2.1 : Int)) := by
        show (match rs[i]? with | some r => ((r.1 : Int), (r.2.1 : Int)) | none => (-1, -1)) = _
        rw [gr]
      refine ⟨rfl, _, _, _, _, t2, rfl, sm8.trans (sm_wr (by simp)), by rw [upd_ne DD]; exact hD8, upd_same, ?_⟩
      rw [lst1]
      exact .inl (.inl (nlw _ _ ht2 (fun _ z => by cases z) (fun _ z => by cases z)))
    · rintro σ H6 ⟨v3, v7, v8, v9, tl, rfl, sm, hD6, hO6, hT⟩
      rw [lz] at hD6 hO6
      have lcl : ((clF cs rs rs.length).map V.int).length = cs.length := by unfold clF; rw [List.length_map, List.length_map, List.length_range]
      have lol : ((olF os rs rs.length).map V.int).length = os.length := by unfold olF; rw [List.length_map, List.length_map, List.length_range]
      refine ⟨_, rfl, _, rfl, D, D2, _, _, rfl, rfl, hD6, hO6, (by rw [lcl, lol, sizeLine_eq]; omega), fun p1 np1 => ?_⟩
      refine ⟨(by show 1 ≤ sizeLine; decide), fun p2 np2 => ?_⟩
      have s1 := same_upd (o := .lst ((clF cs rs rs.length).map V.int ++ (olF os rs rs.length).map V.int)) np1
      have s2 := same_upd (o := .lst [.int 0]) np2
      have e3 : ((clF cs rs rs.length).map V.int ++ (olF os rs rs.length).map V.int).length = cs.length + os.length := by rw [List.length_append, lcl, lol]
      refine ⟨p1, p2, _, _, rfl, rfl, s2 _ _ upd_same, upd_same, (by rw [e3, sizeLine_eq]; show cs.length + os.length + 1 ≤ _; omega), fun p3 np3 => ?_⟩
      have s3 := same_upd (o := .lst (((clF cs rs rs.length).map V.int ++ (olF os rs rs.length).map V.int) ++ [.int 0])) np3
      refine ⟨p3, (clF cs rs rs.length ++ olF os rs rs.length) ++ [0], rfl, SqL.of (by rw [upd_same, List.map_append, List.map_append]; rfl), (by simp only [List.length_append, List.length_singleton]; omega), fun m hm _ => ?_⟩
      have hm0 : 0 ≤ m := by
        rcases List.mem_append.mp hm with h | h
        · rcases List.mem_append.mp h with h | h
          · obtain ⟨k, _, rfl⟩ := List.mem_map.mp h
            have := rok.crs k
            rw [List.take_length]; omega
          · obtain ⟨k, hk, rfl⟩ := List.mem_map.mp h
            have := rok.ors k (List.mem_range.mp hk)
            rw [List.take_length]; omega
        · rw [List.mem_singleton.mp h]; exact Int.le_refl 0
      refine ⟨_, _, rfl, rfl, ?_⟩
      have e9 : decide ((0 : Int) ≤ m) = true := decide_eq_true hm0
      show Q (V.bl (decide ((0 : Int) ≤ m))) _
      rw [e9]
      have e : Same H H6 := fun x u e => sm_at sm (fun hb => by
        rcases List.mem_cons.mp hb with rfl | hb
        · rw [nD] at e; cases e
        · rw [List.mem_singleton.mp hb, nD2H] at e; cases e) (s0 _ _ e)
      exact q _ (((e.trans s1).trans s2).trans s3)

end
end Pot

namespace Pot
open PySem PySem.Spec PyProof.Rows L2
section
variable {P : Program} {w : World} {K : PySem.W.Frag} {mg : Str → Option Value} {base : Heap}
def tpD (l : List Int) : PyData := .tuple (l.map .int)
theorem tp_dp {H : Hp} {v : V} {l : List Int} (h : Dp K H v (tpD l)) : ∃ a, v = .ref a ∧ SqT K H a (l.map V.int) := by
  obtain ⟨a, xs, rfl, hs, ha⟩ := dp_tup h
  rw [dp_intsV ha] at hs
  exact ⟨a, rfl, hs⟩
theorem tp_of {H : Hp} {a : Addr} {l : List Int} (h : SqT K H a (l.map V.int)) : Dp K H (.ref a) (tpD l) := .tup h (dp_ints l)
theorem tps_nl {H H' : Hp} (s : Nl H H') : ∀ {ls : List (List Int)} {xs : List V}, DpAll K H xs (ls.map tpD) → DpAll K H' xs (ls.map tpD)
  | [], _, h => by
    cases h
    exact .nil
  | p :: ps, _, h => by
    cases h with
    | cons a r =>
      obtain ⟨t, rfl, ht⟩ := tp_dp a
      exact .cons (tp_of (sqT_nl s ht)) (tps_nl s r)
theorem tps_at {H : Hp} {xs : List V} {ls : List (List Int)} (h : DpAll K H xs (ls.map tpD)) {i : Nat} {v : V} (g : xs[i]? = some v) : ∃ a l, v = .ref a ∧ ls[i]? = some l ∧ SqT K H a (l.map V.int) := by
  obtain ⟨d, gd, dp⟩ := dpAll_at h g
  rw [List.getElem?_map] at gd
  obtain ⟨l, gl, rfl⟩ := Option.map_eq_some_iff.mp gd
  obtain ⟨a, rfl, hs⟩ := tp_dp dp
  exact ⟨a, l, rfl, gl, hs⟩
/-- all ways to take at most m, at most so many of each -/
def splF : List Int → Int → List (List Int)
  | [], _ => [[]]
  | t :: ts, m => (List.range (min m t + 1).toNat).flatMap fun j : Nat => (splF ts (m - (j : Int))).map fun r => (j : Int) :: r
theorem flat_len {α β : Type} {f : α → List β} {b : Nat} : ∀ {l : List α}, (∀ x ∈ l, (f x).length ≤ b) → (l.flatMap f).length ≤ l.length * b
  | [], _ => Nat.zero_le _
  | x :: l, h => by
    have h1 := h x List.mem_cons_self
    have h2 := flat_len (l := l) fun y hy => h y (List.mem_cons_of_mem _ hy)
    rw [List.flatMap_cons, List.length_append, List.length_cons, Nat.succ_mul]
    omega
theorem splF_len : ∀ {ts : List Int} {m : Int}, (∀ t ∈ ts, 0 ≤ t ∧ t ≤ 3) → (splF ts m).length ≤ 4 ^ ts.length
  | [], _, _ => Nat.le_refl _
  | t :: ts, m, h => by
    have h1 := h t List.mem_cons_self
    have h2 := flat_len (l := List.range (min m t + 1).toNat) (f := fun j : Nat => (splF ts (m - (j : Int))).map fun r => (j : Int) :: r) (b := 4 ^ ts.length) fun j _ => by
      rw [List.length_map]; exact splF_len fun x hx => h x (List.mem_cons_of_mem _ hx)
    refine Nat.le_trans h2 ?_
    rw [List.length_range, List.length_cons, Nat.pow_succ, Nat.mul_comm]
    exact Nat.mul_le_mul_left _ (by omega)
theorem splF_wid : ∀ {ts : List Int} {m : Int} {l : List Int}, l ∈ splF ts m → l.length = ts.length
  | [], _, l, h => by
    have h : l ∈ [[]] := h
    rw [List.mem_singleton.mp h]
  | t :: ts, m, l, h => by
    obtain ⟨j, _, h⟩ := List.mem_flatMap.mp (show l ∈ (List.range (min m t + 1).toNat).flatMap fun j : Nat => (splF ts (m - (j : Int))).map fun r => (j : Int) :: r from h)
    obtain ⟨r, hr, rfl⟩ := List.mem_map.mp h
    rw [List.length_cons, List.length_cons, splF_wid hr]
abbrev s__law_splits : Stmt := topS 12
def n__law_splits : List Str := ["_law_many", "_law_tops", "_law_found", "_law_some", "_law_rest"]
theorem sc__law_splits : FnScope n__law_splits ["_law_many", "_law_tops"] (defScope s__law_splits) := ⟨rfl, rfl, rfl, by decide +kernel, rfl, by decide +kernel, by decide +kernel⟩
def spSpl (K : PySem.W.Frag) (n : Nat) : Sp := fun vs H Q _ => ∃ (m : Int) (a : Addr) (ts : List Int), vs = [.int m, .ref a] ∧ SqL K H a (ts.map V.int) ∧ ts.length < n ∧ ts.length ≤ 3 ∧ 0 ≤ m ∧ m ≤ 3 ∧ (∀ t ∈ ts, 0 ≤ t ∧ t ≤ 3) ∧
  ∀ (H' : Hp) (R : Addr) (zs : List V), Same H H' → H R = none → H' R = some (.lst zs) → DpAll K H' zs ((splF ts m).map tpD) → Q (.ref R) H'
set_option maxHeartbeats 1000000 in
theorem ok_splits {f : Addr} {fd : FuncData} {k0 : Nat} (F : Fun K "_law_splits" "_law_splits" s__law_splits f fd) (T : Txt mg) (bF : Binds K fd ["_law_many", "_law_tops"] []) (gF : mg "_law_splits" = some (.ref f)) :
    ∀ k : Nat, FnOk P w K mg base CX0 (k0 + k + 1) f fd ["_law_many", "_law_tops"] (spSpl K k) := by
  intro k
  induction k with
  | zero =>
    refine F.ok sc__law_splits (fun vs H Q E h => ?_) (fun cdv A outer s H vs Q E hr h => ?_)
    · obtain ⟨m, a, ts, rfl, _⟩ := h
      rfl
    · obtain ⟨m, a, ts, rfl, _, hk, _⟩ := h
      exact absurd hk (Nat.not_lt_zero _)
  | succ k G =>
    refine F.ok sc__law_splits (fun vs H Q E h => ?_) (fun cdv A outer s H vs Q E hr h => ?_)
    · obtain ⟨m, a, ts, rfl, _⟩ := h
      rfl
    · obtain ⟨m, a, ts, rfl, hS, hk, h3, m0, m3, ht, q⟩ := h
      have nd := sc__law_splits.nd
      have hu64 := hr.units
      /- 0 _law_many, 1 _law_tops, 2 _law_found, 3 _law_some, 4 _law_rest -/
      refine ⟨_, (pss_cons (ps_if (pt_cmpR (ko_eq (K := K) hu64) (pv 1) (pe_lst pa_nil) (nomark _))
          (pss_one (ps_ret (pe_lst (pa_cons (pe_tup pa_nil) pa_nil))))
          pss_nil)
      (pss_cons (ps_set (i := 2) nd rfl (.inl rfl) (pe_lst pa_nil))
      (pss_cons (ps_for PassesOwn.never rfl (pi_range1 (by rfl) T.range (pa_cons (pe_op op_add (pe_callB (call_min2 rfl) (by rfl) T.min (by decide +kernel) (pa_cons (pv 0) (pa_cons (pe_ix (kx_list (K := K)) (pv 1) pe_int (fun _ _ => rfl)) pa_nil))) pe_int) pa_nil)) (pg_name (i := 3) nd rfl (.inr rfl))
          (pss_one (ps_expr (pe_bm PySem.F.plainAttrs_list PySem.F.slot_list_extend PySem.F.type_list_extend mt_extend (pv 2) (pa_cons (pe_lc (own := [("_law_rest", 4)]) rfl nd (ki_list (K := K) (pe_call G hr (by rfl) gF F.kp bF .nil pass0 (pa_cons (pe_op op_sub (pv 0) (pv 3)) (pa_cons (pe_slice (kl_list (K := K)) (pv 1) (po_some pe_int) po_none) pa_nil)))) (blkOk_by (N := n__law_splits) (sc := defScope s__law_splits) (by decide +kernel)) (fun _ _ _ _ _ => (pg_name (i := 4) nd rfl (.inl rfl))) (fun _ _ _ _ _ => pts_nil) (fun _ _ _ _ _ => (pe_op (ko_catA (K := K)) (pe_tup (pa_cons (pv 3) pa_nil)) (pv 4)))) pa_nil)))))
      (pss_one (ps_ret (pv 2)))))), ?_⟩
      refine ⟨_, rfl, Nat.zero_le _, fun l0 nl0 => ?_⟩
      have s0 := same_upd (o := .lst []) nl0
      have f0 : upd H l0 (.lst []) l0 = some (.lst []) := upd_same
      generalize upd H l0 (.lst []) = H1 at s0 f0 ⊢
      have hS0 := hS
      have hS := s0.seq hS
      refine ⟨.list (ts.map .int), .list (([] : List Int).map .int), .lst hS (dp_ints ts), .lst (SqL.of f0) .nil, PySem.W.ke_shaped_ints ts, PySem.W.ke_shaped_ints [], _, rfl, ?_⟩
      rw [eqv_ints]
      cases ts with
      | nil =>
        refine iteT ⟨Nat.zero_le _, fun p np => ⟨(by show 1 ≤ sizeLine; decide), fun r nr => ?_⟩⟩
        have s1 := same_upd (o := .tup []) np
        have s2 := same_upd (o := .lst [.ref p]) nr
        exact q _ r _ (s0.trans (s1.trans s2)) (same_free (s0.trans s1) nr) upd_same (.cons (.tup (.inl (.inl (s2 _ _ upd_same))) .nil) .nil)
      | cons t ts =>
        refine iteF ?_
        have t1 := ht t List.mem_cons_self
        refine ⟨Nat.zero_le _, fun L nL => ?_⟩
        have nL0 := same_free s0 nL
        have s1 := s0.trans (same_upd (o := .lst []) nL)
        have hS := (same_upd (o := .lst []) nL).seq hS
        have fL : upd H1 L (.lst []) L = some (.lst []) := upd_same
        generalize upd H1 L (.lst []) = H2 at s1 fL hS ⊢
        have ecnt : (if t < m then t else m) + 1 = min m t + 1 := by split <;> omega
        refine ⟨_, rfl, _, rfl, a, _, 0, _, rfl, rfl, hS, (show atI ((t :: ts).map V.int) ((0 : Nat) : Int) = some (.int t) from atI_nat rfl), _, _, rfl, _, _, rfl, rfl, _, rfl, (by rw [ecnt]; omega), (by rw [ecnt]; omega), ?_⟩
        rw [ecnt]
        have hl1 : (splF (t :: ts) m).length ≤ 64 := Nat.le_trans (splF_len ht) (Nat.le_trans (Nat.pow_le_pow_right (by decide) h3) (by decide))
        obtain ⟨pf, epf⟩ : ∃ pf : Nat → List (List Int), pf = fun n => (List.range n).flatMap fun j : Nat => (splF ts (m - (j : Int))).map fun r => (j : Int) :: r := ⟨_, rfl⟩
        have efin : splF (t :: ts) m = pf (min m t + 1).toNat := by rw [epf]; rfl
        have esuc : ∀ n : Nat, pf (n + 1) = pf n ++ (splF ts (m - (n : Int))).map fun r => (n : Int) :: r := fun n => by
          rw [epf]; dsimp only; rw [List.range_succ, List.flatMap_append, List.flatMap_cons, List.flatMap_nil, List.append_nil]
        have hlp : ∀ n : Nat, n ≤ 4 → (pf n).length ≤ 256 := fun n hn => by
          rw [epf]
          refine Nat.le_trans (flat_len (b := 64) fun j _ => ?_) ?_
          · rw [List.length_map]
            exact Nat.le_trans (splF_len fun x hx => ht x (List.mem_cons_of_mem _ hx)) (Nat.le_trans (Nat.pow_le_pow_right (by decide) (by simp only [List.length_cons] at h3; omega : ts.length ≤ 3)) (by decide))
          · rw [List.length_range]; exact Nat.mul_le_mul_right 64 hn
        refine for_it walk_range (fun j σ Hx => ∃ v3 v4 zs, σ = [some (.int m), some (.ref a), some (.ref L), v3, v4] ∧ Same H Hx ∧ Hx L = some (.lst zs) ∧ DpAll K Hx zs ((pf j).map tpD)) ⟨none, none, [], rfl, s1, fL, by rw [epf]; exact .nil⟩ (fun _ _ _ _ _ => trivial) ?_ ?_
        · rintro j x σ Hx Hy hj ⟨v3, v4, zs, rfl, sx, gL, dz⟩ ⟨rfl, rfl⟩
          have hj4 : (j : Int) ≤ m ∧ (j : Int) ≤ t := by omega
          simp only [gName, List.set]
          refine ⟨_, rfl, .inl ⟨rfl, _, SqL.of gL⟩, _, rfl, _, rfl, _, _, rfl, rfl, _, rfl, _, rfl, a, _, rfl, sx.seq hS0, fun p np => ?_⟩
          have ec : cutV ((t :: ts).map V.int) (some (1 : Int)) none = ts.map V.int := cut_tail (k := 1)
          rw [ec]
          have s3 := same_upd (o := .lst (ts.map V.int)) np
          have fp : upd Hy p (.lst (ts.map V.int)) p = some (.lst (ts.map V.int)) := upd_same
          have gL := s3 _ _ gL
          have dz := dpAll_same s3 dz
          have sx := sx.trans s3
          generalize upd Hy p (.lst (ts.map V.int)) = H3 at s3 fp gL dz sx ⊢
          simp only [List.length_cons] at hk h3
          refine ⟨_, p, ts, rfl, SqL.of fp, by omega, by omega, by omega, by omega, fun x hx => ht x (List.mem_cons_of_mem _ hx), fun H4 R rs s4 nR hR dr => ⟨R, rfl, ⟨_, SqL.of hR⟩, fun D nD => ?_⟩⟩
          have gL := s4 _ _ gL
          have dz := dpAll_same s4 dz
          have sx := sx.trans s4
          rw [Int.zero_add] at dr
          have es := esuc j
          have l4 := hlp j (by omega)
          have l5 := hlp (j + 1) (by omega)
          rw [es] at l5 ⊢
          have hlen : ∀ l ∈ splF ts (m - (j : Int)), l.length ≤ 3 := fun l hl => by have := splF_wid hl; omega
          generalize splF ts (m - (j : Int)) = sp at dr l5 hlen ⊢
          generalize pf j = pj at dz l4 l5 ⊢
          have lrs : rs.length = sp.length := dpAll_map_len dr
          have lzs : zs.length = pj.length := dpAll_map_len dz
          rw [List.length_append, List.length_map] at l5
          have LD := ne_of_none gL nD
          refine lc_it (walk_list (xs := rs)) (fun i Hx => Same H4 Hx ∧ ∃ us, Hx D = some (.lst us) ∧ DpAll K Hx us (((sp.take i).map fun r => (j : Int) :: r).map tpD)) ⟨same_upd nD, [], upd_same, .nil⟩ (fun i Hx _ h => (SqL.of (h.1 _ _ hR))) ?_ ?_
          · rintro i y H5 H6 hi ⟨s5, us, hD, du⟩ ⟨rfl, gy⟩
            obtain ⟨q2, l, rfl, gl, hq⟩ := tps_at (dpAll_same s5 dr) gy
            refine ⟨rfl, tYes_at ?_⟩
            rw [if_pos rfl]
            refine ⟨_, rfl, (by show 1 ≤ sizeLine; decide), fun w1 nw => ?_⟩
            have s6 := same_upd (o := .tup [.int (0 + (j : Int))]) nw
            have fw : upd H6 w1 (.tup [.int (0 + (j : Int))]) w1 = some (.tup [.int (0 + (j : Int))]) := upd_same
            have hq := same_tup s6 hq
            have hD := s6 _ _ hD
            have du := dpAll_same s6 du
            have s5 := s5.trans s6
            generalize upd H6 w1 (.tup [.int (0 + (j : Int))]) = H7 at fw hq hD du s5 ⊢
            refine ⟨_, rfl, ?_⟩
            have ll : l.length ≤ 256 := by
              have := hlen l (List.mem_of_getElem? gl); omega
            have e1 : (((sp.take (i + 1)).map fun r => (j : Int) :: r)).map tpD = (((sp.take i).map fun r => (j : Int) :: r)).map tpD ++ [tpD ((j : Int) :: l)] := by
              rw [List.take_add_one, gl, List.map_append, List.map_append]; rfl
            have lus : us.length ≤ 256 := by
              rw [dpAll_map_len du, List.length_map, List.length_take]; omega
            refine ⟨w1, q2, _, _, rfl, rfl, .inl (.inl fw), hq, (by rw [sizeLine_eq, List.length_map]; show 1 + _ ≤ _; omega), ?_⟩
            have fin : ∀ (Hq : Hp) (p : Addr), Same H7 Hq → SqT K Hq p (((j : Int) :: l).map V.int) → ∃ acc, Hq D = some (.lst acc) ∧ acc.length < sizeLine ∧ Same H4 (upd Hq D (.lst (acc ++ [V.ref p]))) ∧ ∃ us, upd Hq D (.lst (acc ++ [V.ref p])) D = some (.lst us) ∧ DpAll K (upd Hq D (.lst (acc ++ [V.ref p]))) us ((((sp.take (i + 1)).map fun r => (j : Int) :: r)).map tpD) := fun Hq p s fp => by
              have hD := s _ _ hD
              refine ⟨us, hD, by rw [sizeLine_eq]; omega, same_put (s5.trans s) nD, us ++ [.ref p], upd_same, ?_⟩
              rw [e1]
              exact dpAll_app' (tps_nl (Nl.wr hD) (dpAll_same s du)) (.cons (tp_of (sqT_nl (Nl.wr hD) fp)) .nil)
            have ez : (0 : Int) + (j : Int) = j := Int.zero_add _
            refine ⟨fun z => (List.cons_ne_nil _ _ z).elim, fun _ z => ?_, fun _ _ p np => ?_⟩
            · have el : l = [] := by cases l with
                | nil => rfl
                | cons _ _ => cases z
              refine fin _ w1 (Same.refl _) ?_
              rw [el]; rw [ez] at fw
              exact .inl (.inl fw)
            · refine fin _ p (same_upd np) ?_
              rw [ez]
              exact .inl (.inl upd_same)
          · rintro H5 ⟨s5, us, hD, du⟩
            rw [List.take_of_length_le (by omega)] at du
            have lus : us.length = sp.length := by rw [dpAll_map_len du, List.length_map]
            have gL5 := s5 _ _ gL
            refine ⟨L, D, zs, us, rfl, rfl, gL5, hD, (by rw [sizeLine_eq]; omega), ?_⟩
            have n5 := Nl.wr (o := .lst (zs ++ us)) gL5
            refine ⟨_, _, zs ++ us, rfl, same_put (sx.trans s5) nL0, upd_same, ?_⟩
            rw [List.map_append]
            exact dpAll_app' (tps_nl n5 (dpAll_same s5 dz)) (tps_nl n5 du)
        · rintro σ Hx ⟨v3, v4, zs, rfl, sx, gL, dz⟩
          rw [← efin] at dz
          exact ⟨_, rfl, q _ L zs sx nL0 gL dz⟩

end
end Pot




namespace Pot
open PySem PySem.Spec PyProof.Rows L2
section
variable {P : Program} {w : World} {K : PySem.W.Frag} {mg : Str → Option Value} {base : Heap}
/-! ### what all ways come to -/
theorem sg_add (f g : Nat → Int) : ∀ n, sg (fun k => f k + g k) n = sg f n + sg g n
  | 0 => rfl
  | n + 1 => by
    show sg _ n + (f n + g n) = sg f n + f n + (sg g n + g n)
    rw [sg_add f g n]; omega
theorem sg_cons (f : Nat → Int) : ∀ n, sg f (n + 1) = f 0 + sg (fun k => f (k + 1)) n
  | 0 => by show 0 + f 0 = f 0 + 0; omega
  | n + 1 => by
    show sg f (n + 1) + f (n + 1) = f 0 + (sg (fun k => f (k + 1)) n + f (n + 1))
    rw [sg_cons f n]; omega
theorem sum_sg : ∀ s : List Int, s.sum = sg (fun k => s.getD k 0) s.length
  | [] => rfl
  | x :: s => by
    rw [List.sum_cons, List.length_cons, sg_cons, sum_sg s]; rfl
def Fits (s t : List Int) : Prop := s.length = t.length ∧ ∀ k, k < t.length → 0 ≤ s.getD k 0 ∧ s.getD k 0 ≤ t.getD k 0
theorem fits_cons {x y : Int} {s t : List Int} : Fits (x :: s) (y :: t) ↔ (0 ≤ x ∧ x ≤ y) ∧ Fits s t := by
  constructor
  · rintro ⟨h1, h2⟩
    exact ⟨h2 0 (by simp), by simpa using h1, fun k hk => h2 (k + 1) (by rw [List.length_cons]; omega)⟩
  · rintro ⟨h1, h2, h3⟩
    refine ⟨by rw [List.length_cons, List.length_cons, h2], fun k hk => ?_⟩
    cases k with
    | zero => exact h1
    | succ k => exact h3 k (by rw [List.length_cons] at hk; omega)
theorem mem_splF : ∀ {t : List Int} {m : Int} {s : List Int}, 0 ≤ m → (∀ x ∈ t, 0 ≤ x) → (s ∈ splF t m ↔ Fits s t ∧ s.sum ≤ m)
  | [], m, s, m0, _ => by
    show s ∈ [[]] ↔ _
    rw [List.mem_singleton]
    constructor
    · rintro rfl
      exact ⟨⟨rfl, fun k hk => absurd hk (Nat.not_lt_zero _)⟩, m0⟩
    · rintro ⟨⟨h, _⟩, _⟩
      exact List.length_eq_zero_iff.mp h
  | y :: t, m, s, m0, h0 => by
    show s ∈ (List.range (min m y + 1).toNat).flatMap (fun j : Nat => (splF t (m - (j : Int))).map fun r => (j : Int) :: r) ↔ _
    have y0 := h0 y List.mem_cons_self
    have t0 := fun x hx => h0 x (List.mem_cons_of_mem y hx)
    rw [List.mem_flatMap]
    constructor
    · rintro ⟨j, hj, h⟩
      have hj := List.mem_range.mp hj
      obtain ⟨r, hr, rfl⟩ := List.mem_map.mp h
      obtain ⟨h1, h2⟩ := (mem_splF (by omega) t0).mp hr
      exact ⟨fits_cons.mpr ⟨by omega, h1⟩, by rw [List.sum_cons]; omega⟩
    · rintro ⟨h1, h2⟩
      cases s with
      | nil => exact absurd h1.1 (by simp)
      | cons x s =>
        obtain ⟨hx, h3⟩ := fits_cons.mp h1
        rw [List.sum_cons] at h2
        have hs : 0 ≤ s.sum := by
          rw [sum_sg]
          exact sg_nonneg fun k hk => (h3.2 k (by rw [← h3.1]; exact hk)).1
        refine ⟨x.toNat, List.mem_range.mpr (by omega), List.mem_map.mpr ⟨s, (mem_splF (by omega) t0).mpr ⟨h3, by omega⟩, ?_⟩⟩
        rw [Int.toNat_of_nonneg hx.1]
def topsF (cs : List Pc) (rk : Int) (l : List Int) : List Int := (List.range cs.length).map fun k => (if rk ≤ (cs.getD k pc0).1 then 1 else 0) * l.getD k 0
def lessF (l s : List Int) : List Int := (List.range l.length).map fun k => l.getD k 0 - s.getD k 0
theorem rm_getD {f : Nat → Int} {n k : Nat} (h : k < n) : ((List.range n).map f).getD k 0 = f k := by
  rw [List.getD_eq_getElem?_getD, List.getElem?_map, List.getElem?_range h]; rfl
def usdF (cs : List Pc) (l : List Int) (r : Int) : Int := sg (fun k => if r ≤ (cs.getD k pc0).1 then (cs.getD k pc0).2 - l.getD k 0 else 0) cs.length
def blwF (os : List Pc) (i : Nat) (r : Int) : Int := sg (fun j => if (os.getD j pc0).1 < r then (os.getD j pc0).2 else 0) i
structure Snd (cs os : List Pc) (i : Nat) (l : List Int) (x : Int) : Prop where
  len : l.length = cs.length
  box : ∀ k, k < cs.length → 0 ≤ l.getD k 0 ∧ l.getD k 0 ≤ (cs.getD k pc0).2
  low : 0 ≤ x
  up : ∀ r, x ≤ blwF os i r + usdF cs l r
theorem tops_fit {cs : List Pc} {rk : Int} {l s : List Int} (h : Fits s (topsF cs rk l)) : s.length = cs.length ∧ ∀ k, k < cs.length → 0 ≤ s.getD k 0 ∧ s.getD k 0 ≤ (if rk ≤ (cs.getD k pc0).1 then 1 else 0) * l.getD k 0 := by
  have e : (topsF cs rk l).length = cs.length := by unfold topsF; rw [List.length_map, List.length_range]
  refine ⟨h.1.trans e, fun k hk => ?_⟩
  have h2 := h.2 k (by rw [e]; exact hk)
  unfold topsF at h2
  rw [rm_getD hk] at h2
  exact h2
theorem snd_step {cs os : List Pc} {i : Nat} {l s : List Int} {x : Int} (h : Snd cs os i l x) (ho : ∀ p ∈ os, PcOk p) (hi : i < os.length) (hs : Fits s (topsF cs (os.getD i pc0).1 l)) (hm : s.sum ≤ (os.getD i pc0).2) : Snd cs os (i + 1) (lessF l s) (x + s.sum) := by
  obtain ⟨ls, hs⟩ := tops_fit hs
  have h2 : ∀ k, k < cs.length → 0 ≤ s.getD k 0 ∧ s.getD k 0 ≤ l.getD k 0 ∧ (¬ (os.getD i pc0).1 ≤ (cs.getD k pc0).1 → s.getD k 0 = 0) := fun k hk => by
    have h1 := hs k hk
    have := h.box k hk
    by_cases z : (os.getD i pc0).1 ≤ (cs.getD k pc0).1
    · rw [if_pos z] at h1
      exact ⟨h1.1, by omega, fun y => absurd z y⟩
    · rw [if_neg z] at h1
      exact ⟨h1.1, by omega, fun _ => by omega⟩
  have lg : ∀ k, k < cs.length → (lessF l s).getD k 0 = l.getD k 0 - s.getD k 0 := fun k hk => by
    unfold lessF
    exact rm_getD (by rw [h.len]; exact hk)
  have s0 : 0 ≤ s.sum := by
    rw [sum_sg, ls]
    exact sg_nonneg fun k hk => (h2 k hk).1
  refine ⟨by unfold lessF; rw [List.length_map, List.length_range, h.len], fun k hk => ?_, by have := h.low; omega, fun r => ?_⟩
  · rw [lg k hk]
    have := h2 k hk
    have := h.box k hk
    omega
  · have up := h.up r
    have m0 := (pcs_getD ho hi).2.2.1
    have eb : blwF os (i + 1) r = blwF os i r + if (os.getD i pc0).1 < r then (os.getD i pc0).2 else 0 := rfl
    have eu : usdF cs (lessF l s) r = usdF cs l r + sg (fun k => if r ≤ (cs.getD k pc0).1 then s.getD k 0 else 0) cs.length := by
      unfold usdF
      rw [← sg_add]
      refine sg_congr fun k hk => ?_
      rw [lg k hk]
      split <;> omega
    rw [eb, eu]
    by_cases z : (os.getD i pc0).1 < r
    · rw [if_pos z]
      have : 0 ≤ sg (fun k => if r ≤ (cs.getD k pc0).1 then s.getD k 0 else 0) cs.length := sg_nonneg fun k hk => by
        have := h2 k hk
        split <;> omega
      omega
    · rw [if_neg z]
      have : sg (fun k => if r ≤ (cs.getD k pc0).1 then s.getD k 0 else 0) cs.length = s.sum := by
        rw [sum_sg, ls]
        refine sg_congr fun k hk => ?_
        by_cases y : r ≤ (cs.getD k pc0).1
        · rw [if_pos y]
        · rw [if_neg y]
          exact ((h2 k hk).2.2 (by omega)).symm
      omega
theorem snd_end {cs os : List Pc} {l : List Int} {x : Int} (h : Snd cs os os.length l x) (r : Int) : x ≤ (os.map (·.2)).sum - abvF os r + abvF cs r := by
  have u1 : usdF cs l r ≤ abvF cs r := by
    rw [abv_sg]
    refine sg_le fun k hk => ?_
    unfold gF
    have := h.box k hk
    split <;> omega
  have u2 : blwF os os.length r = (os.map (·.2)).sum - abvF os r := by
    have : blwF os os.length r + abvF os r = (os.map (·.2)).sum := by
      rw [abv_sg, all_sum]
      unfold blwF
      rw [← sg_add]
      refine sg_congr fun k hk => ?_
      unfold gF
      by_cases z : (os.getD k pc0).1 < r
      · rw [if_pos z, if_neg (by omega)]; omega
      · rw [if_neg z, if_pos (by omega)]; omega
    omega
  have := h.up r
  omega
theorem snd_start {cs os : List Pc} (hc : ∀ p ∈ cs, PcOk p) : Snd cs os 0 (cs.map (·.2)) 0 := by
  have g : ∀ k, k < cs.length → (cs.map (·.2)).getD k 0 = (cs.getD k pc0).2 := fun k hk => by
    rw [List.getD_eq_getElem?_getD, List.getElem?_map, List.getElem?_eq_getElem hk, List.getD_eq_getElem?_getD, List.getElem?_eq_getElem hk]; rfl
  refine ⟨List.length_map _, fun k hk => ?_, Int.le_refl 0, fun r => ?_⟩
  · rw [g k hk]
    exact ⟨(pcs_getD hc hk).2.2.1, Int.le_refl _⟩
  · have : usdF cs (cs.map (·.2)) r = 0 := sg_zero fun k hk => by
      rw [g k hk]; split <;> omega
    rw [this]
    show 0 ≤ (0 : Int) + 0
    omega
/-! the way that the told rows go -/
def rcF (rs : List Rw) (i k : Nat) : Int := ((rs.filter fun r => decide (r.1 = i ∧ r.2.1 = k)).map fun r => r.2.2).sum
def goneF (rs : List Rw) : Nat → Nat → Int
  | 0, _ => 0
  | i + 1, k => goneF rs i k + rcF rs i k
def leftF (cs : List Pc) (rs : List Rw) (i : Nat) : List Int := (List.range cs.length).map fun k => (cs.getD k pc0).2 - goneF rs i k
def takeF (cs : List Pc) (rs : List Rw) (i : Nat) : List Int := (List.range cs.length).map fun k => rcF rs i k
def doneF (cs : List Pc) (rs : List Rw) : Nat → Int
  | 0 => 0
  | i + 1 => doneF cs rs i + (takeF cs rs i).sum
theorem left_start (cs : List Pc) (rs : List Rw) : leftF cs rs 0 = cs.map (·.2) := by
  refine List.ext_getElem? fun k => ?_
  unfold leftF
  rw [List.getElem?_map, List.getElem?_map]
  by_cases hk : k < cs.length
  · rw [List.getElem?_range hk, List.getElem?_eq_getElem hk]
    show some ((cs.getD k pc0).2 - 0) = _
    rw [List.getD_eq_getElem?_getD, List.getElem?_eq_getElem hk, Int.sub_zero]; rfl
  · rw [List.getElem?_eq_none (by rw [List.length_range]; omega), List.getElem?_eq_none (by omega)]; rfl
theorem left_step (cs : List Pc) (rs : List Rw) (i : Nat) : lessF (leftF cs rs i) (takeF cs rs i) = leftF cs rs (i + 1) := by
  unfold lessF
  have e : (leftF cs rs i).length = cs.length := by unfold leftF; rw [List.length_map, List.length_range]
  rw [e]
  show _ = (List.range cs.length).map _
  refine List.map_congr_left fun k hk => ?_
  have hk := List.mem_range.mp hk
  unfold leftF takeF
  rw [rm_getD hk, rm_getD hk]
  show _ - _ - _ = _ - (_ + _)
  omega
theorem rc_cons (r : Rw) (rs : List Rw) (i k : Nat) : rcF (r :: rs) i k = (if r.1 = i ∧ r.2.1 = k then r.2.2 else 0) + rcF rs i k := by
  unfold rcF
  by_cases h : r.1 = i ∧ r.2.1 = k
  · rw [if_pos h, List.filter_cons_of_pos (p := fun r : Rw => decide (r.1 = i ∧ r.2.1 = k)) (decide_eq_true h), List.map_cons, List.sum_cons]
  · rw [if_neg h, List.filter_cons_of_neg (p := fun r : Rw => decide (r.1 = i ∧ r.2.1 = k)) (by simpa using h)]; omega
theorem gone_cons (r : Rw) (rs : List Rw) (k : Nat) : ∀ i, goneF (r :: rs) i k = (if r.1 < i ∧ r.2.1 = k then r.2.2 else 0) + goneF rs i k
  | 0 => by rw [if_neg (fun z => Nat.not_lt_zero _ z.1)]; rfl
  | i + 1 => by
    show goneF (r :: rs) i k + rcF (r :: rs) i k = _ + (goneF rs i k + rcF rs i k)
    rw [gone_cons r rs k i, rc_cons]
    by_cases h2 : r.2.1 = k
    · by_cases h : r.1 < i
      · rw [if_pos ⟨h, h2⟩, if_neg (fun z => by omega), if_pos ⟨by omega, h2⟩]; omega
      · by_cases h3 : r.1 = i
        · rw [if_neg (fun z => h z.1), if_pos ⟨h3, h2⟩, if_pos ⟨by omega, h2⟩]; omega
        · rw [if_neg (fun z => h z.1), if_neg (fun z => h3 z.1), if_neg (fun z => by omega)]; omega
    · rw [if_neg (fun z => h2 z.2), if_neg (fun z => h2 z.2), if_neg (fun z => h2 z.2)]; omega
theorem or_cons (r : Rw) (rs : List Rw) (i : Nat) : orS (r :: rs) i = (if r.1 = i then r.2.2 else 0) + orS rs i := by rw [← orS_one]; exact fs_app [r] rs
theorem cr_cons (r : Rw) (rs : List Rw) (k : Nat) : crS (r :: rs) k = (if r.2.1 = k then r.2.2 else 0) + crS rs k := by rw [← crS_one]; exact fs_app [r] rs
theorem gone_nil : ∀ i k, goneF [] i k = 0
  | 0, _ => rfl
  | i + 1, k => by show goneF [] i k + 0 = 0; rw [gone_nil i k]; rfl
theorem rc_nn {i k : Nat} : ∀ {rs : List Rw}, (∀ r ∈ rs, 0 ≤ r.2.2) → 0 ≤ rcF rs i k
  | [], _ => Int.le_refl 0
  | r :: rs, h => by
    have h1 := rc_nn (i := i) (k := k) fun x hx => h x (List.mem_cons_of_mem r hx)
    have h2 := h r List.mem_cons_self
    rw [rc_cons]; split <;> omega
theorem rc_zero {i k : Nat} : ∀ {rs : List Rw}, (∀ r ∈ rs, ¬ (r.1 = i ∧ r.2.1 = k)) → rcF rs i k = 0
  | [], _ => rfl
  | r :: rs, h => by
    rw [rc_cons, if_neg (h r List.mem_cons_self), rc_zero fun x hx => h x (List.mem_cons_of_mem r hx)]; rfl
theorem gone_cr {i k : Nat} : ∀ {rs : List Rw}, (∀ r ∈ rs, 0 ≤ r.2.2) → goneF rs i k ≤ crS rs k
  | [], _ => by rw [gone_nil]; exact Int.le_refl 0
  | r :: rs, h => by
    have h1 := gone_cr (i := i) (k := k) fun x hx => h x (List.mem_cons_of_mem r hx)
    have h2 := h r List.mem_cons_self
    rw [gone_cons, cr_cons]
    by_cases z : r.2.1 = k
    · rw [if_pos z]; split <;> omega
    · rw [if_neg z, if_neg (fun y => z y.2)]; omega
theorem one_sg (c : Prop) [Decidable c] (j : Nat) (x : Int) : ∀ {n : Nat}, j < n → sg (fun k => if c ∧ j = k then x else 0) n = if c then x else 0
  | 0, h => absurd h (Nat.not_lt_zero _)
  | n + 1, h => by
    show sg _ n + (if c ∧ j = n then x else 0) = _
    by_cases e : j = n
    · have : sg (fun k => if c ∧ j = k then x else 0) n = 0 := sg_zero fun k hk => if_neg (fun z => by omega)
      rw [this]
      by_cases hc : c
      · rw [if_pos ⟨hc, e⟩, if_pos hc]; omega
      · rw [if_neg (fun z => hc z.1), if_neg hc]; omega
    · rw [one_sg c j x (by omega), show (if c ∧ j = n then x else 0) = 0 from if_neg (fun z => e z.2)]; omega
theorem rc_sum {i n : Nat} : ∀ {rs : List Rw}, (∀ r ∈ rs, r.2.1 < n) → sg (rcF rs i) n = orS rs i
  | [], _ => sg_zero fun _ _ => rfl
  | r :: rs, h => by
    rw [or_cons, ← rc_sum fun x hx => h x (List.mem_cons_of_mem r hx), ← one_sg (r.1 = i) r.2.1 r.2.2 (h r List.mem_cons_self), ← sg_add]
    exact sg_congr fun k _ => rc_cons r rs i k
theorem or_sum {n : Nat} : ∀ {rs : List Rw}, (∀ r ∈ rs, r.1 < n) → sg (orS rs) n = sumR rs
  | [], _ => sg_zero fun _ _ => rfl
  | r :: rs, h => by
    have e : sumR (r :: rs) = r.2.2 + sumR rs := rfl
    rw [e, ← or_sum fun x hx => h x (List.mem_cons_of_mem r hx)]
    have e2 := one_sg True r.1 r.2.2 (h r List.mem_cons_self)
    rw [if_pos trivial] at e2
    rw [← e2, ← sg_add]
    refine sg_congr fun k _ => ?_
    rw [or_cons]
    by_cases z : r.1 = k
    · rw [if_pos z, if_pos ⟨trivial, z⟩]
    · rw [if_neg z, if_neg (fun y => z y.2)]
theorem take_sum {cs os : List Pc} {rs : List Rw} (h : RowsOk cs os rs) (i : Nat) : (takeF cs rs i).sum = orS rs i := by
  rw [← rc_sum (n := cs.length) fun r hr => (h.rows r hr).2.1, sum_sg]
  have e : (takeF cs rs i).length = cs.length := by unfold takeF; rw [List.length_map, List.length_range]
  rw [e]
  exact sg_congr fun k hk => by unfold takeF; exact rm_getD hk
theorem take_fits {cs os : List Pc} {rs : List Rw} (h : RowsOk cs os rs) (hc : ∀ p ∈ cs, PcOk p) {i : Nat} (hi : i < os.length) : Fits (takeF cs rs i) (topsF cs (os.getD i pc0).1 (leftF cs rs i)) ∧ (takeF cs rs i).sum ≤ (os.getD i pc0).2 := by
  have nn : ∀ r ∈ rs, 0 ≤ r.2.2 := fun r hr => by have := (h.rows r hr).2.2.2; omega
  refine ⟨⟨by unfold takeF topsF; rw [List.length_map, List.length_map], fun k hk => ?_⟩, by rw [take_sum h]; exact h.ors i hi⟩
  have hk : k < cs.length := by unfold topsF at hk; rwa [List.length_map, List.length_range] at hk
  unfold takeF topsF leftF
  rw [rm_getD hk, rm_getD hk, rm_getD hk]
  have r0 := rc_nn (i := i) (k := k) nn
  refine ⟨r0, ?_⟩
  by_cases z : (os.getD i pc0).1 ≤ (cs.getD k pc0).1
  · rw [if_pos z]
    have g : goneF rs (i + 1) k ≤ crS rs k := gone_cr nn
    have g : goneF rs i k + rcF rs i k ≤ crS rs k := g
    have := h.crs k
    omega
  · rw [if_neg z, rc_zero fun r hr y => ?_]
    · omega
    · have := (h.rows r hr).2.2.1
      rw [y.1, y.2] at this
      exact z this
theorem done_all {cs os : List Pc} {rs : List Rw} (h : RowsOk cs os rs) : doneF cs rs os.length = sumR rs := by
  rw [← or_sum (n := os.length) fun r hr => (h.rows r hr).1]
  have : ∀ n, doneF cs rs n = sg (orS rs) n := fun n => by
    induction n with
    | zero => rfl
    | succ n ih => show doneF cs rs n + (takeF cs rs n).sum = sg (orS rs) n + orS rs n; rw [ih, take_sum h]
  exact this _
theorem most_is {cs os : List Pc} {rs : List Rw} {lack : Int} (S : ShT cs os rs lack) (hc : ∀ p ∈ cs, PcOk p) (ho : ∀ p ∈ os, PcOk p) {l : List Int} {x : Int} (h : Snd cs os os.length l x) : x ≤ sumR rs := by
  have e := S.lk
  rcases S.c2 with z | ⟨j, _, z⟩
  · have := snd_end h 10
    have a : ∀ {ps : List Pc}, (∀ p ∈ ps, PcOk p) → abvF ps 10 = 0 := fun hp => by
      rw [abv_sg]
      refine sg_zero fun k hk => ?_
      have := (pcs_getD hp hk).2.1
      unfold gF; rw [if_neg (by omega)]
    rw [a hc, a ho] at this
    omega
  · have := snd_end h (os.getD j pc0).1
    omega

end
end Pot

namespace Pot
open PySem PySem.Spec PyProof.Rows L2
section
variable {P : Program} {w : World} {K : PySem.W.Frag} {mg : Str → Option Value} {base : Heap}
def ek (l : List Int) : List Key := l.map Sum.inl
theorem ek_kV (l : List Int) : (ek l).map kV = l.map V.int := by unfold ek; rw [List.map_map]; rfl
theorem ek_inj {a b : List Int} (h : ek a = ek b) : a = b := by
  have h2 := congrArg (List.map fun k : Key => match k with | .inl i => i | .inr _ => 0) h
  unfold ek at h2
  rw [List.map_map, List.map_map] at h2
  have e : ((fun k : Key => match k with | .inl i => i | .inr _ => 0) ∘ Sum.inl) = (id : Int → Int) := rfl
  rw [e, List.map_id, List.map_id] at h2
  exact h2
theorem valV_mem {k : List Key} {v : V} : ∀ {kvs : List (List Key × V)}, valV kvs k = some v → (k, v) ∈ kvs
  | [], h => by rw [valV_nil] at h; cases h
  | p :: r, h => by
    by_cases e : p.1 = k
    · rw [valV_pos e] at h
      obtain rfl := Option.some.inj h
      rw [← e]; exact List.mem_cons_self
    · rw [valV_neg e] at h
      exact List.mem_cons_of_mem _ (valV_mem h)
theorem mem_valV {p : List Key × V} : ∀ {kvs : List (List Key × V)}, p ∈ kvs → ∃ v, valV kvs p.1 = some v
  | [], h => (List.not_mem_nil h).elim
  | q :: r, h => by
    by_cases e : q.1 = p.1
    · exact ⟨_, valV_pos e⟩
    · rw [valV_neg e]
      rcases List.mem_cons.mp h with rfl | h
      · exact absurd rfl e
      · exact mem_valV h
theorem mem_putK {kvs : List (List Key × V)} {k : List Key} {v : V} {p : List Key × V} (h : p ∈ putK kvs k v) : p = (k, v) ∨ p ∈ kvs := by
  unfold putK at h
  split at h
  · obtain ⟨q, hq, e⟩ := List.mem_map.mp h
    split at e
    · rename_i z
      exact .inl (by rw [← e, z])
    · exact .inr (e ▸ hq)
  · rcases List.mem_append.mp h with h | h
    · exact .inr h
    · exact .inl (List.mem_singleton.mp h)
/-- a dict of what is left and what is made -/
structure GoodK (cs os : List Pc) (i : Nat) (tg : Prop) (l : List Int) (y : Int) (n : Nat) (kvs : List (List Key × V)) : Prop where
  snd : ∀ p ∈ kvs, ∃ l x, p = (ek l, V.int x) ∧ Snd cs os i l x
  tgt : tg → ∃ x, valV kvs (ek l) = some (.int x) ∧ y ≤ x
  few : kvs.length ≤ n
theorem GoodK.put {cs os : List Pc} {i : Nat} {tg tg2 : Prop} {l l2 : List Int} {y x2 : Int} {n : Nat} {kvs : List (List Key × V)} (G : GoodK cs os i tg l y n kvs) (S : Snd cs os i l2 x2) (up : ∀ x, valV kvs (ek l2) = some (.int x) → x ≤ x2) (h : tg2 → tg ∨ (l2 = l ∧ y ≤ x2)) : GoodK cs os i tg2 l y (n + 1) (putK kvs (ek l2) (.int x2)) := by
  refine ⟨fun p hp => ?_, fun t => ?_, Nat.le_trans (length_putK _ _ _) (Nat.succ_le_succ G.few)⟩
  · rcases mem_putK hp with rfl | hp
    · exact ⟨l2, x2, rfl, S⟩
    · exact G.snd p hp
  · rw [valV_put]
    by_cases e : ek l = ek l2
    · rw [if_pos e]
      refine ⟨x2, rfl, ?_⟩
      rcases h t with t | ⟨_, t⟩
      · obtain ⟨x, hx, hy⟩ := G.tgt t
        rw [e] at hx
        have := up x hx
        omega
      · exact t
    · rw [if_neg e]
      rcases h t with t | ⟨z, _⟩
      · exact G.tgt t
      · exact absurd (by rw [z]) e
theorem GoodK.get {cs os : List Pc} {i : Nat} {tg : Prop} {l : List Int} {y : Int} {n : Nat} {kvs : List (List Key × V)} (G : GoodK cs os i tg l y n kvs) {l2 : List Int} {v : V} (h : valV kvs (ek l2) = some v) : ∃ x, v = .int x ∧ Snd cs os i l2 x := by
  obtain ⟨l3, x, e, S⟩ := G.snd _ (valV_mem h)
  obtain rfl := ek_inj (Prod.mk.inj e).1
  exact ⟨x, (Prod.mk.inj e).2, S⟩
theorem GoodK.imp {cs os : List Pc} {i : Nat} {tg tg2 : Prop} {l : List Int} {y : Int} {n m : Nat} {kvs : List (List Key × V)} (G : GoodK cs os i tg l y n kvs) (h : tg2 → tg) (hm : n ≤ m) : GoodK cs os i tg2 l y m kvs := ⟨G.snd, fun t => G.tgt (h t), Nat.le_trans G.few hm⟩
def SmallP (ps : List Pc) : Prop := ps.length ≤ 3 ∧ ∀ p ∈ ps, PcOk p ∧ p.2 ≤ 3
theorem ints_of {Pp : Int → Prop} : ∀ {kvs : List (List Key × V)}, (∀ p ∈ kvs, ∃ l x, p = (ek l, V.int x) ∧ Pp x) → ∃ ns : List Int, kvs.map Prod.snd = ns.map V.int ∧ ∀ n ∈ ns, Pp n
  | [], _ => ⟨[], rfl, fun _ h => (List.not_mem_nil h).elim⟩
  | p :: r, h => by
    obtain ⟨l, x, rfl, hx⟩ := h p List.mem_cons_self
    obtain ⟨ns, e, hn⟩ := ints_of fun q hq => h q (List.mem_cons_of_mem _ hq)
    refine ⟨x :: ns, by rw [List.map_cons, List.map_cons, e], fun n hn2 => ?_⟩
    rcases List.mem_cons.mp hn2 with rfl | hn2
    · exact hx
    · exact hn n hn2
theorem same_sm1 {H H1 H2 : Hp} {N : Addr} (s : Same H H1) (t : Sm [N] H1 H2) (n : H N = none) : Same H H2 := fun x o e => sm_at t (by simp [show x ≠ N from fun z => by rw [z, n] at e; cases e]) (s x o e)
theorem at_sm1 {H H2 : Hp} {N a : Addr} {o u : HO} (t : Sm [N] H H2) (hN : H N = some u) (h : H a = some o) (ne : o ≠ u) : H2 a = some o := sm_at t (by simp [show a ≠ N from fun z => ne (by rw [z, hN] at h; exact (Option.some.inj h).symm)]) h
theorem sqT_sm1 {H H2 : Hp} {N a : Addr} {kvs : List (List Key × V)} {xs : List V} (t : Sm [N] H H2) (hN : H N = some (.dT kvs)) (h : SqT K H a xs) : SqT K H2 a xs := by
  rcases h with (h | ⟨o, h⟩) | h
  · exact .inl (.inl (at_sm1 t hN h (fun z => by cases z)))
  · exact .inl (.inr ⟨o, at_sm1 t hN h (fun z => by cases z)⟩)
  · exact .inr h
abbrev s__law_most : Stmt := topS 13
def n__law_most : List Str := ["_law_crews", "_law_orders", "_law_rank", "_law_best", "_law_many", "_law_now", "_law_left", "_law_tops", "_law_split", "_law_rest", "_law_pieces", "_law_crew", "_law_some", "_law_one"]
theorem sc__law_most : FnScope n__law_most ["_law_crews", "_law_orders"] (defScope s__law_most) := ⟨rfl, rfl, rfl, by decide +kernel, rfl, by decide +kernel, by decide +kernel⟩
def spMostW (K : PySem.W.Frag) : Sp := fun vs H Q _ => ∃ (c o : Addr) (xs ys : List V) (cs os : List Pc) (rs : List Rw), vs = [.ref c, .ref o] ∧ SqL K H c xs ∧ SqL K H o ys ∧ DpAll K H xs (cs.map pcD) ∧ DpAll K H ys (os.map pcD) ∧ SmallP cs ∧ SmallP os ∧ RowsOk cs os rs ∧ (∀ l x, Snd cs os os.length l x → x ≤ sumR rs) ∧ ∀ H', Same H H' → Q (.int (sumR rs)) H'
set_option maxHeartbeats 4000000 in
theorem ok_most {f : Addr} {fd : FuncData} {k : Nat} (F : Fun K "_law_most" "_law_most" s__law_most f fd) (T : Txt mg) (c__law_splits : Cl P w K mg base (k + 5) "_law_splits" (spSpl K 4)) : FnOk P w K mg base CX0 (k + 6) f fd ["_law_crews", "_law_orders"] (spMostW K) := by
  refine F.ok sc__law_most (fun vs H Q E h => ?_) (fun cdv A outer s H vs Q E hr h => ?_)
  · obtain ⟨c, o, xs, ys, cs, os, rs, rfl, _⟩ := h
    rfl
  · obtain ⟨c, o, xs, ys, cs, os, rs, rfl, hC, hO, dc, dO, sc, so, R, top, q⟩ := h
    have nd := sc__law_most.nd
    have hu : (A.deeper (envOfC (Str.ofString "_law_most") (defScope s__law_most) s.heap.objs.size f cdv)).units + 1 < cLine := by have := hr.units; omega
    /- 0 _law_crews, 1 _law_orders, 2 _law_rank, 3 _law_best, 4 _law_many, 5 _law_now, 6 _law_left, 7 _law_tops, 8 _law_split, 9 _law_rest, 10 _law_pieces, 11 _law_crew, 12 _law_some, 13 _law_one -/
    refine ⟨_, (pss_cons (ps_set (i := 3) nd rfl (.inl rfl) (pe_dispT hu (pe_callTy (kc_tuple (K := K)) (by rfl) T.tuple (by decide +kernel) (pa_cons (pe_lc (own := [("_law_rank", 2), ("_law_pieces", 10)]) rfl nd (ki_list (K := K) (pv 0)) (blkOk_by (N := n__law_most) (sc := defScope s__law_most) (by decide +kernel)) (fun _ _ _ _ _ => (kg_tup (K := K) (n := 2) (pgs_cons (pg_name (i := 2) nd rfl (.inl rfl)) (pgs_cons (pg_name (i := 10) nd rfl (.inl rfl)) pgs_nil)))) (fun _ _ _ _ _ => pts_nil) (fun _ _ _ _ _ => (pv 10))) pa_nil)) pe_int))
      (pss_cons (ps_for PassesOwn.never rfl (ki_list (K := K) (pv 1)) (kg_tup (K := K) (n := 2) (pgs_cons (pg_name (i := 2) nd rfl (.inr rfl)) (pgs_cons (pg_name (i := 4) nd rfl (.inl rfl)) pgs_nil)))
          (pss_cons (ps_set (i := 5) nd rfl (.inl rfl) pe_dnewT)
          (pss_cons (ps_lock (ps_for PassesOwn.never rfl (pi_keys (pv 3)) (pg_name (i := 6) nd rfl (.inl rfl))
              (pss_cons (ps_setLc (i := 7) (own := [("_law_crew", 11), ("_law_some", 12)]) rfl nd rfl rfl (sw_true rfl rfl rfl (by decide +kernel)) (ki_zipM (K := K) (by rfl) T.zip (pa_cons (pv 0) (pa_cons (pv 6) pa_nil))) (blkOk_by (N := n__law_most) (sc := defScope s__law_most) (by decide +kernel)) (fun _ _ _ _ _ => (kg_tup (K := K) (n := 2) (pgs_cons (pg_name (i := 11) nd rfl (.inl rfl)) (pgs_cons (pg_name (i := 12) nd rfl (.inl rfl)) pgs_nil)))) (fun _ _ _ _ _ => pts_nil) (fun _ _ _ _ _ => (pe_op op_mul (pe_callTy call_int1 (by rfl) T.int (by decide +kernel) (pa_cons (pe_cmpR op_ge (pe_ix (kx_tup (K := K)) (pv 11) pe_int (fun _ _ => rfl)) (pv 2) (nomark _)) pa_nil)) (pv 12))))
              (pss_one (ps_for PassesOwn.never rfl (ki_list (K := K) (pe_cl c__law_splits hr (by omega) (by rfl) (pa_cons (pv 4) (pa_cons (pv 7) pa_nil)))) (pg_name (i := 8) nd rfl (.inl rfl))
                  (pss_cons (ps_set (i := 9) nd rfl (.inl rfl) (pe_callTy (kc_tuple (K := K)) (by rfl) T.tuple (by decide +kernel) (pa_cons (pe_lc (own := [("_law_some", 12), ("_law_one", 13)]) rfl nd (ki_zip (K := K) (by rfl) T.zip (pa_cons (pv 6) (pa_cons (pv 8) pa_nil))) (blkOk_by (N := n__law_most) (sc := defScope s__law_most) (by decide +kernel)) (fun _ _ _ _ _ => (kg_tup (K := K) (n := 2) (pgs_cons (pg_name (i := 12) nd rfl (.inl rfl)) (pgs_cons (pg_name (i := 13) nd rfl (.inl rfl)) pgs_nil)))) (fun _ _ _ _ _ => pts_nil) (fun _ _ _ _ _ => (pe_op op_sub (pv 12) (pv 13)))) pa_nil)))
                  (pss_one (ps_dput hu (pv 5) (pv 9) (pe_callB (call_max2 rfl) (by rfl) T.max (by decide +kernel) (pa_cons (pe_dget2 hu (pv 5) (pv 9) pe_int ⟨rfl, rfl, rfl, rfl⟩) (pa_cons (pe_op op_add (pe_dget hu (pv 3) (pv 6) (fun _ _ => rfl)) (pe_callB (kc_sumT (K := K)) (by rfl) T.sum (by decide +kernel) (pa_cons (pv 8) pa_nil))) pa_nil))) rfl))))))))
          (pss_one (ps_set (i := 3) nd rfl (.inl rfl) (pv 5))))))
      (pss_one (ps_ret (pe_callB (cr_maxT rfl) (by rfl) T.max (by decide +kernel) (pa_cons (pe_bm0 PySem.F.plainAttrs_dict PySem.F.slot_dict_values PySem.F.type_dict_values mt_valuesT (pv 3)) pa_nil)))))), ?_⟩
    have lx : xs.length = cs.length := dpAll_map_len dc
    have ly : ys.length = os.length := dpAll_map_len dO
    have kc : ∀ p ∈ cs, PcOk p := fun p hp => (sc.2 p hp).1
    have ko : ∀ p ∈ os, PcOk p := fun p hp => (so.2 p hp).1
    have lc3 := sc.1
    have lo3 := so.1
    refine fun B nB => ?_
    have s1 := same_upd (o := .dT []) nB
    have fB : upd H B (.dT []) B = some (.dT []) := upd_same
    generalize upd H B (.dT []) = H1 at s1 fB ⊢
    refine ⟨_, rfl, c, rfl, ⟨_, s1.seq hC⟩, fun D nD => ?_⟩
    refine lc_it (walk_list (xs := xs)) (PvL H1 D fun i => ((cs.take i).map (·.2)).map V.int) (pv_start nD rfl) (fun i H4 _ h => h.1.seq (s1.seq hC)) ?_ ?_
    · rintro i y H4 H5 hi p ⟨rfl, gx⟩
      obtain ⟨b, rfl, hb, hi2, _⟩ := pcs_at (dpAll_same (s1.trans p.1) dc) gx
      have gp : cs[i]? = some (cs.getD i pc0) := by rw [List.getD_eq_getElem?_getD, List.getElem?_eq_getElem hi2]; rfl
      generalize cs.getD i pc0 = pr at hb gp
      refine ⟨b, _, rfl, hb, rfl, _, _, rfl, _, _, rfl, rfl, rfl, tYes_at ?_⟩
      rw [if_pos rfl]
      refine ⟨_, rfl, pv_put nD p (Same.refl _) (by rw [List.take_add_one, gp, List.map_append, List.map_append]; rfl) ?_⟩
      rw [List.length_map, List.length_map, List.length_take, sizeLine_eq]; omega
    intro H2 p
    obtain ⟨s2, hD⟩ := pv_end p (show _ = (cs.map (·.2)).map V.int by rw [lx, List.take_length])
    clear p
    refine ⟨D, _, rfl, .inl ⟨SqL.of hD, fun t nt => ?_⟩⟩
    have s3 := s2.trans (same_upd (o := .tup ((cs.map (·.2)).map V.int)) nt)
    have ft : upd H2 t (.tup ((cs.map (·.2)).map V.int)) t = some (.tup ((cs.map (·.2)).map V.int)) := upd_same
    generalize upd H2 t (.tup ((cs.map (·.2)).map V.int)) = H3 at s3 ft ⊢
    have fB3 := s3 _ _ fB
    refine ⟨t, ek (cs.map (·.2)), rfl, (by rw [ek_kV]; exact ft), fB3, ?_⟩
    have sH := same_put (s1.trans s3) nB (o := .dT [(ek (cs.map (·.2)), .int 0)])
    have fB : upd H3 B (.dT [(ek (cs.map (·.2)), .int 0)]) B = some (.dT [(ek (cs.map (·.2)), .int 0)]) := upd_same
    generalize upd H3 B (.dT [(ek (cs.map (·.2)), .int 0)]) = H4 at sH fB ⊢
    clear s1 s2 s3 hD ft fB3 nt nD
    simp only [gName, List.set]
    refine ⟨_, rfl, o, rfl, ⟨_, sH.seq hO⟩, ?_⟩
    refine for_it (walk_list (xs := ys)) (fun i σ Hx => ∃ (B : Addr) (kvs : List (List Key × V)) (v2 v4 v5 v6 v7 v8 v9 va vb vc vd : Option V), σ = [some (.ref c), some (.ref o), v2, some (.ref B), v4, v5, v6, v7, v8, v9, va, vb, vc, vd] ∧ Same H Hx ∧ H B = none ∧ Hx B = some (.dT kvs) ∧ GoodK cs os i True (leftF cs rs i) (doneF cs rs i) (64 ^ i) kvs) ⟨B, _, none, none, none, none, none, none, none, none, none, none, none, rfl, sH, nB, fB, ?_⟩ (fun i σ Hx _ h => by obtain ⟨_, _, _, _, _, _, _, _, _, _, _, _, _, _, sz, _⟩ := h; exact sz.seq hO) ?_ ?_
    · rw [left_start]
      refine ⟨fun p hp => ⟨_, _, List.mem_singleton.mp hp, snd_start kc⟩, fun _ => ⟨0, valV_pos rfl, Int.le_refl 0⟩, by show 1 ≤ 1; decide⟩
    · rintro i y σ Hx Hy hi ⟨B, kvs, v2, v4, v5, v6, v7, v8, v9, va, vb, vc, vd, rfl, sx, nB, fB, G⟩ ⟨rfl, gy⟩
      obtain ⟨b, rfl, hb, hi2, _⟩ := pcs_at (dpAll_same sx dO) gy
      have hoi := pcs_getD (p := fun p => PcOk p ∧ p.2 ≤ 3) so.2 hi2
      have step := fun {l s : List Int} {x : Int} (S : Snd cs os i l x) => snd_step (s := s) S ko hi2
      have tf := take_fits R kc hi2
      have ed : doneF cs rs (i + 1) = doneF cs rs i + (takeF cs rs i).sum := rfl
      generalize os.getD i pc0 = pr at hb hoi step tf
      obtain ⟨rk, m⟩ := pr
      refine ⟨b, _, rfl, hb, rfl, _, _, rfl, _, _, rfl, rfl, ?_⟩
      simp only [gName, List.set]
      refine fun N nN => ?_
      have sN := same_upd (o := .dT []) nN
      have fN : upd Hy N (.dT []) N = some (.dT []) := upd_same
      have NB : N ≠ B := fun e => by rw [e, fB] at nN; cases nN
      have nN0 := same_free sx nN
      have sx := sx.trans sN
      have fB := sN _ _ fB
      generalize upd Hy N (.dT []) = H5 at sx fN fB ⊢
      clear sN
      simp only [gName, List.set]
      refine ⟨B, _, fB, trivial, fun od => ?_⟩
      have sx6 := same_put (o := .frz od (.dT kvs)) sx nB
      have fB6 : upd H5 B (.frz od (.dT kvs)) B = some (.frz od (.dT kvs)) := upd_same
      have fN6 : upd H5 B (.frz od (.dT kvs)) N = some (.dT []) := by rw [upd_ne NB]; exact fN
      generalize upd H5 B (.frz od (.dT kvs)) = H6 at sx6 fB6 fN6 ⊢
      clear sx fN fB
      refine ⟨_, rfl, B, od, rfl, .inr ⟨kvs, fB6, ?_⟩⟩
      refine for_it (walk_keysT (kvs := kvs)) (fun a σ Hz => ∃ (nvs : List (List Key × V)) (v6 v7 v8 v9 va vb vc vd : Option V), σ = [some (.ref c), some (.ref o), some (.int rk), some (.ref B), some (.int m), some (.ref N), v6, v7, v8, v9, va, vb, vc, vd] ∧ Same H Hz ∧ Hz B = some (.frz od (.dT kvs)) ∧ Hz N = some (.dT nvs) ∧ GoodK cs os (i + 1) (∃ a2, a2 < a ∧ ∃ p, kvs[a2]? = some p ∧ p.1 = ek (leftF cs rs i)) (leftF cs rs (i + 1)) (doneF cs rs (i + 1)) (64 * a) nvs) ⟨[], v6, v7, v8, v9, va, vb, vc, vd, rfl, sx6, fB6, fN6, fun p hp => (List.not_mem_nil hp).elim, fun ⟨a2, h, _⟩ => absurd h (Nat.not_lt_zero _), Nat.le_refl _⟩ (fun a σ Hz _ h => by obtain ⟨_, _, _, _, _, _, _, _, _, _, _, h, _⟩ := h; exact h) ?_ ?_
      · rintro a y σ Hz Hw ha ⟨nvs, v6, v7, v8, v9, va, vb, vc, vd, rfl, sz, hB, hN, GN⟩ ⟨rfl, key, v, q2, gk, rfl, hq⟩
        obtain ⟨l, x0, ekv, S0⟩ := G.snd _ (List.mem_of_getElem? gk)
        obtain ⟨rfl, rfl⟩ := Prod.mk.inj ekv
        rw [ek_kV] at hq
        obtain ⟨v1, hv1⟩ := mem_valV (List.mem_of_getElem? gk)
        have hv1 : valV kvs (ek l) = some v1 := hv1
        obtain ⟨x1, rfl, S1⟩ := G.get hv1
        simp only [gName, List.set]
        refine ⟨_, rfl, _, rfl, c, q2, xs, l.map V.int, rfl, sz.seq hC, .inl (.inl hq), fun D nD => ?_⟩
        have lt := S0.len
        refine lc_it (walk_zM (xs := xs) (ys := l.map V.int) (by rw [List.length_map, lt, lx])) (PvL Hw D fun j => ((topsF cs rk l).take j).map V.int) (pv_start nD rfl) (fun j H4 _ h => ⟨(sz.trans h.1).seq hC, .inl (.inl (h.1 _ _ hq))⟩) ?_ ?_
        · rintro j y Ha Hb hj pz ⟨u, x2, y2, rfl, nu, rfl, gx, gy⟩
          replace gx : xs[j]? = some x2 := gx
          replace gy : (l.map V.int)[j]? = some y2 := gy
          obtain ⟨b2, rfl, hb2, hj2, _⟩ := pcs_at (dpAll_same (sz.trans pz.1) dc) gx
          rw [List.getElem?_map] at gy
          obtain ⟨lj, glj, rfl⟩ := Option.map_eq_some_iff.mp gy
          have su := same_upd (o := .tup [.ref b2, .int lj]) nu
          have hb2 := same_tup su hb2
          have fu : upd Ha u (.tup [.ref b2, .int lj]) u = some (.tup [.ref b2, .int lj]) := upd_same
          have pz : PvL Hw D (fun j => ((topsF cs rk l).take j).map V.int) j (upd Ha u (.tup [.ref b2, .int lj])) := ⟨pz.1.trans su, su _ _ pz.2⟩
          generalize upd Ha u (.tup [.ref b2, .int lj]) = Hc at hb2 fu pz ⊢
          refine ⟨u, _, rfl, .inl (.inl fu), rfl, _, _, rfl, _, _, rfl, rfl, rfl, tYes_at ?_⟩
          rw [if_pos rfl]
          have gt : (topsF cs rk l)[j]? = some ((if rk ≤ (cs.getD j pc0).1 then 1 else 0) * lj) := by
            unfold topsF
            rw [List.getElem?_map, List.getElem?_range hj2]
            show some ((if rk ≤ (cs.getD j pc0).1 then 1 else 0) * l.getD j 0) = _
            rw [show l.getD j 0 = lj by rw [List.getD_eq_getElem?_getD, glj]; rfl]
          have bl := S0.box j hj2
          rw [List.getD_eq_getElem?_getD (l := l), glj] at bl
          have bl : 0 ≤ lj ∧ lj ≤ (cs.getD j pc0).2 := bl
          have hcj := (pcs_getD (p := fun p => PcOk p ∧ p.2 ≤ 3) sc.2 hj2).2
          refine ⟨_, rfl, b2, _, 0, _, rfl, rfl, hb2, rfl, _, rfl, _, _, rfl, rfl, .inr ⟨_, rfl, _, rfl, _, _, rfl, rfl, ?_, ?_⟩⟩
          · exact .inl (by cases decide (rk ≤ (cs.getD j pc0).1) <;> decide)
          · refine pv_put nD pz (Same.refl _) ?_ ?_
            · rw [List.take_add_one, gt, List.map_append]
              show _ ++ [V.int ((if rk ≤ (cs.getD j pc0).1 then 1 else 0) * lj)] = _ ++ [V.int ((if decide (rk ≤ (cs.getD j pc0).1) = true then 1 else 0) * lj)]
              by_cases z : rk ≤ (cs.getD j pc0).1
              · rw [decide_eq_true z, if_pos z, if_pos rfl]
              · rw [decide_eq_false z, if_neg z, if_neg (by decide)]
            · rw [List.length_map, List.length_take, sizeLine_eq]; omega
        intro H7 pz
        have ltp : (topsF cs rk l).length = cs.length := by unfold topsF; rw [List.length_map, List.length_range]
        obtain ⟨s7, hD⟩ := pv_end pz (show _ = (topsF cs rk l).map V.int by rw [List.take_of_length_le (by omega)])
        clear pz
        have sz := sz.trans s7
        have hB := s7 _ _ hB
        have hN := s7 _ _ hN
        have hq := s7 _ _ hq
        simp only [gName, List.set]
        have tb : ∀ x ∈ topsF cs rk l, 0 ≤ x ∧ x ≤ 3 := fun x hx => by
          unfold topsF at hx
          obtain ⟨j, hj, rfl⟩ := List.mem_map.mp hx
          have hj := List.mem_range.mp hj
          have := S0.box j hj
          have := (pcs_getD (p := fun p => PcOk p ∧ p.2 ≤ 3) sc.2 hj).2
          split <;> omega
        refine ⟨_, rfl, _, rfl, m, D, topsF cs rk l, rfl, SqL.of hD, by omega, by omega, hoi.1.2.2.1, hoi.2, tb, fun H8 Z zs s8 nZ hZ dz => ⟨Z, rfl, ⟨_, SqL.of hZ⟩, ?_⟩⟩
        have sz := sz.trans s8
        have hB := s8 _ _ hB
        have hN := s8 _ _ hN
        have hq := s8 _ _ hq
        clear s7 s8 hD nD
        have zl : zs.length = (splF (topsF cs rk l) m).length := dpAll_map_len dz
        have z64 : (splF (topsF cs rk l) m).length ≤ 64 := Nat.le_trans (splF_len tb) (Nat.le_trans (Nat.pow_le_pow_right (by decide) (show (topsF cs rk l).length ≤ 3 by omega)) (by decide))
        have mem := fun {s : List Int} => mem_splF (s := s) hoi.1.2.2.1 (fun x hx => (tb x hx).1)
        have memi : l = leftF cs rs i → takeF cs rs i ∈ splF (topsF cs rk l) m := fun e => by rw [e]; rw [e] at mem; exact mem.mpr tf
        generalize splF (topsF cs rk l) m = sp at dz zl z64 mem memi
        have low1 : l = leftF cs rs i → doneF cs rs i ≤ x1 := fun e => by
          obtain ⟨x, hx, hy⟩ := G.tgt trivial
          rw [← e, hv1] at hx
          have := V.int.inj (Option.some.inj hx)
          omega
        refine for_it (walk_list (xs := zs)) (fun b σ Hv => ∃ (nvs : List (List Key × V)) (v8 v9 va vb vc vd : Option V), σ = [some (.ref c), some (.ref o), some (.int rk), some (.ref B), some (.int m), some (.ref N), some (.ref q2), some (.ref D), v8, v9, va, vb, vc, vd] ∧ Sm [N] H8 Hv ∧ Hv N = some (.dT nvs) ∧ GoodK cs os (i + 1) ((∃ a2, a2 < a ∧ ∃ p, kvs[a2]? = some p ∧ p.1 = ek (leftF cs rs i)) ∨ (l = leftF cs rs i ∧ ∃ b2, b2 < b ∧ sp[b2]? = some (takeF cs rs i))) (leftF cs rs (i + 1)) (doneF cs rs (i + 1)) (64 * a + b) nvs) ⟨nvs, v8, v9, va, vb, vc, vd, rfl, Same.refl _, hN, GN.imp (fun t => t.elim id fun ⟨_, b2, h, _⟩ => absurd h (Nat.not_lt_zero _)) (Nat.le_refl _)⟩ (fun b σ Hv _ h => by obtain ⟨_, _, _, _, _, _, _, _, sv, _⟩ := h; exact SqL.of (at_sm1 sv hN hZ (fun z => by cases z))) ?_ ?_
        · clear GN
          rintro b y σ Hv Hu hb2 ⟨nvs2, v8, v9, va, vb, vc, vd, rfl, sv, hN2, GN⟩ ⟨rfl, gy⟩
          obtain ⟨q3, s, rfl, gs, hq3⟩ := tps_at dz gy
          have hq3 := sqT_sm1 sv hN hq3
          have hq2 := at_sm1 sv hN hq (fun z => by cases z)
          have hB2 := at_sm1 sv hN hB (fun z => by cases z)
          obtain ⟨sfit, ssum⟩ := mem.mp (List.mem_of_getElem? gs)
          have S2 := step S1 sfit ssum
          have lts := (tops_fit sfit).1
          have lle : (lessF l s).length = cs.length := by unfold lessF; rw [List.length_map, List.length_range, lt]
          simp only [gName, List.set]
          refine ⟨_, rfl, _, rfl, q2, q3, _, _, rfl, .inr ⟨.inl (.inl hq2), hq3, fun D2 nD2 => ?_⟩⟩
          refine lc_it (walk_zipT (xs := l.map V.int) (ys := s.map V.int) (n := cs.length) (by rw [List.length_map, List.length_map, lt, lts, Nat.min_self])) (PvL Hu D2 fun j => ((lessF l s).take j).map V.int) (pv_start nD2 rfl) (fun j H4 _ h => ⟨.inl (.inl (h.1 _ _ hq2)), same_tup h.1 hq3⟩) ?_ ?_
          · rintro j y Ha Hb hj pz ⟨u, x2, y2, rfl, nu, rfl, gx, gy⟩
            replace gx : (l.map V.int)[j]? = some x2 := gx
            replace gy : (s.map V.int)[j]? = some y2 := gy
            rw [List.getElem?_map] at gx gy
            obtain ⟨lj, glj, rfl⟩ := Option.map_eq_some_iff.mp gx
            obtain ⟨sj, gsj, rfl⟩ := Option.map_eq_some_iff.mp gy
            have su := same_upd (o := .tup [.int lj, .int sj]) nu
            have fu : upd Ha u (.tup [.int lj, .int sj]) u = some (.tup [.int lj, .int sj]) := upd_same
            have pz : PvL Hu D2 (fun j => ((lessF l s).take j).map V.int) j (upd Ha u (.tup [.int lj, .int sj])) := ⟨pz.1.trans su, su _ _ pz.2⟩
            generalize upd Ha u (.tup [.int lj, .int sj]) = Hc at fu pz ⊢
            refine ⟨u, _, rfl, .inl (.inl fu), rfl, _, _, rfl, _, _, rfl, rfl, rfl, tYes_at ?_⟩
            rw [if_pos rfl]
            refine ⟨_, rfl, _, rfl, _, _, rfl, rfl, pv_put nD2 pz (Same.refl _) ?_ ?_⟩
            · have gl : (lessF l s)[j]? = some (lj - sj) := by
                unfold lessF
                rw [List.getElem?_map, List.getElem?_range (by omega)]
                show some (l.getD j 0 - s.getD j 0) = _
                rw [show l.getD j 0 = lj by rw [List.getD_eq_getElem?_getD, glj]; rfl, show s.getD j 0 = sj by rw [List.getD_eq_getElem?_getD, gsj]; rfl]
              rw [List.take_add_one, gl, List.map_append]; rfl
            · rw [List.length_map, List.length_take, sizeLine_eq]; omega
          intro Hc pz
          obtain ⟨sD, hD2⟩ := pv_end pz (show _ = (lessF l s).map V.int by rw [List.take_of_length_le (by omega)])
          clear pz
          refine ⟨D2, _, rfl, .inl ⟨SqL.of hD2, fun t2 nt2 => ?_⟩⟩
          have sE := sD.trans (same_upd (o := .tup ((lessF l s).map V.int)) nt2)
          have ht2 : upd Hc t2 (.tup ((lessF l s).map V.int)) t2 = some (.tup ((ek (lessF l s)).map kV)) := by rw [ek_kV]; exact upd_same
          generalize upd Hc t2 (.tup ((lessF l s).map V.int)) = He at sE ht2 ⊢
          have hN3 := sE _ _ hN2
          have hB3 := sE _ _ hB2
          have hq2 := sE _ _ hq2
          have hq3 := same_tup sE hq3
          simp only [gName, List.set]
          refine ⟨_, rfl, N, rfl, .inr ⟨nvs2, .inl hN3⟩, _, rfl, valV nvs2 (ek (lessF l s)), DGet.t hN3 ht2, ?_⟩
          obtain ⟨g, eg, hg⟩ : ∃ g : Int, (valV nvs2 (ek (lessF l s))).getD (.int 0) = .int g ∧ ((∃ x, valV nvs2 (ek (lessF l s)) = some (.int x) ∧ g = x) ∨ (valV nvs2 (ek (lessF l s)) = none ∧ g = 0)) := by
            cases ev : valV nvs2 (ek (lessF l s)) with
            | none => exact ⟨0, rfl, .inr ⟨rfl, rfl⟩⟩
            | some v =>
              obtain ⟨x, rfl, _⟩ := GN.get ev
              exact ⟨x, rfl, .inl ⟨x, rfl, rfl⟩⟩
          rw [eg]
          refine ⟨_, rfl, _, rfl, B, .int x1, rfl, .inr ⟨kvs, ek l, q2, .inr ⟨od, hB3⟩, rfl, by rw [ek_kV]; exact hq2, hv1.symm⟩, ?_⟩
          refine ⟨_, rfl, q3, s, rfl, hq3, _, _, rfl, rfl, g, x1 + s.sum, rfl, _, rfl, _, rfl, N, _, rfl, DPut.t hN3 ht2 ?_, ?_⟩
          · have h1 := GN.few
            have h2 := G.few
            have h3 : 64 ^ i ≤ 64 ^ 2 := Nat.pow_le_pow_right (by decide) (by omega)
            have h4 := (List.getElem?_eq_some_iff.mp gk).1
            have h5 := (List.getElem?_eq_some_iff.mp gs).1
            rw [sizeLine_eq]
            omega
          · refine ⟨_, _, _, _, _, _, _, rfl, (sv.trans (sm_of sE)).trans (sm_wr List.mem_cons_self), upd_same, ?_⟩
            have low := S2.low
            refine (GN.put (l2 := lessF l s) (x2 := if x1 + s.sum > g then x1 + s.sum else g) ?_ (fun x hx => ?_) (fun t => ?_)).imp id (by omega)
            · split
              · exact S2
              · rcases hg with ⟨x, hx, rfl⟩ | ⟨_, rfl⟩
                · obtain ⟨x', e, Sg⟩ := GN.get hx
                  rw [V.int.inj e]; exact Sg
                · have : x1 + s.sum = 0 := by omega
                  rw [← this]; exact S2
            · rcases hg with ⟨x', hx', rfl⟩ | ⟨hx', _⟩
              · rw [hx'] at hx
                have := V.int.inj (Option.some.inj hx)
                split <;> omega
              · rw [hx'] at hx; cases hx
            · rcases t with t | ⟨e, b2, hb, gb⟩
              · exact .inl (.inl t)
              · by_cases z : b2 < b
                · exact .inl (.inr ⟨e, b2, z, gb⟩)
                · have : b2 = b := by omega
                  rw [this, gs] at gb
                  have es := Option.some.inj gb
                  refine .inr ⟨by rw [e, es, left_step], ?_⟩
                  have := low1 e
                  rw [ed, ← es]
                  split <;> omega
        · rintro σ Hv ⟨nvs2, v8, v9, va, vb, vc, vd, rfl, sv, hN2, GN2⟩
          refine ⟨nvs2, _, _, _, _, _, _, _, _, rfl, same_sm1 sz sv nN0, at_sm1 sv hN hB (fun z => by cases z), hN2, GN2.imp (fun ⟨a2, h, p, gp, ep⟩ => ?_) (by omega)⟩
          by_cases z : a2 < a
          · exact .inl ⟨a2, z, p, gp, ep⟩
          · have : a2 = a := by omega
            rw [this, gk] at gp
            obtain rfl := Option.some.inj gp
            have el := ek_inj ep
            obtain ⟨b2, hb2, e2⟩ := List.mem_iff_getElem.mp (memi el)
            exact .inr ⟨el, b2, by omega, by rw [List.getElem?_eq_getElem hb2, e2]⟩
      · rintro σ Hz ⟨nvs, v6, v7, v8, v9, va, vb, vc, vd, rfl, sz, hB, hN, GN⟩
        have s8 := same_put (o := .dT kvs) sz nB
        have fN8 : upd Hz B (.dT kvs) N = some (.dT nvs) := by rw [upd_ne NB]; exact hN
        refine ⟨hB, _, rfl, N, nvs, _, _, _, _, _, _, _, _, _, _, _, rfl, s8, nN0, fN8, GN.imp (fun _ => ?_) ?_⟩
        · obtain ⟨x, hx, _⟩ := G.tgt trivial
          obtain ⟨a2, ha2, e2⟩ := List.mem_iff_getElem.mp (valV_mem hx)
          exact ⟨a2, ha2, _, List.getElem?_eq_getElem ha2, by rw [e2]⟩
        · rw [Nat.pow_succ, Nat.mul_comm]; exact Nat.mul_le_mul_right 64 G.few
    · rintro σ Hx ⟨B, kvs, v2, v4, v5, v6, v7, v8, v9, va, vb, vc, vd, rfl, sx, nB, fB, G⟩
      rw [ly] at G
      refine ⟨_, rfl, .inr (.inr (.inl ⟨rfl, .inr ⟨kvs, fB⟩⟩)), B, kvs, rfl, rfl, fB, fun p np => ?_⟩
      have s9 := same_upd (o := viewO "dict_values" p B) np
      obtain ⟨ns, ens, hns⟩ := ints_of (Pp := fun x => ∃ l, Snd cs os os.length l x) (kvs := kvs) fun p hp => by
        obtain ⟨l, x, e, Sx⟩ := G.snd p hp
        exact ⟨l, x, e, l, Sx⟩
      obtain ⟨x, hx, hy⟩ := G.tgt trivial
      have xn : x ∈ ns := by
        have := List.mem_map_of_mem (f := Prod.snd) (valV_mem hx)
        rw [ens] at this
        obtain ⟨y, hy2, e⟩ := List.mem_map.mp this
        rw [← V.int.inj e]; exact hy2
      refine ⟨p, B, kvs, ns, rfl, upd_same, s9 _ _ fB, ens, List.length_pos_of_mem xn, fun mx hmx hge => ?_⟩
      have e : mx = sumR rs := by
        obtain ⟨l, Sm⟩ := hns mx hmx
        have h1 := top l mx Sm
        have h2 := hge x xn
        rw [done_all R] at hy
        omega
      rw [e]
      exact q _ (sx.trans s9)

end
end Pot



namespace Pot
open PySem PySem.Spec PyProof.Rows L2
section
variable {P : Program} {w : World} {K : PySem.W.Frag} {mg : Str → Option Value} {base : Heap}
def toldD (cs os : List Pc) : PyData := .tuple [.list ((sortR (rowsF cs os)).map rwD), .int (lackingF cs os), optD (lrF cs os (lackingF cs os))]
theorem lr_some {cs os : List Pc} {l : Int} (h : l ≠ 0) (hl : ∃ p ∈ os, lackF cs os p.1 = l) : ∃ m, lrF cs os l = some m ∧ lackF cs os m = l := by
  obtain ⟨p0, hp0, ep0⟩ := hl
  unfold lrF
  rw [if_neg h]
  have m0 : p0.1 ∈ ((os.filter fun p => decide (lackF cs os p.1 = l))).map (·.1) := List.mem_map_of_mem (List.mem_filter.mpr ⟨hp0, decide_eq_true ep0⟩)
  cases e : (((os.filter fun p => decide (lackF cs os p.1 = l))).map (·.1)).min? with
  | none =>
    rw [List.min?_eq_none_iff.mp e] at m0
    exact (List.not_mem_nil m0).elim
  | some m =>
    obtain ⟨p, hp, rfl⟩ := List.mem_map.mp (List.min?_mem e)
    exact ⟨_, rfl, of_decide_eq_true (List.mem_filter.mp hp).2⟩
def lacksF (cs os : List Pc) (i : Nat) : List Int := (List.range i).map fun k : Nat => abvF os (1 + (k : Int)) - abvF cs (1 + (k : Int))
theorem lacks_max {cs os : List Pc} {l m : Int} (S : ShT cs os (rowsF cs os) l) (ho : ∀ p ∈ os, PcOk p) (hm : m ∈ lacksF cs os 9 ++ [0]) (h : ∀ y ∈ lacksF cs os 9 ++ [0], y ≤ m) : m = l := by
  have a : m ≤ l := by
    rcases List.mem_append.mp hm with z | z
    · obtain ⟨k, _, rfl⟩ := List.mem_map.mp z
      exact S.c1 _
    · rw [List.mem_singleton.mp z]; exact S.low
  have b : l ≤ m := by
    rcases S.c2 with z | ⟨j, hj, z⟩
    · rw [z]; exact h 0 (List.mem_append_right _ (by simp))
    · have e : os.getD j pc0 = os[j] := by rw [List.getD_eq_getElem?_getD, List.getElem?_eq_getElem hj]; rfl
      obtain ⟨r1, r9, _⟩ := ho os[j] (List.getElem_mem hj)
      rw [e] at z
      refine h l (List.mem_append_left _ (List.mem_map.mpr ⟨(os[j].1 - 1).toNat, List.mem_range.mpr (by omega), ?_⟩))
      rw [show (1 + (((os[j].1 - 1).toNat : Nat) : Int)) = os[j].1 by omega]
      exact z.symm
  omega
theorem sumR_sort (rs : List Rw) : sumR (sortR rs) = sumR rs := perm_sum ((sortR_perm rs).map fun r : Rw => r.2.2)

theorem nl_off {H : Hp} {b : Addr} {l : List V} (h : H b = some (.lst l)) : Nl H (off H [b]) := fun x o e n _ => by
  have ne : x ≠ b := fun z => by rw [z, h] at e; exact n _ (Option.some.inj e).symm
  rw [off_out (fun z => ne (List.mem_singleton.mp z))]; exact e
theorem off_less {H : Hp} {S T : List Addr} (h : ∀ x ∈ T, x ∈ S) : Same (off H S) (off H T) := fun x o e => by
  have n := off_mem e
  rw [off_out n] at e
  rw [off_out fun z => n (h x z)]; exact e
theorem bq_ext {H H2 : Hp} {b : Addr} {n : Nat} (x : LamX.ExtN H H2) (B : Bq H b n) : Bq H2 b n := by
  obtain ⟨p, q, r, e, h⟩ := B
  exact ⟨p, q, r, x _ _ e (fun ps z => by cases z), h⟩
abbrev s_law : Stmt := topS 14
def n_law : List Str := ["_law_script", "_law_k", "_law_state", "_law_turn", "_law_ranks", "_law_crews", "_law_orders", "_law_rows", "_law_lacking", "_law_rank", "_law_made", "_law_wanted", "_law_one", "_law_own", "_law_many", "_law_row"]
theorem sc_law : FnScope n_law ["_law_script"] (defScope s_law) := ⟨rfl, rfl, rfl, by decide +kernel, rfl, by decide +kernel, by decide +kernel⟩
def spLaw (K : PySem.W.Frag) (Pt : Addr) : Sp := fun vs H Q _ => ∃ (a : Addr) (ns : List Int), vs = [.ref a] ∧ SqL K H a (ns.map V.int) ∧ ns.length ≤ 63 ∧ LamX.Tabs [(Pt, qShared)] H ∧ ∀ H', Q (.bl true) H'
set_option maxHeartbeats 4000000 in
theorem ok_law {f Pt : Addr} {fd : FuncData} {k : Nat} (F : Fun K "law" "law" s_law f fd) (T : Txt mg) (c__law_take : Cl P w K mg base (k + 1) "_law_take" spTake) (c__law_begin : Cl P w K mg base (k + 1) "_law_begin" (spBegin K)) (c_shared : Cl P w K mg base (k + 4) "shared" (spShared K Pt)) (c__law_most : Cl P w K mg base (k + 6) "_law_most" (spMostW K)) (c__law_are_rows : Cl P w K mg base (k + 2) "_law_are_rows" (spArer K)) (c__law_whole : Cl P w K mg base (k + 1) "_law_whole" spWh) (c__law_above : Cl P w K mg base (k + 1) "_law_above" (spAbv K)) : FnG P w K mg base (k + 7) f fd ["_law_script"] (spLaw K Pt) := by
  refine okG F sc_law (fun vs H Q E h => ?_) (fun cdv A outer s H vs Q gd hr h => ?_)
  · obtain ⟨a, ns, rfl, _⟩ := h
    rfl
  · obtain ⟨a, ns, rfl, hS, h63, tb0, q⟩ := h
    have nd := sc_law.nd
    have hu64 := hr.units
    /- 0 _law_script, 1 _law_k, 2 _law_state, 3 _law_turn, 4 _law_ranks, 5 _law_crews, 6 _law_orders, 7 _law_rows, 8 _law_lacking, 9 _law_rank, 10 _law_made, 11 _law_wanted, 12 _law_one, 13 _law_own, 14 _law_many, 15 _law_row -/
    refine ⟨_, (pss_cons (ps_for PassesOwn.never rfl (pi_range1 (by rfl) T.range (pa_cons (pe_op op_add pe_int (pe_callB (call_min2 rfl) (by rfl) T.min (by decide +kernel) (pa_cons pe_int (pa_cons (pe_callB (kc_len (K := K)) (by rfl) T.len PySem.boot_len (pa_cons (pv 0) pa_nil)) pa_nil)))) pa_nil)) (pg_name (i := 1) nd rfl (.inl rfl))
          (pss_cons (ps_set (i := 2) nd rfl (.inr rfl) (pe_cl c__law_begin hr (by omega) (by rfl) (pa_cons (pv 0) (pa_cons (pv 1) pa_nil))))
          (pss_one (ps_for PassesOwn.never rfl (pi_range1 (by rfl) T.range (pa_cons pe_int pa_nil)) (pg_name (i := 3) nd rfl (.inl rfl))
              (pss_cons (ps_set (i := 4) nd rfl (.inr rfl) (pe_lst (pa_cons (pe_op op_add pe_int (pe_cl c__law_take hr (by omega) (by rfl) (pa_cons (pv 2) (pa_cons pe_int pa_nil)))) (pa_cons (pe_op op_add pe_int (pe_cl c__law_take hr (by omega) (by rfl) (pa_cons (pv 2) (pa_cons pe_int pa_nil)))) (pa_cons (pe_ix (kx_list (K := K)) (pe_lst (pa_cons pe_int (pa_cons pe_int pa_nil))) (pe_cl c__law_take hr (by omega) (by rfl) (pa_cons (pv 2) (pa_cons pe_int pa_nil))) (fun _ _ => rfl)) pa_nil)))))
              (pss_cons (ps_setLc (i := 5) (own := [("_law_one", 12)]) rfl nd rfl rfl (sw_true rfl rfl rfl (by decide +kernel)) (pi_range1 (by rfl) T.range (pa_cons (pe_cl c__law_take hr (by omega) (by rfl) (pa_cons (pv 2) (pa_cons pe_int pa_nil))) pa_nil)) (blkOk_by (N := n_law) (sc := defScope s_law) (by decide +kernel)) (fun _ _ _ _ _ => (pg_name (i := 12) nd rfl (.inl rfl))) (fun _ _ _ _ _ => pts_nil) (fun _ _ _ _ _ => (pe_tup (pa_cons (pe_ix (kx_list (K := K)) (pv 4) (pe_cl c__law_take hr (by omega) (by rfl) (pa_cons (pv 2) (pa_cons pe_int pa_nil))) (fun _ _ => rfl)) (pa_cons (pe_cl c__law_take hr (by omega) (by rfl) (pa_cons (pv 2) (pa_cons pe_int pa_nil))) pa_nil)))))
              (pss_cons (ps_setLc (i := 6) (own := [("_law_one", 12)]) rfl nd rfl rfl (sw_true rfl rfl rfl (by decide +kernel)) (pi_range1 (by rfl) T.range (pa_cons (pe_cl c__law_take hr (by omega) (by rfl) (pa_cons (pv 2) (pa_cons pe_int pa_nil))) pa_nil)) (blkOk_by (N := n_law) (sc := defScope s_law) (by decide +kernel)) (fun _ _ _ _ _ => (pg_name (i := 12) nd rfl (.inl rfl))) (fun _ _ _ _ _ => pts_nil) (fun _ _ _ _ _ => (pe_tup (pa_cons (pe_ix (kx_list (K := K)) (pv 4) (pe_cl c__law_take hr (by omega) (by rfl) (pa_cons (pv 2) (pa_cons pe_int pa_nil))) (fun _ _ => rfl)) (pa_cons (pe_cl c__law_take hr (by omega) (by rfl) (pa_cons (pv 2) (pa_cons pe_int pa_nil))) pa_nil)))))
              (pss_cons (ps_asg (pe_cl c_shared hr (by omega) (by rfl) (pa_cons (pv 5) (pa_cons (pv 6) pa_nil))) (kg_tup (K := K) (n := 3) (pgs_cons (pg_name (i := 7) nd rfl (.inl rfl)) (pgs_cons (pg_name (i := 8) nd rfl (.inl rfl)) (pgs_cons (pg_name (i := 9) nd rfl (.inl rfl)) pgs_nil)))))
              (pss_cons (ps_par (i := 10) (j := 11) rfl nd rfl rfl (by decide) rfl rfl (pa_cons (pe_cl c__law_most hr (by omega) (by rfl) (pa_cons (pv 5) (pa_cons (pv 6) pa_nil))) (pa_cons (pe_callB (kc_sum (K := K)) (by rfl) T.sum (by decide +kernel) (pa_cons (pe_lc (own := [("_law_own", 13), ("_law_many", 14)]) rfl nd (ki_list (K := K) (pv 6)) (blkOk_by (N := n_law) (sc := defScope s_law) (by decide +kernel)) (fun _ _ _ _ _ => (kg_tup (K := K) (n := 2) (pgs_cons (pg_name (i := 13) nd rfl (.inl rfl)) (pgs_cons (pg_name (i := 14) nd rfl (.inl rfl)) pgs_nil)))) (fun _ _ _ _ _ => pts_nil) (fun _ _ _ _ _ => (pv 14))) pa_nil)) pa_nil)) rfl)
              (pss_cons (ps_if ((pw_or (pt_not (pt_val (pe_cl c__law_are_rows hr (by omega) (by rfl) (pa_cons (pv 5) (pa_cons (pv 6) (pa_cons (pv 7) pa_nil)))))) (pw_or1 (pt_cmpR op_ne (pe_callB (kc_sum (K := K)) (by rfl) T.sum (by decide +kernel) (pa_cons (pe_lc (own := [("_law_row", 15)]) rfl nd (ki_list (K := K) (pv 7)) (blkOk_by (N := n_law) (sc := defScope s_law) (by decide +kernel)) (fun _ _ _ _ _ => (pg_name (i := 15) nd rfl (.inl rfl))) (fun _ _ _ _ _ => pts_nil) (fun _ _ _ _ _ => (pe_ix (kx_tup (K := K)) (pv 15) pe_int (fun _ _ => rfl)))) pa_nil)) (pv 10) (nomark _))))).pt
                  pss_never
                  pss_nil)
              (pss_cons (ps_if ((pw_or (pt_cmpR op_ne (pv 8) (pe_op op_sub (pv 11) (pv 10)) (nomark _)) (pw_or (pt_not (pt_val (pe_cl c__law_whole hr (by omega) (by rfl) (pa_cons (pv 8) pa_nil)))) (pw_or1 (pt_cmpR op_ne (pe_cmpR op_isN (pv 9) pe_non (nomark _)) (pe_cmpR op_eq (pv 10) (pv 11) (nomark _)) (nomark _)))))).pt
                  pss_never
                  pss_nil)
              (pss_one (ps_if ((pw_and (pt_cmpR op_notN (pv 9) pe_non (nomark _)) (pw_and1 (pt_cmpR op_ne (pe_op op_sub (pe_cl c__law_above hr (by omega) (by rfl) (pa_cons (pv 6) (pa_cons (pv 9) pa_nil))) (pe_cl c__law_above hr (by omega) (by rfl) (pa_cons (pv 5) (pa_cons (pv 9) pa_nil)))) (pv 8) (nomark _))))).pt
                  pss_never
                  pss_nil)))))))))))))
      (pss_one (ps_ret pe_bl))), ?_⟩
    refine ⟨_, rfl, _, _, rfl, .inl ⟨_, hS, rfl⟩, _, _, rfl, _, _, rfl, rfl, _, rfl, (by split <;> rw [List.length_map] at * <;> omega), (by split <;> rw [List.length_map] at * <;> omega), ?_⟩
    refine for_it walk_range (fun i σ H2 => ∃ v1 v2 v3 v4 v5 v6 v7 v8 v9 va vb vc vd ve vf, σ = [some (.ref a), v1, v2, v3, v4, v5, v6, v7, v8, v9, va, vb, vc, vd, ve, vf] ∧ LamX.ExtN H H2 ∧ LamX.Tabs [(Pt, qShared)] H2) ⟨_, _, _, _, _, _, _, _, _, _, _, _, _, _, _, rfl, LamX.ExtN.refl _, tb0⟩ (fun _ _ _ _ _ => trivial) ?_ ?_
    · rintro i x σ H2 H3 hi ⟨v1, v2, v3, v4, v5, v6, v7, v8, v9, va, vb, vc, vd, ve, vf, rfl, x3, tb3⟩ ⟨rfl, rfl⟩
      have hi7 : i ≤ 63 := by
        have h2 : (1 + if ((List.map V.int ns).length : Int) < 4 then ((List.map V.int ns).length : Int) else 4) ≤ 7 := by split <;> omega
        omega
      refine ⟨_, rfl, _, rfl, a, ns, i, (by show [_, V.int (0 + (i : Int))] = _; rw [Int.zero_add]), RLam.sqL_ext hS x3, hi7, fun H4 b s4 B4 nb => ?_⟩
      have nb1 : ∀ s ∈ [b], H3 s = none := fun s hs => by rw [List.mem_singleton.mp hs]; exact nb
      simp only [gName, List.set]
      refine ⟨_, rfl, (by decide), (by decide), ?_⟩
      refine for_it walk_range (fun j σ Hy => ∃ v3 v4 v5 v6 v7 v8 v9 va vb vc vd ve vf, σ = [some (.ref a), some (.int (0 + (i : Int))), some (.ref b), v3, v4, v5, v6, v7, v8, v9, va, vb, vc, vd, ve, vf] ∧ LamX.ExtN H3 Hy ∧ LamX.Tabs [(Pt, qShared)] Hy ∧ Bq Hy b (30 * j)) ⟨_, _, _, _, _, _, _, _, _, _, _, _, _, rfl, .of s4, tb3.ext s4, B4⟩ (fun _ _ _ _ _ => trivial) ?_ ?_
      · rintro j x σ Hy Hz hj ⟨v3, v4, v5, v6, v7, v8, v9, va, vb, vc, vd, ve, vf, rfl, xz, tbz, B⟩ ⟨rfl, rfl⟩
        have hj6 : j < 6 := hj
        simp only [gName, List.set]
        obtain ⟨S, eS⟩ : ∃ S, S = [b] := ⟨_, rfl⟩
        have hb : b ∈ S := by rw [eS]; exact List.mem_cons_self
        have lv : Live S Hz := by rw [eS]; exact Live.q B
        have sc : Sm [b] Hz Hz := Same.refl _
        have LB : ∀ {HX : Hp} {n : Nat}, Bq HX b n → ∀ s ∈ [b], ∃ xs, HX s = some (.lst xs) := fun B s hs => by
          rw [List.mem_singleton.mp hs]
          obtain ⟨_, _, _, e⟩ := B.bx
          exact ⟨_, e⟩
        have tbS : ∀ {HX : Hp}, Sm [b] Hz HX → LamX.Tabs [(Pt, qShared)] HX := fun s => tabs_sm (LB B) s tbz
        refine ⟨_, rfl, b, 9, _, rfl, (by decide), (by decide), B, by omega, fun H5 r1 r10 r11 B5 s5 => ⟨_, _, rfl, rfl, ?_⟩⟩
        have lv := lv.box B5.bx s5
        have sc := sc.trans s5
        have B := B5
        refine ⟨_, rfl, b, 9, _, rfl, (by decide), (by decide), B, by omega, fun H6 r2 r20 r21 B6 s6 => ⟨_, _, rfl, rfl, (by show 2 ≤ sizeLine; decide), fun l0 nl0 => ?_⟩⟩
        have lv := lv.box B6.bx s6
        have sc := sc.trans s6
        have B := B6
        have f0 := off_new (o := .lst [.int 1, .int 9]) lv nl0
        have lv := lv.put (o := .lst [.int 1, .int 9]) nl0
        have B := B.put (o := .lst [.int 1, .int 9]) nl0
        have sc := sc.trans (sm_put (S := [b]) (o := .lst [.int 1, .int 9]) nl0)
        generalize upd H6 l0 (.lst [.int 1, .int 9]) = H7 at f0 lv B sc  ⊢
        refine ⟨_, rfl, b, 2, _, rfl, (by decide), (by decide), B, by omega, fun H8 r3 r30 r31 B8 s8 => ?_⟩
        have lv := lv.box B8.bx s8
        have sc := sc.trans s8
        have B := B8
        have f0 := (sm_one hb s8) _ _ f0
        obtain ⟨r4, g4, r41, r49⟩ : ∃ r : Int, atI [V.int 1, .int 9] r3 = some (.int r) ∧ 1 ≤ r ∧ r ≤ 9 := by
          have h : r3 = 0 ∨ r3 = 1 := by omega
          rcases h with rfl | rfl
          · exact ⟨1, rfl, by decide, by decide⟩
          · exact ⟨9, rfl, by decide, by decide⟩
        refine ⟨l0, _, r3, _, rfl, rfl, SqL.of (at_off f0), g4, (by show 3 ≤ sizeLine; decide), fun Rk nRk => ?_⟩
        have fRk := off_new (o := .lst [.int (1 + r1), .int (1 + r2), .int r4]) lv nRk
        have lv := lv.put (o := .lst [.int (1 + r1), .int (1 + r2), .int r4]) nRk
        have B := B.put (o := .lst [.int (1 + r1), .int (1 + r2), .int r4]) nRk
        have sc := sc.trans (sm_put (S := [b]) (o := .lst [.int (1 + r1), .int (1 + r2), .int r4]) nRk)
        generalize upd H8 Rk (.lst [.int (1 + r1), .int (1 + r2), .int r4]) = H9 at fRk lv B sc  ⊢
        have rk : ∀ z : Int, 0 ≤ z → z < 3 → ∃ r : Int, atI [V.int (1 + r1), .int (1 + r2), .int r4] z = some (.int r) ∧ 1 ≤ r ∧ r ≤ 9 := fun z z0 z1 => by
          have h : z = 0 ∨ z = 1 ∨ z = 2 := by omega
          rcases h with rfl | rfl | rfl
          · exact ⟨_, rfl, by omega, by omega⟩
          · exact ⟨_, rfl, by omega, by omega⟩
          · exact ⟨_, rfl, r41, r49⟩
        clear f0
        simp only [gName, List.set]
        refine ⟨_, rfl, b, 4, _, rfl, (by decide), (by decide), B, by omega, fun HA ya ya0 ya1 Ba sa => ⟨_, rfl, (by omega), (by omega), fun C nC => ?_⟩⟩
        have lv := lv.box Ba.bx sa
        have sc := sc.trans sa
        have B := Ba
        have fRk := (sm_one hb sa) _ _ fRk
        refine lc_it walk_range (fun i Hx => Sm [b] HA Hx ∧ Bq Hx b (30 * j + 4 + 2 * i) ∧ ∃ us ps, off Hx S C = some (.lst us) ∧ DpAll K (off Hx (C :: S)) us (ps.map pcD) ∧ ps.length = i ∧ ∀ p ∈ ps, PcOk p ∧ p.2 ≤ 3) ⟨sm_put nC, (B.put nC).mono (by omega), [], [], off_new lv nC, .nil, rfl, fun _ h => (List.not_mem_nil h).elim⟩ (fun _ _ _ _ => trivial) ?_ ?_
        · rintro i x Hx Hy hi ⟨sx, Bx, us, ps, hD, du, lp, kp⟩ ⟨rfl, rfl⟩
          refine ⟨rfl, tYes_at ?_⟩
          rw [if_pos rfl]
          have hi4 : i < 4 := by omega
          have DS := off_mem hD
          have Db : C ≠ b := fun e => DS (by rw [e]; exact hb)
          have hbD : b ∈ C :: S := List.mem_cons_of_mem _ hb
          have lvD : Live (C :: S) Hy := (lv.box Bx.bx sx).cons (at_off hD)
          refine ⟨_, rfl, _, rfl, b, 3, _, rfl, (by decide), (by decide), Bx, by omega, fun Hp1 z z0 z1 Bp1 sp1 => ?_⟩
          obtain ⟨r, gr, q1, q9⟩ := rk z z0 z1
          refine ⟨Rk, _, z, _, rfl, rfl, SqL.of (at_off (sm_one hb (sx.trans sp1) _ _ fRk)), gr, _, rfl, b, 4, _, rfl, (by decide), (by decide), Bp1, by omega, fun Hp2 mm m0 m1 Bp2 sp2 => ⟨(by show 2 ≤ sizeLine; decide), fun u nu => ?_⟩⟩
          have s56 := sp1.trans sp2
          have hD := sm_one hb s56 _ _ hD
          have du := dpAll_same (sm_one hbD s56) du
          have lvD := lvD.box Bp2.bx s56
          have gu := off_new (o := .tup [.int r, .int mm]) lvD nu
          have su := same_upd (o := .tup [.int r, .int mm]) nu
          refine ⟨us, su _ _ (at_off hD), (by have := dpAll_map_len du; rw [sizeLine_eq]; omega), sm_wr0 ((sx.trans s56).trans (sm_of su)) nC, ((Bp2.put nu).wr Db).mono (by omega), us ++ [.ref u], ps ++ [(r, mm)], off_upd DS, ?_, by rw [List.length_append, lp]; rfl, fun p hp => ?_⟩
          · rw [List.map_append]
            exact dpAll_same (sm_wr List.mem_cons_self) (dpAll_app' (dpAll_same (sm_of su) du) (.cons (.tup (.inl (.inl gu)) (.cons (.int _) (.cons (.int _) .nil))) .nil))
          · rcases List.mem_append.mp hp with hp | hp
            · exact kp p hp
            · rw [List.mem_singleton.mp hp]
              exact ⟨⟨q1, q9, m0, show mm ≤ 1000000000 by omega⟩, show mm ≤ 3 by omega⟩
        rintro Hxa ⟨sax, Bax, xs, cs, fC, daC, lcs, kcs⟩
        have daC := dpAll_same (off_less (T := S) fun x hx => List.mem_cons_of_mem _ hx) daC
        have lv := lv.box Bax.bx sax
        have sc := sc.trans sax
        have B := Bax
        have fRk := (sm_one hb sax) _ _ fRk
        simp only [gName, List.set]
        refine ⟨_, rfl, b, 4, _, rfl, (by decide), (by decide), B, by omega, fun HB yb yb0 yb1 Bb sb => ⟨_, rfl, (by omega), (by omega), fun O nO => ?_⟩⟩
        have lv := lv.box Bb.bx sb
        have sc := sc.trans sb
        have B := Bb
        have fRk := (sm_one hb sb) _ _ fRk
        have fC := (sm_one hb sb) _ _ fC
        have daC := dpAll_same ((sm_one hb sb)) daC
        refine lc_it walk_range (fun i Hx => Sm [b] HB Hx ∧ Bq Hx b (30 * j + 11 + 2 * i) ∧ ∃ us ps, off Hx S O = some (.lst us) ∧ DpAll K (off Hx (O :: S)) us (ps.map pcD) ∧ ps.length = i ∧ ∀ p ∈ ps, PcOk p ∧ p.2 ≤ 3) ⟨sm_put nO, (B.put nO).mono (by omega), [], [], off_new lv nO, .nil, rfl, fun _ h => (List.not_mem_nil h).elim⟩ (fun _ _ _ _ => trivial) ?_ ?_
        · rintro i x Hx Hy hi ⟨sx, Bx, us, ps, hD, du, lp, kp⟩ ⟨rfl, rfl⟩
          refine ⟨rfl, tYes_at ?_⟩
          rw [if_pos rfl]
          have hi4 : i < 4 := by omega
          have DS := off_mem hD
          have Db : O ≠ b := fun e => DS (by rw [e]; exact hb)
          have hbD : b ∈ O :: S := List.mem_cons_of_mem _ hb
          have lvD : Live (O :: S) Hy := (lv.box Bx.bx sx).cons (at_off hD)
          refine ⟨_, rfl, _, rfl, b, 3, _, rfl, (by decide), (by decide), Bx, by omega, fun Hp1 z z0 z1 Bp1 sp1 => ?_⟩
          obtain ⟨r, gr, q1, q9⟩ := rk z z0 z1
          refine ⟨Rk, _, z, _, rfl, rfl, SqL.of (at_off (sm_one hb (sx.trans sp1) _ _ fRk)), gr, _, rfl, b, 4, _, rfl, (by decide), (by decide), Bp1, by omega, fun Hp2 mm m0 m1 Bp2 sp2 => ⟨(by show 2 ≤ sizeLine; decide), fun u nu => ?_⟩⟩
          have s56 := sp1.trans sp2
          have hD := sm_one hb s56 _ _ hD
          have du := dpAll_same (sm_one hbD s56) du
          have lvD := lvD.box Bp2.bx s56
          have gu := off_new (o := .tup [.int r, .int mm]) lvD nu
          have su := same_upd (o := .tup [.int r, .int mm]) nu
          refine ⟨us, su _ _ (at_off hD), (by have := dpAll_map_len du; rw [sizeLine_eq]; omega), sm_wr0 ((sx.trans s56).trans (sm_of su)) nO, ((Bp2.put nu).wr Db).mono (by omega), us ++ [.ref u], ps ++ [(r, mm)], off_upd DS, ?_, by rw [List.length_append, lp]; rfl, fun p hp => ?_⟩
          · rw [List.map_append]
            exact dpAll_same (sm_wr List.mem_cons_self) (dpAll_app' (dpAll_same (sm_of su) du) (.cons (.tup (.inl (.inl gu)) (.cons (.int _) (.cons (.int _) .nil))) .nil))
          · rcases List.mem_append.mp hp with hp | hp
            · exact kp p hp
            · rw [List.mem_singleton.mp hp]
              exact ⟨⟨q1, q9, m0, show mm ≤ 1000000000 by omega⟩, show mm ≤ 3 by omega⟩
        rintro Hxb ⟨sbx, Bbx, ys, os, fO, daO, los, kos⟩
        have daO := dpAll_same (off_less (T := S) fun x hx => List.mem_cons_of_mem _ hx) daO
        have lv := lv.box Bbx.bx sbx
        have sc := sc.trans sbx
        have B := Bbx
        have fRk := (sm_one hb sbx) _ _ fRk
        have fC := (sm_one hb sbx) _ _ fC
        have daC := dpAll_same ((sm_one hb sbx)) daC
        simp only [gName, List.set]
        have kc : ∀ p ∈ cs, PcOk p := fun p hp => (kcs p hp).1
        have ko : ∀ p ∈ os, PcOk p := fun p hp => (kos p hp).1
        have lc : cs.length ≤ 3 := by omega
        have lo : os.length ≤ 3 := by omega
        have xz := extN_sm xz sc nb1
        have tb := tbS sc
        clear tbS rk fRk sax sbx sa sb lcs los
        refine ⟨_, rfl, _, rfl, C, O, xs, ys, cs, os, rfl, SqL.of (at_off fC), SqL.of (at_off fO), dpAll_same off_sub daC, dpAll_same off_sub daO, by omega, by omega, kc, ko, (fun l hl => ne_of_none (at_off fC) hl), (fun l hl => ne_of_none (at_off fO) hl), tb, fun Ht t1 R zs xt tbt fR1 ht1 hR dz z4 => ?_⟩
        have nt : ∀ {xs : List V} (ps : Array Value), HO.lst xs ≠ .tbl ps := fun ps z => by cases z
        have hC := xt _ _ (at_off fC) nt
        have hO := xt _ _ (at_off fO) nt
        have dc := pcs_nl (Nl.ext xt) (dpAll_same off_sub daC)
        have dO := pcs_nl (Nl.ext xt) (dpAll_same off_sub daO)
        have B := bq_ext xt B
        have xz := xz.trans xt
        have S := sh_told kc ko
        have ROk := sortR_ok S
        have top : ∀ l x, Snd cs os os.length l x → x ≤ sumR (sortR (rowsF cs os)) := fun l x h => by rw [sumR_sort]; exact most_is S kc ko h
        have lz : zs.length = (sortR (rowsF cs os)).length := dpAll_map_len dz
        have ly : ys.length = os.length := dpAll_map_len dO
        clear fC fO daC daO fR1 xt tb lv sc
        refine ⟨t1, _, rfl, .inl (.inl ht1), rfl, _, _, rfl, _, _, rfl, _, _, rfl, rfl, ?_⟩
        simp only [gName, gCons, gNil, List.set]
        refine ⟨_, rfl, _, rfl, C, O, xs, ys, cs, os, sortR (rowsF cs os), rfl, SqL.of hC, SqL.of hO, dc, dO, ⟨lc, kcs⟩, ⟨lo, kos⟩, ROk, top, fun Hm sm => ?_⟩
        refine ⟨_, rfl, O, rfl, ⟨_, SqL.of (sm _ _ hO)⟩, fun D1 nD1 => ?_⟩
        refine lc_it (walk_list (xs := ys)) (PvL Hm D1 fun i => ((os.take i).map (·.2)).map V.int) (pv_start nD1 rfl) (fun i H4 _ h => SqL.of (h.1 _ _ (sm _ _ hO))) ?_ ?_
        · rintro i y H4 H5 hi p ⟨rfl, gx⟩
          obtain ⟨b, rfl, hb, hi2, _⟩ := pcs_at (dpAll_same (sm.trans p.1) dO) gx
          have gp : os[i]? = some (os.getD i pc0) := by rw [List.getD_eq_getElem?_getD, List.getElem?_eq_getElem hi2]; rfl
          generalize os.getD i pc0 = pr at hb gp
          refine ⟨b, _, rfl, hb, rfl, _, _, rfl, _, _, rfl, rfl, rfl, tYes_at ?_⟩
          rw [if_pos rfl]
          refine ⟨_, rfl, pv_put nD1 p (Same.refl _) (by rw [List.take_add_one, gp, List.map_append, List.map_append]; rfl) ?_⟩
          rw [List.length_map, List.length_map, List.length_take, sizeLine_eq]; omega
        intro Hs p
        obtain ⟨ss, hD⟩ := pv_end p (show _ = (os.map (·.2)).map V.int by rw [ly, List.take_length])
        clear p
        refine ⟨D1, _, rfl, SqL.of hD, ?_⟩
        have s1 := sm.trans ss
        clear hD nD1 sm ss
        refine ⟨_, _, rfl, ?_⟩
        have hC := s1 _ _ hC
        have hO := s1 _ _ hO
        have hR := s1 _ _ hR
        have dc := dpAll_same s1 dc
        have dO := dpAll_same s1 dO
        have dz := dpAll_same s1 dz
        have B := B.same s1
        have xz := xz.trans (.of s1)
        have tbt := tbt.ext s1
        clear s1 ht1
        simp only [List.set]
        refine ⟨_, rfl, _, rfl, _, rfl, C, O, R, xs, ys, zs, cs, os, _, rfl, SqL.of hC, SqL.of hO, dc, dO, by omega, by omega, SqL.of hR, dz, ROk, (fun l hl => ⟨ne_of_none hC hl, ne_of_none hO hl, ne_of_none hR hl⟩), fun Hu su => ⟨_, rfl, iteF ?_⟩⟩
        have hR3 := su _ _ hR
        refine ⟨_, rfl, R, rfl, ⟨_, SqL.of hR3⟩, fun E2 nE => ?_⟩
        have dz7 := dpAll_same su dz
        refine lc_it (walk_list (xs := zs)) (PvL Hu E2 fun i => (((sortR (rowsF cs os)).take i).map fun r => r.2.2).map V.int) (pv_start nE rfl) (fun i H4 _ h => h.1.seq (SqL.of hR3)) ?_ ?_
        · rintro i y H4 H5 hi p ⟨rfl, gx⟩
          obtain ⟨b, r, rfl, hb, gr⟩ := rw_at (dpAll_same p.1 dz7) gx
          refine ⟨rfl, tYes_at ?_⟩
          rw [if_pos rfl]
          refine ⟨_, rfl, b, _, 2, _, rfl, rfl, hb, rfl, pv_put nE p (Same.refl _) (by rw [List.take_add_one, show (sortR (rowsF cs os))[i]? = some r from gr, List.map_append, List.map_append]; rfl) ?_⟩
          rw [List.length_map, List.length_map, List.length_take, sizeLine_eq, ← lz]; omega
        intro Hv p
        obtain ⟨s8, hE⟩ := pv_end p (show _ = ((sortR (rowsF cs os)).map fun r => r.2.2).map V.int by rw [lz, List.take_length])
        clear p
        have s2 := su.trans s8
        have hC := s2 _ _ hC
        have hO := s2 _ _ hO
        have dc := dpAll_same s2 dc
        have dO := dpAll_same s2 dO
        have B := B.same s2
        have xz := xz.trans (.of s2)
        have tbt := tbt.ext s2
        clear su s8 dz7 hR3 s2
        have elk : lackingF cs os = (os.map (·.2)).sum - sumR (sortR (rowsF cs os)) := by rw [sumR_sort]; exact S.lk.symm
        refine ⟨E2, _, rfl, SqL.of hE, _, rfl, rfl, _, rfl, iteNS rfl ?_⟩
        have fin : ∀ HX, Same Hv HX → LamX.ExtN H3 HX ∧ LamX.Tabs [(Pt, qShared)] HX ∧ Bq HX b (30 * (j + 1)) := fun HX sX => ⟨xz.trans (.of sX), tbt.ext sX, (B.same sX).mono (by omega)⟩
        refine ⟨_, rfl, _, rfl, _, rfl, _, _, rfl, rfl, rfl, _, rfl, iteNS (by rw [elk]) ?_⟩
        refine ⟨_, rfl, lackingF cs os, rfl, fun Hw sw => ⟨_, rfl, iteF ?_⟩⟩
        by_cases h0 : lackingF cs os = 0
        · have e : lrF cs os (lackingF cs os) = none := if_pos h0
          have ew : V.int (sumR (sortR (rowsF cs os))) = V.int (os.map (·.2)).sum := by congr 1; omega
          rw [e]
          refine ⟨_, rfl, rfl, _, rfl, _, rfl, rfl, rfl, _, rfl, iteNS (by rw [decide_eq_true ew]; rfl) ?_⟩
          refine ⟨_, rfl, rfl, _, rfl, iteF ?_⟩
          exact ⟨_, _, _, _, _, _, _, _, _, _, _, _, _, rfl, fin _ sw⟩
        · obtain ⟨m, e, em⟩ := lr_some h0 (sh_lr kc ko h0)
          have ew : ¬ V.int (sumR (sortR (rowsF cs os))) = V.int (os.map (·.2)).sum := fun z => h0 (by have := V.int.inj z; omega)
          rw [e]
          refine ⟨_, rfl, rfl, _, rfl, _, rfl, rfl, rfl, _, rfl, iteNS (by rw [decide_eq_false ew]; rfl) ?_⟩
          refine ⟨_, rfl, rfl, _, rfl, iteT ?_⟩
          refine ⟨_, rfl, _, rfl, O, ys, os, m, rfl, SqL.of (sw _ _ hO), dpAll_same sw dO, by omega, fun HA sA => ?_⟩
          refine ⟨_, rfl, _, rfl, C, xs, cs, m, rfl, SqL.of (sA _ _ (sw _ _ hC)), dpAll_same (sw.trans sA) dc, by omega, fun HB sB => ⟨_, _, rfl, rfl, _, rfl, rfl, _, rfl, iteNS ?_ ?_⟩⟩
          · have e9 : abvF os m - abvF cs m = lackingF cs os := by
              have := S.low
              unfold lackF at em
              omega
            exact congrArg V.int e9
          · exact ⟨_, _, _, _, _, _, _, _, _, _, _, _, _, rfl, fin _ ((sw.trans sA).trans sB)⟩
      · rintro σ Hy ⟨v3, v4, v5, v6, v7, v8, v9, va, vb, vc, vd, ve, vf, rfl, xz, tbz, B⟩
        exact ⟨_, _, _, _, _, _, _, _, _, _, _, _, _, _, _, rfl, x3.trans xz, tbz⟩
    · rintro σ H2 ⟨v1, v2, v3, v4, v5, v6, v7, v8, v9, va, vb, vc, vd, ve, vf, rfl, x3, tb3⟩
      exact q _

end
end Pot

namespace Pot
open PySem PySem.Spec PyProof.Rows L2
set_option maxHeartbeats 4000000 in
theorem all_mk {l : PySem.W.OpenLaw} {w : World} {K : PySem.W.Frag} {h : Heap} {mg : Str → Option Value} {fa : Addr} (X : K.In h) (G : h.Ns mainGlobals mg) (hfa : mg "law" = some (.ref fa))
    {f1 cT1 pT1 : Addr} {od1 an1 oe1 : Option Addr} {sl1 sm1 : Array (Option Value)} {vT1 : Array Value} {oc1 kV1 dc1 pm1 ct1 of1 : Value}
    {f2 : Addr} {od2 an2 : Option Addr} {sl2 : Array (Option Value)} {oc2 kV2 dc2 pm2 cd2 ct2 : Value}
    {f3 : Addr} {od3 an3 : Option Addr} {sl3 : Array (Option Value)} {oc3 kV3 dc3 pm3 cd3 ct3 : Value}
    {f4 : Addr} {od4 an4 : Option Addr} {sl4 : Array (Option Value)} {oc4 kV4 dc4 pm4 cd4 ct4 : Value}
    {f5 : Addr} {od5 an5 : Option Addr} {sl5 : Array (Option Value)} {oc5 kV5 dc5 pm5 cd5 ct5 : Value}
    {f6 : Addr} {od6 an6 : Option Addr} {sl6 : Array (Option Value)} {oc6 kV6 dc6 pm6 cd6 ct6 : Value}
    {f7 : Addr} {od7 an7 : Option Addr} {sl7 : Array (Option Value)} {oc7 kV7 dc7 pm7 cd7 ct7 : Value}
    {f8 : Addr} {od8 an8 : Option Addr} {sl8 : Array (Option Value)} {oc8 kV8 dc8 pm8 cd8 ct8 : Value}
    {f9 : Addr} {od9 an9 : Option Addr} {sl9 : Array (Option Value)} {oc9 kV9 dc9 pm9 cd9 ct9 : Value}
    {f10 : Addr} {od10 an10 : Option Addr} {sl10 : Array (Option Value)} {oc10 kV10 dc10 pm10 cd10 ct10 : Value}
    {f11 : Addr} {od11 an11 : Option Addr} {sl11 : Array (Option Value)} {oc11 kV11 dc11 pm11 cd11 ct11 : Value}
    {f12 : Addr} {od12 an12 : Option Addr} {sl12 : Array (Option Value)} {oc12 kV12 dc12 pm12 cd12 ct12 : Value}
    {f13 : Addr} {od13 an13 : Option Addr} {sl13 : Array (Option Value)} {oc13 kV13 dc13 pm13 cd13 ct13 : Value}
    (a1 : PySem.W.nsIn K mainGlobals "shared" = some (some (.ref f1))) (l1 : K.lookup f1 = some ⟨oc1, od1, .func (PySem.W.fnOf "shared" "shared" (defArgs s_shared) (defBody s_shared) (defScope s_shared) .none kV1 dc1 pm1 an1 (.ref cT1) ct1), sl1⟩) (c1 : PySem.W.codeIn K (.ref cT1) "shared" = true) (k1 : PySem.W.keepIn K (.ref f1) = true)
    (m1 : K.lookup cT1 = some ⟨of1, oe1, .fields vT1, sm1⟩) (u1 : vT1[11]? = some (.ref pT1)) (e1 : PySem.W.codeHdIn K cT1 pT1 = true) (n1 : K.lookup pT1 = none) (h1 : h.get? pT1 = some (PySem.W.tabObj #[]))
    (a2 : PySem.W.nsIn K mainGlobals "made_of" = some (some (.ref f2))) (l2 : K.lookup f2 = some ⟨oc2, od2, .func (PySem.W.fnOf "made_of" "made_of" (defArgs s_made_of) (defBody s_made_of) (defScope s_made_of) .none kV2 dc2 pm2 an2 cd2 ct2), sl2⟩) (c2 : PySem.W.codeIn K cd2 "made_of" = true) (k2 : PySem.W.keepIn K (.ref f2) = true)
    (a3 : PySem.W.nsIn K mainGlobals "lacking_rank" = some (some (.ref f3))) (l3 : K.lookup f3 = some ⟨oc3, od3, .func (PySem.W.fnOf "lacking_rank" "lacking_rank" (defArgs s_lacking_rank) (defBody s_lacking_rank) (defScope s_lacking_rank) .none kV3 dc3 pm3 an3 cd3 ct3), sl3⟩) (c3 : PySem.W.codeIn K cd3 "lacking_rank" = true) (k3 : PySem.W.keepIn K (.ref f3) = true)
    (a4 : PySem.W.nsIn K mainGlobals "lack_by" = some (some (.ref f4))) (l4 : K.lookup f4 = some ⟨oc4, od4, .func (PySem.W.fnOf "lack_by" "lack_by" (defArgs s_lack_by) (defBody s_lack_by) (defScope s_lack_by) .none kV4 dc4 pm4 an4 cd4 ct4), sl4⟩) (c4 : PySem.W.codeIn K cd4 "lack_by" = true) (k4 : PySem.W.keepIn K (.ref f4) = true)
    (a5 : PySem.W.nsIn K mainGlobals "sum_from" = some (some (.ref f5))) (l5 : K.lookup f5 = some ⟨oc5, od5, .func (PySem.W.fnOf "sum_from" "sum_from" (defArgs s_sum_from) (defBody s_sum_from) (defScope s_sum_from) .none kV5 dc5 pm5 an5 cd5 ct5), sl5⟩) (c5 : PySem.W.codeIn K cd5 "sum_from" = true) (k5 : PySem.W.keepIn K (.ref f5) = true)
    (a6 : PySem.W.nsIn K mainGlobals "_law_begin" = some (some (.ref f6))) (l6 : K.lookup f6 = some ⟨oc6, od6, .func (PySem.W.fnOf "_law_begin" "_law_begin" (defArgs s__law_begin) (defBody s__law_begin) (defScope s__law_begin) .none kV6 dc6 pm6 an6 cd6 ct6), sl6⟩) (c6 : PySem.W.codeIn K cd6 "_law_begin" = true) (k6 : PySem.W.keepIn K (.ref f6) = true)
    (a7 : PySem.W.nsIn K mainGlobals "_law_take" = some (some (.ref f7))) (l7 : K.lookup f7 = some ⟨oc7, od7, .func (PySem.W.fnOf "_law_take" "_law_take" (defArgs s__law_take) (defBody s__law_take) (defScope s__law_take) .none kV7 dc7 pm7 an7 cd7 ct7), sl7⟩) (c7 : PySem.W.codeIn K cd7 "_law_take" = true) (k7 : PySem.W.keepIn K (.ref f7) = true)
    (a8 : PySem.W.nsIn K mainGlobals "_law_above" = some (some (.ref f8))) (l8 : K.lookup f8 = some ⟨oc8, od8, .func (PySem.W.fnOf "_law_above" "_law_above" (defArgs s__law_above) (defBody s__law_above) (defScope s__law_above) .none kV8 dc8 pm8 an8 cd8 ct8), sl8⟩) (c8 : PySem.W.codeIn K cd8 "_law_above" = true) (k8 : PySem.W.keepIn K (.ref f8) = true)
    (a9 : PySem.W.nsIn K mainGlobals "_law_whole" = some (some (.ref f9))) (l9 : K.lookup f9 = some ⟨oc9, od9, .func (PySem.W.fnOf "_law_whole" "_law_whole" (defArgs s__law_whole) (defBody s__law_whole) (defScope s__law_whole) .none kV9 dc9 pm9 an9 cd9 ct9), sl9⟩) (c9 : PySem.W.codeIn K cd9 "_law_whole" = true) (k9 : PySem.W.keepIn K (.ref f9) = true)
    (a10 : PySem.W.nsIn K mainGlobals "_law_are_rows" = some (some (.ref f10))) (l10 : K.lookup f10 = some ⟨oc10, od10, .func (PySem.W.fnOf "_law_are_rows" "_law_are_rows" (defArgs s__law_are_rows) (defBody s__law_are_rows) (defScope s__law_are_rows) .none kV10 dc10 pm10 an10 cd10 ct10), sl10⟩) (c10 : PySem.W.codeIn K cd10 "_law_are_rows" = true) (k10 : PySem.W.keepIn K (.ref f10) = true)
    (a11 : PySem.W.nsIn K mainGlobals "_law_splits" = some (some (.ref f11))) (l11 : K.lookup f11 = some ⟨oc11, od11, .func (PySem.W.fnOf "_law_splits" "_law_splits" (defArgs s__law_splits) (defBody s__law_splits) (defScope s__law_splits) .none kV11 dc11 pm11 an11 cd11 ct11), sl11⟩) (c11 : PySem.W.codeIn K cd11 "_law_splits" = true) (k11 : PySem.W.keepIn K (.ref f11) = true)
    (a12 : PySem.W.nsIn K mainGlobals "_law_most" = some (some (.ref f12))) (l12 : K.lookup f12 = some ⟨oc12, od12, .func (PySem.W.fnOf "_law_most" "_law_most" (defArgs s__law_most) (defBody s__law_most) (defScope s__law_most) .none kV12 dc12 pm12 an12 cd12 ct12), sl12⟩) (c12 : PySem.W.codeIn K cd12 "_law_most" = true) (k12 : PySem.W.keepIn K (.ref f12) = true)
    (a13 : PySem.W.nsIn K mainGlobals "law" = some (some (.ref f13))) (l13 : K.lookup f13 = some ⟨oc13, od13, .func (PySem.W.fnOf "law" "law" (defArgs s_law) (defBody s_law) (defScope s_law) .none kV13 dc13 pm13 an13 cd13 ct13), sl13⟩) (c13 : PySem.W.codeIn K cd13 "law" = true) (k13 : PySem.W.keepIn K (.ref f13) = true)
    (z1 : PySem.W.nsIn K mainGlobals "len" = some none)
    (z2 : PySem.W.nsIn K mainGlobals "divmod" = some none)
    (z3 : PySem.W.nsIn K mainGlobals "range" = some none)
    (z4 : PySem.W.nsIn K mainGlobals "sum" = some none)
    (z5 : PySem.W.nsIn K mainGlobals "all" = some none)
    (z6 : PySem.W.nsIn K mainGlobals "any" = some none)
    (z7 : PySem.W.nsIn K mainGlobals "isinstance" = some none)
    (z8 : PySem.W.nsIn K mainGlobals "str" = some none)
    (z9 : PySem.W.nsIn K mainGlobals "int" = some none)
    (z10 : PySem.W.nsIn K mainGlobals "list" = some none)
    (z11 : PySem.W.nsIn K mainGlobals "tuple" = some none)
    (z12 : PySem.W.nsIn K mainGlobals "bool" = some none)
    (z13 : PySem.W.nsIn K mainGlobals "zip" = some none)
    (z14 : PySem.W.nsIn K mainGlobals "set" = some none)
    (z15 : PySem.W.nsIn K mainGlobals "sorted" = some none)
    (z16 : PySem.W.nsIn K mainGlobals "enumerate" = some none)
    (z17 : PySem.W.nsIn K mainGlobals "repr" = some none)
    (z18 : PySem.W.nsIn K mainGlobals "min" = some none)
    (z19 : PySem.W.nsIn K mainGlobals "max" = some none)
    (z20 : PySem.W.nsIn K mainGlobals "abs" = some none)
    : ∃ (fd : FuncData) (cs : List (Addr × Addr)) (sp : Sp), (∀ p ∈ cs, h.get? p.2 = some (PySem.W.tabObj #[])) ∧ (∀ p ∈ cs, K.lookup p.2 = none) ∧ (∀ p ∈ cs, PySem.W.CodeHd h p.1 p.2) ∧ (∀ (s : Shared) (v : Value), BindsTo s fd ⟨[v], []⟩ [("_law_script", v)]) ∧
      (∀ (H : Hp) (a : Addr) (ns : List Int), ns.length ≤ 63 → (∀ p ∈ cs, H p.2 = some (.tbl #[])) → SqL K H a (ns.map V.int) → sp [.ref a] H (fun v _ => v = .bl true) E0) ∧
      ∀ base : Heap, K.In base → base.Ns mainGlobals mg → (∀ p ∈ cs, LamX.TabB base mg p.1 p.2) → FnG l.prog w K mg base 7 fa fd ["_law_script"] sp := by
  have e := hfa.symm.trans (PySem.W.mg_of X G a13)
  cases e
  have T : Txt mg := ⟨PySem.W.mg_none_of X G z1, PySem.W.mg_none_of X G z2, PySem.W.mg_none_of X G z3, PySem.W.mg_none_of X G z4, PySem.W.mg_none_of X G z5, PySem.W.mg_none_of X G z6, PySem.W.mg_none_of X G z7, PySem.W.mg_none_of X G z8, PySem.W.mg_none_of X G z9, PySem.W.mg_none_of X G z10, PySem.W.mg_none_of X G z11, PySem.W.mg_none_of X G z12, PySem.W.mg_none_of X G z13, PySem.W.mg_none_of X G z14, PySem.W.mg_none_of X G z15, PySem.W.mg_none_of X G z16, PySem.W.mg_none_of X G z17, PySem.W.mg_none_of X G z18, PySem.W.mg_none_of X G z19, PySem.W.mg_none_of X G z20⟩
  have F1 := fun_mk (st := s_shared) l1 c1 k1
  have b1 := F1.binds (ps := ["crews", "orders"]) fun _ _ _ _ _ _ us hl => match us, hl with | [_, _], _ => rfl
  have g1 := PySem.W.mg_of X G a1
  have F2 := fun_mk (st := s_made_of) l2 c2 k2
  have b2 := F2.binds (ps := ["crews", "orders", "order", "left"]) fun _ _ _ _ _ _ us hl => match us, hl with | [_, _, _, _], _ => rfl
  have g2 := PySem.W.mg_of X G a2
  have F3 := fun_mk (st := s_lacking_rank) l3 c3 k3
  have b3 := F3.binds (ps := ["crews", "orders", "lacking"]) fun _ _ _ _ _ _ us hl => match us, hl with | [_, _, _], _ => rfl
  have g3 := PySem.W.mg_of X G a3
  have F4 := fun_mk (st := s_lack_by) l4 c4 k4
  have b4 := F4.binds (ps := ["crews", "orders", "rank"]) fun _ _ _ _ _ _ us hl => match us, hl with | [_, _, _], _ => rfl
  have g4 := PySem.W.mg_of X G a4
  have F5 := fun_mk (st := s_sum_from) l5 c5 k5
  have b5 := F5.binds (ps := ["pairs", "rank"]) fun _ _ _ _ _ _ us hl => match us, hl with | [_, _], _ => rfl
  have g5 := PySem.W.mg_of X G a5
  have F6 := fun_mk (st := s__law_begin) l6 c6 k6
  have b6 := F6.binds (ps := ["_law_script", "_law_k"]) fun _ _ _ _ _ _ us hl => match us, hl with | [_, _], _ => rfl
  have g6 := PySem.W.mg_of X G a6
  have F7 := fun_mk (st := s__law_take) l7 c7 k7
  have b7 := F7.binds (ps := ["_law_state", "_law_many"]) fun _ _ _ _ _ _ us hl => match us, hl with | [_, _], _ => rfl
  have g7 := PySem.W.mg_of X G a7
  have F8 := fun_mk (st := s__law_above) l8 c8 k8
  have b8 := F8.binds (ps := ["_law_pairs", "_law_rank"]) fun _ _ _ _ _ _ us hl => match us, hl with | [_, _], _ => rfl
  have g8 := PySem.W.mg_of X G a8
  have F9 := fun_mk (st := s__law_whole) l9 c9 k9
  have b9 := F9.binds (ps := ["_law_thing"]) fun _ _ _ _ _ _ us hl => match us, hl with | [_], _ => rfl
  have g9 := PySem.W.mg_of X G a9
  have F10 := fun_mk (st := s__law_are_rows) l10 c10 k10
  have b10 := F10.binds (ps := ["_law_crews", "_law_orders", "_law_thing"]) fun _ _ _ _ _ _ us hl => match us, hl with | [_, _, _], _ => rfl
  have g10 := PySem.W.mg_of X G a10
  have F11 := fun_mk (st := s__law_splits) l11 c11 k11
  have b11 := F11.binds (ps := ["_law_many", "_law_tops"]) fun _ _ _ _ _ _ us hl => match us, hl with | [_, _], _ => rfl
  have g11 := PySem.W.mg_of X G a11
  have F12 := fun_mk (st := s__law_most) l12 c12 k12
  have b12 := F12.binds (ps := ["_law_crews", "_law_orders"]) fun _ _ _ _ _ _ us hl => match us, hl with | [_, _], _ => rfl
  have g12 := PySem.W.mg_of X G a12
  have F13 := fun_mk (st := s_law) l13 c13 k13
  refine ⟨PySem.W.fnOf "law" "law" (defArgs s_law) (defBody s_law) (defScope s_law) .none kV13 dc13 pm13 an13 cd13 ct13, [(cT1, pT1)], spLaw K pT1, (fun p hp => by
    simp only [List.mem_cons, List.not_mem_nil, or_false] at hp
    rcases hp with rfl
    · exact h1), (fun p hp => by
    simp only [List.mem_cons, List.not_mem_nil, or_false] at hp
    rcases hp with rfl
    · exact n1), (fun p hp => by
    simp only [List.mem_cons, List.not_mem_nil, or_false] at hp
    rcases hp with rfl
    · exact PySem.W.codeHd_of_K X e1), fun s v => .of_eq rfl, (fun H a ns hl hT hS => ⟨a, ns, rfl, hS, hl, (fun p hp => by
    simp only [List.mem_cons, List.not_mem_nil, or_false] at hp
    rcases hp with rfl
    · exact LamX.TabS.nil (hT (cT1, pT1) (by simp))), fun _ => rfl⟩), fun base _ _ hTB => ?_⟩
  have TB1 := hTB (cT1, pT1) (by simp)
  have c__law_take : Cl l.prog w K mg base 1 "_law_take" (spTake) := ⟨_, _, _, ok_take F7 T, g7, F7.kp, b7⟩
  have c__law_begin : Cl l.prog w K mg base 1 "_law_begin" ((spBegin K)) := ⟨_, _, _, ok_begin F6 T, g6, F6.kp, b6⟩
  have c_made_of : Cl l.prog w K mg base 1 "made_of" ((spMade K)) := ⟨_, _, _, ok_made F2 T, g2, F2.kp, b2⟩
  have c_sum_from : Cl l.prog w K mg base 1 "sum_from" ((spAbv K)) := ⟨_, _, _, ok_sumfrom F5 T, g5, F5.kp, b5⟩
  have c_lack_by : Cl l.prog w K mg base 2 "lack_by" ((spLack K)) := ⟨_, _, _, ok_lackby F4 T c_sum_from, g4, F4.kp, b4⟩
  have c_lacking_rank : Cl l.prog w K mg base 3 "lacking_rank" ((spLr K)) := ⟨_, _, _, ok_lr F3 T c_lack_by, g3, F3.kp, b3⟩
  have c_shared : Cl l.prog w K mg base 4 "shared" ((spShared K pT1)) := ⟨_, _, _, ok_shared F1 rfl T TB1 c_made_of c_lacking_rank, g1, F1.kp, b1⟩
  have c__law_splits : Cl l.prog w K mg base 5 "_law_splits" (spSpl K 4) := ⟨_, _, _, ok_splits (k0 := 0) F11 T b11 g11 4, g11, F11.kp, b11⟩
  have c__law_most : Cl l.prog w K mg base 6 "_law_most" ((spMostW K)) := ⟨_, _, _, ok_most F12 T c__law_splits, g12, F12.kp, b12⟩
  have c__law_whole : Cl l.prog w K mg base 1 "_law_whole" (spWh) := ⟨_, _, _, ok_lwhole F9 T, g9, F9.kp, b9⟩
  have c__law_are_rows : Cl l.prog w K mg base 2 "_law_are_rows" ((spArer K)) := ⟨_, _, _, ok_arer F10 T c__law_whole, g10, F10.kp, b10⟩
  have c__law_above : Cl l.prog w K mg base 1 "_law_above" ((spAbv K)) := ⟨_, _, _, ok_labove F8 T, g8, F8.kp, b8⟩
  exact ok_law F13 T c__law_take c__law_begin c_shared c__law_most c__law_are_rows c__law_whole c__law_above
end Pot
open PySem PySem.W PyProof.Rows
set_option maxRecDepth 100000 in
set_option maxHeartbeats 0 in
theorem PySem.Challenge.cw_potround_k44_shared_by_all_ways_holds : PySem.Challenge.rw_potround_k44_shared_by_all_ways.Holds := by
  w_on; o_law; k_head; (case hw => w_witness2)
  k_fill
  refine Pot.walkGT (l := PySem.Challenge.rw_potround_k44_shared_by_all_ways) (n := 63) (k := 7) (x := "_law_script") rfl (by decide) rfl ⟨rfl, by decide, by decide⟩ (fun w h Y => PySem.W.km_in_of Y) ?F
  case F =>
    intro w mg fa h Y KX G hmg
    refine' Pot.all_mk KX G hmg ?a1 ?l1 ?c1 ?k1 ?m1 ?u1 ?e1 ?n1 ?h1 ?a2 ?l2 ?c2 ?k2 ?a3 ?l3 ?c3 ?k3 ?a4 ?l4 ?c4 ?k4 ?a5 ?l5 ?c5 ?k5 ?a6 ?l6 ?c6 ?k6 ?a7 ?l7 ?c7 ?k7 ?a8 ?l8 ?c8 ?k8 ?a9 ?l9 ?c9 ?k9 ?a10 ?l10 ?c10 ?k10 ?a11 ?l11 ?c11 ?k11 ?a12 ?l12 ?c12 ?k12 ?a13 ?l13 ?c13 ?k13 ?z1 ?z2 ?z3 ?z4 ?z5 ?z6 ?z7 ?z8 ?z9 ?z10 ?z11 ?z12 ?z13 ?z14 ?z15 ?z16 ?z17 ?z18 ?z19 ?z20
    (case a1 => k_is)
    (case l1 => k_is)
    (case c1 => k_is)
    (case k1 => k_is)
    (case m1 => k_is)
    (case u1 => rfl)
    (case e1 => first | k_is | kernel_rfl | decide +kernel)
    (case n1 => first | k_is | kernel_rfl | rfl | decide +kernel)
    (case h1 => exact PySem.W.km_tabs_of Y _ (by first | k_mem | decide))
    (case a2 => k_is)
    (case l2 => k_is)
    (case c2 => k_is)
    (case k2 => k_is)
    (case a3 => k_is)
    (case l3 => k_is)
    (case c3 => k_is)
    (case k3 => k_is)
    (case a4 => k_is)
    (case l4 => k_is)
    (case c4 => k_is)
    (case k4 => k_is)
    (case a5 => k_is)
    (case l5 => k_is)
    (case c5 => k_is)
    (case k5 => k_is)
    (case a6 => k_is)
    (case l6 => k_is)
    (case c6 => k_is)
    (case k6 => k_is)
    (case a7 => k_is)
    (case l7 => k_is)
    (case c7 => k_is)
    (case k7 => k_is)
    (case a8 => k_is)
    (case l8 => k_is)
    (case c8 => k_is)
    (case k8 => k_is)
    (case a9 => k_is)
    (case l9 => k_is)
    (case c9 => k_is)
    (case k9 => k_is)
    (case a10 => k_is)
    (case l10 => k_is)
    (case c10 => k_is)
    (case k10 => k_is)
    (case a11 => k_is)
    (case l11 => k_is)
    (case c11 => k_is)
    (case k11 => k_is)
    (case a12 => k_is)
    (case l12 => k_is)
    (case c12 => k_is)
    (case k12 => k_is)
    (case a13 => k_is)
    (case l13 => k_is)
    (case c13 => k_is)
    (case k13 => k_is)
    (case z1 => k_is)
    (case z2 => k_is)
    (case z3 => k_is)
    (case z4 => k_is)
    (case z5 => k_is)
    (case z6 => k_is)
    (case z7 => k_is)
    (case z8 => k_is)
    (case z9 => k_is)
    (case z10 => k_is)
    (case z11 => k_is)
    (case z12 => k_is)
    (case z13 => k_is)
    (case z14 => k_is)
    (case z15 => k_is)
    (case z16 => k_is)
    (case z17 => k_is)
    (case z18 => k_is)
    (case z19 => k_is)
    (case z20 => k_is)
