import PyProof.Rows.All
import Wide.All
import OpenK.AllK
import Wide.FinOn
import HandS.ForMost
import PyProof.ReprRoads
import HandS.FStrTup
import HandS.Strs
import HandS.SetFor
import HandS.Zip
import HandS.ForExc
import HandS.IsInst
import HandS.Evl
import HandS.Conv
import HandS.Flow
import HandS.Style
import HandS.Sort
import HandS.Walk
import HandS.Codes
import HandS.StrMore
import HandS.TupAny
import HandS.Defaults
import KE.KEqSeq
import HandS.WideBits
import HandS.More
import KE.KLam
import KE.SortKeyHeap
import KE.SortData
import KE.SortLaws
import HandS.Base
import HandS.Call
import HandS.List
import HandS.Comp
import HandS.Text
import HandS.Lambda
import KE.KNestM
import PyProof.SetRoads
import HandS.Deep
import PyProof.StrBlock2
import KE.GoesNew
import HandS.DictTup
import HandS.DictSubView
import KE.KDictDisplayH
import KE.KDictWalk
import HandS.Small
import PySem.Challenge.RW_potround_k48_slots
set_option Elab.async false
set_option linter.all false
set_option maxRecDepth 100000
namespace Pot
open PySem PySem.Spec PyProof.Rows L2
/-! ### defs that are called where no text of a thing is under way -/
structure FnG (P : Program) (w : World) (K : PySem.W.Frag) (mg : Str → Option Value) (base : Heap) (k : Nat) (f : Addr) (fd : FuncData) (ps : List Str) (sp : Sp) : Prop where
  many : ∀ vs H Q E, sp vs H Q E → vs.length = ps.length
  does : ∀ (A : Around) (outer : List Env) (s : Shared) (H : Hp) (args : Args) (us : List Value) (vs : List V) (Q : VK), A.guards = some [] → Room k A → Env0 P w K mg base A outer s H →
    BindsTo s fd args (ps.zip us) → Vals vs us → sp vs H Q E0 → codeAny (model P w) A (.call (.ref f) args) (CR CX0 outer P w H s Q E0) s
section
variable {P : Program} {w : World} {K : PySem.W.Frag} {mg : Str → Option Value} {base : Heap}
theorem FnG.of {k : Nat} {f : Addr} {fd : FuncData} {ps : List Str} {sp : Sp} (F : FnOk P w K mg base CX0 k f fd ps sp) : FnG P w K mg base k f fd ps sp :=
  ⟨F.len, fun A outer s H args us vs Q _ hr e hb r h => F.run A outer s H args us vs Q E0 hr e hb r h⟩
theorem okG {x qual : Str} {st : Stmt} {f : Addr} {fd : FuncData} {N ps : List Str} {k : Nat} {sp : Sp} (F : Fun K x qual st f fd) (S : FnScope N ps (defScope st)) (many : ∀ vs H Q E, sp vs H Q E → vs.length = ps.length)
    (body : ∀ (cdv : Value) (A : Around) (outer : List Env) (s : Shared) (H : Hp) (vs : List V) (Q : VK), A.guards = some [] → Room k (A.deeper (envOfC qual (defScope st) s.heap.objs.size f cdv)) → sp vs H Q E0 →
      ∃ t, PSs (cxOf CX0 P w K mg base N qual (defScope st) f cdv A outer s H E0).nox (defBody st) t ∧ t { nx := fun _ H' => Q .non H', rt := Q } (start N vs) H) : FnG P w K mg base (k + 1) f fd ps sp := by
  obtain ⟨oc, od, kV, doc, pm, an, cdv, ct, osl, rfl, at_, code⟩ := F.ex
  refine ⟨many, fun A outer s H args us vs Q gd room e0 bind rel want => ?_⟩
  have kin : K.In s.heap := e0.mod.kin.keeps fun b o e => (e0.bs b o e).1
  have nolim : s.heap.NoLimit := e0.mod.nolimit.keeps fun b o e => (e0.bs b o e).1
  refine codeAny_call_function room.depth (kin _ _ at_) rfl S.co S.gen rfl (PySem.W.codeRec_of kin code) (bind _ _ _ _ (wpAny_newFunctionEnv_cells S.kind (fun y hy => ?_) fun env he s1 x => ?_))
  · obtain ⟨n, v⟩ := y
    exact (S.par n (List.of_mem_zip hy).1).imp id fun q => ⟨q, PySem.W.cellsFrom_some _ _ _ (.inl q)⟩
  · subst he
    obtain ⟨t, ht, hq⟩ := body cdv A outer s H vs Q gd (room.deeper _) want
    have I : Inv (cxOf CX0 P w K mg base N qual (defScope st) f cdv A outer s H E0) [] (start N vs) H s1 := inv_start S room.hd e0 (many _ _ _ _ want) rel x
    refine ⟨nolim.keeps x.toInCall.keep, codeAny_func (wpAny_mono (ht.nox.run [] s1 (start N vs) H _ I hq) (fun fl s' hs => ?_) fun _ _ z => z)⟩
    cases fl with
    | ret u =>
      obtain ⟨v, σ', H', J, rv, q⟩ := hs
      exact ⟨v, H', J.os, J.bare, J.base, J.hok, rv, q⟩
    | next =>
      obtain ⟨σ', H', J, q⟩ := hs
      exact ⟨V.non, H', J.os, J.bare, J.base, J.hok, rfl, q⟩
    | brk => obtain ⟨_, _, _, q⟩ := hs; exact q.elim
    | cont => obtain ⟨_, _, _, q⟩ := hs; exact q.elim
/-! calls -/
/-- a def that may be called by its name where no text is under way -/
def ClG (P : Program) (w : World) (K : PySem.W.Frag) (mg : Str → Option Value) (base : Heap) (k : Nat) (x : Str) (ds : List V) (sp : Sp) : Prop :=
  ∃ (f : Addr) (fd : FuncData) (ps : List Str) (dus : List Value), FnG P w K mg base k f fd ps sp ∧ mg x = some (.ref f) ∧ PySem.W.keepIn K (.ref f) = true ∧ Binds K fd ps dus ∧ Vals ds dus
theorem pe_clG {X : Cx} {k j : Nat} {x : Str} {ds : List V} {sp : Sp} {e : Expr} {es : List Expr} {t : TA} {p pos : Pos} (c : ClG X.prog X.w X.K X.mg X.base k x ds sp) (hr : Room j X.A) (gd : X.A.guards = some []) (hk : k ≤ j) (hg : Gl X x) (ha : PA X (e :: es) t)
    (hdb : (x == ("__debug__" : Str)) = false := by decide) (he : starEach (e :: es) X.env = (false, eval e X.env) :: starEach es X.env := by rfl) (hpl : (backTo pos (starEach es X.env)).any (·.1) = false := by rfl) :
    PE X (.Call (.Name x p) (e :: es) [] pos) (tCall sp ds E0 t) := by
  obtain ⟨f, fd, ps, dus, G, named, kept, binds, dv⟩ := c
  refine ⟨fun pins s σ H Q I h => wpAny_Call_Name_kw (ld_glob I hg named (PySem.W.callWith_K (h₀ := X.base) I.ok.mod.kin kept (thn (ha.run pos pins s σ H _ I h) fun us s1 hh => ?_) he hpl) hdb)⟩
  obtain ⟨vs, H1, I1, r, q⟩ := hh
  refine ⟨I1.kIn, ?_⟩
  have rel := r.append dv
  have n : (us ++ dus).length = ps.length := rel.length ▸ G.many _ _ _ _ q
  refine wpAny_call (codeAny_mono (G.does X.A X.stack s1 H1 ⟨us, []⟩ (us ++ dus) (vs ++ ds) Q gd (hr.mono hk) I1.env0 (binds s1 us I1.kIn n) rel q) fun res s' hq => ?_)
  rcases res with _ | fl
  case error => exact (show False from hq).elim
  cases fl <;> first | exact I1.after hq | exact (show False from hq).elim
/-! the law's own call -/
theorem law_callG {mb : Str → Option Value} {k : Nat} {fa a : Addr} {fd : FuncData} {x : Str} {sp : Sp} {s : Shared} {vs : List Value} {ns : List Int} (kin : K.In s.heap) (glob : s.heap.Ns mainGlobals mg) (blt : s.heap.Ns builtinsNs mb)
    (boot : ∀ y : Str, y ≠ "__name__" → mb y = bootBuiltins y) (lim : s.heap.NoLimit) (gens : s.gens = #[]) (obj : s.heap.get? a = some { cls := .type "list", data := .seq vs.toArray }) (whole : IntsAre vs ns) (small : ns.length ≤ sizeLine) (room : Room k callerA)
    (F : ∀ base : Heap, K.In base → base.Ns mainGlobals mg → FnG P w K mg base k fa fd [x] sp) (bind : ∀ (s : Shared) (u : Value), BindsTo s fd ⟨[u], []⟩ [(x, u)])
    (want : ∀ H : Hp, Only H → SqL K H a (ns.map V.int) → sp [.ref a] H (fun v _ => v = .bl true) E0) :
    codeAny (model P w) callerA (.call (.ref fa) ⟨[.ref a], []⟩) (fun r s' => r = .ok (.ret (.bool true)) ∧ OldK s.heap s'.heap ∧ s'.os = s.os ∧ AllBare s'.gens) s := by
  have rv := vals_ints whole
  have nv := whole.length
  -- which heap is told: the script, locked, where it isn't one of the written part
  obtain ⟨H, only, seq, fine, alone, apart⟩ : ∃ H : Hp, Only H ∧ SqL K H a (ns.map V.int) ∧ HOk P w H s.heap ∧ (∀ b u, H b = some u → b = a) ∧ (∀ u, H a = some u → K.lookup a = none) := by
    cases lk : K.lookup a with
    | some o =>
      have same := kin a o lk
      rw [obj] at same
      cases same
      exact ⟨fun _ => none, fun _ => .inl rfl, .inr ⟨_, vs.toArray, _, lk, rfl, rfl, rfl, by rw [List.size_toArray, nv]; exact small, by simpa using rv⟩, (fun b u z => nomatch (show (none : Option HO) = some u from z)), (fun b u z => nomatch (show (none : Option HO) = some u from z)), fun u z => nomatch (show (none : Option HO) = some u from z)⟩
    | none =>
      have hit : ∀ b u, (if b = a then some (HO.frz { cls := .type "list", data := .seq vs.toArray } (.lst (ns.map V.int))) else none) = some u → b = a ∧ u = .frz { cls := .type "list", data := .seq vs.toArray } (.lst (ns.map V.int)) := fun b u z => by
        split at z
        · cases z; exact ⟨‹_›, rfl⟩
        · cases z
      refine ⟨fun b => if b = a then some (.frz { cls := .type "list", data := .seq vs.toArray } (.lst (ns.map V.int))) else none, fun b => ?_, .inl (.inr ⟨_, if_pos rfl⟩), fun b u z => ?_, fun b u z => (hit b u z).1, fun _ _ => rfl⟩
      · by_cases hb : b = a
        · exact .inr ⟨_, _, if_pos hb⟩
        · exact .inl (if_neg hb)
      · obtain ⟨rfl, rfl⟩ := hit b u z
        exact ⟨obj, by rw [List.length_map]; exact small, vs, _, rv, obj⟩
  have hid : ∀ {b : Addr} {o : Obj}, s.heap.get? b = some o → (b = a → H a = none) → (hidT s.heap H).get? b = some o := fun {b o} e n => hidT_get e (by
    cases q : H b with
    | none => rfl
    | some u =>
      have e2 := alone b u q
      subst e2
      rw [n rfl] at q
      cases q)
  have kinB : K.In (hidT s.heap H) := fun b o e => hid (kin b o e) fun z => by
    subst z
    cases q : H b with
    | none => rfl
    | some u => rw [apart u q] at e; cases e
  have ns_ : ∀ {b : Addr} {m : Str → Option Value}, s.heap.Ns b m → (hidT s.heap H).Ns b m := fun {b m} h => by
    obtain ⟨o, es, ep, e, d, r⟩ := h
    refine ⟨o, es, ep, hid e fun z => ?_, d, r⟩
    subst z
    rw [obj] at e
    cases e
    exact nomatch (show Data.seq vs.toArray _ = Data.dict es ep from d)
  have md : Mod K mg (hidT s.heap H) := ⟨kinB, ns_ glob, ⟨mb, ns_ blt, boot⟩, by obtain ⟨mc, h1, h2⟩ := lim; exact ⟨mc, ns_ h1, h2⟩⟩
  have e0 : Env0 P w K mg (hidT s.heap H) callerA [] s H := ⟨rfl, md, fun b o e => of_hidT e, Nat.le_of_eq (hidT_size _ _), trivial, (fun b hb => nomatch (show b ∈ ([] : List Addr) from hb)), fine, .of_eq gens⟩
  refine codeAny_mono ((F _ kinB (ns_ glob)).does callerA [] s H ⟨[.ref a], []⟩ [.ref a] [.ref a] _ rfl room e0 (bind s (.ref a)) (.cons rfl .nil) (want H only seq)) fun res s' h => ?_
  rcases res with _ | fl
  case error => exact (show False from h).elim
  cases fl <;> first | exact (show False from h).elim | skip
  obtain ⟨v, H', os, bare, un, fine', rel, q⟩ := h
  cases (show v = .bl true from q)
  cases (show _ = Value.bool true from rel)
  refine ⟨rfl, OldK.of_keep fun b o e => ?_, os, bare⟩
  cases q : H b with
  | none => exact un.keep b o e q (fun z => nomatch (show b ∈ ([] : List Addr) from z)) (fun z => nomatch z)
  | some u =>
    rcases only b with z | ⟨ob, xs, z⟩
    · rw [q] at z; cases z
    · obtain ⟨e1, _⟩ := fine b _ z
      obtain ⟨e2, _⟩ := fine' b _ (un.frzs b ob _ z)
      rw [e] at e1; cases e1
      exact e2
end
theorem walkG {l : PySem.W.OpenLaw} {n k : Nat} {q : Program} {loose : List Str} {XP : (Str → Option Value) → Heap → Prop} {YP : World → Heap → Prop} {d : DefRec} {K : Params → PySem.W.Frag} {sp : World → Sp} {x : Str}
    (most : l.most = some n) (fits : n ≤ sizeLine) (plain : d.params.defaults = []) (room : Room k callerA) (part : ∀ (w : World) (h : Heap), YP w h → (K w.params).In h)
    (F : ∀ (w : World) (mg : Str → Option Value) (fa : Addr) (h : Heap), (K w.params).In h → h.Ns mainGlobals mg → mg d.name = some (.ref fa) →
      ∃ fd : FuncData, (∀ (s : Shared) (u : Value), BindsTo s fd ⟨[u], []⟩ [(x, u)]) ∧ ∀ base : Heap, (K w.params).In base → base.Ns mainGlobals mg → FnG l.prog w (K w.params) mg base k fa fd [x] (sp w))
    (want : ∀ (w : World) (H : Hp) (a : Addr) (ns : List Int), ns.length ≤ n → Only H → SqL (K w.params) H a (ns.map V.int) → sp w [.ref a] H (fun v _ => v = .bl true) E0) :
    PySem.W.WalkO q loose XP YP l.row.toRowW d [] (fun f vs => PySem.call f vs) := by
  refine Att.attach_call most plain fun w s₀ s₁ mg mb fa o pm cd doc a vs ns G Y _ _ _ named obj whole len gens => ?_
  obtain ⟨fd, bind, hF⟩ := F w mg fa _ (part w _ Y) G.T.g named
  exact law_callG (part w _ Y) G.T.g G.T.b G.T.builtins G.T.nolimit gens obj whole (Nat.le_trans len fits) room hF bind fun H only seq => want w H a ns len only seq
end Pot

namespace Pot
open PySem PySem.Spec PyProof.Rows L2
/-! ### repr of what is made of numbers, texts, truths, None, lists and tuples -/
section
variable {K : PySem.W.Frag}
mutual
theorem dp_noDict {H : Hp} : ∀ {v : V} {d : PyData}, Dp K H v d → d.hasDict = false
  | _, _, .non => rfl
  | _, _, .bl _ => rfl
  | _, _, .int _ => rfl
  | _, _, .str _ => rfl
  | _, _, .lst _ a => dpAll_noDict a
  | _, _, .tup _ a => dpAll_noDict a
theorem dpAll_noDict {H : Hp} : ∀ {vs : List V} {ds : List PyData}, DpAll K H vs ds → PyData.hasDictAll ds = false
  | _, _, .nil => rfl
  | _, _, .cons h t => by
    show (PyData.hasDict _ || PyData.hasDictAll _) = false
    rw [dp_noDict h, dpAll_noDict t]
    rfl
end
/-- how long its text may be, told roughly -/
def costAll : List PyData → Nat
  | [] => 0
  | x :: xs => cost x + 2 + costAll xs
where cost : PyData → Nat
  | .none => 4
  | .bool _ => 5
  | .int _ => 1921
  | .str x => 10 * x.length + 2
  | .list xs => costAll xs + 3
  | .tuple xs => costAll xs + 3
  | .dict _ => 0
/-- what repr is asked of here: its texts of plain signs -/
def fineAll : List PyData → Prop
  | [] => True
  | x :: xs => fine x ∧ fineAll xs
where fine : PyData → Prop
  | .none => True
  | .bool _ => True
  | .int i => i.natAbs.log2 < 1920
  | .str x => ∀ c ∈ x.cps.toList, c < 16 ^ 8
  | .list xs => fineAll xs
  | .tuple xs => fineAll xs
  | .dict _ => False
theorem from_len : ∀ (ts : List Str) (k : Nat) (acc : Str), (textFrom k acc ts).length ≤ acc.length + piled ts
  | [], k, acc => by rw [piled_nil]; exact Nat.le_refl _
  | t :: r, k, acc => by
    have ih := from_len r (k + 1)
    rw [piled_cons]
    unfold textFrom
    refine Nat.le_trans (ih _) ?_
    rw [strLen_append]
    split
    · rw [strLen_append]
      have e : (", " : Str).length = 2 := by decide +kernel
      omega
    · rw [strLen_append]
      have e : ("" : Str).length = 0 := by decide +kernel
      omega
theorem list_len (ts : List Str) : (listText ts).length ≤ piled ts + 2 := by
  unfold listText
  rw [strLen_append]
  have h := from_len ts 0 "["
  have e1 : ("[" : Str).length = 1 := by decide +kernel
  have e2 : ("]" : Str).length = 1 := by decide +kernel
  omega
mutual
theorem shown_len : ∀ d : PyData, fineAll.fine d → d.shown.length ≤ costAll.cost d
  | .none, _ => by decide +kernel
  | .bool b, _ => by cases b <;> decide +kernel
  | .int i, h => PyProof.Rows.int_text_len_1921 h
  | .str x, h => StrLaws.reprText_len x h
  | .list xs, h => Nat.le_trans (list_len _) (Nat.add_le_add (piled_len xs h) (by decide))
  | .tuple xs, h => Nat.le_trans (fmt_text _) (Nat.add_le_add (piled_len xs h) (by decide))
  | .dict _, h => h.elim
theorem piled_len : ∀ ds : List PyData, fineAll ds → piled (PyData.shownAll ds) ≤ costAll ds
  | [], _ => Nat.le_refl _
  | x :: xs, h => by
    have h1 := shown_len x h.1
    have h2 := piled_len xs h.2
    show piled (x.shown :: PyData.shownAll xs) ≤ costAll.cost x + 2 + costAll xs
    rw [piled_cons]
    omega
end
mutual
theorem fine_show : ∀ d : PyData, fineAll.fine d → d.showable = true
  | .none, _ => rfl
  | .bool _, _ => rfl
  | .int i, h => decide_eq_true h
  | .str _, _ => rfl
  | .list xs, h => fineAll_show xs h
  | .tuple xs, h => fineAll_show xs h
  | .dict _, h => h.elim
theorem fineAll_show : ∀ ds : List PyData, fineAll ds → PyData.showableAll ds = true
  | [], _ => rfl
  | x :: xs, h => by
    show (PyData.showable x && PyData.showableAll xs) = true
    rw [fine_show x h.1, fineAll_show xs h.2]
    rfl
end
end
section
variable {X : Cx}
def rRepr (K : PySem.W.Frag) : List V → Hp → VK → Prop := fun xs H Q => ∃ (a : Addr) (d : PyData), xs = [V.ref a] ∧ Dp K H (.ref a) d ∧ fineAll.fine d ∧ d.depth ≤ 60 ∧ costAll.cost d ≤ 16777216 ∧ Q (.str d.shown) H
theorem cr_repr (gd : X.A.guards = some []) (hu : X.A.units + 64 < cLine) : CallR X (.builtin "repr") (rRepr X.K) := by
  intro pins s σ H vs us Q I r h
  obtain ⟨a, d, rfl, dp, sh, dep, sz, q⟩ := h
  rw [Vals.ref1 r]
  obtain ⟨as, rd⟩ := Dp.reads I d (.ref a) (.ref a) dp rfl
  refine repr_of_reads' rd (fine_show d sh) (fun z => ?_) gd (by omega) (fun _ _ e => e) (fun h' u tk k => ⟨.str d.shown, H, I.kept k, ⟨u, rfl⟩, q⟩) (Nat.le_trans (shown_len d sh) (by rw [sizeLine_eq]; exact sz))
  rw [dp_noDict dp] at z
  cases z
end
end Pot

namespace Pot
open PySem PySem.Spec PyProof.Rows L2 PySem.W PySem.Calls
/-! ### set(xs) of a list of ints -/
/-- the object that set() makes first -/
abbrev emptySet (w : World) : Obj := { cls := .type "set", dict := none, data := .set #[] 0 (.fresh 0 0 (!w.params.followText "set-order")) }
section
variable {P : Program} {w : World} {A : Around} {E : Value → Shared → Prop} {s : Shared}
/-- what is wanted behind the filling -/
def Filled (w : World) (s : Shared) (ns : List Int) (s' : Shared) : Prop := ∃ h' tk c, s' = { s with heap := h', toks := tk } ∧ SetR w h' s.heap.objs.size (fun j => decide (j ∈ ns)) c ∧ c ≤ ns.length ∧ ∀ b o, s.heap.get? b = some o → h'.get? b = some o
set_option maxHeartbeats 4000000 in
theorem call_set_li {l : Addr} {items : Array Value} (ns : List Int) {Q : Value → Shared → Prop} (hh : A.handled = none) (hl : s.heap.IsList l items) (hit : IntsAre items.toList ns) (hb : ns.length + 1 < scanBound)
    (hq : ∀ s', Filled w s ns s' → Q (.ref s.heap.objs.size) s') : wpAny (model P w) A (call (.type "set") [.ref l]) Q E s := by
  have size : items.size = ns.length := by
    rw [← Array.length_toList]; exact IntsAre.length hit
  have made := F.called_set.made
  have below := F.called_set.sub
  obtain ⟨_, _, chain⟩ := F.called_set.mro
  have nt := F.called_set.notType
  have cc := F.called_set.canCreate
  have ck := F.typeCall_set_1 (.ref l)
  refine wpAny_call (codeAny_of_tree (show wpAny _ _ (callAny (.type "set") _) _ _ _ from wpAny_pure ⟨Code.quiet_builtin _ (by decide +kernel), codeAny_builtin F.entry_type_call ?_⟩))
  rw [Around.under_plain (weight_type_call_type "set" [.ref l] []) rfl]
  repeat (any_goals (first | assumption | wp_step))
  refine codeAny_mono (code_set_led1 (.ref l) (E := E) (Q₁ := fun obj z => obj = .ref s.heap.objs.size ∧ z = { s with heap := s.heap.push (emptySet w) }) ⟨rfl, rfl⟩) fun r z hr => ?_
  rcases r with _ | fl
  case error => exact hr
  cases fl <;> first | exact hr.elim | skip
  obtain ⟨rfl, rfl⟩ := hr
  have at0 : (s.heap.push (emptySet w)).get? s.heap.objs.size = some (emptySet w) := Heap.get?_push_size _ rfl
  have ty0 : Shared.TypeIs { s with heap := s.heap.push (emptySet w) } (.ref s.heap.objs.size) "set" := ⟨_, at0, rfl⟩
  have li := F.called_set.init.lookup
  have bi := F.called_set.init.bind (.ref s.heap.objs.size)
  repeat (any_goals (first | assumption | wp_step))
  refine codeAny_mono (codeAny_call_builtin (R := wants (fun r z => r = .none ∧ Filled w s ns z) E) F.called_set.init.plain F.entry_set_init (check_set_init_1 ty0 ?_)) fun r z hz => ?_
  · obtain ⟨⟨_, od, _, os⟩, hol, hcl, nl, hdl⟩ := hl
    simp only at hcl hdl
    subst hcl
    subst hdl
    have keep : (s.heap.push (emptySet w)).get? l = some { cls := .type "list", dict := od, data := .seq items nl, slots := os } := Heap.get?_push_of_some _ hol
    have s1 := F.sub_list_set
    have s2 := F.sub_list_frozenset
    have s3 : (Value.type "list" == Value.type "dict") = false := by decide
    have isl : (s.heap.push (emptySet w)).IsList l items := ⟨_, keep, rfl, nl, rfl⟩
    unfold Builtin.«set.__init__» noKeywords Builtin.Frozenset.updateFrom
    generalize hPI : pyIter = PI
    wp_walk
    subst hPI
    refine wpAny_pyIter_list isl (wpAny_bind (wpAny_runValue ?_))
    have lt : l < s.heap.objs.size := Heap.lt_size hol
    have sz : (s.heap.push (emptySet w)).objs.size = s.heap.objs.size + 1 := Heap.size_push ..
    have ne1 : l ≠ (s.heap.push (emptySet w)).objs.size := by rw [sz]; exact Nat.ne_of_lt (Nat.lt_succ_of_lt lt)
    have ne2 : s.heap.objs.size ∉ [(s.heap.push (emptySet w)).objs.size, l] := by
      rw [sz]
      intro z
      rcases List.mem_cons.mp z with z | z
      · exact absurd z (Nat.ne_of_lt (Nat.lt_succ_self _))
      · exact absurd (List.mem_singleton.mp z) (Nat.ne_of_gt lt)
    have each : ∀ (i : Nat) (v : Value), items[i]? = some v → ∃ k t, ns[i]? = some k ∧ v = .int k t := fun i v hv => by
      have hi : i < ns.length := size ▸ (Array.getElem?_eq_some_iff.mp hv).1
      obtain ⟨t, e⟩ := IntsAre.int_at hit i v (by rw [Array.getElem?_toList]; exact hv)
      exact ⟨ns[i], t, List.getElem?_eq_getElem hi, by rw [e, List.getD_eq_getElem?_getD, List.getElem?_eq_getElem hi]; rfl⟩
    refine set_update_ints ((Walks.list (show A.in1.in1.in1.handled = none by simp [hh]) _ l ne1 items).toS) s.heap.objs.size ne2 ns size hb each (items.size - 0) 0 _ (by omega) (Nat.zero_le _) ⟨⟨_, Heap.get?_push_size _ rfl, rfl, rfl⟩, isl.push _⟩ ⟨0, Nat.le_refl 0, setR_new_at (Heap.get?_push_of_some _ at0)⟩ fun s' c hm hc hS => ?_
    obtain ⟨h', g, d, tk, o⟩ := s'
    cases (show g = s.gens from hm.gens)
    cases (show d = s.drawn from hm.drawn)
    cases (show o = s.os from hm.os)
    refine (show wpAny _ _ _ _ _ _ from wpAny_pure (show wpAny _ _ (ret Value.none) _ _ _ from wpAny_pure ⟨rfl, h', tk, c, rfl, hS, size ▸ hc, fun b o e => ?_⟩))
    have hb0 : b < s.heap.objs.size := Heap.lt_size e
    refine hm.heap b o (fun z => ?_) (Heap.get?_push_of_some _ (Heap.get?_push_of_some _ e))
    rcases List.mem_cons.mp z with z | z
    · exact absurd z (Nat.ne_of_lt hb0)
    · exact absurd ((List.mem_singleton.mp z).trans sz) (Nat.ne_of_lt (Nat.lt_succ_of_lt hb0))
  · rcases r with _ | fl
    case error => exact hz
    cases fl <;> first | exact hz.elim | skip
    obtain ⟨rfl, f⟩ := hz
    obtain ⟨h', tk, c, rfl, hS, hc, k⟩ := id f
    repeat (any_goals (first | assumption | wp_step))
    exact hq _ ⟨_, _, _, rfl, hS, hc, k⟩
end
section
variable {X : Cx}
/-- set(xs), at most 60 ints: a set of just these -/
def rSetLi (K : PySem.W.Frag) (w : World) : List V → Hp → VK → Prop := fun xs H Q => ∃ (a : Addr) (ns : List Int), xs = [V.ref a] ∧ SqL K H a (ns.map V.int) ∧ ns.length ≤ 1000 ∧
  ∀ (p : Addr) (c : Nat), H p = none → c ≤ ns.length → Q (.ref p) (upd H p (SetO w p (fun k => decide (k ∈ ns)) c))
theorem cr_setLi (hc : X.calm = true) : CallR X (.type "set") (rSetLi X.K X.w) := by
  intro pins s σ H vs us Q I r h
  obtain ⟨a, ns, rfl, hS, hl, q⟩ := h
  rw [Vals.ref1 r]
  obtain ⟨its, rv, pl, hz⟩ := I.list hS
  refine call_set_li ns (I.ok.hd hc) pl.isList (by simpa using Vals.ints rv) (by unfold scanBound; omega) fun s' f => ?_
  obtain ⟨h', tk, c, rfl, R, hcn, k⟩ := f
  have hn : H s.heap.objs.size = none := I.hok.fresh (Nat.le_refl _)
  have J : Inv X pins σ (upd H s.heap.objs.size (SetO X.w s.heap.objs.size (fun k => decide (k ∈ ns)) c)) { s with heap := h', toks := tk } := I.laid (t' := tk) k (Nat.le_refl _) (setO_new R)
  exact ⟨.ref s.heap.objs.size, _, J, rfl, q _ _ hn hcn⟩
end
end Pot

/-! The rules whose readings name the written part, with it as a letter of its own. -/
namespace Pot
open PySem PySem.Spec PyProof.Rows L2
section
variable {X : Cx} {K : PySem.W.Frag}
theorem kx_list (h : X.K = K := by rfl) : IxR X (rIxL K) := h ▸ ix_list
theorem kx_tup (h : X.K = K := by rfl) : IxR X (rIxT K) := h ▸ ix_tup
theorem kl_list (h : X.K = K := by rfl) : SlR X (rSlL K) := h ▸ sl_list
theorem kl_tup (h : X.K = K := by rfl) : SlR X (rSlA K) := h ▸ sl_tupA
theorem ko_in (h : X.K = K := by rfl) : OpR X (compareOp .In) (rIn K false) := h ▸ op_in_seq
theorem ko_eq (hu : X.A.units + 64 < cLine) (h : X.K = K := by rfl) : OpR X (compareOp .Eq) (rEqD K) := h ▸ op_eqD hu
theorem ko_ne (hu : X.A.units + 64 < cLine) (h : X.K = K := by rfl) : OpR X (compareOp .NotEq) (rNeD K) := h ▸ op_neD hu
def rLen (K : PySem.W.Frag) : List V → Hp → VK → Prop := fun xs H Q => ∃ x n, xs = [x] ∧ LenV K x H n ∧ Q (.int n) H
theorem kc_len (h : X.K = K := by rfl) : CallR X (.builtin "len") (rLen K) := by subst h; exact call_len
def rListOf (K : PySem.W.Frag) : List V → Hp → VK → Prop := fun xs H Q => ∃ p ys, xs = [.ref p] ∧ (SqL K H p ys ∨ SqT K H p ys) ∧ ∀ l, H l = none → Q (.ref l) (upd H l (.lst ys))
theorem kc_list (h : X.K = K := by rfl) : CallR X (.type "list") (rListOf K) := by subst h; exact call_list_of
def rTupleOf (K : PySem.W.Frag) : List V → Hp → VK → Prop := fun xs H Q => ∃ p ys, xs = [.ref p] ∧ ((SqL K H p ys ∧ ∀ l, H l = none → Q (.ref l) (upd H l (.tup ys))) ∨ (SqT K H p ys ∧ Q (.ref p) H))
theorem kc_tuple (h : X.K = K := by rfl) : CallR X (.type "tuple") (rTupleOf K) := by subst h; exact call_tuple_of
theorem kc_sum (hc : X.calm = true := by rfl) (h : X.K = K := by rfl) : CallR X (.builtin "sum") (rSum K) := h ▸ cr_sum hc
theorem kc_all (hc : X.calm = true := by rfl) (h : X.K = K := by rfl) : CallR X (.builtin "all") (rAll K) := h ▸ cr_all hc
theorem kc_any (hc : X.calm = true := by rfl) (h : X.K = K := by rfl) : CallR X (.builtin "any") (rAny K) := h ▸ cr_any hc
theorem kc_sorted (h : X.K = K := by rfl) : CallR X (.builtin "sorted") (rSorted K) := h ▸ cr_sorted
theorem kc_sortedS (h : X.K = K := by rfl) : CallR X (.builtin "sorted") (rSortedS K) := h ▸ cr_sortedS
theorem kc_isi (h : X.K = K := by rfl) : CallR X (.builtin "isinstance") (rIsi K) := h ▸ call_isi
theorem kc_isiT (h : X.K = K := by rfl) : CallR X (.builtin "isinstance") (rIsiT K) := h ▸ call_isiT
theorem kc_repr (gd : X.A.guards = some []) (hu : X.A.units + 64 < cLine) (h : X.K = K := by rfl) : CallR X (.builtin "repr") (rRepr K) := h ▸ cr_repr gd hu
theorem kc_setLi {w : World} (hc : X.calm = true := by rfl) (h : X.K = K := by rfl) (hw : X.w = w := by rfl) : CallR X (.type "set") (rSetLi K w) := by subst h; subst hw; exact cr_setLi hc
theorem kc_sortedSet {w : World} (hc : X.calm = true := by rfl) (hw : X.w = w := by rfl) : CallR X (.builtin "sorted") (rSortedSet w) := hw ▸ cr_sortedSet hc
theorem ki_list {tg l : Expr} {tl : TE} (hl : PE X l tl) (h : X.K = K := by rfl) : PI X tg l (iList K tl) := h ▸ pi_list hl
theorem ki_tup {tg l : Expr} {tl : TE} (hl : PE X l tl) (h : X.K = K := by rfl) : PI X tg l (iTup K tl) := h ▸ pi_tup hl
theorem ki_zip {e e2 : Expr} {ta : TA} {p pos tpos : Pos} {elts : List Expr} {kk : Nat} (hg : Gl X "zip") (hm : X.mg "zip" = none) (ha : PA X [e, e2] ta) (hs : starEach [e, e2] X.env = (false, eval e X.env) :: starEach [e2] X.env := by rfl)
    (hpl : (backTo pos (starEach [e2] X.env)).any (·.1) = false := by rfl) (h : X.K = K := by rfl) : PI X (.Tuple elts kk tpos) (.Call (.Name "zip" p) [e, e2] [] pos) (RZ.iZipA K ta) := h ▸ RZ.pi_zipA hg hm ha hs hpl
theorem ki_enum {e : Expr} {ta : TA} {p pos tpos : Pos} {elts : List Expr} {kk : Nat} (hg : Gl X "enumerate") (hm : X.mg "enumerate" = none) (ha : PA X [e] ta) (hs : starEach [e] X.env = [(false, eval e X.env)] := by rfl) (h : X.K = K := by rfl)
    : PI X (.Tuple elts kk tpos) (.Call (.Name "enumerate" p) [e] [] pos) (iEnum K ta) := h ▸ pi_enum hg hm ha hs
theorem kg_tup {pos : Pos} {es : List Expr} {k : Nat} {t : TGs} {n : Nat} (h : PGs X es t) (hc : X.calm = true := by rfl) (hn : (assignEach es X.env).length = n := by rfl) (hst : (assignEach es X.env).findIdx? (·.1) = none := by rfl) (hk : X.K = K := by rfl) : PG X (.Tuple es k pos) (gTup K n t) := hk ▸ pg_tup hc h hn hst
def tTru (K : PySem.W.Frag) (ta : TE) : TT := fun σ H Q => ta σ H fun x H' => ∃ k, TruV K x H' k ∧ Q k H'
theorem kt_truth {a : Expr} {ta : TE} (ha : PE X a ta) (he : ∀ whole, isTrue a X.env whole = (do let v ← whole; standAt a.pos; holding [v] (truthy v)) := by intro _; rfl) (h : X.K = K := by rfl) : PT X a (tTru K ta) := by subst h; exact pt_truth ha he
def rJoin (K : PySem.W.Frag) : V → List V → Hp → VK → Prop := fun x xs H Q => ∃ a p, ∃ ys : List Str, x = .str a ∧ xs = [.ref p] ∧ (SqL K H p (ys.map V.str) ∨ SqT K H p (ys.map V.str)) ∧ (ys.map (·.length)).sum + ys.length * a.length ≤ 16777216 ∧ Q (.str (Txt.join a ys)) H
theorem ke_join {o e : Expr} {to te : TE} {apos pos : Pos} (ho : PE X o to) (he : PE X e te) (hs : starEach [e] X.env = [(false, eval e X.env)] := by rfl) (hbase : attributeBase o "join" X.env (eval o X.env) = eval o X.env := by rfl) (hline : (apos.endLine == pos.line) = true := by rfl) (h : X.K = K := by rfl) :
    PE X (.Call (.Attribute o "join" apos) [e] [] pos) (tM1 (rJoin K) to te) := by subst h; exact pe_join ho he hs hbase hline
theorem pss_never {st : List Stmt} : PSs X st (fun _ _ _ => False) := ⟨fun _ _ _ _ _ _ h => h.elim⟩
theorem ps_never {st : Stmt} : PS X st (fun _ _ _ => False) := ⟨fun _ _ _ _ _ _ h => h.elim⟩
theorem pe_never {e : Expr} : PE X e (fun _ _ _ => False) := ⟨fun _ _ _ _ _ _ h => h.elim⟩
theorem tYes_at {σ : L2.St} {H : Hp} {Q : Bool → Hp → Prop} (h : Q true H) : tYes σ H Q := h
end
end Pot

namespace Pot
open PySem PySem.Spec PyProof.Rows L2
/-- built-in names that the module gives no other meaning -/
structure Txt (mg : Str → Option Value) : Prop where
  len : mg "len" = none
  divmod : mg "divmod" = none
  range : mg "range" = none
  sum : mg "sum" = none
  all : mg "all" = none
  any : mg "any" = none
  isinstance : mg "isinstance" = none
  str : mg "str" = none
  int : mg "int" = none
  list : mg "list" = none
  tuple : mg "tuple" = none
  bool : mg "bool" = none
  zip : mg "zip" = none
  set : mg "set" = none
  sorted : mg "sorted" = none
  enumerate : mg "enumerate" = none
  repr : mg "repr" = none
  min : mg "min" = none
  max : mg "max" = none
  abs : mg "abs" = none
/-- a def that may be called by its name: what it keeps, at which level -/
def Cl (P : Program) (w : World) (K : PySem.W.Frag) (mg : Str → Option Value) (base : Heap) (k : Nat) (x : Str) (sp : Sp) : Prop :=
  ∃ (f : Addr) (fd : FuncData) (ps : List Str), FnOk P w K mg base CX0 k f fd ps sp ∧ mg x = some (.ref f) ∧ PySem.W.keepIn K (.ref f) = true ∧ Binds K fd ps []
theorem pe_cl {X : Cx} {k j : Nat} {x : Str} {sp : Sp} {e : Expr} {es : List Expr} {t : TA} {p pos : Pos} (c : Cl X.prog X.w X.K X.mg X.base k x sp) (hr : Room j X.A) (hk : k ≤ j) (hg : Gl X x) (ha : PA X (e :: es) t) (hdb : (x == ("__debug__" : Str)) = false := by decide)
    (he : starEach (e :: es) X.env = (false, eval e X.env) :: starEach es X.env := by rfl) (hpl : (backTo pos (starEach es X.env)).any (·.1) = false := by rfl) : PE X (.Call (.Name x p) (e :: es) [] pos) (tCall sp [] E0 t) := by
  obtain ⟨f, fd, ps, G, hm, kp, b⟩ := c
  exact pe_call G (hr.mono hk) hg hm kp b .nil pass0 ha hdb he hpl
/-! ### the drawing state -/
def dS (c : Addr) (t : Int) : List (Key × V) := [(Sum.inr "cells", .ref c), (Sum.inr "turn", .int t)]
/-- at d stands a state of the law: its cells at c, its turn at most n -/
def StAt (H : Hp) (d c : Addr) (n : Nat) : Prop := d ≠ c ∧ ∃ (xs : List Int) (t : Int),
  H d = some (.dK (dS c t)) ∧ H c = some (.lst (xs.map V.int)) ∧ xs ≠ [] ∧ xs.length ≤ 63 ∧ 0 ≤ t ∧ t ≤ n
/-- all that was tracked stands, but d and c -/
def Kp (d c : Addr) (H H' : Hp) : Prop := ∀ b o, b ≠ d → b ≠ c → H b = some o → H' b = some o
theorem Kp.refl (d c : Addr) (H : Hp) : Kp d c H H := fun _ _ _ _ e => e
theorem Kp.trans {d c : Addr} {H H1 H2 : Hp} (a : Kp d c H H1) (b : Kp d c H1 H2) : Kp d c H H2 := fun x o h1 h2 e => b x o h1 h2 (a x o h1 h2 e)
theorem Kp.of {d c : Addr} {H H' : Hp} (s : Same H H') : Kp d c H H' := fun x o _ _ e => s x o e
theorem same_upd {H : Hp} {p : Addr} {o : HO} (h : H p = none) : Same H (upd H p o) := fun b x e => by
  rw [upd_ne (ne_of_none e h)]
  exact e
theorem same_put {H H' : Hp} {p : Addr} {o : HO} (s : Same H H') (h : H p = none) : Same H (upd H' p o) := fun b x e => by
  rw [upd_ne (ne_of_none e h)]
  exact s b x e
theorem kp_put {d c : Addr} {H H' : Hp} {p : Addr} {o : HO} (s : Kp d c H H') (h : H p = none) : Kp d c H (upd H' p o) := fun b x h1 h2 e => by
  rw [upd_ne (ne_of_none e h)]
  exact s b x h1 h2 e
theorem StAt.mono {H : Hp} {d c : Addr} {n m : Nat} (h : StAt H d c n) (k : n ≤ m) : StAt H d c m := by
  obtain ⟨h0, xs, t, h1, h2, h3, h4, h5, h6⟩ := h
  exact ⟨h0, xs, t, h1, h2, h3, h4, h5, by omega⟩
theorem StAt.same {H H' : Hp} {d c : Addr} {n : Nat} (h : StAt H d c n) (s : Same H H') : StAt H' d c n := by
  obtain ⟨h0, xs, t, h1, h2, h3, h4, h5, h6⟩ := h
  exact ⟨h0, xs, t, s _ _ h1, s _ _ h2, h3, h4, h5, h6⟩
theorem Kp.free {d c : Addr} {H H' : Hp} {n : Nat} {l : Addr} (k : Kp d c H H') (s : StAt H' d c n) (h : H' l = none) : H l = none := by
  obtain ⟨_, xs, t, h1, h2, _⟩ := s
  have n1 : l ≠ d := (ne_of_none h1 h).symm
  have n2 : l ≠ c := (ne_of_none h2 h).symm
  cases e : H l with
  | none => rfl
  | some o =>
    rw [k l o n1 n2 e] at h
    cases h
theorem StAt.ne1 {H : Hp} {d c : Addr} {n : Nat} {l : Addr} (s : StAt H d c n) (h : H l = none) : d ≠ l := by
  obtain ⟨_, xs, t, h1, h2, _⟩ := s
  exact ne_of_none h1 h
theorem StAt.ne2 {H : Hp} {d c : Addr} {n : Nat} {l : Addr} (s : StAt H d c n) (h : H l = none) : c ≠ l := by
  obtain ⟨_, xs, t, h1, h2, _⟩ := s
  exact ne_of_none h2 h
theorem StAt.put {H : Hp} {d c : Addr} {n : Nat} {l : Addr} {o : HO} (s : StAt H d c n) (n1 : d ≠ l) (n2 : c ≠ l) : StAt (upd H l o) d c n := by
  obtain ⟨h0, xs, t, h1, h2, h3, h4, h5, h6⟩ := s
  exact ⟨h0, xs, t, by rw [upd_ne n1]; exact h1, by rw [upd_ne n2]; exact h2, h3, h4, h5, h6⟩
theorem val_turn (c : Addr) (t : Int) : valV (dS c t) (Sum.inr "turn") = some (.int t) := by
  have e : ¬ ((Sum.inr (Str.ofString "cells") : Key) = Sum.inr (Str.ofString "turn")) := by decide +kernel
  unfold dS; rw [valV_neg e, valV_pos rfl]
theorem val_cells (c : Addr) (t : Int) : valV (dS c t) (Sum.inr "cells") = some (.ref c) := by
  unfold dS; rw [valV_pos rfl]
theorem put_turn (c : Addr) (t u : Int) : putK (dS c t) (Sum.inr "turn") (.int u) = dS c u := by
  have e : ¬ ((Sum.inr (Str.ofString "cells") : Key) = Sum.inr (Str.ofString "turn")) := by decide +kernel
  unfold putK dS
  simp [e]

theorem dget_turn {H : Hp} {d c : Addr} {t : Int} (h : H d = some (.dK (dS c t))) : DGet H d (.str "turn") (some (.int t)) := by
  rw [← val_turn c t]; exact DGet.k (k := Sum.inr "turn") h
theorem dget_cells {H : Hp} {d c : Addr} {t : Int} (h : H d = some (.dK (dS c t))) : DGet H d (.str "cells") (some (.ref c)) := by
  rw [← val_cells c t]; exact DGet.k (k := Sum.inr "cells") h
theorem dput_turn {H : Hp} {d c : Addr} {t : Int} (u : Int) (h : H d = some (.dK (dS c t))) : DPut H d (.str "turn") (.int u) (upd H d (.dK (dS c u))) := by
  rw [← put_turn c t u]; exact DPut.k (k := Sum.inr "turn") h (by show 2 < sizeLine; decide)
theorem ge18 (x : Int) : (decide ((10 : Int) ^ (18 : Int).toNat ≤ x) = true) ↔ 1000000000000000000 ≤ x := by
  have e : (10 : Int) ^ (18 : Int).toNat = 1000000000000000000 := by decide
  rw [e, decide_eq_true_eq]
theorem cmul_mod (a b : Int) {m : Int} (h0 : 0 < m) (h1 : m < 2 ^ 64) : CMul (a % m) b := by
  have p := Int.emod_nonneg a (show m ≠ 0 by omega)
  have q := Int.emod_lt_of_pos a h0
  exact .inl ⟨by omega, by omega⟩
theorem mod_at {xs : List Int} {u : Int} (hx : xs ≠ []) : ∃ (j : Nat) (y : Int), u % ((xs.map V.int).length : Int) = (j : Int) ∧ j < xs.length ∧ xs[j]? = some y := by
  have h0 : 0 < xs.length := List.length_pos_iff.mpr hx
  rw [List.length_map]
  have a := Int.emod_nonneg u (show (xs.length : Int) ≠ 0 by omega)
  have b := Int.emod_lt_of_pos u (show (0 : Int) < (xs.length : Int) by omega)
  refine ⟨(u % (xs.length : Int)).toNat, xs[(u % (xs.length : Int)).toNat]'(by omega), by omega, by omega, ?_⟩
  exact List.getElem?_eq_getElem _

section
variable {K : PySem.W.Frag}
theorem cut63 {xs : List V} (h : xs.length ≤ 63) : cutV xs none (some 63) = xs := by
  unfold cutV
  rw [HT.sIx_none, show HT.sIx xs.length xs.length (some 63) = min 63 xs.length from HT.sIx_nat xs.length xs.length 63, Nat.min_eq_right h]
  simp
theorem dp_ints {H : Hp} (ns : List Int) : DpAll K H (ns.map V.int) (ns.map PyData.int) := by
  induction ns with
  | nil => exact .nil
  | cons n r ih => exact .cons (.int n) ih
theorem same_tup {H H' : Hp} {a : Addr} {xs : List V} (e : Same H H') (h : SqT K H a xs) : SqT K H' a xs := by
  rcases h with (h | ⟨o, h⟩) | h
  · exact .inl (.inl (e _ _ h))
  · exact .inl (.inr ⟨o, e _ _ h⟩)
  · exact .inr h
mutual
theorem dp_same {H H' : Hp} (s : Same H H') : ∀ {v : V} {d : PyData}, Dp K H v d → Dp K H' v d
  | _, _, .non => .non
  | _, _, .bl b => .bl b
  | _, _, .int i => .int i
  | _, _, .str x => .str x
  | _, _, .lst h a => .lst (s.seq h) (dpAll_same s a)
  | _, _, .tup h a => .tup (same_tup s h) (dpAll_same s a)
theorem dpAll_same {H H' : Hp} (s : Same H H') : ∀ {vs : List V} {ds : List PyData}, DpAll K H vs ds → DpAll K H' vs ds
  | _, _, .nil => .nil
  | _, _, .cons h t => .cons (dp_same s h) (dpAll_same s t)
end
theorem dpAll_len {H : Hp} : ∀ {vs : List V} {ds : List PyData}, DpAll K H vs ds → vs.length = ds.length
  | _, _, .nil => rfl
  | _, _, .cons _ t => by rw [List.length_cons, List.length_cons, dpAll_len t]
theorem dpAll_at {H : Hp} : ∀ {vs : List V} {ds : List PyData} {i : Nat} {v : V}, DpAll K H vs ds → vs[i]? = some v → ∃ d, ds[i]? = some d ∧ Dp K H v d
  | _, _, _, _, .nil, h => by simp at h
  | _, _, 0, _, .cons h _, e => ⟨_, rfl, by cases e; exact h⟩
  | _, _, i + 1, _, .cons _ t, e => dpAll_at (i := i) t e
theorem depth_at : ∀ {ds : List PyData} {i : Nat} {d : PyData}, ds[i]? = some d → d.depth ≤ PyData.depthAll ds
  | [], _, _, h => by simp at h
  | x :: r, 0, d, h => by cases h; unfold PyData.depthAll; exact Nat.le_max_left ..
  | x :: r, i + 1, d, h => by
    have := depth_at (ds := r) (i := i) (d := d) h
    unfold PyData.depthAll
    exact Nat.le_trans this (Nat.le_max_right ..)
theorem tyx_list {H : Hp} {a : Addr} {xs : List V} (h : SqL K H a xs) : TyX K H (.ref a) (.type "list") := by
  rcases h with (h | ⟨o, h⟩) | ⟨o, its, n, h1, h2, _⟩
  · exact .base (.lst h)
  · exact .base (.frz h)
  · exact .kList h1 h2
theorem tyx_tup {H : Hp} {a : Addr} {xs : List V} (h : SqT K H a xs) : TyX K H (.ref a) (.type "tuple") := by
  rcases h with (h | ⟨o, h⟩) | ⟨o, its, n, h1, h2, _⟩
  · exact .base (.tup h)
  · exact .fTuple h
  · exact .kTuple h1 h2
theorem walk_zipT {a b : Addr} {xs ys : List V} {n : Nat} (hn : n = min xs.length ys.length) : Walk (RZ.ItzT K a b) n (fun H => SqT K H a xs ∧ SqT K H b ys) (YPair (fun i => xs[i]?) (fun i => ys[i]?)) := by
  subst hn
  refine ⟨fun i _ hi q => ?_, fun _ q => ⟨xs, ys, q.1, q.2, by omega⟩, fun i H v H' _ q y => ?_⟩
  · exact ⟨xs, ys, xs[i]'(by omega), ys[i]'(by omega), q.1, q.2, List.getElem?_eq_getElem _, List.getElem?_eq_getElem _⟩
  · obtain ⟨T, x, z, e1, e2, e3, e4, e5⟩ := y
    exact ⟨T, x, z, e1, e2, e3, e4 xs q.1, e5 ys q.2⟩
/-- the longest list within -/
def widAll : List PyData → Nat
  | [] => 0
  | x :: xs => max (wid x) (widAll xs)
where wid : PyData → Nat
  | .list xs => max xs.length (widAll xs)
  | .tuple xs => max xs.length (widAll xs)
  | _ => 0
theorem wid_at : ∀ {ds : List PyData} {i : Nat} {d : PyData}, ds[i]? = some d → widAll.wid d ≤ widAll ds
  | [], _, _, h => by simp at h
  | x :: r, 0, d, h => by cases h; unfold widAll; exact Nat.le_max_left ..
  | x :: r, i + 1, d, h => by
    have := wid_at (ds := r) (i := i) (d := d) h
    unfold widAll
    exact Nat.le_trans this (Nat.le_max_right ..)
theorem depth_ints (ns : List Int) : (PyData.list (ns.map PyData.int)).depth = 1 := by
  have h : ∀ l : List Int, PyData.depthAll (l.map PyData.int) = 0 := by
    intro l
    induction l with
    | nil => rfl
    | cons x r ih =>
      show max 0 (PyData.depthAll (r.map PyData.int)) = 0
      rw [ih]
      rfl
  show PyData.depthAll (ns.map PyData.int) + 1 = 1
  rw [h]
theorem wid_ints (ns : List Int) : widAll.wid (PyData.list (ns.map PyData.int)) = ns.length := by
  have h : ∀ l : List Int, widAll (l.map PyData.int) = 0 := by
    intro l
    induction l with
    | nil => rfl
    | cons x r ih =>
      show max 0 (widAll (r.map PyData.int)) = 0
      rw [ih]
      rfl
  show max (ns.map PyData.int).length (widAll (ns.map PyData.int)) = ns.length
  rw [h, List.length_map, Nat.max_zero]
theorem flat_ints (ns : List Int) : (ns.map V.int).all flatV = true := by
  rw [List.all_eq_true]
  intro x hx
  obtain ⟨k, _, rfl⟩ := List.mem_map.mp hx
  rfl
end
section
variable {P : Program} {w : World} {K : PySem.W.Frag} {mg : Str → Option Value} {base : Heap}
/-- a def with values that may be left out -/
abbrev FunV (K : PySem.W.Frag) (x : Str) (st : Stmt) (dvs : List V) (f : Addr) (fd : FuncData) : Prop := FunD K x x (defArgs st) (defBody st) (defScope st) dvs [] f fd
theorem okD {x : Str} {st : Stmt} {dvs : List V} {f : Addr} {fd : FuncData} {N ps : List Str} {k : Nat} {sp : Sp} (F : FunV K x st dvs f fd) (S : FnScope N ps (defScope st)) (len : ∀ vs H Q E, sp vs H Q E → vs.length = ps.length)
    (body : ∀ (cdv : Value) (A : Around) (outer : List Env) (s : Shared) (H : Hp) (vs : List V) (Q : VK) (E : XK), Room k (A.deeper (envOfC x (defScope st) s.heap.objs.size f cdv)) → sp vs H Q E →
      ∃ t, PSs (cxOf CX0 P w K mg base N x (defScope st) f cdv A outer s H E).nox (defBody st) t ∧ t { nx := fun _ H' => Q .non H', rt := Q } (start N vs) H) : FnOk P w K mg base CX0 (k + 1) f fd ps sp :=
  FunD.ok F S len fun cdv A outer s H vs Q E hr h => by
    obtain ⟨t, ht, hq⟩ := body cdv A outer s H vs Q E hr h
    exact ⟨t, ht.nox, hq⟩
/-- a def that may be called by its name, the values ds being left out -/
def ClD (P : Program) (w : World) (K : PySem.W.Frag) (mg : Str → Option Value) (base : Heap) (k : Nat) (x : Str) (ds : List V) (sp : Sp) : Prop :=
  ∃ (f : Addr) (fd : FuncData) (ps : List Str) (dus : List Value), FnOk P w K mg base CX0 k f fd ps sp ∧ mg x = some (.ref f) ∧ PySem.W.keepIn K (.ref f) = true ∧ Binds K fd ps dus ∧ Vals ds dus
theorem pe_cd {X : Cx} {k j : Nat} {x : Str} {ds : List V} {sp : Sp} {e : Expr} {es : List Expr} {t : TA} {p pos : Pos} (c : ClD X.prog X.w X.K X.mg X.base k x ds sp) (hr : Room j X.A) (hk : k ≤ j) (hg : Gl X x) (ha : PA X (e :: es) t) (hdb : (x == ("__debug__" : Str)) = false := by decide)
    (he : starEach (e :: es) X.env = (false, eval e X.env) :: starEach es X.env := by rfl) (hpl : (backTo pos (starEach es X.env)).any (·.1) = false := by rfl) : PE X (.Call (.Name x p) (e :: es) [] pos) (tCall sp ds E0 t) := by
  obtain ⟨f, fd, ps, dus, G, hm, kp, b, dv⟩ := c
  exact pe_call G (hr.mono hk) hg hm kp b dv pass0 ha hdb he hpl
theorem Cl.mono {k j : Nat} {x : Str} {sp : Sp} (c : Cl P w K mg base k x sp) (h : k ≤ j) : Cl P w K mg base j x sp := by
  obtain ⟨f, fd, ps, G, r⟩ := c
  exact ⟨f, fd, ps, G.mono h, r⟩
end
end Pot

namespace Pot
open PySem PySem.Spec PyProof.Rows L2
/-! ### a box of three numbers from which is drawn, and all that stands beside it -/
def Bx (H : Hp) (b : Addr) : Prop := ∃ x y z : Int, H b = some (.lst [.int x, .int y, .int z])
/-- the heap without some -/
def off (H : Hp) (S : List Addr) : Hp := fun x => if x ∈ S then none else H x
theorem off_in {H : Hp} {S : List Addr} {x : Addr} (h : x ∈ S) : off H S x = none := if_pos h
theorem off_out {H : Hp} {S : List Addr} {x : Addr} (h : x ∉ S) : off H S x = H x := if_neg h
theorem off_mem {H : Hp} {S : List Addr} {x : Addr} {o : HO} (h : off H S x = some o) : x ∉ S := fun e => by rw [off_in e] at h; cases h
theorem off_sub {H : Hp} {S : List Addr} : Same (off H S) H := fun x o h => by
  have n := off_mem h
  rw [off_out n] at h; exact h
theorem off_mono {H : Hp} {S T : List Addr} (h : ∀ x ∈ T, x ∈ S) : Same (off H S) (off H T) := fun x o e => by
  have n := off_mem e
  rw [off_out n] at e
  rw [off_out fun z => n (h x z)]; exact e
/-- what stands beside S stands -/
abbrev Sm (S : List Addr) (H H' : Hp) : Prop := Same (off H S) (off H' S)
theorem sm_mono {H H' : Hp} {S T : List Addr} (h : ∀ x ∈ T, x ∈ S) (s : Sm T H H') : Sm S H H' := fun x o e => by
  have n := off_mem e
  rw [off_out n] at e ⊢
  have n2 : x ∉ T := fun z => n (h x z)
  have := s x o (by rw [off_out n2]; exact e)
  rw [off_out n2] at this; exact this
theorem sm_one {H H' : Hp} {S : List Addr} {b : Addr} (h : b ∈ S) (s : Sm [b] H H') : Sm S H H' := sm_mono (fun x hx => by rw [List.mem_singleton.mp hx]; exact h) s
theorem sm_of {H H' : Hp} {S : List Addr} (s : Same H H') : Sm S H H' := fun x o h => by
  have n := off_mem h
  rw [off_out n] at h ⊢; exact s x o h
theorem sm_put {H : Hp} {S : List Addr} {p : Addr} {o : HO} (h : H p = none) : Sm S H (upd H p o) := sm_of (same_upd h)
theorem sm_wr {H : Hp} {S : List Addr} {p : Addr} {o : HO} (h : p ∈ S) : Sm S H (upd H p o) := fun x u e => by
  have n := off_mem e
  rw [off_out n] at e ⊢
  have ne : x ≠ p := fun z => n (by rw [z]; exact h)
  rw [upd_ne ne]; exact e
theorem at_off {H : Hp} {S : List Addr} {x : Addr} {o : HO} (h : off H S x = some o) : H x = some o := off_sub x o h
theorem Bx.bx {H : Hp} {b : Addr} (B : Bx H b) : Bx H b := B
theorem Bx.ne {H : Hp} {b p : Addr} (B : Bx H b) (h : H p = none) : p ≠ b := fun e => by
  obtain ⟨x, y, z, B⟩ := B
  rw [e, B] at h; cases h
theorem Bx.same {H H' : Hp} {b : Addr} (B : Bx H b) (s : Same H H') : Bx H' b := by
  obtain ⟨x, y, z, B⟩ := B
  exact ⟨x, y, z, s _ _ B⟩
theorem Bx.put {H : Hp} {b p : Addr} {o : HO} (B : Bx H b) (h : H p = none) : Bx (upd H p o) b := B.same (same_upd h)
theorem Bx.wr {H : Hp} {b p : Addr} {o : HO} (B : Bx H b) (h : p ≠ b) : Bx (upd H p o) b := by
  obtain ⟨x, y, z, B⟩ := B
  exact ⟨x, y, z, by rw [upd_ne h.symm]; exact B⟩
/-- all of S are there -/
def Live (S : List Addr) (H : Hp) : Prop := ∀ s ∈ S, H s ≠ none
theorem Live.same {S : List Addr} {H H' : Hp} (L : Live S H) (s : Same H H') : Live S H' := fun x hx e => by
  cases h : H x with
  | none => exact L x hx h
  | some o => rw [s x o h] at e; cases e
theorem Live.box {S : List Addr} {H H' : Hp} {b : Addr} (L : Live S H) (B : Bx H' b) (s : Sm [b] H H') : Live S H' := fun x hx e => by
  by_cases hb : x = b
  · obtain ⟨_, _, _, B⟩ := B
    rw [hb, B] at e; cases e
  · have n : x ∉ [b] := fun z => hb (List.mem_singleton.mp z)
    cases h : H x with
    | none => exact L x hx h
    | some o =>
      have := s x o (by rw [off_out n]; exact h)
      rw [off_out n, e] at this; cases this
theorem Live.put {S : List Addr} {H : Hp} {p : Addr} {o : HO} (L : Live S H) (h : H p = none) : Live S (upd H p o) := L.same (same_upd h)
theorem Live.wr {S : List Addr} {H : Hp} {p : Addr} {o : HO} (L : Live S H) : Live S (upd H p o) := fun x hx e => by
  by_cases hp : x = p
  · rw [hp, upd_same] at e; cases e
  · rw [upd_ne hp] at e; exact L x hx e
theorem Live.one {H : Hp} {b : Addr} (B : Bx H b) : Live [b] H := fun x hx e => by
  obtain ⟨_, _, _, B⟩ := B
  rw [List.mem_singleton.mp hx, B] at e; cases e
theorem Live.out {S : List Addr} {H : Hp} {p : Addr} (L : Live S H) (h : H p = none) : p ∉ S := fun z => L p z h
theorem Live.cons {S : List Addr} {H : Hp} {p : Addr} {o : HO} (L : Live S H) (h : H p = some o) : Live (p :: S) H := fun x hx e => by
  rcases List.mem_cons.mp hx with z | z
  · rw [z, h] at e; cases e
  · exact L x z e
theorem off_new {H : Hp} {S : List Addr} {p : Addr} {o : HO} (L : Live S H) (h : H p = none) : off (upd H p o) S p = some o := by
  rw [off_out (L.out h)]; exact upd_same
theorem off_upd {H : Hp} {S : List Addr} {p : Addr} {o : HO} (h : p ∉ S) : off (upd H p o) S p = some o := by
  rw [off_out h]; exact upd_same
section
variable {K : PySem.W.Frag}
theorem sq_off {H : Hp} {S : List Addr} {a : Addr} {xs : List V} (h : SqL K (off H S) a xs) : SqL K H a xs := off_sub.seq h
theorem sqt_off {H : Hp} {S : List Addr} {a : Addr} {xs : List V} (h : SqT K (off H S) a xs) : SqT K H a xs := same_tup off_sub h
theorem dp_off {H : Hp} {S : List Addr} {v : V} {d : PyData} (h : Dp K (off H S) v d) : Dp K H v d := dp_same off_sub h
/-- a new list is none of S, beside which the rest stands as it was -/
theorem off_fresh {H : Hp} {S : List Addr} {p : Addr} {o : HO} (h : H p = none) : off (upd H p o) (p :: S) = off H S := by
  funext x; unfold off
  by_cases e : x = p
  · subst e
    rw [if_pos List.mem_cons_self, h]
    split <;> rfl
  · have : (x ∈ p :: S) ↔ x ∈ S := by rw [List.mem_cons]; exact ⟨fun z => z.resolve_left e, .inr⟩
    by_cases m : x ∈ S
    · rw [if_pos m, if_pos (this.mpr m)]
    · rw [if_neg m, if_neg fun z => m (this.mp z), upd_ne e]
end
/-! ### what is made of numbers, texts, truths, None, lists and tuples -/
/-- numbers within m, texts of at most 2000 signs -/
def gdAll (m : Nat) : List PyData → Prop
  | [] => True
  | x :: xs => gd m x ∧ gdAll m xs
where gd (m : Nat) : PyData → Prop
  | .none => True
  | .bool _ => True
  | .int i => i.natAbs ≤ m
  | .str x => x.length ≤ 2000 ∧ ∀ c ∈ x.cps.toList, c < 1114112
  | .list xs => gdAll m xs
  | .tuple xs => gdAll m xs
  | .dict _ => False
abbrev gd (m : Nat) (d : PyData) : Prop := gdAll.gd m d
theorem gdAll_iff {m : Nat} : ∀ {ds : List PyData}, gdAll m ds ↔ ∀ d ∈ ds, gd m d
  | [] => ⟨fun _ _ h => (List.not_mem_nil h).elim, fun _ => trivial⟩
  | x :: xs => by
    constructor
    · intro h d hd
      rcases List.mem_cons.mp hd with e | e
      · rw [e]; exact h.1
      · exact gdAll_iff.mp h.2 d e
    · intro h
      exact ⟨h x List.mem_cons_self, gdAll_iff.mpr fun d hd => h d (List.mem_cons_of_mem _ hd)⟩
mutual
theorem gd_mono {m n : Nat} (h : m ≤ n) : ∀ d : PyData, gd m d → gd n d
  | .none, _ => trivial
  | .bool _, _ => trivial
  | .int i, g => Nat.le_trans g h
  | .str _, g => g
  | .list xs, g => gdAll_mono h xs g
  | .tuple xs, g => gdAll_mono h xs g
  | .dict _, g => g.elim
theorem gdAll_mono {m n : Nat} (h : m ≤ n) : ∀ ds : List PyData, gdAll m ds → gdAll n ds
  | [], _ => trivial
  | x :: xs, g => ⟨gd_mono h x g.1, gdAll_mono h xs g.2⟩
end
theorem log_small' {i : Int} (h : i.natAbs ≤ 2000000) : i.natAbs.log2 < 1920 := by
  by_cases z : i.natAbs = 0
  · rw [z]; decide
  · have := (Nat.log2_lt z).mpr (show i.natAbs < 2 ^ 21 from Nat.lt_of_le_of_lt h (by decide))
    omega
mutual
theorem gd_fine {m : Nat} (h : m ≤ 2000000) : ∀ d : PyData, gd m d → fineAll.fine d
  | .none, _ => trivial
  | .bool _, _ => trivial
  | .int i, g => log_small' (Nat.le_trans g h)
  | .str _, g => fun c hc => Nat.lt_trans (g.2 c hc) (by decide)
  | .list xs, g => gdAll_fine h xs g
  | .tuple xs, g => gdAll_fine h xs g
  | .dict _, g => g.elim
theorem gdAll_fine {m : Nat} (h : m ≤ 2000000) : ∀ ds : List PyData, gdAll m ds → fineAll ds
  | [], _ => trivial
  | x :: xs, g => ⟨gd_fine h x g.1, gdAll_fine h xs g.2⟩
end
theorem costAll_app (xs ys : List PyData) : costAll (xs ++ ys) = costAll xs + costAll ys := by
  induction xs with
  | nil => simp [costAll]
  | cons x xs ih => simp only [List.cons_append, costAll, ih]; omega
theorem cost_mem {ds : List PyData} {d : PyData} (h : d ∈ ds) : costAll.cost d + 2 ≤ costAll ds := by
  induction ds with
  | nil => exact (List.not_mem_nil h).elim
  | cons x xs ih =>
    show _ ≤ costAll.cost x + 2 + costAll xs
    rcases List.mem_cons.mp h with e | e
    · rw [e]; omega
    · have := ih e; omega
theorem len_cost : ∀ ds : List PyData, 2 * ds.length ≤ costAll ds
  | [] => Nat.le_refl _
  | x :: xs => by
    have := len_cost xs
    show 2 * (xs.length + 1) ≤ costAll.cost x + 2 + costAll xs
    omega
theorem depthAll_iff {D : Nat} : ∀ {ds : List PyData}, PyData.depthAll ds ≤ D ↔ ∀ d ∈ ds, d.depth ≤ D
  | [] => ⟨fun _ _ h => (List.not_mem_nil h).elim, fun _ => Nat.zero_le _⟩
  | x :: xs => by
    show max x.depth (PyData.depthAll xs) ≤ D ↔ _
    rw [Nat.max_le, depthAll_iff (ds := xs)]
    constructor
    · rintro ⟨h1, h2⟩ d hd
      rcases List.mem_cons.mp hd with e | e
      · rw [e]; exact h1
      · exact h2 d e
    · intro h
      exact ⟨h x List.mem_cons_self, fun d hd => h d (List.mem_cons_of_mem _ hd)⟩
/-- rows of parts: of numbers within m, their cost, how deep and how wide each -/
structure Ths (m C D W : Nat) (ds : List PyData) : Prop where
  g : ∀ d ∈ ds, gd m d
  c : costAll ds ≤ C
  d : ∀ d ∈ ds, d.depth ≤ D
  w : ∀ d ∈ ds, widAll.wid d ≤ W
/-- a thing: of numbers within m, its cost, how deep, how wide -/
structure Th (m C D W : Nat) (dd : PyData) : Prop where
  g : gd m dd
  c : costAll.cost dd ≤ C
  d : dd.depth ≤ D
  w : widAll.wid dd ≤ W
theorem widAll_iff {D : Nat} : ∀ {ds : List PyData}, widAll ds ≤ D ↔ ∀ d ∈ ds, widAll.wid d ≤ D
  | [] => ⟨fun _ _ h => (List.not_mem_nil h).elim, fun _ => Nat.zero_le _⟩
  | x :: xs => by
    show max (widAll.wid x) (widAll xs) ≤ D ↔ _
    rw [Nat.max_le, widAll_iff (ds := xs)]
    constructor
    · rintro ⟨h1, h2⟩ d hd
      rcases List.mem_cons.mp hd with e | e
      · rw [e]; exact h1
      · exact h2 d e
    · intro h
      exact ⟨h x List.mem_cons_self, fun d hd => h d (List.mem_cons_of_mem _ hd)⟩
section
variable {m n C E D F W U : Nat} {d x : PyData} {ds xs ys : List PyData}
theorem Th.mono (h : Th m C D W d) (a : m ≤ n) (b : C ≤ E) (c : D ≤ F) (e : W ≤ U) : Th n E F U d := ⟨gd_mono a d h.g, Nat.le_trans h.c b, Nat.le_trans h.d c, Nat.le_trans h.w e⟩
theorem Ths.mono (h : Ths m C D W ds) (a : m ≤ n) (b : C ≤ E) (c : D ≤ F) (e : W ≤ U) : Ths n E F U ds := ⟨fun x hx => gd_mono a x (h.g x hx), Nat.le_trans h.c b, fun x hx => Nat.le_trans (h.d x hx) c, fun x hx => Nat.le_trans (h.w x hx) e⟩
theorem Ths.app (h : Ths m C D W xs) (k : Ths m E D W ys) : Ths m (C + E) D W (xs ++ ys) :=
  ⟨fun d hd => (List.mem_append.mp hd).elim (h.g d) (k.g d), by rw [costAll_app]; exact Nat.add_le_add h.c k.c, fun d hd => (List.mem_append.mp hd).elim (h.d d) (k.d d), fun d hd => (List.mem_append.mp hd).elim (h.w d) (k.w d)⟩
theorem Ths.nil : Ths m 0 D W [] := ⟨fun _ h => (List.not_mem_nil h).elim, Nat.le_refl _, fun _ h => (List.not_mem_nil h).elim, fun _ h => (List.not_mem_nil h).elim⟩
theorem Ths.one (h : Th m C D W x) : Ths m (C + 2) D W [x] :=
  ⟨fun d hd => by rw [List.mem_singleton.mp hd]; exact h.g, by show costAll.cost x + 2 + 0 ≤ _; have := h.c; omega, fun d hd => by rw [List.mem_singleton.mp hd]; exact h.d, fun d hd => by rw [List.mem_singleton.mp hd]; exact h.w⟩
theorem Ths.mem (h : Ths m C D W ds) (e : d ∈ ds) : Th m C D W d := ⟨h.g d e, by have := cost_mem e; have := h.c; omega, h.d d e, h.w d e⟩
theorem Ths.len (h : Ths m C D W ds) : 2 * ds.length ≤ C := Nat.le_trans (len_cost ds) h.c
theorem Ths.list (h : Ths m C D W ds) (l : ds.length ≤ W) : Th m (C + 3) (D + 1) W (.list ds) :=
  ⟨gdAll_iff.mpr h.g, by show costAll ds + 3 ≤ _; have := h.c; omega, by show PyData.depthAll ds + 1 ≤ _; have := depthAll_iff.mpr h.d; omega, by show max ds.length (widAll ds) ≤ W; exact Nat.max_le.mpr ⟨l, widAll_iff.mpr h.w⟩⟩
theorem Ths.tuple (h : Ths m C D W ds) (l : ds.length ≤ W) : Th m (C + 3) (D + 1) W (.tuple ds) :=
  ⟨gdAll_iff.mpr h.g, by show costAll ds + 3 ≤ _; have := h.c; omega, by show PyData.depthAll ds + 1 ≤ _; have := depthAll_iff.mpr h.d; omega, by show max ds.length (widAll ds) ≤ W; exact Nat.max_le.mpr ⟨l, widAll_iff.mpr h.w⟩⟩
theorem Th.ofList (h : Th m C D W (.list ds)) : Ths m (C - 3) (D - 1) W ds ∧ ds.length ≤ W ∧ 3 ≤ C ∧ 1 ≤ D := by
  have h1 : costAll ds + 3 ≤ C := h.c
  have h2 : PyData.depthAll ds + 1 ≤ D := h.d
  have h3 : max ds.length (widAll ds) ≤ W := h.w
  exact ⟨⟨gdAll_iff.mp h.g, by omega, depthAll_iff.mp (by omega), widAll_iff.mp (Nat.le_trans (Nat.le_max_right ..) h3)⟩, Nat.le_trans (Nat.le_max_left ..) h3, by omega, by omega⟩
theorem Th.ofTuple (h : Th m C D W (.tuple ds)) : Ths m (C - 3) (D - 1) W ds ∧ ds.length ≤ W ∧ 3 ≤ C ∧ 1 ≤ D := by
  have h1 : costAll ds + 3 ≤ C := h.c
  have h2 : PyData.depthAll ds + 1 ≤ D := h.d
  have h3 : max ds.length (widAll ds) ≤ W := h.w
  exact ⟨⟨gdAll_iff.mp h.g, by omega, depthAll_iff.mp (by omega), widAll_iff.mp (Nat.le_trans (Nat.le_max_right ..) h3)⟩, Nat.le_trans (Nat.le_max_left ..) h3, by omega, by omega⟩
theorem costAll_take (n : Nat) (ds : List PyData) : costAll (ds.take n) ≤ costAll ds := by
  have := costAll_app (ds.take n) (ds.drop n)
  rw [List.take_append_drop] at this; omega
theorem costAll_drop (n : Nat) (ds : List PyData) : costAll (ds.drop n) ≤ costAll ds := by
  have := costAll_app (ds.take n) (ds.drop n)
  rw [List.take_append_drop] at this; omega
theorem costAll_rev : ∀ ds : List PyData, costAll ds.reverse = costAll ds
  | [] => rfl
  | x :: xs => by rw [List.reverse_cons, costAll_app, costAll_rev xs]; show _ + (costAll.cost x + 2 + 0) = costAll.cost x + 2 + costAll xs; omega
theorem Ths.sub (h : Ths m C D W ds) (s : ∀ x ∈ xs, x ∈ ds) (c : costAll xs ≤ C) : Ths m C D W xs := ⟨fun d hd => h.g d (s d hd), c, fun d hd => h.d d (s d hd), fun d hd => h.w d (s d hd)⟩
theorem Ths.take (h : Ths m C D W ds) (n : Nat) : Ths m C D W (ds.take n) := h.sub (fun d hd => List.mem_of_mem_take hd) (Nat.le_trans (costAll_take n ds) h.c)
theorem Ths.drop (h : Ths m C D W ds) (n : Nat) : Ths m C D W (ds.drop n) := h.sub (fun d hd => List.mem_of_mem_drop hd) (Nat.le_trans (costAll_drop n ds) h.c)
theorem Ths.rev (h : Ths m C D W ds) : Ths m C D W ds.reverse := h.sub (fun d hd => List.mem_reverse.mp hd) (by rw [costAll_rev]; exact h.c)
theorem costAll_set : ∀ (ds : List PyData) (i : Nat) (x : PyData), costAll (ds.set i x) ≤ costAll ds + (costAll.cost x + 2)
  | [], _, _ => Nat.zero_le _
  | y :: ys, 0, x => by show costAll.cost x + 2 + costAll ys ≤ costAll.cost y + 2 + costAll ys + _; omega
  | y :: ys, i + 1, x => by
    have := costAll_set ys i x
    show costAll.cost y + 2 + costAll (ys.set i x) ≤ costAll.cost y + 2 + costAll ys + _
    omega
theorem Ths.set {i : Nat} (h : Ths m C D W ds) (k : Th m E D W x) : Ths m (C + E + 2) D W (ds.set i x) :=
  ⟨fun d hd => (List.mem_or_eq_of_mem_set hd).elim (h.g d) fun e => by rw [e]; exact k.g, Nat.le_trans (costAll_set ds i x) (by have := h.c; have := k.c; omega), fun d hd => (List.mem_or_eq_of_mem_set hd).elim (h.d d) fun e => by rw [e]; exact k.d, fun d hd => (List.mem_or_eq_of_mem_set hd).elim (h.w d) fun e => by rw [e]; exact k.w⟩
end
section
variable {K : PySem.W.Frag} {H : Hp}
theorem dpAll_app' : ∀ {xs ys : List V} {ds es : List PyData}, DpAll K H xs ds → DpAll K H ys es → DpAll K H (xs ++ ys) (ds ++ es)
  | _, _, _, _, .nil, h => h
  | _, _, _, _, .cons h t, h2 => .cons h (dpAll_app' t h2)
theorem dpAll_take : ∀ {xs : List V} {ds : List PyData} (n : Nat), DpAll K H xs ds → DpAll K H (xs.take n) (ds.take n)
  | _, _, 0, _ => .nil
  | _, _, _ + 1, .nil => .nil
  | _, _, n + 1, .cons h t => .cons h (dpAll_take n t)
theorem dpAll_drop : ∀ {xs : List V} {ds : List PyData} (n : Nat), DpAll K H xs ds → DpAll K H (xs.drop n) (ds.drop n)
  | _, _, 0, h => h
  | _, _, _ + 1, .nil => .nil
  | _, _, n + 1, .cons _ t => dpAll_drop n t
theorem dpAll_rev : ∀ {xs : List V} {ds : List PyData}, DpAll K H xs ds → DpAll K H xs.reverse ds.reverse
  | _, _, .nil => .nil
  | _, _, .cons h t => by rw [List.reverse_cons, List.reverse_cons]; exact dpAll_app' (dpAll_rev t) (.cons h .nil)
theorem dpAll_set : ∀ {xs : List V} {ds : List PyData} {i : Nat} {v : V} {d : PyData}, DpAll K H xs ds → Dp K H v d → DpAll K H (xs.set i v) (ds.set i d)
  | _, _, _, _, _, .nil, _ => .nil
  | _, _, 0, _, _, .cons _ t, k => .cons k t
  | _, _, _ + 1, _, _, .cons h t, k => .cons h (dpAll_set t k)
/-- a slice of a row of parts -/
theorem dp_cut {xs : List V} {ds : List PyData} {lo hi : Option Int} {m C D W : Nat} (h : DpAll K H xs ds) (t : Ths m C D W ds) : ∃ es, DpAll K H (cutV xs lo hi) es ∧ Ths m C D W es ∧ es.length ≤ ds.length := by
  unfold cutV
  exact ⟨_, dpAll_take _ (dpAll_drop _ h), (t.drop _).take _, by rw [List.length_take, List.length_drop]; omega⟩
theorem dp_lst' {v : V} {ds : List PyData} (h : Dp K H v (.list ds)) : ∃ a xs, v = .ref a ∧ SqL K H a xs ∧ DpAll K H xs ds := by
  cases h with
  | lst h a => exact ⟨_, _, rfl, h, a⟩
end
end Pot
namespace Pot
open PySem PySem.Spec PyProof.Rows L2
theorem sm_at {H H' : Hp} {S : List Addr} {x : Addr} {o : HO} (s : Sm S H H') (n : x ∉ S) (h : H x = some o) : H' x = some o := by
  have := s x o (by rw [off_out n]; exact h)
  rw [off_out n] at this; exact this
theorem sm1_at {H H' : Hp} {b x : Addr} {o : HO} (s : Sm [b] H H') (n : x ≠ b) (h : H x = some o) : H' x = some o := sm_at s (fun z => n (List.mem_singleton.mp z)) h
theorem smp {H H' : Hp} {S : List Addr} {p : Addr} {o : HO} (s : Sm S H H') (h : H p = none) : Sm S H (upd H' p o) := fun x u e => by
  have n := off_mem e
  have ne : x ≠ p := fun z => by
    rw [off_out n, z, h] at e; cases e
  have := s x u e
  rw [off_out n] at this ⊢
  rw [upd_ne ne]; exact this
theorem sm_free {H H' : Hp} {b l : Addr} (s : Sm [b] H H') (B : Bx H' b) (h : H' l = none) : H l = none := by
  have nb := B.ne h
  have n : l ∉ [b] := fun z => nb (List.mem_singleton.mp z)
  cases e : H l with
  | none => rfl
  | some o => rw [sm_at s n e] at h; cases h
theorem cut_map {α : Type} (f : α → V) (ns : List α) (lo hi : Option Int) : cutV (ns.map f) lo hi = ((ns.drop (HT.sIx ns.length 0 lo)).take (HT.sIx ns.length ns.length hi - HT.sIx ns.length 0 lo)).map f := by
  unfold cutV
  rw [List.length_map, List.map_take, List.map_drop]
theorem cut_head {xs : List V} {k : Nat} : cutV xs none (some (k : Int)) = xs.take k := by
  unfold cutV
  rw [HT.sIx_none, HT.sIx_nat, List.drop_zero, Nat.sub_zero]
  by_cases h : k ≤ xs.length
  · rw [Nat.min_eq_left h]
  · rw [Nat.min_eq_right (by omega), List.take_length, List.take_of_length_le (by omega)]
theorem cut_tail {xs : List V} {k : Nat} : cutV xs (some (k : Int)) none = xs.drop k := by
  unfold cutV
  rw [HT.sIx_none, HT.sIx_nat]
  by_cases h : k ≤ xs.length
  · rw [Nat.min_eq_left h, List.take_of_length_le (by rw [List.length_drop]; exact Nat.le_refl _)]
  · rw [Nat.min_eq_right (by omega), Nat.sub_self, List.take_zero, List.drop_of_length_le (by omega)]
end Pot
namespace Pot
open PySem PySem.Spec PyProof.Rows L2
section
variable {K : PySem.W.Frag} {H : Hp} {t : Addr} {d : PyData} {ds : List PyData}
theorem seq_dp {x : V} (h : Dp K H x d) (e : d = .list ds ∨ d = .tuple ds) : ∃ t zs, x = .ref t ∧ (SqL K H t zs ∨ SqT K H t zs) ∧ DpAll K H zs ds := by
  rcases e with rfl | rfl
  · cases h with
    | lst h a => exact ⟨_, _, rfl, .inl h, a⟩
  · cases h with
    | tup h a => exact ⟨_, _, rfl, .inr h, a⟩
theorem len_dp (h : Dp K H (.ref t) d) (e : d = .list ds ∨ d = .tuple ds) : LenV K (.ref t) H ds.length := by
  rcases e with rfl | rfl
  · cases h with
    | lst h a => exact .inl ⟨_, h, (dpAll_len a).symm⟩
  · cases h with
    | tup h a => exact .inr ⟨_, h, (dpAll_len a).symm⟩
theorem Th.parts {m C D W : Nat} (h : Th m C D W d) (e : d = .list ds ∨ d = .tuple ds) : Ths m (C - 3) (D - 1) W ds ∧ ds.length ≤ W ∧ 3 ≤ C ∧ 1 ≤ D := by
  rcases e with rfl | rfl
  · exact h.ofList
  · exact h.ofTuple
end
theorem sm_in {H H' : Hp} {S : List Addr} {x : Addr} {o : HO} (s : Sm S H H') (h : off H S x = some o) : off H' S x = some o := s x o h
end Pot
namespace Pot
open PySem PySem.Spec PyProof.Rows L2
theorem costAll_set_eq : ∀ {ds : List PyData} {i : Nat} {x y : PyData}, ds[i]? = some y → costAll (ds.set i x) + costAll.cost y = costAll ds + costAll.cost x
  | [], _, _, _, h => by simp at h
  | z :: zs, 0, x, y, h => by
    have e : z = y := by simpa using h
    subst e
    show costAll.cost x + 2 + costAll zs + costAll.cost z = costAll.cost z + 2 + costAll zs + costAll.cost x
    omega
  | z :: zs, i + 1, x, y, h => by
    have := costAll_set_eq (ds := zs) (i := i) (x := x) (y := y) (by simpa using h)
    show costAll.cost z + 2 + costAll (zs.set i x) + costAll.cost y = costAll.cost z + 2 + costAll zs + costAll.cost x
    omega
theorem codes_ofString (s : String) : ∀ c ∈ (Str.ofString s).cps.toList, c < 1114112 := by
  intro c hc
  rw [Str.ofString_eq_toList] at hc
  have : c ∈ s.toList.map Char.toNat := by simpa using hc
  obtain ⟨ch, _, rfl⟩ := List.mem_map.mp this
  have v := ch.valid
  have e : ch.toNat = ch.val.toNat := rfl
  rcases v with v | ⟨_, v⟩
  · have : ch.val.toNat < 0xD800 := v
    omega
  · have : ch.val.toNat < 0x110000 := v
    omega
theorem th_text {i : Int} (h : i.natAbs ≤ 2000000) {m : Nat} : Th m 19212 0 0 (.str (toString i)) := by
  have l : (Str.ofString (toString i)).length ≤ 1921 := PyProof.Rows.int_text_len_1921 (log_small' h)
  exact ⟨⟨by omega, codes_ofString _⟩, by show 10 * (Str.ofString (toString i)).length + 2 ≤ 19212; omega, Nat.le_refl _, Nat.le_refl _⟩
end Pot

namespace Pot
open PySem PySem.Spec PyProof.Rows L2
theorem Ths.parts2 {m C E D W a b : Nat} {ds es : List PyData} (h : Ths m C D W ds) (hab : a ≤ b) (k : Ths m E D W es) : Ths m (C + E) D W (ds.take a ++ es ++ ds.drop b) := by
  have mem : ∀ d, d ∈ ds.take a ++ es ++ ds.drop b → d ∈ ds ∨ d ∈ es := fun d hd => by
    rcases List.mem_append.mp hd with z | z
    · rcases List.mem_append.mp z with y | y
      · exact .inl (List.mem_of_mem_take y)
      · exact .inr y
    · exact .inl (List.mem_of_mem_drop z)
  refine ⟨fun d hd => (mem d hd).elim (h.g d) (k.g d), ?_, fun d hd => (mem d hd).elim (h.d d) (k.d d), fun d hd => (mem d hd).elim (h.w d) (k.w d)⟩
  rw [costAll_app, costAll_app]
  have e := costAll_app (ds.take a) (ds.drop a)
  rw [List.take_append_drop] at e
  have e2 : ds.drop b = (ds.drop a).drop (b - a) := by rw [List.drop_drop]; congr 1; omega
  have e3 := costAll_drop (b - a) (ds.drop a)
  rw [← e2] at e3
  have := h.c
  have := k.c
  omega
end Pot

namespace Pot
open PySem PySem.Spec PyProof.Rows L2
theorem nodup_le {α : Type} [BEq α] [LawfulBEq α] : ∀ {ks l : List α}, ks.Nodup → (∀ k ∈ ks, k ∈ l) → ks.length ≤ l.length
  | [], _, _, _ => Nat.zero_le _
  | k :: ks, l, h, s => by
    have hk := s k List.mem_cons_self
    have h2 := (List.nodup_cons.mp h)
    have := nodup_le (ks := ks) (l := l.erase k) h2.2 fun x hx => by
      have ne : x ≠ k := fun e => h2.1 (e ▸ hx)
      exact (List.mem_erase_of_ne ne).mpr (s x (List.mem_cons_of_mem _ hx))
    rw [List.length_erase_of_mem hk] at this
    have : 0 < l.length := List.length_pos_of_mem hk
    simp only [List.length_cons]
    omega
section
variable {X : Cx} {K : PySem.W.Frag}
theorem ko_notIn (h : X.K = K := by rfl) : OpR X (compareOp .NotIn) (rIn K true) := h ▸ op_notIn_seq
/-- set(xs) of ints: how many members it has -/
def rSetLj (K : PySem.W.Frag) (w : World) : List V → Hp → VK → Prop := fun xs H Q => ∃ (a : Addr) (ns : List Int), xs = [V.ref a] ∧ SqL K H a (ns.map V.int) ∧ ns.length ≤ 4000 ∧
  ∀ (p : Addr) (ks : List Int), H p = none → ks.Nodup → (∀ k, k ∈ ks ↔ k ∈ ns) → Q (.ref p) (upd H p (SetO w p (fun k => decide (k ∈ ns)) ks.length))
theorem cr_setLj (hc : X.calm = true) : CallR X (.type "set") (rSetLj X.K X.w) := by
  intro pins s σ H vs us Q I r h
  obtain ⟨a, ns, rfl, hS, hl, q⟩ := h
  rw [Vals.ref1 r]
  obtain ⟨its, rv, pl, hz⟩ := I.list hS
  refine call_set_li ns (I.ok.hd hc) pl.isList (by simpa using Vals.ints rv) (by unfold scanBound; omega) fun s' f => ?_
  obtain ⟨h', tk, c, rfl, R, hcn, k⟩ := f
  have hn : H s.heap.objs.size = none := I.hok.fresh (Nat.le_refl _)
  have J : Inv X pins σ (upd H s.heap.objs.size (SetO X.w s.heap.objs.size (fun k => decide (k ∈ ns)) c)) { s with heap := h', toks := tk } := I.laid (t' := tk) k (Nat.le_refl _) (setO_new R)
  obtain ⟨o, es, ep, t, _, _, _, _, nod, mem, _, _, size, _⟩ := R
  have q2 := q s.heap.objs.size (es.toList.map keyOf) hn nod fun k => by rw [← mem k, decide_eq_true_eq]
  rw [List.length_map, Array.length_toList, size] at q2
  exact ⟨.ref s.heap.objs.size, _, J, rfl, q2⟩
theorem kc_setLj {w : World} (hc : X.calm = true := by rfl) (h : X.K = K := by rfl) (hw : X.w = w := by rfl) : CallR X (.type "set") (rSetLj K w) := by subst h; subst hw; exact cr_setLj hc
end
end Pot

namespace Pot
open PySem PySem.Spec PyProof.Rows L2
/-! ### kinds of data -/
def tyD : PyData → String
  | .none => "NoneType"
  | .bool _ => "bool"
  | .int _ => "int"
  | .str _ => "str"
  | .list _ => "list"
  | .tuple _ => "tuple"
  | .dict _ => "dict"
def isIntD : PyData → Bool
  | .int _ => true
  | .bool _ => true
  | _ => false
def isBoolD : PyData → Bool
  | .bool _ => true
  | _ => false
def isStrD : PyData → Bool
  | .str _ => true
  | _ => false
def isListD : PyData → Bool
  | .list _ => true
  | _ => false
def isTupD : PyData → Bool
  | .tuple _ => true
  | _ => false
section
variable {K : PySem.W.Frag} {H : Hp} {x : V} {d : PyData} {Q : VK}
theorem tyx_dp (h : Dp K H x d) : TyX K H x (.type (tyD d)) := by
  cases h with
  | non => exact .base .non
  | bl b => exact .base (.bl b)
  | int i => exact .base (.int i)
  | str z => exact .base (.str z)
  | lst h _ => exact tyx_list h
  | tup h _ => exact tyx_tup h
theorem kit_int (h : Dp K H x d) : PySem.W.kitOne K (.type (tyD d)) (.type "int") = some (isIntD d) := by
  cases h with
  | non => exact kit_ty (show kitB "NoneType" "int" = some false by decide +kernel)
  | bl _ => exact kit_ty (show kitB "bool" "int" = some true by decide +kernel)
  | int _ => exact kit_ty (show kitB "int" "int" = some true by decide +kernel)
  | str _ => exact kit_ty (show kitB "str" "int" = some false by decide +kernel)
  | lst _ _ => exact kit_ty (show kitB "list" "int" = some false by decide +kernel)
  | tup _ _ => exact kit_ty (show kitB "tuple" "int" = some false by decide +kernel)
theorem kit_bool (h : Dp K H x d) : PySem.W.kitOne K (.type (tyD d)) (.type "bool") = some (isBoolD d) := by
  cases h with
  | non => exact kit_ty (show kitB "NoneType" "bool" = some false by decide +kernel)
  | bl _ => exact kit_ty (show kitB "bool" "bool" = some true by decide +kernel)
  | int _ => exact kit_ty (show kitB "int" "bool" = some false by decide +kernel)
  | str _ => exact kit_ty (show kitB "str" "bool" = some false by decide +kernel)
  | lst _ _ => exact kit_ty (show kitB "list" "bool" = some false by decide +kernel)
  | tup _ _ => exact kit_ty (show kitB "tuple" "bool" = some false by decide +kernel)
theorem kit_str (h : Dp K H x d) : PySem.W.kitOne K (.type (tyD d)) (.type "str") = some (isStrD d) := by
  cases h with
  | non => exact kit_ty (show kitB "NoneType" "str" = some false by decide +kernel)
  | bl _ => exact kit_ty (show kitB "bool" "str" = some false by decide +kernel)
  | int _ => exact kit_ty (show kitB "int" "str" = some false by decide +kernel)
  | str _ => exact kit_ty (show kitB "str" "str" = some true by decide +kernel)
  | lst _ _ => exact kit_ty (show kitB "list" "str" = some false by decide +kernel)
  | tup _ _ => exact kit_ty (show kitB "tuple" "str" = some false by decide +kernel)
theorem kit_list (h : Dp K H x d) : PySem.W.kitOne K (.type (tyD d)) (.type "list") = some (isListD d) := by
  cases h with
  | non => exact kit_ty (show kitB "NoneType" "list" = some false by decide +kernel)
  | bl _ => exact kit_ty (show kitB "bool" "list" = some false by decide +kernel)
  | int _ => exact kit_ty (show kitB "int" "list" = some false by decide +kernel)
  | str _ => exact kit_ty (show kitB "str" "list" = some false by decide +kernel)
  | lst _ _ => exact kit_ty (show kitB "list" "list" = some true by decide +kernel)
  | tup _ _ => exact kit_ty (show kitB "tuple" "list" = some false by decide +kernel)
theorem kit_tup (h : Dp K H x d) : PySem.W.kitOne K (.type (tyD d)) (.type "tuple") = some (isTupD d) := by
  cases h with
  | non => exact kit_ty (show kitB "NoneType" "tuple" = some false by decide +kernel)
  | bl _ => exact kit_ty (show kitB "bool" "tuple" = some false by decide +kernel)
  | int _ => exact kit_ty (show kitB "int" "tuple" = some false by decide +kernel)
  | str _ => exact kit_ty (show kitB "str" "tuple" = some false by decide +kernel)
  | lst _ _ => exact kit_ty (show kitB "list" "tuple" = some false by decide +kernel)
  | tup _ _ => exact kit_ty (show kitB "tuple" "tuple" = some true by decide +kernel)
theorem kit_lt (h : Dp K H x d) : PySem.W.kitAny K (.type (tyD d)) [.type "list", .type "tuple"] = some (isListD d || isTupD d) := by
  cases h <;> rfl
end
/-! ### numbers within bounds -/
def numD (lo hi : Int) : PyData → Bool
  | .int i => decide (lo ≤ i) && decide (i ≤ hi)
  | _ => false
def toI : PyData → Int
  | .int i => i
  | _ => 0
theorem numD_int {lo hi : Int} : ∀ {d : PyData}, numD lo hi d = true → d = .int (toI d) ∧ lo ≤ toI d ∧ toI d ≤ hi
  | .int i, h => by
    obtain ⟨h1, h2⟩ := Bool.and_eq_true_iff.mp (show (decide (lo ≤ i) && decide (i ≤ hi)) = true from h)
    exact ⟨rfl, of_decide_eq_true h1, of_decide_eq_true h2⟩
/-- rising -/
def risI : List Int → Bool
  | a :: b :: r => decide (a < b) && risI (b :: r)
  | _ => true
def risD (lo hi : Int) : PyData → Bool
  | .list ds => ds.all (numD lo hi) && risI (ds.map toI)
  | _ => false
theorem risI_pair : ∀ {ns : List Int}, risI ns = true ↔ ns.Pairwise (· < ·)
  | [] => by simp [risI]
  | [a] => by simp [risI]
  | a :: b :: r => by
    have ih := risI_pair (ns := b :: r)
    show (decide (a < b) && risI (b :: r)) = true ↔ _
    rw [Bool.and_eq_true_iff, decide_eq_true_eq, ih]
    constructor
    · rintro ⟨h1, h2⟩
      refine List.pairwise_cons.mpr ⟨fun x hx => ?_, h2⟩
      rcases List.mem_cons.mp hx with e | e
      · rw [e]; exact h1
      · exact Int.lt_trans h1 ((List.pairwise_cons.mp h2).1 x e)
    · intro h
      obtain ⟨h1, h2⟩ := List.pairwise_cons.mp h
      exact ⟨h1 b List.mem_cons_self, h2⟩
theorem nums_of {lo hi : Int} {ds : List PyData} (h : ds.all (numD lo hi) = true) : ds = (ds.map toI).map PyData.int ∧ ∀ k ∈ ds.map toI, lo ≤ k ∧ k ≤ hi := by
  rw [List.all_eq_true] at h
  constructor
  · rw [List.map_map]
    conv => lhs; rw [← List.map_id ds]
    exact List.map_congr_left fun d hd => (numD_int (h d hd)).1
  · intro k hk
    obtain ⟨d, hd, rfl⟩ := List.mem_map.mp hk
    exact (numD_int (h d hd)).2
section
variable {K : PySem.W.Frag} {H : Hp}
theorem dp_intsV : ∀ {xs : List V} {ns : List Int}, DpAll K H xs (ns.map PyData.int) → xs = ns.map V.int
  | [], [], _ => rfl
  | [], _ :: _, h => by cases h
  | _ :: _, [], h => by cases h
  | x :: xs, n :: ns, h => by
    cases h with
    | cons h t => cases h; rw [dp_intsV t]; rfl
end
/-- of a row that rises just the same: a row in which all stand in order, none twice -/
theorem sorted_uniq : ∀ {xs ys : List Int}, xs.Pairwise (· < ·) → ys.Pairwise (· < ·) → (∀ k, k ∈ xs ↔ k ∈ ys) → xs = ys
  | [], [], _, _, _ => rfl
  | [], y :: ys, _, _, h => by have := (h y).mpr List.mem_cons_self; simp at this
  | x :: xs, [], _, _, h => by have := (h x).mp List.mem_cons_self; simp at this
  | x :: xs, y :: ys, h1, h2, h => by
    rw [List.pairwise_cons] at h1 h2
    have e : x = y := by
      rcases List.mem_cons.mp ((h x).mp List.mem_cons_self) with e | e
      · exact e
      · rcases List.mem_cons.mp ((h y).mpr List.mem_cons_self) with e2 | e2
        · exact e2.symm
        · have := h2.1 x e; have := h1.1 y e2; omega
    subst e
    have : xs = ys := sorted_uniq h1.2 h2.2 fun k => by
      constructor
      · intro hk
        rcases List.mem_cons.mp ((h k).mp (List.mem_cons_of_mem _ hk)) with e | e
        · have := h1.1 k hk; omega
        · exact e
      · intro hk
        rcases List.mem_cons.mp ((h k).mpr (List.mem_cons_of_mem _ hk)) with e | e
        · have := h2.1 k hk; omega
        · exact e
    rw [this]
theorem eqv_ints : ∀ xs ys : List Int, PyData.eqv (.list (xs.map PyData.int)) (.list (ys.map PyData.int)) = decide (xs = ys)
  | [], [] => rfl
  | [], _ :: _ => rfl
  | _ :: _, [] => rfl
  | x :: xs, y :: ys => by
    have ih := eqv_ints xs ys
    show (PyData.eqv (.int x) (.int y) && PyData.eqvAll (xs.map PyData.int) (ys.map PyData.int)) = _
    rw [show PyData.eqvAll (xs.map PyData.int) (ys.map PyData.int) = decide (xs = ys) from ih]
    show ((x == y) && _) = _
    by_cases h : x = y
    · subst h; simp
    · simp [h]
/-- thing == sorted(set(thing)): just where it rises -/
theorem eq_sorted {ns zs : List Int} (h : zs.Pairwise (· < ·)) (m : ∀ k, k ∈ zs ↔ k ∈ ns) : decide (ns = zs) = risI ns := by
  by_cases e : ns = zs
  · rw [decide_eq_true e, e]; exact (risI_pair.mpr h).symm
  · rw [decide_eq_false e]
    cases hr : risI ns with
    | false => rfl
    | true => exact absurd (sorted_uniq (risI_pair.mp hr) h fun k => (m k).symm) e
theorem nodup_60 {ks : List Int} (h : ks.Nodup) (b : ∀ k ∈ ks, 0 ≤ k ∧ k ≤ 60) : ks.length < 64 := by
  have := nodup_le (l := (List.range 61).map fun (i : Nat) => (i : Int)) h fun k hk => by
    obtain ⟨h0, h1⟩ := b k hk
    exact List.mem_map.mpr ⟨k.toNat, List.mem_range.mpr (by omega), by omega⟩
  rw [List.length_map, List.length_range] at this
  omega
end Pot
namespace Pot
open PySem PySem.Spec PyProof.Rows L2
/-! ### a comprehension that changes nothing that stood: out i is what is told up to turn i -/
def PvL (H1 : Hp) (D : Addr) (out : Nat → List V) (i : Nat) (H2 : Hp) : Prop := Same H1 H2 ∧ H2 D = some (.lst (out i))
section
variable {H1 H2 H3 : Hp} {D : Addr} {out : Nat → List V} {i : Nat} {y : V}
theorem pv_start (nD : H1 D = none) (e : out 0 = []) : PvL H1 D out 0 (upd H1 D (.lst [])) := ⟨same_upd nD, by rw [e]; exact upd_same⟩
theorem pv_put (nD : H1 D = none) (p : PvL H1 D out i H2) (s : Same H2 H3) (e : out (i + 1) = out i ++ [y]) (l : (out i).length < sizeLine) : ∃ acc, H3 D = some (.lst acc) ∧ acc.length < sizeLine ∧ PvL H1 D out (i + 1) (upd H3 D (.lst (acc ++ [y]))) :=
  ⟨out i, s _ _ p.2, l, same_put (p.1.trans s) nD, by rw [e]; exact upd_same⟩
theorem pv_skip (p : PvL H1 D out i H2) (s : Same H2 H3) (e : out (i + 1) = out i) : PvL H1 D out (i + 1) H3 := ⟨p.1.trans s, by rw [e]; exact s _ _ p.2⟩
end
theorem take_map {α : Type} (f : α → V) {l : List α} {i : Nat} {x : α} (h : l[i]? = some x) : (l.take (i + 1)).map f = (l.take i).map f ++ [f x] := by
  rw [List.take_add_one, h, List.map_append]; rfl
theorem take_len_lt {α : Type} {f : α → V} {l : List α} {i : Nat} (h : i < 100000) : ((l.take i).map f).length < sizeLine := by
  rw [List.length_map, List.length_take, sizeLine_eq]; omega
theorem take_len_le {α : Type} {f : α → V} {l : List α} {i : Nat} (h : l.length < 100000) : ((l.take i).map f).length < sizeLine := by
  rw [List.length_map, List.length_take, sizeLine_eq]; omega
/-- each below the next -/
def rb : List Int → List Bool
  | a :: b :: r => decide (a < b) :: rb (b :: r)
  | _ => []
theorem rb_all : ∀ ns : List Int, (rb ns).all id = risI ns
  | [] => rfl
  | [_] => rfl
  | a :: b :: r => by show (decide (a < b) && (rb (b :: r)).all id) = _; rw [rb_all (b :: r)]; rfl
theorem rb_len : ∀ ns : List Int, (rb ns).length = ns.length - 1
  | [] => rfl
  | [_] => rfl
  | a :: b :: r => by show (rb (b :: r)).length + 1 = _; rw [rb_len (b :: r)]; simp
theorem rb_at : ∀ {ns : List Int} {i : Nat} {x y : Int}, ns[i]? = some x → ns[i + 1]? = some y → (rb ns)[i]? = some (decide (x < y))
  | [], _, _, _, h, _ => by simp at h
  | [_], i, _, _, _, h => by simp at h
  | a :: b :: r, 0, x, y, h, k => by
    have e1 : a = x := by simpa using h
    have e2 : b = y := by simpa using k
    subst e1 e2; rfl
  | a :: b :: r, i + 1, x, y, h, k => rb_at (ns := b :: r) (i := i) (by simpa using h) (by simpa using k)
/-- what is told of each of some data -/
theorem all_map {ds : List PyData} {f : PyData → Bool} : (ds.map f).all id = ds.all f := by
  rw [List.all_map]; rfl
end Pot
namespace Pot
open PySem PySem.Spec PyProof.Rows L2
theorem pv_end {H1 H2 : Hp} {D : Addr} {out : Nat → List V} {n : Nat} {zs : List V} (p : PvL H1 D out n H2) (e : out n = zs) : Same H1 H2 ∧ H2 D = some (.lst zs) := ⟨p.1, by rw [← e]; exact p.2⟩
theorem take_all {α : Type} {f : α → V} {l : List α} {n : Nat} (h : l.length ≤ n) : (l.take n).map f = l.map f := by rw [List.take_of_length_le h]
end Pot

namespace Pot
open PySem PySem.Spec PyProof.Rows L2
/-! ### palettes as data -/
abbrev Col := Str × Int × Int × Int
abbrev Wsh := Str × Str × Option Int
def colD (c : Col) : PyData := .tuple [.str c.1, .int c.2.1, .int c.2.2.1, .int c.2.2.2]
def optD : Option Int → PyData
  | none => .none
  | some i => .int i
def washD (r : Wsh) : PyData := .tuple [.str r.1, .str r.2.1, optD r.2.2]
def palD (cs : List Col) (ws : List Wsh) : PyData := .tuple [.tuple (cs.map colD), .tuple (ws.map washD)]
def optV : Option Int → V
  | none => .non
  | some i => .int i
def namV : Option Str → V
  | none => .non
  | some z => .str z
/-- the washing between two: the first row that tells -/
def washF (ws : List Wsh) (a : Option Str) (b : Str) : Option Int := match ws with
  | [] => some 0
  | r :: ws => if some r.1 = a ∧ r.2.1 = b then r.2.2 else washF ws a b
/-- the washing of a row -/
def sumF (ws : List Wsh) : Option Str → List Str → Int → Option Int
  | _, [], h => some h
  | a, b :: r, h => match washF ws a b with
    | none => none
    | some k => sumF ws (some b) r (h + k)
section
variable {K : PySem.W.Frag} {H : Hp}
theorem dp_tup {v : V} {ds : List PyData} (h : Dp K H v (.tuple ds)) : ∃ a xs, v = .ref a ∧ SqT K H a xs ∧ DpAll K H xs ds := by
  cases h with
  | tup h a => exact ⟨_, _, rfl, h, a⟩
theorem dp_lst {v : V} {ds : List PyData} (h : Dp K H v (.list ds)) : ∃ a xs, v = .ref a ∧ SqL K H a xs ∧ DpAll K H xs ds := by
  cases h with
  | lst h a => exact ⟨_, _, rfl, h, a⟩
theorem dp_str {v : V} {z : Str} (h : Dp K H v (.str z)) : v = .str z := by cases h; rfl
theorem dp_int {v : V} {z : Int} (h : Dp K H v (.int z)) : v = .int z := by cases h; rfl
theorem dp_opt {v : V} : ∀ {z : Option Int}, Dp K H v (optD z) → v = optV z
  | none, h => by cases h; rfl
  | some i, h => by cases h; rfl
theorem opt_dp : ∀ (z : Option Int), Dp K H (optV z) (optD z)
  | none => .non
  | some i => .int i
theorem dp_two {xs : List V} {d e : PyData} (h : DpAll K H xs [d, e]) : ∃ x y, xs = [x, y] ∧ Dp K H x d ∧ Dp K H y e := by
  cases h with
  | cons h1 t => cases t with
    | cons h2 t => cases t; exact ⟨_, _, rfl, h1, h2⟩
theorem dp_three {xs : List V} {d e f : PyData} (h : DpAll K H xs [d, e, f]) : ∃ x y z, xs = [x, y, z] ∧ Dp K H x d ∧ Dp K H y e ∧ Dp K H z f := by
  cases h with
  | cons h1 t => obtain ⟨y, z, rfl, h2, h3⟩ := dp_two t; exact ⟨_, _, _, rfl, h1, h2, h3⟩
theorem dp_four {xs : List V} {d e f g : PyData} (h : DpAll K H xs [d, e, f, g]) : ∃ x y z u, xs = [x, y, z, u] ∧ Dp K H x d ∧ Dp K H y e ∧ Dp K H z f ∧ Dp K H u g := by
  cases h with
  | cons h1 t => obtain ⟨y, z, u, rfl, h2, h3, h4⟩ := dp_three t; exact ⟨_, _, _, _, rfl, h1, h2, h3, h4⟩
/-- a colour's tuple -/
theorem col_dp {v : V} {c : Col} (h : Dp K H v (colD c)) : ∃ a, v = .ref a ∧ SqT K H a [.str c.1, .int c.2.1, .int c.2.2.1, .int c.2.2.2] := by
  obtain ⟨a, xs, rfl, hs, ha⟩ := dp_tup h
  obtain ⟨x, y, z, u, rfl, h1, h2, h3, h4⟩ := dp_four ha
  rw [dp_str h1, dp_int h2, dp_int h3, dp_int h4] at hs
  exact ⟨a, rfl, hs⟩
theorem wash_dp {v : V} {r : Wsh} (h : Dp K H v (washD r)) : ∃ a, v = .ref a ∧ SqT K H a [.str r.1, .str r.2.1, optV r.2.2] := by
  obtain ⟨a, xs, rfl, hs, ha⟩ := dp_tup h
  obtain ⟨x, y, z, rfl, h1, h2, h3⟩ := dp_three ha
  rw [dp_str h1, dp_str h2, dp_opt h3] at hs
  exact ⟨a, rfl, hs⟩
/-- a palette in the heap -/
theorem pal_dp {v : V} {cs : List Col} {ws : List Wsh} (h : Dp K H v (palD cs ws)) :
    ∃ p c w xs ys, v = .ref p ∧ SqT K H p [.ref c, .ref w] ∧ SqT K H c xs ∧ DpAll K H xs (cs.map colD) ∧ SqT K H w ys ∧ DpAll K H ys (ws.map washD) := by
  obtain ⟨p, zs, rfl, hp, hz⟩ := dp_tup h
  obtain ⟨x, y, rfl, h1, h2⟩ := dp_two hz
  obtain ⟨c, xs, rfl, hc, hx⟩ := dp_tup h1
  obtain ⟨w, ys, rfl, hw, hy⟩ := dp_tup h2
  exact ⟨p, c, w, xs, ys, rfl, hp, hc, hx, hw, hy⟩
theorem dpAll_map_at {α : Type} {f : α → PyData} {xs : List V} {l : List α} {i : Nat} {x : V} (h : DpAll K H xs (l.map f)) (e : xs[i]? = some x) : ∃ y, l[i]? = some y ∧ Dp K H x (f y) := by
  obtain ⟨d, g, p⟩ := dpAll_at h e
  rw [List.getElem?_map] at g
  obtain ⟨y, hy, rfl⟩ := Option.map_eq_some_iff.mp g
  exact ⟨y, hy, p⟩
theorem dpAll_map_len {α : Type} {f : α → PyData} {xs : List V} {l : List α} (h : DpAll K H xs (l.map f)) : xs.length = l.length := by
  rw [dpAll_len h, List.length_map]
end
theorem decS {a b : Str} : decide (V.str a = V.str b) = decide (a = b) := by
  by_cases h : a = b
  · subst h; rw [decide_eq_true rfl, decide_eq_true rfl]
  · rw [decide_eq_false h, decide_eq_false fun z => h (V.str.inj z)]
/-- behind rows that don't tell -/
theorem washF_skip {a : Option Str} {b : Str} : ∀ {ws : List Wsh} {i : Nat}, (∀ j r, j < i → ws[j]? = some r → ¬ (some r.1 = a ∧ r.2.1 = b)) → washF ws a b = washF (ws.drop i) a b
  | ws, 0, _ => rfl
  | [], i + 1, _ => rfl
  | r :: ws, i + 1, h => by
    show (if some r.1 = a ∧ r.2.1 = b then r.2.2 else washF ws a b) = washF (ws.drop i) a b
    rw [if_neg (h 0 r (Nat.succ_pos _) rfl)]
    exact washF_skip (a := a) (b := b) (ws := ws) (i := i) fun j q hj e => h (j + 1) q (Nat.succ_lt_succ hj) e
theorem washF_at {a : Option Str} {b : Str} {ws : List Wsh} {i : Nat} {r : Wsh} (h : ∀ j r, j < i → ws[j]? = some r → ¬ (some r.1 = a ∧ r.2.1 = b)) (e : ws[i]? = some r) (hr : some r.1 = a ∧ r.2.1 = b) : washF ws a b = r.2.2 := by
  rw [washF_skip h, List.drop_eq_getElem_cons (List.getElem?_eq_some_iff.mp e).1, (List.getElem?_eq_some_iff.mp e).2]
  unfold washF
  rw [if_pos hr]
theorem washF_none {a : Option Str} {b : Str} {ws : List Wsh} (h : ∀ j r, j < ws.length → ws[j]? = some r → ¬ (some r.1 = a ∧ r.2.1 = b)) : washF ws a b = some 0 := by
  rw [washF_skip h, List.drop_length]
  rfl
/-! ### data without lists stays while the law draws -/
def noLAll : List PyData → Prop
  | [] => True
  | x :: xs => noL x ∧ noLAll xs
where noL : PyData → Prop
  | .list _ => False
  | .dict _ => False
  | .tuple xs => noLAll xs
  | _ => True
section
variable {K : PySem.W.Frag}
theorem kp_tup {d c : Addr} {H H' : Hp} {n : Nat} {a : Addr} {xs : List V} (st : StAt H d c n) (k : Kp d c H H') (h : SqT K H a xs) : SqT K H' a xs := by
  obtain ⟨_, ys, t, h1, h2, _⟩ := st
  have go : ∀ o, (H a = some (.tup xs) ∨ H a = some (.frz o (.tup xs))) → a ≠ d ∧ a ≠ c := fun o e => by
    constructor
    · intro z; subst z; rw [h1] at e; rcases e with e | e <;> cases e
    · intro z; subst z; rw [h2] at e; rcases e with e | e <;> cases e
  rcases h with (h | ⟨o, h⟩) | h
  · have g := go ⟨.none, none, .fields #[], #[]⟩ (.inl h); exact .inl (.inl (k _ _ g.1 g.2 h))
  · have g := go o (.inr h); exact .inl (.inr ⟨o, k _ _ g.1 g.2 h⟩)
  · exact .inr h
mutual
theorem dp_kp {d c : Addr} {H H' : Hp} {n : Nat} (st : StAt H d c n) (k : Kp d c H H') : ∀ {v : V} {e : PyData}, noLAll.noL e → Dp K H v e → Dp K H' v e
  | _, _, _, .non => .non
  | _, _, _, .bl b => .bl b
  | _, _, _, .int i => .int i
  | _, _, _, .str x => .str x
  | _, _, h, .lst _ _ => h.elim
  | _, _, h, .tup s a => .tup (kp_tup st k s) (dpAll_kp st k h a)
theorem dpAll_kp {d c : Addr} {H H' : Hp} {n : Nat} (st : StAt H d c n) (k : Kp d c H H') : ∀ {vs : List V} {es : List PyData}, noLAll es → DpAll K H vs es → DpAll K H' vs es
  | _, _, _, .nil => .nil
  | _, _, h, .cons x t => .cons (dp_kp st k h.1 x) (dpAll_kp st k h.2 t)
end
mutual
theorem dp_go {H H' : Hp} (go : ∀ a us, SqT K H a us → SqT K H' a us) : ∀ {v : V} {e : PyData}, noLAll.noL e → Dp K H v e → Dp K H' v e
  | _, _, _, .non => .non
  | _, _, _, .bl b => .bl b
  | _, _, _, .int i => .int i
  | _, _, _, .str x => .str x
  | _, _, h, .lst _ _ => h.elim
  | _, _, h, .tup s a => .tup (go _ _ s) (dpAll_go go h a)
theorem dpAll_go {H H' : Hp} (go : ∀ a us, SqT K H a us → SqT K H' a us) : ∀ {vs : List V} {es : List PyData}, noLAll es → DpAll K H vs es → DpAll K H' vs es
  | _, _, _, .nil => .nil
  | _, _, h, .cons x t => .cons (dp_go go h.1 x) (dpAll_go go h.2 t)
end
theorem noL_map {α : Type} {f : α → PyData} (h : ∀ x, noLAll.noL (f x)) : ∀ l : List α, noLAll (l.map f)
  | [] => trivial
  | x :: r => ⟨h x, noL_map h r⟩
theorem noL_col (c : Col) : noLAll.noL (colD c) := ⟨trivial, trivial, trivial, trivial, trivial⟩
theorem noL_wash (r : Wsh) : noLAll.noL (washD r) := ⟨trivial, trivial, by cases r.2.2 <;> trivial, trivial⟩
theorem noL_pal (cs : List Col) (ws : List Wsh) : noLAll.noL (palD cs ws) := ⟨noL_map noL_col cs, noL_map noL_wash ws, trivial⟩
theorem dpAll_app {H : Hp} : ∀ {xs ys : List V} {ds es : List PyData}, DpAll K H xs ds → DpAll K H ys es → DpAll K H (xs ++ ys) (ds ++ es)
  | _, _, _, _, .nil, h => h
  | _, _, _, _, .cons h t, h2 => .cons h (dpAll_app t h2)
end
/-! ### how long a palette's text may be -/
structure PalOk (cs : List Col) (ws : List Wsh) : Prop where
  nc : cs.length ≤ 20
  nw : ws.length ≤ 60
  cn : ∀ c ∈ cs, c.1.length ≤ 9 ∧ (∀ x ∈ c.1.cps.toList, x < 1114112) ∧ c.2.1.natAbs < 10000 ∧ c.2.2.1.natAbs < 10000 ∧ c.2.2.2.natAbs < 10000
  wn : ∀ r ∈ ws, (r.1.length ≤ 9 ∧ ∀ x ∈ r.1.cps.toList, x < 1114112) ∧ (r.2.1.length ≤ 9 ∧ ∀ x ∈ r.2.1.cps.toList, x < 1114112) ∧ ∀ i, r.2.2 = some i → i.natAbs < 10000
theorem PalOk.addC {cs : List Col} {ws : List Wsh} {c : Col} (h : PalOk cs ws) (n : cs.length < 20) (ok : c.1.length ≤ 9 ∧ (∀ x ∈ c.1.cps.toList, x < 1114112) ∧ c.2.1.natAbs < 10000 ∧ c.2.2.1.natAbs < 10000 ∧ c.2.2.2.natAbs < 10000) : PalOk (cs ++ [c]) ws :=
  ⟨by rw [List.length_append]; exact n, h.nw, fun x hx => (List.mem_append.mp hx).elim (h.cn x) fun z => by rw [List.mem_singleton.mp z]; exact ok, h.wn⟩
theorem PalOk.addW {cs : List Col} {ws : List Wsh} {r : Wsh} (h : PalOk cs ws) (n : ws.length < 60) (ok : (r.1.length ≤ 9 ∧ ∀ x ∈ r.1.cps.toList, x < 1114112) ∧ (r.2.1.length ≤ 9 ∧ ∀ x ∈ r.2.1.cps.toList, x < 1114112) ∧ ∀ i, r.2.2 = some i → i.natAbs < 10000) : PalOk cs (ws ++ [r]) :=
  ⟨h.nc, by rw [List.length_append]; exact n, h.cn, fun x hx => (List.mem_append.mp hx).elim (h.wn x) fun z => by rw [List.mem_singleton.mp z]; exact ok⟩
theorem log_small {i : Int} (h : i.natAbs < 10000) : i.natAbs.log2 < 1920 := by
  by_cases z : i.natAbs = 0
  · rw [z]; decide
  · have := (Nat.log2_lt z).mpr (show i.natAbs < 2 ^ 14 from Nat.lt_of_lt_of_le h (by decide))
    omega
theorem fineAll_map {α : Type} {f : α → PyData} : ∀ {l : List α}, (∀ x ∈ l, fineAll.fine (f x)) → fineAll (l.map f)
  | [], _ => trivial
  | x :: r, h => ⟨h x List.mem_cons_self, fineAll_map fun y hy => h y (List.mem_cons_of_mem _ hy)⟩
theorem costAll_map {α : Type} {f : α → PyData} {b : Nat} : ∀ {l : List α}, (∀ x ∈ l, costAll.cost (f x) ≤ b) → costAll (l.map f) ≤ l.length * (b + 2)
  | [], _ => Nat.zero_le _
  | x :: r, h => by
    have h1 := h x List.mem_cons_self
    have h2 := costAll_map (l := r) fun y hy => h y (List.mem_cons_of_mem _ hy)
    show costAll.cost (f x) + 2 + costAll (r.map f) ≤ (r.length + 1) * (b + 2)
    rw [Nat.succ_mul]
    omega
theorem depthAll_map {α : Type} {f : α → PyData} {b : Nat} : ∀ {l : List α}, (∀ x ∈ l, (f x).depth ≤ b) → PyData.depthAll (l.map f) ≤ b
  | [], _ => Nat.zero_le _
  | x :: r, h => by
    show max (f x).depth (PyData.depthAll (r.map f)) ≤ b
    exact Nat.max_le.mpr ⟨h x List.mem_cons_self, depthAll_map fun y hy => h y (List.mem_cons_of_mem _ hy)⟩
theorem fine_col {c : Col} (h : c.1.length ≤ 9 ∧ (∀ x ∈ c.1.cps.toList, x < 1114112) ∧ c.2.1.natAbs < 10000 ∧ c.2.2.1.natAbs < 10000 ∧ c.2.2.2.natAbs < 10000) : fineAll.fine (colD c) :=
  ⟨fun x hx => Nat.lt_trans (h.2.1 x hx) (by decide), log_small h.2.2.1, log_small h.2.2.2.1, log_small h.2.2.2.2, trivial⟩
theorem fine_opt {o : Option Int} (h : ∀ i, o = some i → i.natAbs < 10000) : fineAll.fine (optD o) := by
  cases o with
  | none => trivial
  | some i => exact log_small (h i rfl)
theorem pal_fine {cs : List Col} {ws : List Wsh} (h : PalOk cs ws) : fineAll.fine (palD cs ws) :=
  ⟨fineAll_map fun c hc => fine_col (h.cn c hc), fineAll_map fun r hr => ⟨fun x hx => Nat.lt_trans ((h.wn r hr).1.2 x hx) (by decide), fun x hx => Nat.lt_trans ((h.wn r hr).2.1.2 x hx) (by decide), fine_opt (h.wn r hr).2.2, trivial⟩, trivial⟩
theorem cost_opt (o : Option Int) : costAll.cost (optD o) ≤ 1921 := by
  cases o with
  | none => decide
  | some i => exact Nat.le_refl _
theorem pal_cost {cs : List Col} {ws : List Wsh} (h : PalOk cs ws) : costAll.cost (palD cs ws) ≤ 1000000 := by
  have h1 : costAll (cs.map colD) ≤ cs.length * (10000 + 2) := costAll_map fun c hc => by
    have := (h.cn c hc).1
    show (10 * c.1.length + 2) + 2 + (1921 + 2 + (1921 + 2 + (1921 + 2 + 0))) + 3 ≤ 10000
    omega
  have h2 : costAll (ws.map washD) ≤ ws.length * (10000 + 2) := costAll_map fun r hr => by
    have a := (h.wn r hr).1.1
    have b := (h.wn r hr).2.1.1
    have c := cost_opt r.2.2
    show (10 * r.1.length + 2) + 2 + ((10 * r.2.1.length + 2) + 2 + (costAll.cost (optD r.2.2) + 2 + 0)) + 3 ≤ 10000
    omega
  have h3 := Nat.mul_le_mul_right 10002 h.nc
  have h4 := Nat.mul_le_mul_right 10002 h.nw
  show (costAll (cs.map colD) + 3) + 2 + ((costAll (ws.map washD) + 3) + 2 + 0) + 3 ≤ 1000000
  omega
theorem depth_opt (o : Option Int) : (optD o).depth = 0 := by cases o <;> rfl
theorem pal_depth (cs : List Col) (ws : List Wsh) : (palD cs ws).depth ≤ 3 := by
  have h1 : PyData.depthAll (cs.map colD) ≤ 1 := depthAll_map fun c _ => by show 1 ≤ 1; decide
  have h2 : PyData.depthAll (ws.map washD) ≤ 1 := depthAll_map fun r _ => by
    show max 0 (max 0 (max (optD r.2.2).depth 0)) + 1 ≤ 1
    rw [depth_opt]
    decide
  show max (PyData.depthAll (cs.map colD) + 1) (max (PyData.depthAll (ws.map washD) + 1) 0) + 1 ≤ 3
  omega
end Pot

namespace Pot
open PySem PySem.Spec PyProof.Rows L2
/-! ### a box of three numbers whose last is at most n -/
def Bq (H : Hp) (b : Addr) (n : Nat) : Prop := ∃ x y z : Int, H b = some (.lst [.int x, .int y, .int z]) ∧ 0 ≤ z ∧ z ≤ n
section
variable {H H' : Hp} {b p : Addr} {n m : Nat} {o : HO}
theorem Bq.bx (B : Bq H b n) : Bx H b := by
  obtain ⟨x, y, z, h, _⟩ := B
  exact ⟨x, y, z, h⟩
theorem Bq.same (B : Bq H b n) (s : Same H H') : Bq H' b n := by
  obtain ⟨x, y, z, h, h2⟩ := B
  exact ⟨x, y, z, s _ _ h, h2⟩
theorem Bq.put (B : Bq H b n) (h : H p = none) : Bq (upd H p o) b n := B.same (same_upd h)
theorem Bq.wr (B : Bq H b n) (h : p ≠ b) : Bq (upd H p o) b n := by
  obtain ⟨x, y, z, e, h2⟩ := B
  exact ⟨x, y, z, by rw [upd_ne h.symm]; exact e, h2⟩
theorem Bq.mono (B : Bq H b n) (h : n ≤ m) : Bq H b m := by
  obtain ⟨x, y, z, e, h1, h2⟩ := B
  exact ⟨x, y, z, e, h1, by omega⟩
theorem Bq.ne (B : Bq H b n) (h : H p = none) : p ≠ b := B.bx.ne h
theorem Live.q (B : Bq H b n) : Live [b] H := Live.one B.bx
end
theorem b01 (k : Bool) : -(2 ^ 64 : Int) < (if k = true then 1 else 0) ∧ (if k = true then 1 else 0) < (2 ^ 64 : Int) := by cases k <;> decide
theorem CDivW.of {i j : Int} (h0 : 0 < j) (h1 : j < 2 ^ 64) : CDivW i j := by
  refine ⟨h0, ?_⟩
  have z : j.natAbs ≠ 0 := by omega
  have := (Nat.log2_lt z).mpr (show j.natAbs < 2 ^ 64 by omega)
  omega
mutual
theorem gd_lay {m : Nat} : ∀ d : PyData, gd m d → d.canLay0 = true
  | .none, _ => rfl
  | .bool _, _ => rfl
  | .int _, _ => rfl
  | .str x, g => by
    show x.cps.all (fun c => decide (c < 0x110000)) = true
    rw [← Array.all_toList, List.all_eq_true]
    exact fun c hc => decide_eq_true (g.2 c hc)
  | .list xs, g => gdAll_lay xs g
  | .tuple xs, g => gdAll_lay xs g
  | .dict _, g => g.elim
theorem gdAll_lay {m : Nat} : ∀ ds : List PyData, gdAll m ds → PyData.canLayAll0 ds = true
  | [], _ => rfl
  | x :: xs, g => by
    show (x.canLay0 && PyData.canLayAll0 xs) = true
    rw [gd_lay x g.1, gdAll_lay xs g.2]; rfl
end
theorem Th.shaped {m C D W : Nat} {d : PyData} (h : Th m C D W d) (hD : D ≤ 64) : SeqAt.shaped d = true := by
  unfold SeqAt.shaped
  rw [gd_lay d h.g, decide_eq_true (Nat.le_trans h.d hD)]; rfl
theorem gd_shaped {m : Nat} {d : PyData} (h : gd m d) (hD : d.depth ≤ 64) : SeqAt.shaped d = true := by
  unfold SeqAt.shaped
  rw [gd_lay d h, decide_eq_true hD]; rfl
end Pot

set_option maxHeartbeats 2000000
namespace RLam
open PySem PySem.Spec PyProof.Rows L2 PySem.Calls
/-! ### a lambda with one value by place, its answer the first part of a row of a captured list, turned -/
section
variable {prog : Program} {w : World} {B : Around} {s : Shared}
theorem ld_captured {E : Value → Shared → Prop} {env : Env} {o : Str} {co : Addr} {v : Value} {Q : Value → Shared → Prop} {p : Pos} (hk : env.scope.kind = .function) (hl : env.kindOf o = some .free) (hc : env.cells.lookup o = some co) (hv : s.heap.IsCell co (some v))
    (h : Q v s) (hd : (o == ("__debug__" : Str)) = false) (hcd : (o == ("__classdict__" : Str)) = false) : wpAny (model prog w) B (eval (.Name o p) env) Q E s :=
  wpAny_Name (wpAny_loadName_free hk hl hc hv h hcd) hd
theorem ld_own {E : Value → Shared → Prop} {env : Env} {o : Str} {m : Str → Option Value} {v : Value} {Q : Value → Shared → Prop} {p : Pos} (hk : env.scope.kind = .function) (hl : env.kindOf o = some .local) (hn : s.heap.Ns env.locals m) (hv : m o = some v)
    (h : Q v s) (hd : (o == ("__debug__" : Str)) = false) : wpAny (model prog w) B (eval (.Name o p) env) Q E s :=
  wpAny_Name (wpAny_loadName_local hk hl hn hv h) hd
theorem turn_neg {f c' co L tp : Addr} {q o n : Str} {params : Arguments} {scope : Scope} {cl : List (Str × Addr)} {pm ctv : Value} {its us : List Value} {i : Nat} {t0 t1 : Tok} {r : Int} {p1 p2 p3 p4 p5 p6 : Pos} {j : Nat}
    (hf : s.heap.get? f = some (PySem.W.kla_obj "<lambda>" q params (.UnaryOp .USub (.Subscript (.Subscript (.Name o p1) (.Name n p2) p3) (.Constant (.int 0) j p4) p5) p6) scope cl pm c' ctv))
    (hcd : ∃ (oc : Obj) (vs : Array Value) (t : Tok), s.heap.get? c' = some oc ∧ oc.data = .fields vs ∧ vs[1]? = some (.str q t))
    (hroom : B.depth < recursionLimit) (lim : s.heap.NoLimit) (hco : scope.isCoroutine = false) (hge : scope.isGenerator = false) (hk : scope.kind = .function) (hnc : ∀ x ∈ scope.names, x.2 ≠ .cell)
    (hn : scope.names.lookup n = some .local) (ho : scope.names.lookup o = some .free)
    (hbind : ∀ (u v : Value), bindArgs (PySem.W.kla_fn "<lambda>" q params (.UnaryOp .USub (.Subscript (.Subscript (.Name o p1) (.Name n p2) p3) (.Constant (.int 0) j p4) p5) p6) scope cl pm u ctv) ⟨[v], []⟩ = pure [(n, v)])
    (hcl : cl.lookup o = some co) (hcell : s.heap.IsCell co (some (.ref L))) (hL : s.heap.IsList L its.toArray) (hi : its[i]? = some (.ref tp)) (hi63 : i < 2 ^ 63) (hT : IsTup s.heap tp us.toArray) (hu : us[0]? = some (.int r t1)) (hus : us.length < 2 ^ 63)
    (hd1 : (o == ("__debug__" : Str)) = false := by decide) (hd2 : (o == ("__classdict__" : Str)) = false := by decide) (hd3 : (n == ("__debug__" : Str)) = false := by decide) :
    wpAny (model prog w) B (call (.ref f) [.int (i : Int) t0]) (PySem.W.KeyPure (.int (-r)) s) (fun _ _ => False) s := by
  refine wpAny_call (PySem.W.kla_callFunE hroom hf rfl hco hge rfl ?_ ?_)
  · obtain ⟨oc, vs, t, a, b, c⟩ := hcd
    exact ⟨c', oc, vs, t, rfl, a, b, c⟩
  rw [hbind]
  refine wpAny_pure (wpAny_newFunctionEnv hnc (fun y hy => ?_) (fun h₁ hns hsb => ⟨lim.fresh _ hsb, ?_⟩) hk)
  · rw [List.mem_singleton] at hy
    rw [hy]
    exact hn
  have kp : ∀ b o, s.heap.get? b = some o → h₁.get? b = some o := fun b o e => hsb.extBut b o (Nat.ne_of_lt (Heap.lt_size e)) (Heap.get?_push_of_some _ e)
  have hcell' : h₁.IsCell co (some (.ref L)) := by
    obtain ⟨oc, e1, e2⟩ := hcell
    exact ⟨oc, kp _ _ e1, e2⟩
  have hL' : h₁.IsList L its.toArray := by
    obtain ⟨oc, e1, e2⟩ := hL
    exact ⟨oc, kp _ _ e1, e2⟩
  have hT' : IsTup h₁ tp us.toArray := hT.keeps kp
  refine PySem.W.kla_codeExpr ?_
  refine UnaryOp_ (Subscript_ (Subscript_ (ld_captured hk ho hcl hcell' (ld_own (v := .int (i : Int) t0) hk hn hns ?_ ?_ hd3) hd1 hd2)))
  · show ([(n, Value.int (i : Int) t0)] : List (Str × Value)).reverse.lookup n = _
    simp [List.lookup]
  · have l63 := line63
    refine item_listR (x := .ref tp) hL' (by omega) (by omega) (by simpa using hi) ?_ (by with_unfolding_all rfl)
    refine wpAny_Constant_int ?_
    refine subscriptTail_builtinR (x := .int r t1) hT'.typeIs slot_tuple_getitem.lookup (getItem_tuple (j := 0) (x := .int r t1) (Q := fun u s' => u = .int r t1 ∧ _) hT' (by omega) (by omega) ?_ ?_ ⟨rfl, ?_⟩) (by with_unfolding_all rfl)
    · rw [List.size_toArray]
      have hz : 0 < us.length := (List.getElem?_eq_some_iff.mp hu).1
      exact seqIndex_of (by omega) (by omega)
    · simpa using hu
    · exact neg_int ⟨_, _, rfl, fun b o e => kp b o e, .int _ _⟩
end

/-! ### lists of values -/
theorem each_of {β : Type} {f : β → V} : ∀ {bs : List β} {us : List Value}, Vals (bs.map f) us → PySem.W.EachIs (fun u b => RelV (f b) u) us bs
  | [], _, r => by
    cases r
    exact .nil
  | b :: bs, _, r => by
    cases r with
    | cons a r => exact .cons a (each_of r)
theorem of_each {β : Type} {f : β → V} : ∀ {bs : List β} {us : List Value}, PySem.W.EachIs (fun u b => RelV (f b) u) us bs → Vals (bs.map f) us
  | _, _, .nil => .nil
  | _, _, .cons a r => .cons a (of_each r)
theorem sqL_ext {K : PySem.W.Frag} {H H' : Hp} {a : Addr} {xs : List V} (h : SqL K H a xs) (e : LamX.ExtN H H') : SqL K H' a xs := by
  rcases h with (h | ⟨o, h⟩) | h
  · exact .inl (.inl (e _ _ h fun ps z => by cases z))
  · exact .inl (.inr ⟨o, e _ _ h fun ps z => by cases z⟩)
  · exact .inr h
theorem sqT_ext {K : PySem.W.Frag} {H H' : Hp} {a : Addr} {xs : List V} (h : SqT K H a xs) (e : LamX.ExtN H H') : SqT K H' a xs := by
  rcases h with (h | ⟨o, h⟩) | h
  · exact .inl (.inl (e _ _ h fun ps z => by cases z))
  · exact .inl (.inr ⟨o, e _ _ h fun ps z => by cases z⟩)
  · exact .inr h
/-- the names of a lambda with the parameter n that reads o -/
structure LamN (sc scope : Scope) (n o : Str) : Prop where
  kind : scope.kind = .function
  co : scope.isCoroutine = false
  gen : scope.isGenerator = false
  cells : ∀ x ∈ scope.names, x.2 ≠ .cell
  par : scope.names.lookup n = some .local
  free : scope.names.lookup o = some .free
  up : ∀ y ∈ scope.names, y.2 = .free → sc.names.lookup y.1 = some .cell ∨ sc.names.lookup y.1 = some .free
theorem cr_range1 {X : Cx} : CallR X (.type "range") (fun vs H Q => ∃ i, vs = [V.int i] ∧ ∀ p, H p = none → Q (.ref p) (upd H p (.rng 0 i))) := by
  intro pins s σ H vs us Q I r h
  obtain ⟨i, rfl, q⟩ := h
  obtain ⟨u1, rfl, ri⟩ := vals1 r
  obtain ⟨t, rfl⟩ := ri
  refine call_range_1 ⟨.ref s.heap.objs.size, upd H s.heap.objs.size (.rng 0 i), I.laid (t' := s.toks + 2) (fun b o e => Heap.get?_push_of_some _ e) (Nat.le_refl _) ?_, rfl, q _ (I.hok.fresh (Nat.le_refl _))⟩
  exact ⟨_, _, _, Heap.get?_push_size _ rfl⟩
/-- sorted(range(m), key=lambda n: -o[n][0]) -/
def tSortLam (K : PySem.W.Frag) (T : List (Addr × Str)) (io : Nat) (ta : TA) : TE := fun σ H Q => ta σ H fun vs H1 => ∃ (p L : Addr) (m : Nat) (xs : List V) (rk : Nat → Int), vs = [V.ref p] ∧ H1 p = some (.rng 0 (m : Int)) ∧ m ≤ 2 ^ 24 ∧ LamX.Tabs T H1 ∧
  σ[io]? = some (some (.ref L)) ∧ SqL K H1 L xs ∧ (∀ i, i < m → ∃ (tp : Addr) (us : List V), xs[i]? = some (.ref tp) ∧ SqT K H1 tp us ∧ us[0]? = some (.int (rk i))) ∧
  ∀ H2, LamX.ExtN H1 H2 → LamX.Tabs T H2 → ∀ q, H2 q = none → Q (.ref q) (upd H2 q (.lst (((List.range m).mergeSort fun i j => decide (-rk i ≤ -rk j)).map fun i : Nat => V.int (i : Int))))
section
variable {X : Cx} {k : Nat} {T : List (Addr × Str)} {io : Nat} {ta : TA} {e : Expr} {n o : Str} {c P : Addr} {params : Arguments} {scope : Scope} {p kpos lpos pos p1 p2 p3 p4 p5 p6 : Pos} {j : Nat}
theorem pe_sortLam (hc : X.calm = true) (hg : Gl X "sorted") (hm : X.mg "sorted" = none) (ha : PA X [e] ta) (TB : LamX.TabB X.base X.mg c P) (hcode : X.env.code = .ref c) (hmT : (P, X.env.qual ++ "<lambda>") ∈ T) (hu : ∀ p ∈ T, p.1 = P → p.2 = X.env.qual ++ "<lambda>")
    (hr : Room (k + 1) X.A) (L : LamN X.env.scope scope n o) (hN : X.N[io]? = some o) (hdef : defaultsOf params X.env = ([], []))
    (hbind : ∀ (q : Str) (cl : List (Str × Addr)) (pm ctv u v : Value), bindArgs (PySem.W.kla_fn "<lambda>" q params (.UnaryOp .USub (.Subscript (.Subscript (.Name o p1) (.Name n p2) p3) (.Constant (.int 0) j p4) p5) p6) scope cl pm u ctv) ⟨[v], []⟩ = pure [(n, v)])
    (hd1 : (o == ("__debug__" : Str)) = false := by decide) (hd2 : (o == ("__classdict__" : Str)) = false := by decide) (hd3 : (n == ("__debug__" : Str)) = false := by decide)
    (he : backTo pos (starEach [e] X.env) = (false, eval e X.env) :: backTo pos (starEach [] X.env) := by rfl) (hpl : (backTo pos (starEach [e] X.env)).any (·.1) = false := by rfl) :
    PE X (.Call (.Name "sorted" p) [e] [⟨some "key", .Lambda params (.UnaryOp .USub (.Subscript (.Subscript (.Name o p1) (.Name n p2) p3) (.Constant (.int 0) j p4) p5) p6) scope lpos, kpos⟩] pos) (tSortLam X.K T io ta) := by
  refine ⟨fun pins s σ H Q I h => ?_⟩
  refine wpAny_Call_Name_kw (ld_blt I hg hm (by rfl) ?_)
  refine PyProof.Rows.callWith_kw (thn (ha.run pos pins s σ H _ I h) fun us s1 ⟨vs, H1, I1, r1, q1⟩ => ?_) he hpl (by rfl) (by rfl)
  obtain ⟨pr, La, m, xs, rk, rfl, hpr, hm24, hT, hσ, hL, hrow, q⟩ := q1
  obtain rfl := Vals.ref1 r1
  have hfree : ∀ y ∈ scope.names, y.2 = .free → ∃ c, X.env.cells.lookup y.1 = some c := fun y hy e => by
    rcases L.up y hy e with k | k
    · exact I1.ok.has _ (.inl k)
    · exact I1.ok.has _ (.inr k)
  show wpAny _ _ (evalAll [do let v ← eval _ X.env; standAt pos; pure v]) _ _ s1
  refine wpAny_evalAll_cons (wpAny_bind (LamX.lam_make2 I1 TB hcode hmT hu hT hdef hfree fun f c' pm ctv H2 s2 I2 eN T2 hf hfn hfr hco => wpAny_bind (wpAny_standAt (wpAny_pure (wpAny_evalAll_nil ?_)))))
  show wpAny _ _ (call (.builtin "sorted") [.ref pr] [(Str.ofString "key", .ref f)]) _ _ _
  obtain ⟨tr, tr2, tr3, hrg⟩ := I2.hok pr _ (eN _ _ hpr fun ps z => by cases z)
  obtain ⟨⟨oc, vsc, tc, hoc, hdc, hvc⟩, _, _⟩ := I2.hok c' _ hco
  obtain ⟨its, rv, pl, hz⟩ := I2.list (sqL_ext hL eN)
  have hup := L.up (o, .free) (PySem.mem_of_lookup L.free) rfl
  obtain ⟨mm, hns, hlk⟩ := I2.loc
  obtain ⟨u0, ru0, hlook⟩ := hlk io o (.ref La) hN hσ (hup.elim (fun z => .inr (.inl z)) (fun z => .inr (.inr z)))
  obtain rfl : u0 = Value.ref La := ru0
  obtain ⟨co, hcc, hcell⟩ : ∃ co, X.env.cells.lookup o = some co ∧ s2.heap.IsCell co (some (.ref La)) := by
    rcases hlook with ⟨z, _⟩ | ⟨_, z⟩
    · have z : X.env.scope.names.lookup o = some .local := z
      rcases hup with y | y <;> rw [show X.env.scope.names.lookup o = _ from y] at z <;> cases z
    · exact z
  have hcl : (cloFrom X.env.cells scope.names []).lookup o = some co := by
    obtain ⟨c1, e1⟩ := mem_lookup (cloFrom_has (cells := X.env.cells) (acc := []) (PySem.mem_of_lookup L.free))
    rcases cloFrom_mem (PySem.mem_of_lookup e1) with hm | ⟨h1, h2⟩
    · cases hm
    · rw [e1, h2, hcc]
      rfl
  have lim2 := I2.nolimit
  refine PyProof.Rows.call_function_entry_kw PyProof.Rows.kind_sorted PyProof.Rows.plain_sorted PyProof.Rows.entry_sorted (PyProof.Rows.ksk_s1 _ _) ?_
  unfold Builtin.«sorted»
  refine wpAny_bind (m := checkCount "sorted" 1 1 _) (wpAny_pure ?_)
  refine wpAny_bind (L2.collect_range (A := X.A.in1) (a := 0) (b := (m : Int)) (c := 1) (n := m) (I2.ok.hd hc) hrg (small_one (by omega) (by omega) (by omega) (by omega)) (by have e := rangeSize_nat 0 (m : Int); rw [e]; omega) hm24 fun h' tk acc hk hacc => ?_)
  have I3 : Inv X pins σ H2 { s2 with heap := h', toks := tk } := I2.kept hk
  have hal : acc.toList.length = m := by rw [Array.length_toList]; exact hacc.1
  refine wpAny_bind (wpAny_newList ?_ (by rw [hal, sizeLine_eq]; omega))
  have hoL : (h'.push (seqObj "list" acc.toList.toArray 0)).get? h'.objs.size = some (seqObj "list" acc.toList.toArray 0) := Heap.get?_push_size _ rfl
  show wpAny _ _ _ _ _ { s2 with heap := h'.push (seqObj "list" acc.toList.toArray 0), toks := tk }
  have hE : PySem.W.EachIs (fun (u : Value) (i : Nat) => RelV (V.int (i : Int)) u) acc.toList (List.range m) := by
    refine each_of ?_
    rw [← hal]
    refine vals_of_get acc.toList _ fun j u hj => ?_
    obtain ⟨t, rfl⟩ := hacc.2 j u (by rw [← hj, Array.getElem?_toList])
    exact ⟨t, by rw [Int.mul_one, Int.zero_add]⟩
  have old : ∀ b o, s2.heap.get? b = some o → b ≠ h'.objs.size ∧ (h'.push (seqObj "list" acc.toList.toArray 0)).get? b = some o := fun b o e => ⟨Nat.ne_of_lt (Heap.lt_size (hk b o e)), Heap.get?_push_of_some _ (hk b o e)⟩
  refine wpAny_bind (wpAny_holding (PySem.W.list_sort_key_data (b := false) (s := { s2 with heap := h'.push (seqObj "list" acc.toList.toArray 0), toks := tk }) (fun i : Nat => PyData.int (-rk i)) hoL hE (PySem.W.AllAlike.of fun _ _ => rfl) (PySem.W.Sortable.others fun b => ⟨fun z => (nomatch z), fun xs z => (nomatch z)⟩) (by rw [List.length_range, sizeLine_eq]; omega)
    (fun x _ => ?_) (PyProof.Rows.ksk_l1 _ _) (PyProof.Rows.ksk_t1 _ _) (fun v i hv hi hh tk2 kp => ?_) fun out cc hh tk2 kp hD hlen eo => ?_))
  · have := hr.un
    show X.A.units + 1 + 1 + 0 < _
    omega
  · obtain ⟨t0, rfl⟩ := hv
    have hi' : i < m := List.mem_range.mp hi
    obtain ⟨tp, us, hx, hS, hu0⟩ := hrow i hi'
    have kp2 : ∀ b o, s2.heap.get? b = some o → hh.get? b = some o := fun b o e => kp b o (old b o e).1 (old b o e).2
    obtain ⟨w1, ew, rw1⟩ := rv.get hx
    obtain rfl : w1 = Value.ref tp := rw1
    obtain ⟨us', rv', pl', hz'⟩ := I2.tuple (sqT_ext hS eN)
    obtain ⟨w2, ew2, rw2⟩ := rv'.get hu0
    obtain ⟨t3, rfl⟩ := rw2
    have l63 := line63
    have hpL : hh.IsList La its.toArray := by
      obtain ⟨oc, e1, e2⟩ := pl.isList
      exact ⟨oc, kp2 _ _ e1, e2⟩
    have hpC : hh.IsCell co (some (.ref La)) := by
      obtain ⟨oc, e1, e2⟩ := hcell
      exact ⟨oc, kp2 _ _ e1, e2⟩
    exact turn_neg (s := { s2 with heap := hh, toks := tk2 }) (kp2 _ _ hf) ⟨oc, vsc, tc, kp2 _ _ hoc, hdc, hvc⟩ hr.depth (lim2.keeps kp2) L.co L.gen L.kind L.cells L.par L.free (fun u v => hbind _ _ _ _ _ _) hcl hpC hpL ew (by omega) (pl'.keeps kp2) ew2 (by have := rv'.length; omega) hd1 hd2 hd3
  · rw [PySem.W.dataLe_int] at eo
    have hE2 : Vals (((List.range m).mergeSort fun i j => decide (-rk i ≤ -rk j)).map fun i : Nat => V.int (i : Int)) out := of_each eo
    refine wpAny_pure ⟨_, rfl, .ref h'.objs.size, upd H2 h'.objs.size (.lst _), I3.laid (t' := tk2) (fun b u e => ?_) (Nat.le_refl _) ⟨?_, out, cc, hE2, hD⟩, rfl, q H2 eN T2 _ (I3.hok.fresh (Nat.le_refl _))⟩
    · exact kp b u (Nat.ne_of_lt (Heap.lt_size e)) (Heap.get?_push_of_some _ e)
    · rw [List.length_map, List.length_mergeSort, List.length_range, sizeLine_eq]
      omega
end
end RLam

namespace Pot
open PySem PySem.Spec PyProof.Rows L2
theorem up_by {sc scope : Scope} (h : (scope.names.all fun y => !decide (y.2 = .free) || (decide (sc.names.lookup y.1 = some .cell) || decide (sc.names.lookup y.1 = some .free))) = true) : ∀ y ∈ scope.names, y.2 = .free → sc.names.lookup y.1 = some .cell ∨ sc.names.lookup y.1 = some .free := fun y hy e => by
  have z := List.all_eq_true.mp h y hy
  simp only [Bool.or_eq_true, Bool.not_eq_true', decide_eq_true_eq, decide_eq_false_iff_not] at z
  exact z.resolve_left fun n => n e
/-! ### a def whose code object is known -/
theorem okC {P : Program} {w : World} {K : PySem.W.Frag} {mg : Str → Option Value} {base : Heap} {x qual : Str} {st : Stmt} {f c : Addr} {fd : FuncData} {N ps : List Str} {k : Nat} {sp : Sp} (F : Fun K x qual st f fd) (hc : fd.code = .ref c)
    (S : FnScope N ps (defScope st)) (many : ∀ vs H Q E, sp vs H Q E → vs.length = ps.length)
    (body : ∀ (A : Around) (outer : List Env) (s : Shared) (H : Hp) (vs : List V) (Q : VK) (E : XK), Room k (A.deeper (envOfC qual (defScope st) s.heap.objs.size f (.ref c))) → sp vs H Q E →
      ∃ t, PSs (cxOf CX0 P w K mg base N qual (defScope st) f (.ref c) A outer s H E).nox (defBody st) t ∧ t { nx := fun _ H' => Q .non H', rt := Q } (start N vs) H) : FnOk P w K mg base CX0 (k + 1) f fd ps sp := by
  obtain ⟨oc, od, kV, doc, pm, an, cdv, ct, osl, rfl, at_, code⟩ := F.ex
  have e : cdv = .ref c := hc
  subst e
  refine fn_of at_ code S many fun A outer s H vs Q E room want => ?_
  obtain ⟨t, ht, hq⟩ := body A outer s H vs Q E room want
  exact ⟨t, ht.nox, hq⟩
/-! ### the law's own call, where tables of code objects grow -/
theorem law_callGT {P : Program} {w : World} {K : PySem.W.Frag} {mg mb : Str → Option Value} {k : Nat} {fa a : Addr} {cs : List (Addr × Addr)} {fd : FuncData} {x : Str} {sp : Sp} {s : Shared} {vs : List Value} {ns : List Int}
    (kin : K.In s.heap) (glob : s.heap.Ns mainGlobals mg) (blt : s.heap.Ns builtinsNs mb) (boot : ∀ y : Str, y ≠ "__name__" → mb y = bootBuiltins y) (lim : s.heap.NoLimit) (gens : s.gens = #[])
    (tabs : ∀ p ∈ cs, s.heap.get? p.2 = some (PySem.W.tabObj #[])) (out : ∀ p ∈ cs, K.lookup p.2 = none) (code : ∀ p ∈ cs, PySem.W.CodeHd s.heap p.1 p.2)
    (bmain : ∃ (bm : Addr) (ob : Obj), mg "__builtins__" = some (.ref bm) ∧ bm ≠ builtinsNs ∧ s.heap.get? bm = some ob ∧ ob.cls = .type "module" ∧ ob.dict = some builtinsNs ∧ ob.data = .plain)
    (obj : s.heap.get? a = some { cls := .type "list", data := .seq vs.toArray }) (whole : IntsAre vs ns) (small : ns.length ≤ sizeLine) (room : Room k callerA)
    (F : ∀ base : Heap, K.In base → base.Ns mainGlobals mg → (∀ p ∈ cs, LamX.TabB base mg p.1 p.2) → FnG P w K mg base k fa fd [x] sp) (bind : ∀ (s : Shared) (u : Value), BindsTo s fd ⟨[u], []⟩ [(x, u)])
    (want : ∀ H : Hp, (∀ p ∈ cs, H p.2 = some (.tbl #[])) → SqL K H a (ns.map V.int) → sp [.ref a] H (fun v _ => v = .bl true) E0) :
    codeAny (model P w) callerA (.call (.ref fa) ⟨[.ref a], []⟩) (fun r s' => r = .ok (.ret (.bool true)) ∧ OldK s.heap s'.heap ∧ s'.os = s.os ∧ AllBare s'.gens) s := by
  have rv := vals_ints whole
  have nv := whole.length
  obtain ⟨isT, eT⟩ : ∃ isT : Addr → Prop, isT = fun b => ∃ p ∈ cs, p.2 = b := ⟨_, rfl⟩
  have inT : ∀ p ∈ cs, isT p.2 := fun p hp => by rw [eT]; exact ⟨p, hp, rfl⟩
  have atT : ∀ {b}, isT b → s.heap.get? b = some (PySem.W.tabObj #[]) := fun {b} h => by
    rw [eT] at h
    obtain ⟨p, hp, rfl⟩ := h
    exact tabs p hp
  have outT : ∀ {b}, isT b → K.lookup b = none := fun {b} h => by
    rw [eT] at h
    obtain ⟨p, hp, rfl⟩ := h
    exact out p hp
  have ofT : ∀ {b}, isT b → ∃ p ∈ cs, p.2 = b := fun {b} h => by rw [eT] at h; exact h
  have aT : ¬ isT a := fun h => by
    have z := (atT h).symm.trans obj
    have z2 : Data.fields #[] = Data.seq vs.toArray _ := congrArg Obj.data (Option.some.inj z)
    cases z2
  clear eT
  -- the tables, and the script where it isn't one of the written part
  obtain ⟨H, H1, H2, H3, H4⟩ : ∃ H : Hp, (∀ b, isT b → H b = some (.tbl #[])) ∧ SqL K H a (ns.map V.int) ∧ HOk P w H s.heap ∧ (∀ b u, H b = some u → (isT b ∧ u = .tbl #[]) ∨ (b = a ∧ K.lookup a = none ∧ ∃ ob xs, u = .frz ob (.lst xs))) := by
    have cl := fun b => Classical.propDecidable (isT b)
    cases lk : K.lookup a with
    | some o =>
      have same := kin a o lk
      rw [obj] at same
      cases same
      have hit : ∀ b u, (if isT b then some (HO.tbl #[]) else none) = some u → isT b ∧ u = .tbl #[] := fun b u z => by
        split at z
        · cases z; exact ⟨‹_›, rfl⟩
        · cases z
      refine ⟨fun b => if isT b then some (.tbl #[]) else none, fun b h => if_pos h, .inr ⟨_, vs.toArray, _, lk, rfl, rfl, rfl, by rw [List.size_toArray, nv]; exact small, by simpa using rv⟩, fun b u z => ?_, fun b u z => .inl (hit b u z)⟩
      obtain ⟨h, rfl⟩ := hit b u z
      exact atT h
    | none =>
      have hit : ∀ b u, (if isT b then some (HO.tbl #[]) else if b = a then some (HO.frz { cls := .type "list", data := .seq vs.toArray } (.lst (ns.map V.int))) else none) = some u → (isT b ∧ u = .tbl #[]) ∨ (b = a ∧ u = .frz { cls := .type "list", data := .seq vs.toArray } (.lst (ns.map V.int))) := fun b u z => by
        split at z
        · cases z; exact .inl ⟨‹_›, rfl⟩
        · split at z
          · cases z; exact .inr ⟨‹_›, rfl⟩
          · cases z
      refine ⟨fun b => if isT b then some (.tbl #[]) else if b = a then some (.frz { cls := .type "list", data := .seq vs.toArray } (.lst (ns.map V.int))) else none, fun b h => if_pos h, .inl (.inr ⟨{ cls := .type "list", data := .seq vs.toArray }, (if_neg aT).trans (if_pos rfl)⟩), fun b u z => ?_, fun b u z => (hit b u z).imp id fun h => ⟨h.1, rfl, _, _, h.2⟩⟩
      rcases hit b u z with ⟨h, rfl⟩ | ⟨rfl, rfl⟩
      · exact atT h
      · exact ⟨obj, by rw [List.length_map]; exact small, vs, _, rv, obj⟩
  have hid : ∀ {b : Addr} {o : Obj}, s.heap.get? b = some o → H b = none → (hidT s.heap H).get? b = some o := fun e n => hidT_get e n
  have no : ∀ {b : Addr} {o : Obj}, s.heap.get? b = some o → (∀ us n, o.data ≠ .seq us n) → o.data ≠ .fields #[] → H b = none := fun {b o} e n1 n2 => by
    cases q : H b with
    | none => rfl
    | some u =>
      rcases H4 b u q with ⟨h, _⟩ | ⟨rfl, _⟩
      · rw [atT h] at e
        cases e
        exact absurd rfl n2
      · rw [obj] at e
        cases e
        exact absurd rfl (n1 _ _)
  have kinB : K.In (hidT s.heap H) := fun b o e => hid (kin b o e) (by
    cases q : H b with
    | none => rfl
    | some u =>
      rcases H4 b u q with ⟨h, _⟩ | ⟨rfl, h, _⟩
      · rw [outT h] at e; cases e
      · rw [h] at e; cases e)
  have ns_ : ∀ {b : Addr} {m : Str → Option Value}, s.heap.Ns b m → (hidT s.heap H).Ns b m := fun {b m} h => by
    obtain ⟨o, es, ep, e, d, r⟩ := h
    exact ⟨o, es, ep, hid e (no e (fun us n z => by rw [d] at z; cases z) fun z => by rw [d] at z; cases z), d, r⟩
  have md : Mod K mg (hidT s.heap H) := ⟨kinB, ns_ glob, ⟨mb, ns_ blt, boot⟩, by obtain ⟨mc, h1, h2⟩ := lim; exact ⟨mc, ns_ h1, h2⟩⟩
  have globNe : ∀ {b : Addr} {o : Obj}, s.heap.get? b = some o → (∀ es ep, o.data ≠ .dict es ep) → b ≠ mainGlobals := fun {b o} e n z => by
    obtain ⟨o2, es, ep, e2, d, _⟩ := glob
    rw [z, e2] at e
    cases e
    exact n _ _ d
  have tb : ∀ p ∈ cs, LamX.TabB (hidT s.heap H) mg p.1 p.2 := fun p hp => by
    have hTp := tabs p hp
    refine ⟨?_, ?_, fun z => globNe hTp (fun es ep q => by cases q) z.symm⟩
    · obtain ⟨o, us, file, tf, flags, tg, inF, text, tt, e1, r1, r2, r3, r⟩ := code p hp
      exact ⟨o, us, file, tf, flags, tg, inF, text, tt, hid e1 (no e1 (fun us n z => by rw [r2] at z; cases z) fun z => by rw [r2] at z; cases z; simp at r3), r1, r2, r3, r⟩
    · obtain ⟨bm, ob, b1, b2, b3, b4, b5, b6⟩ := bmain
      refine ⟨bm, ob, b1, b2, globNe b3 (fun es ep q => by rw [b6] at q; cases q), fun q => ?_, hid b3 (no b3 (fun us n z => by rw [b6] at z; cases z) fun z => by rw [b6] at z; cases z), b4, b5, b6⟩
      rw [q, hTp] at b3
      cases b3
      cases b6
  have e0 : Env0 P w K mg (hidT s.heap H) callerA [] s H := ⟨rfl, md, fun b o e => of_hidT e, Nat.le_of_eq (hidT_size _ _), trivial, (fun b hb => nomatch (show b ∈ ([] : List Addr) from hb)), H3, .of_eq gens⟩
  refine codeAny_mono ((F _ kinB (ns_ glob) tb).does callerA [] s H ⟨[.ref a], []⟩ [.ref a] [.ref a] _ rfl room e0 (bind s (.ref a)) (.cons rfl .nil) (want H (fun p hp => H1 _ (inT p hp)) H2)) fun res s' h => ?_
  rcases res with _ | fl
  case error => exact (show False from h).elim
  cases fl <;> first | exact (show False from h).elim | skip
  obtain ⟨v, H', os, bare, un, fine', rel, q⟩ := h
  cases (show v = .bl true from q)
  cases (show _ = Value.bool true from rel)
  have key : ∀ b o, ¬ isT b → s.heap.get? b = some o → s'.heap.get? b = some o := fun b o nb e => by
    cases q : H b with
    | none => exact un.keep b o e q (fun z => nomatch (show b ∈ ([] : List Addr) from z)) (fun z => nomatch z)
    | some u =>
      rcases H4 b u q with ⟨h, _⟩ | ⟨rfl, _, ob, xs, rfl⟩
      · exact absurd h nb
      · have e1 := (H3 _ _ q).1
        have e2 := (fine' _ _ (un.frzs _ ob _ q)).1
        rw [e] at e1; cases e1
        exact e2
  have grow : ∀ {b}, isT b → ∃ more : Array Value, s'.heap.get? b = some (PySem.W.tabObj more) := fun {b} h => by
    obtain ⟨more, z⟩ := un.tbls b #[] (H1 b h)
    exact ⟨_, fine' b _ z⟩
  refine ⟨rfl, ⟨fun b o e => ?_, fun b o e => ?_⟩, os, bare⟩
  · by_cases hb : isT b
    · obtain ⟨more, hm⟩ := grow hb
      obtain ⟨p, hp, rfl⟩ := ofT hb
      rw [tabs p hp] at e
      cases e
      exact .inr (.inl ⟨((code p hp).tab (tabs p hp)).isCodeTable, rfl, #[], more, rfl, (by rw [Array.empty_append]; exact hm)⟩)
    · exact .inl (key b o hb e)
  · by_cases hb : isT b
    · exact (grow hb).elim fun more hm => ⟨_, hm⟩
    · exact ⟨o, key b o hb e⟩
theorem walkGT {l : PySem.W.OpenLaw} {n k : Nat} {q : Program} {loose : List Str} {XP : (Str → Option Value) → Heap → Prop} {YP : World → Heap → Prop} {d : DefRec} {K : Params → PySem.W.Frag} {x : Str}
    (most : l.most = some n) (fits : n ≤ sizeLine) (plain : d.params.defaults = []) (room : Room k callerA) (part : ∀ (w : World) (h : Heap), YP w h → (K w.params).In h)
    (F : ∀ (w : World) (mg : Str → Option Value) (fa : Addr) (h : Heap), YP w h → (K w.params).In h → h.Ns mainGlobals mg → mg d.name = some (.ref fa) →
      ∃ (fd : FuncData) (cs : List (Addr × Addr)) (sp : Sp), (∀ p ∈ cs, h.get? p.2 = some (PySem.W.tabObj #[])) ∧ (∀ p ∈ cs, (K w.params).lookup p.2 = none) ∧ (∀ p ∈ cs, PySem.W.CodeHd h p.1 p.2) ∧ (∀ (s : Shared) (u : Value), BindsTo s fd ⟨[u], []⟩ [(x, u)]) ∧
        (∀ (H : Hp) (a : Addr) (ns : List Int), ns.length ≤ n → (∀ p ∈ cs, H p.2 = some (.tbl #[])) → SqL (K w.params) H a (ns.map V.int) → sp [.ref a] H (fun v _ => v = .bl true) E0) ∧
        ∀ base : Heap, (K w.params).In base → base.Ns mainGlobals mg → (∀ p ∈ cs, LamX.TabB base mg p.1 p.2) → FnG l.prog w (K w.params) mg base k fa fd [x] sp) :
    PySem.W.WalkO q loose XP YP l.row.toRowW d [] (fun f vs => PySem.call f vs) := by
  refine Att.attach_call most plain fun w s₀ s₁ mg mb fa o pm cd doc a vs ns G Y _ _ _ named obj whole len gens => ?_
  obtain ⟨fd, cs, sp, hT, nT, C, bind, want, hF⟩ := F w mg fa _ Y (part w _ Y) G.T.g named
  exact law_callGT (part w _ Y) G.T.g G.T.b G.T.builtins G.T.nolimit gens hT nT C G.T.bmain obj whole (Nat.le_trans len fits) room hF bind fun H hH seq => want H a ns len hH seq
end Pot

set_option maxHeartbeats 2000000
namespace RLam
open PySem PySem.Spec PyProof.Rows L2 PySem.Calls
/-! ### a lambda with one value by place, its answer the pair of the first part of a row of a captured list and the value itself -/
section
variable {prog : Program} {w : World} {B : Around} {s : Shared}
theorem turn_pair {f c' co L tp : Addr} {q o n : Str} {params : Arguments} {scope : Scope} {cl : List (Str × Addr)} {pm ctv : Value} {its us : List Value} {i : Nat} {t0 t1 : Tok} {r : Int} {p1 p2 p3 p4 p5 p6 p7 : Pos} {x1 : Nat} {j : Nat}
    (hf : s.heap.get? f = some (PySem.W.kla_obj "<lambda>" q params (.Tuple [.Subscript (.Subscript (.Name o p1) (.Name n p2) p3) (.Constant (.int 0) j p4) p5, .Name n p6] x1 p7) scope cl pm c' ctv))
    (hcd : ∃ (oc : Obj) (vs : Array Value) (t : Tok), s.heap.get? c' = some oc ∧ oc.data = .fields vs ∧ vs[1]? = some (.str q t))
    (hroom : B.depth < recursionLimit) (lim : s.heap.NoLimit) (hco : scope.isCoroutine = false) (hge : scope.isGenerator = false) (hk : scope.kind = .function) (hnc : ∀ x ∈ scope.names, x.2 ≠ .cell)
    (hn : scope.names.lookup n = some .local) (ho : scope.names.lookup o = some .free)
    (hbind : ∀ (u v : Value), bindArgs (PySem.W.kla_fn "<lambda>" q params (.Tuple [.Subscript (.Subscript (.Name o p1) (.Name n p2) p3) (.Constant (.int 0) j p4) p5, .Name n p6] x1 p7) scope cl pm u ctv) ⟨[v], []⟩ = pure [(n, v)])
    (hcl : cl.lookup o = some co) (hcell : s.heap.IsCell co (some (.ref L))) (hL : s.heap.IsList L its.toArray) (hi : its[i]? = some (.ref tp)) (hi63 : i < 2 ^ 63) (hT : IsTup s.heap tp us.toArray) (hu : us[0]? = some (.int r t1)) (hus : us.length < 2 ^ 63)
    (hd1 : (o == ("__debug__" : Str)) = false := by decide) (hd2 : (o == ("__classdict__" : Str)) = false := by decide) (hd3 : (n == ("__debug__" : Str)) = false := by decide) :
    wpAny (model prog w) B (call (.ref f) [.int (i : Int) t0]) (PySem.W.KeyPure (.tuple [.int r, .int (i : Int)]) s) (fun _ _ => False) s := by
  refine wpAny_call (PySem.W.kla_callFunE hroom hf rfl hco hge rfl ?_ ?_)
  · obtain ⟨oc, vs, t, a, b, c⟩ := hcd
    exact ⟨c', oc, vs, t, rfl, a, b, c⟩
  rw [hbind]
  refine wpAny_pure (wpAny_newFunctionEnv hnc (fun y hy => ?_) (fun h₁ hns hsb => ⟨lim.fresh _ hsb, ?_⟩) hk)
  · rw [List.mem_singleton] at hy
    rw [hy]
    exact hn
  have kp : ∀ b o, s.heap.get? b = some o → h₁.get? b = some o := fun b o e => hsb.extBut b o (Nat.ne_of_lt (Heap.lt_size e)) (Heap.get?_push_of_some _ e)
  have hcell' : h₁.IsCell co (some (.ref L)) := by
    obtain ⟨oc, e1, e2⟩ := hcell
    exact ⟨oc, kp _ _ e1, e2⟩
  have hL' : h₁.IsList L its.toArray := by
    obtain ⟨oc, e1, e2⟩ := hL
    exact ⟨oc, kp _ _ e1, e2⟩
  have hT' : IsTup h₁ tp us.toArray := hT.keeps kp
  refine PySem.W.kla_codeExpr ?_
  refine wpAny_Tuple_spliced ?_
  refine Calls.spliced_cons ?_
  refine Subscript_ (Subscript_ (ld_captured hk ho hcl hcell' (ld_own (v := .int (i : Int) t0) hk hn hns ?_ ?_ hd3) hd1 hd2))
  · show ([(n, Value.int (i : Int) t0)] : List (Str × Value)).reverse.lookup n = _
    simp [List.lookup]
  · have l63 := line63
    refine item_listR (x := .ref tp) hL' (by omega) (by omega) (by simpa using hi) ?_ (by with_unfolding_all rfl)
    refine wpAny_Constant_int ?_
    refine subscriptTail_builtinR (x := .int r t1) hT'.typeIs slot_tuple_getitem.lookup (getItem_tuple (j := 0) (x := .int r t1) (Q := fun u s' => u = .int r t1 ∧ _) hT' (by omega) (by omega) ?_ ?_ ⟨rfl, ?_⟩) (by with_unfolding_all rfl)
    · rw [List.size_toArray]
      have hz : 0 < us.length := (List.getElem?_eq_some_iff.mp hu).1
      exact seqIndex_of (by omega) (by omega)
    · simpa using hu
    · refine Calls.spliced_cons (ld_own (v := .int (i : Int) t0) hk hn hns ?_ (Calls.spliced_nil ?_) hd3)
      · show ([(n, Value.int (i : Int) t0)] : List (Str × Value)).reverse.lookup n = _
        simp [List.lookup]
      · refine ⟨by show 2 ≤ sizeLine; decide, _, _, rfl, fun b o e => Heap.get?_push_of_some _ (kp b o e), ?_⟩
        exact .tuple (Heap.get?_push_size _ rfl) rfl rfl (.cons (.int _ _) (.cons (.int _ _) .nil))
end
/-- sorted(range(m), key=lambda n: (o[n][0], n)) -/
def tSortLamP (K : PySem.W.Frag) (T : List (Addr × Str)) (io : Nat) (ta : TA) : TE := fun σ H Q => ta σ H fun vs H1 => ∃ (p L : Addr) (m : Nat) (xs : List V) (rk : Nat → Int), vs = [V.ref p] ∧ H1 p = some (.rng 0 (m : Int)) ∧ m ≤ 2 ^ 24 ∧ LamX.Tabs T H1 ∧
  σ[io]? = some (some (.ref L)) ∧ SqL K H1 L xs ∧ (∀ i, i < m → ∃ (tp : Addr) (us : List V), xs[i]? = some (.ref tp) ∧ SqT K H1 tp us ∧ us[0]? = some (.int (rk i))) ∧
  ∀ H2, LamX.ExtN H1 H2 → LamX.Tabs T H2 → ∀ q, H2 q = none → Q (.ref q) (upd H2 q (.lst (((List.range m).mergeSort fun i j => decide (rk i < rk j ∨ (rk i = rk j ∧ (i : Int) ≤ (j : Int)))).map fun i : Nat => V.int (i : Int))))
section
variable {X : Cx} {k : Nat} {T : List (Addr × Str)} {io : Nat} {ta : TA} {e : Expr} {n o : Str} {c P : Addr} {params : Arguments} {scope : Scope} {p kpos lpos pos p1 p2 p3 p4 p5 p6 p7 : Pos} {x1 : Nat} {j : Nat}
theorem pe_sortLamP (hc : X.calm = true) (hg : Gl X "sorted") (hm : X.mg "sorted" = none) (ha : PA X [e] ta) (TB : LamX.TabB X.base X.mg c P) (hcode : X.env.code = .ref c) (hmT : (P, X.env.qual ++ "<lambda>") ∈ T) (hu : ∀ p ∈ T, p.1 = P → p.2 = X.env.qual ++ "<lambda>")
    (hr : Room (k + 1) X.A) (L : LamN X.env.scope scope n o) (hN : X.N[io]? = some o) (hdef : defaultsOf params X.env = ([], []))
    (hbind : ∀ (q : Str) (cl : List (Str × Addr)) (pm ctv u v : Value), bindArgs (PySem.W.kla_fn "<lambda>" q params (.Tuple [.Subscript (.Subscript (.Name o p1) (.Name n p2) p3) (.Constant (.int 0) j p4) p5, .Name n p6] x1 p7) scope cl pm u ctv) ⟨[v], []⟩ = pure [(n, v)])
    (hd1 : (o == ("__debug__" : Str)) = false := by decide) (hd2 : (o == ("__classdict__" : Str)) = false := by decide) (hd3 : (n == ("__debug__" : Str)) = false := by decide)
    (he : backTo pos (starEach [e] X.env) = (false, eval e X.env) :: backTo pos (starEach [] X.env) := by rfl) (hpl : (backTo pos (starEach [e] X.env)).any (·.1) = false := by rfl) :
    PE X (.Call (.Name "sorted" p) [e] [⟨some "key", .Lambda params (.Tuple [.Subscript (.Subscript (.Name o p1) (.Name n p2) p3) (.Constant (.int 0) j p4) p5, .Name n p6] x1 p7) scope lpos, kpos⟩] pos) (tSortLamP X.K T io ta) := by
  refine ⟨fun pins s σ H Q I h => ?_⟩
  refine wpAny_Call_Name_kw (ld_blt I hg hm (by rfl) ?_)
  refine PyProof.Rows.callWith_kw (thn (ha.run pos pins s σ H _ I h) fun us s1 ⟨vs, H1, I1, r1, q1⟩ => ?_) he hpl (by rfl) (by rfl)
  obtain ⟨pr, La, m, xs, rk, rfl, hpr, hm24, hT, hσ, hL, hrow, q⟩ := q1
  obtain rfl := Vals.ref1 r1
  have hfree : ∀ y ∈ scope.names, y.2 = .free → ∃ c, X.env.cells.lookup y.1 = some c := fun y hy e => by
    rcases L.up y hy e with k | k
    · exact I1.ok.has _ (.inl k)
    · exact I1.ok.has _ (.inr k)
  show wpAny _ _ (evalAll [do let v ← eval _ X.env; standAt pos; pure v]) _ _ s1
  refine wpAny_evalAll_cons (wpAny_bind (LamX.lam_make2 I1 TB hcode hmT hu hT hdef hfree fun f c' pm ctv H2 s2 I2 eN T2 hf hfn hfr hco => wpAny_bind (wpAny_standAt (wpAny_pure (wpAny_evalAll_nil ?_)))))
  show wpAny _ _ (call (.builtin "sorted") [.ref pr] [(Str.ofString "key", .ref f)]) _ _ _
  obtain ⟨tr, tr2, tr3, hrg⟩ := I2.hok pr _ (eN _ _ hpr fun ps z => by cases z)
  obtain ⟨⟨oc, vsc, tc, hoc, hdc, hvc⟩, _, _⟩ := I2.hok c' _ hco
  obtain ⟨its, rv, pl, hz⟩ := I2.list (sqL_ext hL eN)
  have hup := L.up (o, .free) (PySem.mem_of_lookup L.free) rfl
  obtain ⟨mm, hns, hlk⟩ := I2.loc
  obtain ⟨u0, ru0, hlook⟩ := hlk io o (.ref La) hN hσ (hup.elim (fun z => .inr (.inl z)) (fun z => .inr (.inr z)))
  obtain rfl : u0 = Value.ref La := ru0
  obtain ⟨co, hcc, hcell⟩ : ∃ co, X.env.cells.lookup o = some co ∧ s2.heap.IsCell co (some (.ref La)) := by
    rcases hlook with ⟨z, _⟩ | ⟨_, z⟩
    · have z : X.env.scope.names.lookup o = some .local := z
      rcases hup with y | y <;> rw [show X.env.scope.names.lookup o = _ from y] at z <;> cases z
    · exact z
  have hcl : (cloFrom X.env.cells scope.names []).lookup o = some co := by
    obtain ⟨c1, e1⟩ := mem_lookup (cloFrom_has (cells := X.env.cells) (acc := []) (PySem.mem_of_lookup L.free))
    rcases cloFrom_mem (PySem.mem_of_lookup e1) with hm | ⟨h1, h2⟩
    · cases hm
    · rw [e1, h2, hcc]
      rfl
  have lim2 := I2.nolimit
  refine PyProof.Rows.call_function_entry_kw PyProof.Rows.kind_sorted PyProof.Rows.plain_sorted PyProof.Rows.entry_sorted (PyProof.Rows.ksk_s1 _ _) ?_
  unfold Builtin.«sorted»
  refine wpAny_bind (m := checkCount "sorted" 1 1 _) (wpAny_pure ?_)
  refine wpAny_bind (L2.collect_range (A := X.A.in1) (a := 0) (b := (m : Int)) (c := 1) (n := m) (I2.ok.hd hc) hrg (small_one (by omega) (by omega) (by omega) (by omega)) (by have e := rangeSize_nat 0 (m : Int); rw [e]; omega) hm24 fun h' tk acc hk hacc => ?_)
  have I3 : Inv X pins σ H2 { s2 with heap := h', toks := tk } := I2.kept hk
  have hal : acc.toList.length = m := by rw [Array.length_toList]; exact hacc.1
  refine wpAny_bind (wpAny_newList ?_ (by rw [hal, sizeLine_eq]; omega))
  have hoL : (h'.push (seqObj "list" acc.toList.toArray 0)).get? h'.objs.size = some (seqObj "list" acc.toList.toArray 0) := Heap.get?_push_size _ rfl
  show wpAny _ _ _ _ _ { s2 with heap := h'.push (seqObj "list" acc.toList.toArray 0), toks := tk }
  have hE : PySem.W.EachIs (fun (u : Value) (i : Nat) => RelV (V.int (i : Int)) u) acc.toList (List.range m) := by
    refine each_of ?_
    rw [← hal]
    refine vals_of_get acc.toList _ fun j u hj => ?_
    obtain ⟨t, rfl⟩ := hacc.2 j u (by rw [← hj, Array.getElem?_toList])
    exact ⟨t, by rw [Int.mul_one, Int.zero_add]⟩
  have old : ∀ b o, s2.heap.get? b = some o → b ≠ h'.objs.size ∧ (h'.push (seqObj "list" acc.toList.toArray 0)).get? b = some o := fun b o e => ⟨Nat.ne_of_lt (Heap.lt_size (hk b o e)), Heap.get?_push_of_some _ (hk b o e)⟩
  refine wpAny_bind (wpAny_holding (PySem.W.list_sort_key_data (b := false) (s := { s2 with heap := h'.push (seqObj "list" acc.toList.toArray 0), toks := tk }) (fun i : Nat => PyData.tuple [.int (rk i), .int (i : Int)]) hoL hE (PySem.W.AllAlike.of fun _ _ => rfl) (PySem.W.Sortable.tuples fun b => ⟨_, _, rfl⟩) (by rw [List.length_range, sizeLine_eq]; omega)
    (fun x _ => ?_) (PyProof.Rows.ksk_l1 _ _) (PyProof.Rows.ksk_t1 _ _) (fun v i hv hi hh tk2 kp => ?_) fun out cc hh tk2 kp hD hlen eo => ?_))
  · have := hr.un
    have hd : (PyData.tuple [.int (rk x), .int (x : Int)]).depth ≤ 3 := by simp [PyData.depth, PyData.depthAll]
    show X.A.units + 1 + 1 + _ < _
    omega
  · obtain ⟨t0, rfl⟩ := hv
    have hi' : i < m := List.mem_range.mp hi
    obtain ⟨tp, us, hx, hS, hu0⟩ := hrow i hi'
    have kp2 : ∀ b o, s2.heap.get? b = some o → hh.get? b = some o := fun b o e => kp b o (old b o e).1 (old b o e).2
    obtain ⟨w1, ew, rw1⟩ := rv.get hx
    obtain rfl : w1 = Value.ref tp := rw1
    obtain ⟨us', rv', pl', hz'⟩ := I2.tuple (sqT_ext hS eN)
    obtain ⟨w2, ew2, rw2⟩ := rv'.get hu0
    obtain ⟨t3, rfl⟩ := rw2
    have l63 := line63
    have hpL : hh.IsList La its.toArray := by
      obtain ⟨oc, e1, e2⟩ := pl.isList
      exact ⟨oc, kp2 _ _ e1, e2⟩
    have hpC : hh.IsCell co (some (.ref La)) := by
      obtain ⟨oc, e1, e2⟩ := hcell
      exact ⟨oc, kp2 _ _ e1, e2⟩
    exact turn_pair (s := { s2 with heap := hh, toks := tk2 }) (kp2 _ _ hf) ⟨oc, vsc, tc, kp2 _ _ hoc, hdc, hvc⟩ hr.depth (lim2.keeps kp2) L.co L.gen L.kind L.cells L.par L.free (fun u v => hbind _ _ _ _ _ _) hcl hpC hpL ew (by omega) (pl'.keeps kp2) ew2 (by have := rv'.length; omega) hd1 hd2 hd3
  · rw [PySem.W.dataLe_ii] at eo
    have hE2 : Vals (((List.range m).mergeSort fun i j => decide (rk i < rk j ∨ (rk i = rk j ∧ (i : Int) ≤ (j : Int)))).map fun i : Nat => V.int (i : Int)) out := of_each eo
    refine wpAny_pure ⟨_, rfl, .ref h'.objs.size, upd H2 h'.objs.size (.lst _), I3.laid (t' := tk2) (fun b u e => ?_) (Nat.le_refl _) ⟨?_, out, cc, hE2, hD⟩, rfl, q H2 eN T2 _ (I3.hok.fresh (Nat.le_refl _))⟩
    · exact kp b u (Nat.ne_of_lt (Heap.lt_size e)) (Heap.get?_push_of_some _ e)
    · rw [List.length_map, List.length_mergeSort, List.length_range, sizeLine_eq]
      omega
end
end RLam

namespace Pot
open PySem PySem.Spec PyProof.Rows L2
section
variable {X : Cx} {K : PySem.W.Frag}
/-- len of a set of ints -/
def rLenSet (w : World) : List V → Hp → VK → Prop := fun xs H Q => ∃ (a : Addr) (S : Int → Bool) (n : Nat), xs = [V.ref a] ∧ H a = some (SetO w a S n) ∧ Q (.int n) H
theorem cr_lenSet : CallR X (.builtin "len") (rLenSet X.w) := by
  intro pins s σ H vs us Q I r h
  obtain ⟨a, S, n, rfl, ha, q⟩ := h
  rw [Vals.ref1 r]
  obtain ⟨o, es, ep, t, ho, hex, hd, _, _, _, hb, hf, rfl, _⟩ := setO_get I ha
  exact PySem.call_len_set ho hex hd hf (by unfold scanBound at hb; omega) ⟨.int _, H, I.tok _, ⟨_, rfl⟩, q⟩
theorem kc_lenSet {w : World} (hw : X.w = w := by rfl) : CallR X (.builtin "len") (rLenSet w) := by subst hw; exact cr_lenSet
/-- repr of any data -/
def rReprA (K : PySem.W.Frag) : List V → Hp → VK → Prop := fun xs H Q => ∃ (x : V) (d : PyData), xs = [x] ∧ Dp K H x d ∧ fineAll.fine d ∧ d.depth ≤ 60 ∧ costAll.cost d ≤ 16777216 ∧ Q (.str d.shown) H
theorem cr_reprA (gd : X.A.guards = some []) (hu : X.A.units + 64 < cLine) : CallR X (.builtin "repr") (rReprA X.K) := by
  intro pins s σ H vs us Q I r h
  obtain ⟨x, d, rfl, dp, sh, dep, sz, q⟩ := h
  obtain ⟨u, rfl, rx⟩ := vals1 r
  have sz2 := Nat.le_trans (shown_len d sh) (by rw [sizeLine_eq]; exact sz : costAll.cost d ≤ sizeLine)
  cases x with
  | ref a =>
    cases rx
    obtain ⟨as, rd⟩ := Dp.reads I d (.ref a) (.ref a) dp rfl
    refine repr_of_reads' rd (fine_show d sh) (fun z => ?_) gd (by omega) (fun _ _ e => e) (fun h' u tk k => ⟨.str d.shown, H, I.kept k, ⟨u, rfl⟩, q⟩) sz2
    rw [dp_noDict dp] at z
    cases z
  | int i =>
    cases dp
    obtain ⟨t, rfl⟩ := rx
    exact PySem.P.repr_of_int sh ⟨.str _, H, I.tok _, ⟨_, rfl⟩, q⟩
  | str z =>
    cases dp
    obtain ⟨t, rfl⟩ := rx
    exact PySem.P.repr_of_str ⟨.str _, H, I.tok _, ⟨_, rfl⟩, q⟩ sz2
  | bl b =>
    cases dp
    cases rx
    refine PySem.P.repr_of_bool ⟨.str _, H, I.tok _, ⟨_, rfl⟩, ?_⟩
    exact q
  | non =>
    cases dp
    cases rx
    exact PySem.P.repr_of_none ⟨.str _, H, I.tok _, ⟨_, rfl⟩, q⟩
  | _ => cases dp
theorem kc_reprA (gd : X.A.guards = some []) (hu : X.A.units + 64 < cLine) (h : X.K = K := by rfl) : CallR X (.builtin "repr") (rReprA K) := h ▸ cr_reprA gd hu
end
theorem short_of {α : Type} [DecidableEq α] : ∀ {ns : List α}, ¬ ns.Nodup → ∃ ns' : List α, ns'.length < ns.length ∧ ∀ k ∈ ns, k ∈ ns'
  | [], h => (h List.nodup_nil).elim
  | x :: ns, h => by
    by_cases hx : x ∈ ns
    · exact ⟨ns, by simp, fun k hk => by
        rcases List.mem_cons.mp hk with e | e
        · rw [e]; exact hx
        · exact e⟩
    · obtain ⟨ns', l, s⟩ := short_of (ns := ns) fun hn => h (List.nodup_cons.mpr ⟨hx, hn⟩)
      exact ⟨x :: ns', by simp only [List.length_cons]; omega, fun k hk => by
        rcases List.mem_cons.mp hk with e | e
        · rw [e]; exact List.mem_cons_self
        · exact List.mem_cons_of_mem _ (s k e)⟩
theorem set_count {ks ns : List Int} (hk : ks.Nodup) (h : ∀ k, k ∈ ks ↔ k ∈ ns) : ks.length ≤ ns.length ∧ (ks.length = ns.length ↔ ns.Nodup) := by
  have le := nodup_le hk fun k x => (h k).mp x
  refine ⟨le, fun e => ?_, fun hn => Nat.le_antisymm le (nodup_le hn fun k x => (h k).mpr x)⟩
  by_cases hn : ns.Nodup
  · exact hn
  · obtain ⟨ns', l, s⟩ := short_of hn
    have := nodup_le hk fun k x => s k ((h k).mp x)
    omega
end Pot

namespace Pot
open PySem PySem.Spec PyProof.Rows L2
section
variable {X : Cx} {K : PySem.W.Frag}
theorem ko_inD (hu : X.A.units + 65 < cLine) (h : X.K = K := by rfl) : OpR X (compareOp .In) (rInD K) := h ▸ op_inD hu
theorem ko_notInD (hu : X.A.units + 65 < cLine) (h : X.K = K := by rfl) : OpR X (compareOp .NotIn) (rNotInD K) := h ▸ op_notInD hu
/-- a text thrice -/
def rRep3 : R2 := fun x y H Q => ∃ z : Str, x = .str z ∧ y = .int 3 ∧ z.length ≤ 100000 ∧ ∀ z' : Str, z'.length ≤ 3 * z.length → (∀ c ∈ z'.cps.toList, c ∈ z.cps.toList) → Q (.str z') H
theorem mul3_len (z : Str) : (Txt.mul z 3).length ≤ 3 * z.length ∧ ∀ c ∈ (Txt.mul z 3).cps.toList, c ∈ z.cps.toList := by
  unfold Txt.mul
  rw [if_neg (show ¬ (3 : Int) < 1 by decide)]
  split
  · exact ⟨by omega, fun c h => h⟩
  · constructor
    · show Array.size _ ≤ _
      simp [List.replicate]
      show z.cps.size + (z.cps.size + z.cps.size) ≤ 3 * z.cps.size
      omega
    · intro c h
      simp [List.replicate] at h
      simpa using h
theorem op_rep3 : OpR X (binaryOp .Mult) rRep3 := by
  intro pins sh sg H xv yv v1 u1 Q I r1 r2 h
  obtain ⟨z, rfl, rfl, hz, q⟩ := h
  obtain ⟨tk1, rfl⟩ := r1
  obtain ⟨tk2, rfl⟩ := r2
  have m3 := mul3_len z
  refine SB.mul ⟨by decide, fun _ _ hh => ?_, fun _ _ => ?_⟩ (fun tt kk => ⟨.str (Txt.mul z 3), H, I.tok _, ⟨_, rfl⟩, q _ m3.1 m3.2⟩)
  · have : ((2 : Int) ^ 63 - 1) / 3 = 3074457345618258602 := by decide
    omega
  · have e : (3 : Int).toNat = 3 := rfl
    rw [e]
    show decide _ = false
    refine decide_eq_false ?_
    have := sizeLine_eq
    omega
end
end Pot

namespace Pot
open PySem PySem.Spec PyProof.Rows L2
/-! ### dict of a list of pairs, a text thrice to the letter -/
section
variable {X : Cx} {K : PySem.W.Frag}
def Dct (mg : Str → Option Value) : Prop := mg "dict" = none
def rDictP (K : PySem.W.Frag) : List V → Hp → VK → Prop := fun xs H Q => ∃ (a : Addr) (ps : List Addr) (kvs : List (Key × V)), xs = [.ref a] ∧ SqL K H a (ps.map V.ref) ∧ Paired (fun p kv => SqT K H p [kV kv.1, kv.2]) ps kvs ∧ ∀ p, H p = none → Q (.ref p) (upd H p (.dK (mergeK [] kvs)))
theorem kc_dictP (hc : X.calm = true := by rfl) (h : X.K = K := by rfl) : CallR X (.type "dict") (rDictP K) := by subst h; exact call_dictP hc
def rRepE : R2 := fun x y H Q => ∃ z : Str, x = .str z ∧ y = .int 3 ∧ z.length ≤ 100000 ∧ Q (.str (Txt.mul z 3)) H
theorem op_repE : OpR X (binaryOp .Mult) rRepE := by
  intro pins sh sg H xv yv v1 u1 Q I r1 r2 h
  obtain ⟨z, rfl, rfl, hz, q⟩ := h
  obtain ⟨tk1, rfl⟩ := r1
  obtain ⟨tk2, rfl⟩ := r2
  refine SB.mul ⟨by decide, fun _ _ hh => ?_, fun _ _ => ?_⟩ (fun tt kk => ⟨.str (Txt.mul z 3), H, I.tok _, ⟨_, rfl⟩, q⟩)
  · have : ((2 : Int) ^ 63 - 1) / 3 = 3074457345618258602 := by decide
    omega
  · have e : (3 : Int).toNat = 3 := rfl
    rw [e]
    show decide _ = false
    refine decide_eq_false ?_
    have := sizeLine_eq
    omega
end
/-! ### pairs as keys and values -/
theorem putK_new {kvs : List (Key × V)} {k : Key} {v : V} (h : ∀ p ∈ kvs, p.1 ≠ k) : putK kvs k v = kvs ++ [(k, v)] := by
  unfold putK
  rw [if_neg]
  intro z
  obtain ⟨p, hp, e⟩ := List.any_eq_true.mp z
  exact h p hp (of_decide_eq_true e)
theorem merge_nd : ∀ (more kvs : List (Key × V)), ((kvs ++ more).map (·.1)).Nodup → mergeK kvs more = kvs ++ more
  | [], kvs, _ => by show kvs = kvs ++ []; rw [List.append_nil]
  | p :: more, kvs, nd => by
    show mergeK (putK kvs p.1 p.2) more = kvs ++ p :: more
    rw [putK_new]
    · rw [merge_nd more (kvs ++ [(p.1, p.2)]) (by rw [List.append_assoc]; exact nd), List.append_assoc]; rfl
    · intro q hq e
      rw [List.map_append, List.nodup_append] at nd
      exact nd.2.2 q.1 (List.mem_map.mpr ⟨q, hq, rfl⟩) p.1 (List.mem_map.mpr ⟨p, List.mem_cons_self, rfl⟩) e
end Pot

namespace Pot
open PySem PySem.Spec PyProof.Rows L2
/-! ### calls by names alone -/
section
variable {X : Cx} {CX : CXT} {k : Nat} {f : Addr} {fd : FuncData} {ps ks : List Str} {sp : Sp} {E : XK} {x : Str} {p pos : Pos} {kws : List Keyword} {tk : TA} {g : List Value → List Value → List Value} {gV : List V → List V → List V}
theorem pe_callK0 (F : FnOk X.prog X.w X.K X.mg X.base CX k f fd ps sp) (hr : Room k X.A) (hg : Gl X x) (hm : X.mg x = some (.ref f)) (hk : PySem.W.keepIn X.K (.ref f) = true) (hb : KBinds X.K fd ps ks g gV) (hx : Passes CX X E)
    (hkw : PK X kws tk) (hall : (backToKw pos (keywordEach kws X.env)).all (·.1.isSome) = true := by rfl) (hks : (backToKw pos (keywordEach kws X.env)).filterMap (·.1) = ks := by rfl)
    (hdb : (x == ("__debug__" : Str)) = false := by decide)
    (hpl : ((backTo pos (starEach [] X.env)).any (·.1) || (backToKw pos (keywordEach kws X.env)).any (·.1.isNone)) = false := by rfl) :
    PE X (.Call (.Name x p) [] kws pos) (tCallK sp gV E tNil tk) := by
  refine ⟨fun pins s σ H Q I h => ?_⟩
  refine wpAny_Call_Name_kw (ld_glob I hg hm ?_ hdb)
  refine PySem.W.callWith_KW0 (h₀ := X.base) I.ok.mod.kin hk hall (thn (hkw.run pos pins s σ H _ I h) fun ws s2 ⟨zs, H2, I2, rz, q2⟩ => ⟨I2.kIn, ?_⟩) hpl
  rw [hks]
  exact run_fnk F hr hb hx I2 .nil rz q2
end
def ClK (P : Program) (w : World) (K : PySem.W.Frag) (mg : Str → Option Value) (base : Heap) (k : Nat) (x : Str) (ks : List Str) (gV : List V → List V → List V) (sp : Sp) : Prop :=
  ∃ (f : Addr) (fd : FuncData) (ps : List Str) (g : List Value → List Value → List Value), FnOk P w K mg base CX0 k f fd ps sp ∧ mg x = some (.ref f) ∧ PySem.W.keepIn K (.ref f) = true ∧ KBinds K fd ps ks g gV
theorem pe_ck {X : Cx} {k j : Nat} {x : Str} {ks : List Str} {gV : List V → List V → List V} {sp : Sp} {kws : List Keyword} {t : TA} {p pos : Pos} (c : ClK X.prog X.w X.K X.mg X.base k x ks gV sp) (hr : Room j X.A) (hk : k ≤ j) (hg : Gl X x) (ha : PK X kws t)
    (hall : (backToKw pos (keywordEach kws X.env)).all (·.1.isSome) = true := by rfl) (hks : (backToKw pos (keywordEach kws X.env)).filterMap (·.1) = ks := by rfl) (hdb : (x == ("__debug__" : Str)) = false := by decide)
    (hpl : ((backTo pos (starEach [] X.env)).any (·.1) || (backToKw pos (keywordEach kws X.env)).any (·.1.isNone)) = false := by rfl) : PE X (.Call (.Name x p) [] kws pos) (tCallK sp gV E0 tNil t) := by
  obtain ⟨f, fd, ps, g, G, hm, kp, b⟩ := c
  exact pe_callK0 G (hr.mono hk) hg hm kp b pass0 ha hall hks hdb hpl
/-- three, handed in from the last to the first -/
def rev3 {α : Type} : List α → List α → List α
  | [], [a, b, c] => [c, b, a]
  | _, _ => []
theorem kb_rev3 {K : PySem.W.Frag} {x qual : Str} {st : Stmt} {f : Addr} {fd : FuncData} {k1 k2 k3 : Str} (F : Fun K x qual st f fd)
    (h : ∀ (kV doc pm : Value) (an : Option Addr) (cdv ct a b c : Value), bindArgs (PySem.W.fnOf x qual (defArgs st) (defBody st) (defScope st) .none kV doc pm an cdv ct) ⟨[], [(k3, a), (k2, b), (k1, c)]⟩ = pure [(k1, c), (k2, b), (k3, a)]) : KBinds K fd [k1, k2, k3] [k3, k2, k1] rev3 rev3 := by
  obtain ⟨oc, od, kV, doc, pm, an, cdv, ct, osl, rfl, lk, hcd⟩ := F.ex
  refine ⟨fun s us ws _ hl => ?_, fun {vs us zs ws} r rz => ?_⟩
  · match us, ws, hl with
    | [], [a, b, c], _ => exact .of_eq (h kV doc pm an cdv ct a b c)
    | [], [], hl => cases hl
    | [], [_], hl => cases hl
    | [], [_, _], hl => cases hl
    | [], _ :: _ :: _ :: _ :: _, hl => cases hl
    | _ :: _, _, hl => cases hl
  · cases r with
    | nil =>
      cases rz with
      | nil => exact .nil
      | cons a rz =>
        cases rz with
        | nil => exact .nil
        | cons b rz =>
          cases rz with
          | nil => exact .nil
          | cons c rz =>
            cases rz with
            | nil => exact .cons c (.cons b (.cons a .nil))
            | cons _ _ => exact .nil
    | cons _ _ => exact .nil
/-- four, from the last to the first, of a def with defaults -/
def rev4 {α : Type} : List α → List α → List α
  | [], [a, b, c, d] => [d, c, b, a]
  | _, _ => []
theorem kb_rev4D {K : PySem.W.Frag} {x : Str} {st : Stmt} {dvs : List V} {f : Addr} {fd : FuncData} {k1 k2 k3 k4 : Str} (F : FunV K x st dvs f fd) (hd : dvs ≠ [])
    (h : ∀ (T : Addr) (kV doc pm : Value) (an : Option Addr) (cdv ct a b c d : Value) (its : List Value), its.length = dvs.length → ∃ k, bindArgs (PySem.W.fnOf x x (defArgs st) (defBody st) (defScope st) (.ref T) kV doc pm an cdv ct) ⟨[], [(k4, a), (k3, b), (k2, c), (k1, d)]⟩ = seqItems? (.ref T) >>= k ∧ k (some its.toArray) = pure [(k1, d), (k2, c), (k3, b), (k4, a)]) : KBinds K fd [k1, k2, k3, k4] [k4, k3, k2, k1] rev4 rev4 := by
  obtain ⟨oc, od, dV, kV, doc, pm, an, cdv, ct, osl, rfl, lk, hcd, hD, hK⟩ := F.ex
  refine ⟨fun s us ws X hl => ?_, fun {vs us zs ws} r rz => ?_⟩
  · rcases hD with ⟨e, _⟩ | ⟨_, T, o, its, m, rfl, lT, oT, rT⟩
    · exact absurd e hd
    · match us, ws, hl with
      | [], [a, b, c, d], _ =>
        obtain ⟨k, e1, e2⟩ := h T kV doc pm an cdv ct a b c d its rT.length.symm
        refine BindsTo.of_looks fun M => ?_
        show PySem.W.Looks M s.heap (bindArgs _ ⟨[], [(k4, a), (k3, b), (k2, c), (k1, d)]⟩) _
        rw [e1]
        exact looks_items X lT oT (.of_pure e2)
      | [], [], hl => cases hl
      | [], [_], hl => cases hl
      | [], [_, _], hl => cases hl
      | [], [_, _, _], hl => cases hl
      | [], _ :: _ :: _ :: _ :: _ :: _, hl => cases hl
      | _ :: _, _, hl => cases hl
  · cases r with
    | nil =>
      cases rz with
      | nil => exact .nil
      | cons a rz =>
        cases rz with
        | nil => exact .nil
        | cons b rz =>
          cases rz with
          | nil => exact .nil
          | cons c rz =>
            cases rz with
            | nil => exact .nil
            | cons d rz =>
              cases rz with
              | nil => exact .cons d (.cons c (.cons b (.cons a .nil)))
              | cons _ _ => exact .nil
    | cons _ _ => exact .nil
/-! ### a list or a tuple walked -/
def iAnyS (K : PySem.W.Frag) (tl : TE) : TI := fun σ H R => iList K tl σ H R ∨ iTup K tl σ H R
theorem ki_anyS {X : Cx} {K : PySem.W.Frag} {tg l : Expr} {tl : TE} (hl : PE X l tl) (h : X.K = K := by rfl) : PI X tg l (iAnyS K tl) :=
  ⟨fun pins s σ H R I z => z.elim (fun z => (ki_list hl h).run pins s σ H R I z) (fun z => (ki_tup hl h).run pins s σ H R I z)⟩
end Pot

namespace Pot
open PySem PySem.Spec PyProof.Rows L2
/-! ### calls by places and names of a def with five values, two of them with defaults -/
def mix5 {α : Type} : List α → List α → List α
  | [], [a, b, c, d, e] => [e, c, a, d, b]
  | _, _ => []
def pl32 {α : Type} : List α → List α → List α
  | [a, b, c], [d, e] => [a, b, c, d, e]
  | _, _ => []
def pl31 {α : Type} (x : α) : List α → List α → List α
  | [a, b, c], [d] => [a, b, c, x, d]
  | _, _ => []
section
variable {K : PySem.W.Frag} {x : Str} {st : Stmt} {dvs : List V} {f : Addr} {fd : FuncData} {k1 k2 k3 k4 k5 : Str}
theorem kb_mix5 (F : FunV K x st dvs f fd) (hd : dvs ≠ [])
    (h : ∀ (T : Addr) (kV doc pm : Value) (an : Option Addr) (cdv ct a b c d e : Value) (its : List Value), its.length = dvs.length → ∃ k, bindArgs (PySem.W.fnOf x x (defArgs st) (defBody st) (defScope st) (.ref T) kV doc pm an cdv ct) ⟨[], [(k3, a), (k5, b), (k2, c), (k4, d), (k1, e)]⟩ = seqItems? (.ref T) >>= k ∧ k (some its.toArray) = pure [(k1, e), (k2, c), (k3, a), (k4, d), (k5, b)]) : KBinds K fd [k1, k2, k3, k4, k5] [k3, k5, k2, k4, k1] mix5 mix5 := by
  obtain ⟨oc, od, dV, kV, doc, pm, an, cdv, ct, osl, rfl, lk, hcd, hD, hK⟩ := F.ex
  refine ⟨fun s us ws X hl => ?_, fun {vs us zs ws} r rz => ?_⟩
  · rcases hD with ⟨e, _⟩ | ⟨_, T, o, its, m, rfl, lT, oT, rT⟩
    · exact absurd e hd
    · match us, ws, hl with
      | [], [a, b, c, d, e], _ =>
        obtain ⟨k, e1, e2⟩ := h T kV doc pm an cdv ct a b c d e its rT.length.symm
        refine BindsTo.of_looks fun M => ?_
        show PySem.W.Looks M s.heap (bindArgs _ ⟨[], [(k3, a), (k5, b), (k2, c), (k4, d), (k1, e)]⟩) _
        rw [e1]
        exact looks_items X lT oT (.of_pure e2)
      | [], [], hl => cases hl
      | [], [_], hl => cases hl
      | [], [_, _], hl => cases hl
      | [], [_, _, _], hl => cases hl
      | [], [_, _, _, _], hl => cases hl
      | [], _ :: _ :: _ :: _ :: _ :: _ :: _, hl => cases hl
      | _ :: _, _, hl => cases hl
  · match r, rz with
    | .nil, .cons a (.cons b (.cons c (.cons d (.cons e .nil)))) => exact .cons e (.cons c (.cons a (.cons d (.cons b .nil))))
    | .nil, .nil => exact .nil
    | .nil, .cons _ .nil => exact .nil
    | .nil, .cons _ (.cons _ .nil) => exact .nil
    | .nil, .cons _ (.cons _ (.cons _ .nil)) => exact .nil
    | .nil, .cons _ (.cons _ (.cons _ (.cons _ .nil))) => exact .nil
    | .nil, .cons _ (.cons _ (.cons _ (.cons _ (.cons _ (.cons _ _))))) => exact .nil
    | .cons _ _, _ => exact .nil
theorem kb_pl32 (F : FunV K x st dvs f fd) (hd : dvs ≠ [])
    (h : ∀ (T : Addr) (kV doc pm : Value) (an : Option Addr) (cdv ct a b c d e : Value) (its : List Value), its.length = dvs.length → ∃ k, bindArgs (PySem.W.fnOf x x (defArgs st) (defBody st) (defScope st) (.ref T) kV doc pm an cdv ct) ⟨[a, b, c], [(k4, d), (k5, e)]⟩ = seqItems? (.ref T) >>= k ∧ k (some its.toArray) = pure [(k1, a), (k2, b), (k3, c), (k4, d), (k5, e)]) : KBinds K fd [k1, k2, k3, k4, k5] [k4, k5] pl32 pl32 := by
  obtain ⟨oc, od, dV, kV, doc, pm, an, cdv, ct, osl, rfl, lk, hcd, hD, hK⟩ := F.ex
  refine ⟨fun s us ws X hl => ?_, fun {vs us zs ws} r rz => ?_⟩
  · rcases hD with ⟨e, _⟩ | ⟨_, T, o, its, m, rfl, lT, oT, rT⟩
    · exact absurd e hd
    · match us, ws, hl with
      | [a, b, c], [d, e], _ =>
        obtain ⟨k, e1, e2⟩ := h T kV doc pm an cdv ct a b c d e its rT.length.symm
        refine BindsTo.of_looks fun M => ?_
        show PySem.W.Looks M s.heap (bindArgs _ ⟨[a, b, c], [(k4, d), (k5, e)]⟩) _
        rw [e1]
        exact looks_items X lT oT (.of_pure e2)
  · match r, rz with
    | .cons a (.cons b (.cons c .nil)), .cons d (.cons e .nil) => exact .cons a (.cons b (.cons c (.cons d (.cons e .nil))))
    | .nil, _ => exact .nil
    | .cons _ .nil, _ => exact .nil
    | .cons _ (.cons _ .nil), _ => exact .nil
    | .cons _ (.cons _ (.cons _ (.cons _ _))), _ => exact .nil
    | .cons _ (.cons _ (.cons _ .nil)), .nil => exact .nil
    | .cons _ (.cons _ (.cons _ .nil)), .cons _ .nil => exact .nil
    | .cons _ (.cons _ (.cons _ .nil)), .cons _ (.cons _ (.cons _ _)) => exact .nil
theorem kb_pl31 {d1 d2 : V} (F : FunV K x st [d1, d2] f fd)
    (h : ∀ (T : Addr) (kV doc pm : Value) (an : Option Addr) (cdv ct a b c d e1 e2 : Value), ∃ k, bindArgs (PySem.W.fnOf x x (defArgs st) (defBody st) (defScope st) (.ref T) kV doc pm an cdv ct) ⟨[a, b, c], [(k5, d)]⟩ = seqItems? (.ref T) >>= k ∧ k (some #[e1, e2]) = pure [(k1, a), (k2, b), (k3, c), (k4, e1), (k5, d)]) : ∃ g, KBinds K fd [k1, k2, k3, k4, k5] [k5] g (pl31 d1) := by
  obtain ⟨oc, od, dV, kV, doc, pm, an, cdv, ct, osl, rfl, lk, hcd, hD, hK⟩ := F.ex
  rcases hD with ⟨e, _⟩ | ⟨_, T, o, its, m, rfl, lT, oT, rT⟩
  · cases e
  · match its, rT with
    | [e1, e2], .cons r1 (.cons r2 .nil) =>
      refine ⟨pl31 e1, fun s us ws X hl => ?_, fun {vs us zs ws} r rz => ?_⟩
      · match us, ws, hl with
        | [a, b, c], [d], _ =>
          obtain ⟨k, e3, e4⟩ := h T kV doc pm an cdv ct a b c d e1 e2
          refine BindsTo.of_looks fun M => ?_
          show PySem.W.Looks M s.heap (bindArgs _ ⟨[a, b, c], [(k5, d)]⟩) _
          rw [e3]
          exact looks_items X lT oT (.of_pure e4)
      · match r, rz with
        | .cons a (.cons b (.cons c .nil)), .cons d .nil => exact .cons a (.cons b (.cons c (.cons r1 (.cons d .nil))))
        | .nil, _ => exact .nil
        | .cons _ .nil, _ => exact .nil
        | .cons _ (.cons _ .nil), _ => exact .nil
        | .cons _ (.cons _ (.cons _ (.cons _ _))), _ => exact .nil
        | .cons _ (.cons _ (.cons _ .nil)), .nil => exact .nil
        | .cons _ (.cons _ (.cons _ .nil)), .cons _ (.cons _ _) => exact .nil
end
/-- a call by places and names -/
theorem pe_ckP {X : Cx} {k j : Nat} {x : Str} {ks : List Str} {gV : List V → List V → List V} {sp : Sp} {e : Expr} {es : List Expr} {kws : List Keyword} {t tk : TA} {p pos : Pos} (c : ClK X.prog X.w X.K X.mg X.base k x ks gV sp) (hr : Room j X.A) (hk : k ≤ j) (hg : Gl X x) (ha : PA X (e :: es) t) (hkw : PK X kws tk)
    (hall : (backToKw pos (keywordEach kws X.env)).all (·.1.isSome) = true := by rfl) (hks : (backToKw pos (keywordEach kws X.env)).filterMap (·.1) = ks := by rfl) (hdb : (x == ("__debug__" : Str)) = false := by decide) (he : starEach (e :: es) X.env = (false, eval e X.env) :: starEach es X.env := by rfl)
    (hpl : ((backTo pos (starEach (e :: es) X.env)).any (·.1) || (backToKw pos (keywordEach kws X.env)).any (·.1.isNone)) = false := by rfl) : PE X (.Call (.Name x p) (e :: es) kws pos) (tCallK sp gV E0 t tk) := by
  obtain ⟨f, fd, ps, g, G, hm, kp, b⟩ := c
  exact pe_callK G (hr.mono hk) hg hm kp b pass0 ha hkw hall hks hdb he hpl
def rSortedD : List V → Hp → VK → Prop := fun xs H Q => ∃ (a : Addr) (kvs : List (Key × V)) (ks : List Str), xs = [.ref a] ∧ Rd H a (.dK kvs) ∧ kvs.map (·.1) = ks.map Sum.inr ∧ ks.length < 64 ∧
    ∀ ys p, ys.Perm ks → sortedS ys = true → H p = none → Q (.ref p) (upd H p (.lst (ys.map V.str)))
theorem kc_sortedD {X : Cx} (hc : X.calm = true := by rfl) : CallR X (.builtin "sorted") rSortedD := call_sortedD hc
end Pot

namespace Pot
open PySem PySem.Spec PyProof.Rows L2
open Sem (wp)
/-! ### enumerate of a list or a tuple -/
set_option maxHeartbeats 1000000 in
theorem en_new {v : Value} {ob : Obj} {Ok : Heap → Prop} (B : Begins v ob Ok) :
    Meets (Builtin.«enumerate.__new__» ⟨[.type "enumerate", v], []⟩) (fun _ R s => Ok s.heap ∧ R (.ok (.ret (.ref (s.heap.push ob).objs.size))) { s with heap := (s.heap.push ob).push { cls := .type "enumerate", data := .fields #[.none, .bool false, .ref s.heap.objs.size, rawInt 0, .none, .none] } }) :=
  .of_wp fun prog w A R st hst => by
    obtain ⟨hp, gl, dd, tt, oo⟩ := st; obtain ⟨ok1, fin⟩ := hst; have isub := sub_enumerate
    have go : ∀ {A1 : Around} {E1 : Value → Shared → Prop} {Q1 : Value → Shared → Prop}, Q1 (.ref hp.objs.size) ⟨hp.push ob, gl, dd, tt, oo⟩ → wpAny (model prog w) A1 (pyIter v) Q1 E1 ⟨hp, gl, dd, tt, oo⟩ := fun z => B.iter prog w _ _ ⟨hp, gl, dd, tt, oo⟩ _ ok1 z
    wp_walk using go
    refine wpAny_stack_any fun stk => wpAny_pure ?_
    split
    · rename_i cc _ _ _ _ _; cases (cc == Value.type "enumerate") <;> (wp_walk using go; exact ⟨_, rfl, fin⟩)
    · wp_walk using go; exact ⟨_, rfl, fin⟩
/-- some untracked cells written, nothing new -/
theorem inv_ch {X : Cx} {pins : List (Addr × Obj)} {σ : L2.St} {H : Hp} {s : Shared} {h2 : Heap} {tk : Nat} {ch : List Addr} (I : Inv X pins σ H s) (kp : ∀ b o, b ∉ ch → s.heap.get? b = some o → h2.get? b = some o) (fo : ∀ b ∈ ch, FpOk X pins H b) :
    Inv X pins σ H { s with heap := h2, toks := tk } := by
  have out : ∀ c u, H c = some u → c ∉ ch := fun c u e z => by have := (fo c z).1; rw [this] at e; cases e
  refine I.step (g' := s.gens) (d' := s.drawn) (ch := ch) (fun c hc => let ⟨_, a2, _, a4, a5, a6⟩ := fo c hc; ⟨a4, a2, a5, a6⟩) (fun c o _ _ n e _ => kp c o n e) (fun c o _ _ n e _ => ⟨o.slots, kp c o n e⟩) (fun _ _ _ _ z => z) (fun c o n e => ⟨o, kp c o n e⟩) (fun _ _ z => z) (fun _ _ _ z => z) (fun c ps e => ⟨#[], by rw [e]; simp⟩) (fun mm hm => ?_) (fun c u e => ?_) I.bare
  · obtain ⟨o, e1, e2, ho, rest⟩ := hm; exact ⟨o, e1, e2, kp _ o (fun z => (fo _ z).2.1 rfl) ho, rest⟩
  · refine (I.hok c u e).stay (fun c2 v hc q => kp c2 v ?_ q) (fun _ z => z) fun _ _ z => z
    rcases hc with z | z
    · rw [z]; exact out c u e
    · exact out c2 _ z
def ItT (K : PySem.W.Frag) (a : Addr) : It :=
  ⟨fun i H => ∃ (xs : List V) (x : V), SqT K H a xs ∧ xs[i]? = some x, fun i H v H' => ∃ T x, v = .ref T ∧ H T = none ∧ H' = upd H T (.tup [.int (i : Nat), x]) ∧ ∀ xs, SqT K H a xs → xs[i]? = some x, fun i H => ∃ xs : List V, SqT K H a xs ∧ xs.length ≤ i⟩
/-- an iterator of a tuple that has come to its end -/
theorem drawsEnd {prog : Program} {w : World} {A : Around} (hh : A.handled = none) (it t : Addr) (items : Array Value) (i : Nat) (hi : items[i]? = none) :
    Draws prog w A it [it, t] i (fun _ _ => False) (fun j h => j = i ∧ h.IsTupleIter it t j ∧ h.IsTuple t items) where
  live := fun _ _ st => let ⟨o, ho, _⟩ := st.2.1; ⟨o, ho⟩
  frame := fun _ _ _ st hk => ⟨st.1, st.2.1.at fun o e => hk it (by simp) o e, st.2.2.at fun o e => hk t (by simp) o e⟩
  item := fun j _ _ _ hj st _ => absurd st.1 (Nat.ne_of_lt hj)
  done := fun s Q E st hE => wpAny_nextOf_tuple_end hh st.2.1 st.2.2 hi hE
theorem turn_enT {P : Program} {w : World} {K : PySem.W.Frag} {elts : List Expr} {kk : Nat} {tpos : Pos} (a e it : Addr) (ne1 : e ≠ it) :
    Turn P w K (.Tuple elts kk tpos) (ItT K a) [e, it] e (fun i h => (∃ old, IsEnum h e it (0 + ((i : Nat) : Int)) old) ∧ h.IsTupleIter it a i) where
  mem := by simp
  obj := fun i h st b hb => by
    obtain ⟨⟨old, he⟩, ⟨o, ho, hc, hd⟩⟩ := st
    rcases List.mem_cons.mp hb with z | z
    · rw [z]; exact ⟨_, he, fun v q => nomatch q⟩
    · rw [List.mem_singleton.mp z]; exact ⟨o, ho, fun v q => by rw [hd] at q; cases q⟩
  keep := fun i h h' st k => let ⟨⟨old, he⟩, hi⟩ := st; ⟨⟨old, k e (by simp) _ he⟩, hi.at fun o q => k it (by simp) o q⟩
  item := by
    intro X q1 q2 q3 hc i pins s σ H E I hf st hg; subst q1 q2 q3
    obtain ⟨⟨old, he⟩, hit⟩ := st
    obtain ⟨xs, x, hq, hx⟩ := hg
    obtain ⟨its, vals_, p, _⟩ := I.tuple hq
    obtain ⟨u, hu, ru⟩ := vals_.get hx
    have at_ : its.toArray[i]? = some u := by simpa using hu
    have hlt : i < its.toArray.size := (Array.getElem?_eq_some_iff.mp at_).1
    have nt : ∀ b ∈ [e, it], a ≠ b := fun b hb z => by
      obtain ⟨o, ho, cl, _⟩ := p
      rcases List.mem_cons.mp hb with y | y
      · rw [z, y] at ho
        rw [show s.heap.get? e = _ from he] at ho; cases ho; injection cl with cl; exact absurd cl (by decide)
      · rw [z, List.mem_singleton.mp y] at ho
        obtain ⟨o2, ho2, cl2, _⟩ := hit
        rw [ho2] at ho; cases ho
        rw [cl2] at cl; injection cl with cl; exact absurd cl (by decide)
    have G := GoesN.enumFrom (elts := elts) (x1 := kk) (pos := tpos) 0 (Draws.tuple (prog := X.prog) (w := X.w) (A := X.A.in1) (I.ok.hd hc) it a (nt it (by simp)) its.toArray) e ne1 (by simp [ne1, (nt e (by simp)).symm]) (by simp)
    refine G.goes i s _ _ hlt ⟨⟨old, he⟩, hit, p⟩ fun v h2 tk hY st2 hk _ => ?_
    obtain ⟨T, t, u2, rfl, hn, hu2, hT⟩ := hY
    have eu : u2 = u := Option.some.inj (hu2.symm.trans at_)
    subst eu
    rw [Int.zero_add] at hT
    have new : ObjOk X.prog X.w (upd H T (.tup [.int (i : Nat), x])) h2 T (.tup [.int (i : Nat), x]) := ⟨by show 2 ≤ sizeLine; decide, [.int i t, u2], .cons ⟨_, rfl⟩ (.cons ru .nil), hT⟩
    have I1 : Inv X pins σ (upd H T (.tup [.int (i : Nat), x])) { s with heap := h2, toks := tk } := I.turnedNew (ch := [e, it]) (fun b ob hb q => hk b ob hb q) hf hn new
    refine ⟨.ref T, _, I1, rfl, ⟨T, x, rfl, I.hok.fresh hn, rfl, fun ys hy => by rw [I.tuple_inj hy hq]; exact hx⟩, ⟨st2.1, st2.2.1⟩, fun b hb => ?_⟩
    have hb0 := (hf b hb).1
    have hbT : b ≠ T := by
      rcases List.mem_cons.mp hb with y | y
      · rw [y]; exact Nat.ne_of_lt (Nat.lt_of_lt_of_le (Heap.lt_size he) hn)
      · rw [List.mem_singleton.mp y]
        obtain ⟨o2, ho2, _⟩ := hit
        exact Nat.ne_of_lt (Nat.lt_of_lt_of_le (Heap.lt_size ho2) hn)
    rw [upd_ne hbT]; exact hb0
  done := by
    intro X q1 q2 q3 hc i pins s σ H E I hf st hg; subst q1 q2 q3
    obtain ⟨⟨old, he⟩, hit⟩ := st
    obtain ⟨xs, hq, hx⟩ := hg
    obtain ⟨its, vals_, p, _⟩ := I.tuple hq
    have hl := vals_.length
    have nt : ∀ b ∈ [e, it], a ≠ b := fun b hb z => by
      obtain ⟨o, ho, cl, _⟩ := p
      rcases List.mem_cons.mp hb with y | y
      · rw [z, y] at ho
        rw [show s.heap.get? e = _ from he] at ho; cases ho; injection cl with cl; exact absurd cl (by decide)
      · rw [z, List.mem_singleton.mp y] at ho
        obtain ⟨o2, ho2, cl2, _⟩ := hit
        rw [ho2] at ho; cases ho
        rw [cl2] at cl; injection cl with cl; exact absurd cl (by decide)
    have G := GoesN.enumFrom (elts := elts) (x1 := kk) (pos := tpos) 0 (drawsEnd (prog := X.prog) (w := X.w) (A := X.A.in1) (I.ok.hd hc) it a its.toArray i (by simp; omega)) e ne1 (by simp [ne1, (nt e (by simp)).symm]) (by simp)
    exact G.stops s _ _ ⟨⟨old, he⟩, rfl, hit, p⟩ fun h2 tk hk _ => inv_ch I hk hf
  self := fun _ _ _ _ _ st fin => let ⟨⟨_, he⟩, _⟩ := st; wpAny_pyIter_enum he fin
/-- enumerate(v), v a list or a tuple -/
def iEnA (K : PySem.W.Frag) (ta : TA) : TI := fun σ H R => ta σ H fun vs H1 => ∃ a xs, vs = [.ref a] ∧ ((SqL K H1 a xs ∧ R (Ite K a) H1) ∨ (SqT K H1 a xs ∧ R (ItT K a) H1))
theorem pi_enA {X : Cx} {e : Expr} {ta : TA} {p pos tpos : Pos} {elts : List Expr} {kk : Nat} (hg : Gl X "enumerate") (hm : X.mg "enumerate" = none) (ha : PA X [e] ta) (hs : starEach [e] X.env = [(false, eval e X.env)] := by rfl) :
    PI X (.Tuple elts kk tpos) (.Call (.Name "enumerate" p) [e] [] pos) (iEnA X.K ta) := by
  refine ⟨fun pins s σ H R I hi => ?_⟩
  refine Call_ (ld_blt I hg hm boot_enumerate (PyProof.Rows.callWith_type1 (thn (ha.run pos pins s σ H _ I hi) fun us s1 ⟨vs, H1, I1, r1, q1⟩ => ?_) hs rfl))
  obtain ⟨a, xs, ex, q⟩ := q1
  subst ex
  cases r1 with
  | cons r rr =>
    cases rr; cases r
    rcases q with ⟨hq, q⟩ | ⟨hq, q⟩
    · obtain ⟨its, rv, p2, hz⟩ := I1.list hq
      refine call_enumerate_list p2.isList fun h2 he hit hsz hk => wpAny_pyIter_enum he ?_
      refine ⟨s1.heap.objs.size + 1, [s1.heap.objs.size + 1, s1.heap.objs.size], _, _, H1, rfl, I1.kept (t' := s1.toks) hk, turn_enum a (s1.heap.objs.size + 1) s1.heap.objs.size, ⟨⟨.none, he⟩, hit, Nat.succ_ne_self _⟩, fun b hb => ?_, q⟩
      have hge : s1.heap.objs.size ≤ b := by
        rcases List.mem_cons.mp hb with z | z
        · rw [z]; exact Nat.le_add_right _ _
        · rw [List.mem_singleton.mp z]; exact Nat.le_refl _
      exact I1.fpOk hge (I1.hok.fresh hge)
    · obtain ⟨its, rv, p2, hz⟩ := I1.tuple hq
      refine callType_new F.called_enumerate (by decide) (F.typeCall_enumerate_1 _) (F.newCall_enumerate_1 _) (fun obj => F.args_object_init_2 obj _) F.entry_enumerate_new (en_new (begins_tuple a its.toArray)) ⟨p2, ?_⟩
      have sz : (s1.heap.push { cls := .type "tuple_iterator", data := .fields #[.ref a, .int 0 0] }).objs.size = s1.heap.objs.size + 1 := Heap.size_push ..
      show _ ∧ _
      rw [sz]
      have he : IsEnum ((s1.heap.push { cls := .type "tuple_iterator", data := .fields #[.ref a, .int 0 0] }).push { cls := .type "enumerate", data := .fields #[.none, .bool false, .ref s1.heap.objs.size, rawInt 0, .none, .none] }) (s1.heap.objs.size + 1) s1.heap.objs.size (0 + ((0 : Nat) : Int)) .none := by
        have g := Heap.get?_push_size (s1.heap.push { cls := .type "tuple_iterator", data := .fields #[.ref a, .int 0 0] }) (o := { cls := .type "enumerate", data := .fields #[.none, .bool false, .ref s1.heap.objs.size, rawInt 0, .none, .none] }) rfl
        rw [sz] at g; exact g
      refine ⟨⟨_, he, rfl⟩, wpAny_pyIter_enum he ⟨s1.heap.objs.size + 1, [s1.heap.objs.size + 1, s1.heap.objs.size], _, _, H1, rfl, I1.kept (t' := s1.toks) (fun b o z => Heap.get?_push_of_some _ (Heap.get?_push_of_some _ z)), turn_enT a (s1.heap.objs.size + 1) s1.heap.objs.size (Nat.succ_ne_self _), ⟨⟨.none, he⟩, ⟨_, Heap.get?_push_of_some _ (Heap.get?_push_size _ rfl), rfl, rfl⟩⟩, fun b hb => ?_, q⟩⟩
      have hge : s1.heap.objs.size ≤ b := by
        rcases List.mem_cons.mp hb with z | z
        · rw [z]; exact Nat.le_add_right _ _
        · rw [List.mem_singleton.mp z]; exact Nat.le_refl _
      exact I1.fpOk hge (I1.hok.fresh hge)
theorem walk_enT {K : PySem.W.Frag} {a : Addr} {xs : List V} : Walk (ItT K a) xs.length (fun H => SqT K H a xs) (YPair (fun i => some (.int (i : Nat))) (fun i => xs[i]?)) := by
  refine ⟨fun i _ hi hs => ⟨xs, xs[i], hs, by simp [hi]⟩, fun _ hs => ⟨xs, hs, Nat.le_refl _⟩, fun i H v H2 _ hs y => ?_⟩
  obtain ⟨T, x, e1, e2, e3, e4⟩ := y
  exact ⟨T, .int (i : Nat), x, e1, e2, e3, rfl, e4 xs hs⟩
theorem ko_catA {X : Cx} {K : PySem.W.Frag} (h : X.K = K := by rfl) : OpR X (binaryOp .Add) (rCatA K) := h ▸ op_catA
theorem ki_enA {X : Cx} {K : PySem.W.Frag} {e : Expr} {ta : TA} {p pos tpos : Pos} {elts : List Expr} {kk : Nat} (hg : Gl X "enumerate") (hm : X.mg "enumerate" = none) (ha : PA X [e] ta) (hs : starEach [e] X.env = [(false, eval e X.env)] := by rfl) (h : X.K = K := by rfl)
    : PI X (.Tuple elts kk tpos) (.Call (.Name "enumerate" p) [e] [] pos) (iEnA K ta) := h ▸ pi_enA hg hm ha hs
end Pot

namespace Pot
open PySem PySem.Spec PyProof.Rows L2
open Sem (wp)
/-! ### zip of three lists of one length -/
def It3 (K : PySem.W.Frag) (a b c : Addr) : It :=
  ⟨fun i H => ∃ (xs ys zs : List V) (x y z : V), SqL K H a xs ∧ SqL K H b ys ∧ SqL K H c zs ∧ xs[i]? = some x ∧ ys[i]? = some y ∧ zs[i]? = some z,
   fun i H v H2 => ∃ T x y z, v = .ref T ∧ H T = none ∧ H2 = upd H T (.tup [x, y, z]) ∧ (∀ xs, SqL K H a xs → xs[i]? = some x) ∧ (∀ ys, SqL K H b ys → ys[i]? = some y) ∧ ∀ zs, SqL K H c zs → zs[i]? = some z,
   fun i H => ∃ xs ys zs : List V, SqL K H a xs ∧ SqL K H b ys ∧ SqL K H c zs ∧ xs.length ≤ i ∧ ys.length ≤ i ∧ zs.length ≤ i⟩
/-- an iterator of a list that has come to its end -/
theorem drawsEndL {prog : Program} {w : World} {A : Around} (hh : A.handled = none) (it t : Addr) (items : Array Value) (i : Nat) (hi : items[i]? = none) :
    Draws prog w A it [it, t] i (fun _ _ => False) (fun j h => j = i ∧ h.IsListIter it t j ∧ h.IsList t items) where
  live := fun _ _ st => let ⟨o, ho, _⟩ := st.2.1; ⟨o, ho⟩
  frame := fun _ _ _ st hk => ⟨st.1, st.2.1.at fun o e => hk it (by simp) o e, st.2.2.at fun o e => hk t (by simp) o e⟩
  item := fun j _ _ _ hj st _ => absurd st.1 (Nat.ne_of_lt hj)
  done := fun s Q E st hE => wpAny_nextOf_list_end hh st.2.1 st.2.2 hi hE
theorem turn_z3 {P : Program} {w : World} {K : PySem.W.Frag} {elts : List Expr} {kk : Nat} {tpos : Pos} {a b c z TI TO i1 i2 i3 : Addr} (D : ZipSep3 z TI TO i1 i2 i3 [i1, a] [i2, b] [i3, c]) (n1 : a ≠ i1) (n2 : b ≠ i2) (n3 : c ≠ i3) :
    Turn P w K (.Tuple elts kk tpos) (It3 K a b c) [z, TI, TO, i1, i2, i3] z (fun i h => IsZip h z TI TO .none ∧ IsTupOf3 h TI (.ref i1) (.ref i2) (.ref i3) ∧ (∃ x y u, IsTupOf3 h TO x y u) ∧ h.IsListIter i1 a i ∧ h.IsListIter i2 b i ∧ h.IsListIter i3 c i) where
  mem := by simp
  obj := fun i h st m hm => by
    obtain ⟨hz, hTI, ⟨x, y, u, hTO⟩, ⟨o1, e1, _, d1⟩, ⟨o2, e2, _, d2⟩, ⟨o3, e3, _, d3⟩⟩ := st
    simp only [List.mem_cons, List.not_mem_nil, or_false] at hm
    rcases hm with e | e | e | e | e | e
    · subst e; exact ⟨_, hz, fun v q => nomatch q⟩
    · subst e; exact ⟨_, hTI, fun v q => nomatch q⟩
    · subst e; exact ⟨_, hTO, fun v q => nomatch q⟩
    · subst e; exact ⟨o1, e1, fun v q => by rw [d1] at q; cases q⟩
    · subst e; exact ⟨o2, e2, fun v q => by rw [d2] at q; cases q⟩
    · subst e; exact ⟨o3, e3, fun v q => by rw [d3] at q; cases q⟩
  keep := fun i h h2 st k => by
    obtain ⟨hz, hTI, ⟨x, y, u, hTO⟩, g1, g2, g3⟩ := st
    exact ⟨k z (by simp) _ hz, k TI (by simp) _ hTI, ⟨x, y, u, k TO (by simp) _ hTO⟩, g1.at fun o q => k i1 (by simp) o q, g2.at fun o q => k i2 (by simp) o q, g3.at fun o q => k i3 (by simp) o q⟩
  item := by
    intro X q1 q2 q3 hc i pins s σ H E I hf st hg; subst q1 q2 q3
    obtain ⟨hz, hTI, ⟨x0, y0, u0, hTO⟩, g1, g2, g3⟩ := st
    obtain ⟨xs, ys, us, x, y, u, hqa, hqb, hqc, hx, hy, hu⟩ := hg
    obtain ⟨its1, vs1, p1, _⟩ := I.list hqa
    obtain ⟨its2, vs2, p2, _⟩ := I.list hqb
    obtain ⟨its3, vs3, p3, _⟩ := I.list hqc
    obtain ⟨w1, hw1, r1⟩ := vs1.get hx
    obtain ⟨w2, hw2, r2⟩ := vs2.get hy
    obtain ⟨w3, hw3, r3⟩ := vs3.get hu
    have at1 : its1.toArray[i]? = some w1 := by simpa using hw1
    have at2 : its2.toArray[i]? = some w2 := by simpa using hw2
    have at3 : its3.toArray[i]? = some w3 := by simpa using hw3
    have l1 : i < its1.toArray.size := (Array.getElem?_eq_some_iff.mp at1).1
    have l2 : i < its2.toArray.size := (Array.getElem?_eq_some_iff.mp at2).1
    have l3 : i < its3.toArray.size := (Array.getElem?_eq_some_iff.mp at3).1
    have hh := I.ok.hd hc
    have G := GoesN.zip3 (elts := elts) (x1 := kk) (pos := tpos) D (Draws.list (prog := X.prog) (w := X.w) (A := X.A.in1) hh i1 a n1 its1.toArray) (Draws.list (prog := X.prog) (w := X.w) (A := X.A.in1) hh i2 b n2 its2.toArray) (Draws.list (prog := X.prog) (w := X.w) (A := X.A.in1) hh i3 c n3 its3.toArray)
    refine G.goes i s _ _ (by omega) ⟨hz, hTI, ⟨x0, y0, u0, hTO⟩, ⟨g1, p1.isList⟩, ⟨g2, p2.isList⟩, ⟨g3, p3.isList⟩⟩ fun v h2 tk hY st2 hk _ => ?_
    obtain ⟨T, t1, t2, t3, rfl, hn, e1, e2, e3, hT⟩ := hY
    cases Option.some.inj (e1.symm.trans at1)
    cases Option.some.inj (e2.symm.trans at2)
    cases Option.some.inj (e3.symm.trans at3)
    have new : ObjOk X.prog X.w (upd H T (.tup [x, y, u])) h2 T (.tup [x, y, u]) := ⟨by show 3 ≤ sizeLine; decide, [w1, w2, w3], .cons r1 (.cons r2 (.cons r3 .nil)), hT⟩
    have I1 : Inv X pins σ (upd H T (.tup [x, y, u])) { s with heap := h2, toks := tk } := I.turnedNew (ch := [z, TI, TO, i1, i2, i3]) (fun m ob hm q => hk m ob (fun e => hm (by simp only [List.mem_cons, List.not_mem_nil, or_false] at e ⊢; rcases e with e | e | e | e | e <;> simp [e])) q) hf hn new
    refine ⟨.ref T, _, I1, rfl, ⟨T, x, y, u, rfl, I.hok.fresh hn, rfl, fun l hl => by rw [I.list_inj hl hqa]; exact hx, fun l hl => by rw [I.list_inj hl hqb]; exact hy, fun l hl => by rw [I.list_inj hl hqc]; exact hu⟩, ⟨st2.1, st2.2.1, st2.2.2.1, st2.2.2.2.1.1, st2.2.2.2.2.1.1, st2.2.2.2.2.2.1⟩, fun m hm => ?_⟩
    have hm0 := (hf m hm).1
    have live : ∃ o, s.heap.get? m = some o := by
      obtain ⟨o1, f1, _⟩ := g1
      obtain ⟨o2, f2, _⟩ := g2
      obtain ⟨o3, f3, _⟩ := g3
      simp only [List.mem_cons, List.not_mem_nil, or_false] at hm
      rcases hm with e | e | e | e | e | e
      · subst e; exact ⟨_, hz⟩
      · subst e; exact ⟨_, hTI⟩
      · subst e; exact ⟨_, hTO⟩
      · subst e; exact ⟨_, f1⟩
      · subst e; exact ⟨_, f2⟩
      · subst e; exact ⟨_, f3⟩
    obtain ⟨o, ho⟩ := live
    rw [upd_ne (Nat.ne_of_lt (Nat.lt_of_lt_of_le (Heap.lt_size ho) hn))]; exact hm0
  done := by
    intro X q1 q2 q3 hc i pins s σ H E I hf st hg; subst q1 q2 q3
    obtain ⟨hz, hTI, ⟨x0, y0, u0, hTO⟩, g1, g2, g3⟩ := st
    obtain ⟨xs, ys, us, hqa, hqb, hqc, hx, hy, hu⟩ := hg
    obtain ⟨its1, vs1, p1, _⟩ := I.list hqa
    obtain ⟨its2, vs2, p2, _⟩ := I.list hqb
    obtain ⟨its3, vs3, p3, _⟩ := I.list hqc
    have m1 := vs1.length
    have m2 := vs2.length
    have m3 := vs3.length
    have hh := I.ok.hd hc
    have G := GoesN.zip3 (elts := elts) (x1 := kk) (pos := tpos) D (drawsEndL (prog := X.prog) (w := X.w) (A := X.A.in1) hh i1 a its1.toArray i (by simp; omega)) (drawsEndL (prog := X.prog) (w := X.w) (A := X.A.in1) hh i2 b its2.toArray i (by simp; omega)) (drawsEndL (prog := X.prog) (w := X.w) (A := X.A.in1) hh i3 c its3.toArray i (by simp; omega))
    rw [Nat.min_self, Nat.min_self] at G
    exact G.stops s _ _ ⟨hz, hTI, ⟨x0, y0, u0, hTO⟩, ⟨rfl, g1, p1.isList⟩, ⟨rfl, g2, p2.isList⟩, ⟨rfl, g3, p3.isList⟩⟩ fun h2 tk hk _ => inv_ch (ch := [z, TI, TO, i1, i2, i3]) I (fun m o hm q => hk m o (fun e => hm (by simp only [List.mem_cons, List.not_mem_nil, or_false] at e ⊢; rcases e with e | e | e | e | e <;> simp [e])) q) hf
  self := fun _ _ _ _ _ st fin => wpAny_pyIter_zip st.1 fin
def iZip3 (K : PySem.W.Frag) (ta : TA) : TI := fun σ H R => ta σ H fun vs H1 => ∃ a b c xs ys zs, vs = [.ref a, .ref b, .ref c] ∧ SqL K H1 a xs ∧ SqL K H1 b ys ∧ SqL K H1 c zs ∧ R (It3 K a b c) H1
theorem pi_zip3 {X : Cx} {e e2 e3 : Expr} {ta : TA} {p pos tpos : Pos} {elts : List Expr} {kk : Nat} (hg : Gl X "zip") (hm : X.mg "zip" = none) (ha : PA X [e, e2, e3] ta)
    (hs : starEach [e, e2, e3] X.env = (false, eval e X.env) :: starEach [e2, e3] X.env := by rfl) (hpl : (backTo pos (starEach [e2, e3] X.env)).any (·.1) = false := by rfl) :
    PI X (.Tuple elts kk tpos) (.Call (.Name "zip" p) [e, e2, e3] [] pos) (iZip3 X.K ta) := by
  refine ⟨fun pins s σ H R I hi => ?_⟩
  refine Call_ (ld_blt I hg hm PyProof.Rows.boot_zip (PyProof.Rows.callWith_type1 (thn (ha.run pos pins s σ H _ I hi) fun us s1 ⟨vs, H1, I1, r1, q1⟩ => ?_) hs hpl))
  obtain ⟨a, b, c, xs, ys, zs, ex, qa, qb, qc, q⟩ := q1
  subst ex
  cases r1 with
  | cons ra rr =>
    cases rr with
    | cons rb rr =>
      cases rr with
      | cons rc rr =>
        cases rr; cases ra; cases rb; cases rc
        obtain ⟨its1, _, p1, _⟩ := I1.list qa
        obtain ⟨its2, _, p2, _⟩ := I1.list qb
        obtain ⟨its3, _, p3, _⟩ := I1.list qc
        refine zip_begins3 (begins_list a its1.toArray) (begins_list b its2.toArray) (begins_list c its3.toArray) p1.isList p2.isList p3.isList fun h2 hz hTI hTO f1 f2 f3 hsz hk => wpAny_pyIter_zip hz ?_
        have below : ∀ {l : Addr} {its : List Value} {n : Nat}, s1.heap.get? l = some { cls := .type "list", data := .seq its.toArray n } → ∀ m ∈ [l], m < s1.heap.objs.size := fun h m hm => by rw [List.mem_singleton.mp hm]; exact Heap.lt_size h
        refine ⟨s1.heap.objs.size + 5, [s1.heap.objs.size + 5, s1.heap.objs.size + 3, s1.heap.objs.size + 4, s1.heap.objs.size, s1.heap.objs.size + 1, s1.heap.objs.size + 2], _, _, H1, rfl, I1.kept (t' := s1.toks) hk, turn_z3 (zip_sep3 (N := s1.heap.objs.size) (fp1 := [a]) (fp2 := [b]) (fp3 := [c]) ?_ ?_ ?_) ?_ ?_ ?_, ⟨hz, hTI, ⟨_, _, _, hTO⟩, ⟨_, f1, rfl, rfl⟩, ⟨_, f2, rfl, rfl⟩, ⟨_, f3, rfl, rfl⟩⟩, fun m hm => ?_, q⟩
        · exact fun m hm => by rw [List.mem_singleton.mp hm]; exact p1.lt
        · exact fun m hm => by rw [List.mem_singleton.mp hm]; exact p2.lt
        · exact fun m hm => by rw [List.mem_singleton.mp hm]; exact p3.lt
        · exact Nat.ne_of_lt p1.lt
        · exact Nat.ne_of_lt (Nat.lt_of_lt_of_le p2.lt (Nat.le_add_right _ _))
        · exact Nat.ne_of_lt (Nat.lt_of_lt_of_le p3.lt (Nat.le_add_right _ _))
        · have hge : s1.heap.objs.size ≤ m := by
            simp only [List.mem_cons, List.not_mem_nil, or_false] at hm
            rcases hm with e | e | e | e | e | e <;> (rw [e]; first | exact Nat.le_refl _ | exact Nat.le_add_right _ _)
          exact I1.fpOk hge (I1.hok.fresh hge)
theorem ki_zip3 {X : Cx} {K : PySem.W.Frag} {e e2 e3 : Expr} {ta : TA} {p pos tpos : Pos} {elts : List Expr} {kk : Nat} (hg : Gl X "zip") (hm : X.mg "zip" = none) (ha : PA X [e, e2, e3] ta)
    (hs : starEach [e, e2, e3] X.env = (false, eval e X.env) :: starEach [e2, e3] X.env := by rfl) (hpl : (backTo pos (starEach [e2, e3] X.env)).any (·.1) = false := by rfl) (h : X.K = K := by rfl) :
    PI X (.Tuple elts kk tpos) (.Call (.Name "zip" p) [e, e2, e3] [] pos) (iZip3 K ta) := h ▸ pi_zip3 hg hm ha hs hpl
def Y3 (f g k : Nat → Option V) : Nat → Hp → V → Hp → Prop := fun i H v H2 => ∃ T x y z, v = .ref T ∧ H T = none ∧ H2 = upd H T (.tup [x, y, z]) ∧ f i = some x ∧ g i = some y ∧ k i = some z
theorem walk_z3 {K : PySem.W.Frag} {a b c : Addr} {xs ys zs : List V} (h1 : ys.length = xs.length) (h2 : zs.length = xs.length) : Walk (It3 K a b c) xs.length (fun H => SqL K H a xs ∧ SqL K H b ys ∧ SqL K H c zs) (Y3 (fun i => xs[i]?) (fun i => ys[i]?) (fun i => zs[i]?)) := by
  refine ⟨fun i _ hi hs => ⟨xs, ys, zs, xs[i], ys[i]'(by omega), zs[i]'(by omega), hs.1, hs.2.1, hs.2.2, by simp [hi], by simp [show i < ys.length by omega], by simp [show i < zs.length by omega]⟩, fun _ hs => ⟨xs, ys, zs, hs.1, hs.2.1, hs.2.2, by omega, by omega, by omega⟩, fun i H v H2 _ hs y => ?_⟩
  obtain ⟨T, x, y, z, e1, e2, e3, e4, e5, e6⟩ := y
  exact ⟨T, x, y, z, e1, e2, e3, e4 xs hs.1, e5 ys hs.2.1, e6 zs hs.2.2⟩
end Pot

namespace Pot
open PySem PySem.Spec PyProof.Rows L2
open PySem.Calls
open PySem.W (sortingHeap copyHeap sortLe alike alikeAll keyToks keyToksAll dataLt dataKind KatLex SortsAt sortVals dataType EachIs)
/-! ### sorted of rows that are told apart by parts that can be compared -/
/-- up to the first part in which they differ, that one too, two rows are alike -/
def okCmp : List PyData → List PyData → Bool
  | x :: xs, y :: ys => alike x y && (!PyData.eqv x y || okCmp xs ys)
  | [], [] => true
  | _, _ => false
section
variable {prog : Program} {w : World} {A : Around} {s : Shared}
theorem kat_ok {b fin : Bool} {Q : Bool → Shared → Prop} : ∀ (xs ys : List PyData) (i : Nat) (vs ws : List Value) (as bs : List Addr), ReadsAll s.heap vs xs as → ReadsAll s.heap ws ys bs → okCmp xs ys = true → A.units + min (PyData.depthAll xs) (PyData.depthAll ys) < cLine → (b = true → i = 0 → ∀ x r t, xs = x :: r → x ≠ .tuple t) → fin = decide (xs.length < ys.length) →
    Q (PyProof.Rows.lexLt itemOrd (keyToksAll xs) (keyToksAll ys)) s → KatLex prog w A b fin Q (vs.zip ws) i s := by
  intro xs
  induction xs with
  | nil =>
    intro ys i vs ws as bs ra rb ok hu hb hf hq
    have := PySem.W.katLex_alike (prog := prog) (w := w) (A := A) (s := s) (b := b) (fin := fin) (Q := Q) [] ys i vs ws as bs ra rb
    cases ys with
    | nil => exact this rfl hu hb hf hq
    | cons y ys => cases ok
  | cons x xs ih =>
    intro ys i vs ws as bs ra rb ok hu hb hf hq
    cases ys with
    | nil => cases ok
    | cons y ys =>
      obtain ⟨al, nx⟩ := Bool.and_eq_true_iff.mp ok
      have hf2 : fin = decide (xs.length < ys.length) := by rw [hf]; simp only [List.length_cons, Nat.add_lt_add_iff_right]
      cases ra with
      | cons r rs =>
        cases rb with
        | cons r2 rs2 =>
          rw [List.zip_cons_cons]
          refine PySem.W.kat_cons (PySem.W.eqAt_alike x y A s _ _ _ _ r r2 al (SeqAt.room_head hu) prog w _ _ ?_)
          cases ex : PyData.eqv x y with
          | true =>
            rw [PySem.W.dataLt_all_yes al ex] at hq
            rw [ex] at nx
            exact PySem.W.kat_yes (ih ys (i + 1) _ _ _ _ rs rs2 nx (SeqAt.room_tail hu) (fun _ h0 => absurd h0 (Nat.succ_ne_zero i)) hf2 hq)
          | false =>
            rw [PySem.W.dataLt_all_no al ex] at hq
            refine PySem.W.kat_no (PySem.W.oneLt_alike (fun hbi t => ?_) r r2 al (PySem.W.ne_none_of al ex) (SeqAt.room_head hu) hq)
            obtain ⟨b1, b2⟩ := Bool.and_eq_true_iff.mp hbi
            exact hb b1 (by simpa using b2) x xs t rfl
theorem key_of {h : Heap} {ds : List PyData} {v : Value} {d : PyData} {as : List Addr} (hd : d ∈ ds) (r : Reads h v d as) : (dataKind h ds).keyOf v = some (keyToks d) := by
  have ex : ∃ e, e ∈ ds ∧ ∃ bs, Reads h v e bs := ⟨d, hd, as, r⟩
  have eq1 : (dataKind h ds).keyOf v = some (keyToks ex.choose) := dif_pos ex
  obtain ⟨_, bs, r2⟩ := ex.choose_spec
  rw [eq1, (Reads.unique r2 _ _ r).1]
/-- rows that can be sorted: tuples with a first part, the first parts alike, each two comparable -/
structure RowsCmp (ds : List PyData) : Prop where
  form : ∀ d ∈ ds, ∃ x r, d = .tuple (x :: r)
  first : ∀ x r x2 r2, PyData.tuple (x :: r) ∈ ds → PyData.tuple (x2 :: r2) ∈ ds → alike x x2 = true
  cmp : ∀ xs ys, PyData.tuple xs ∈ ds → PyData.tuple ys ∈ ds → okCmp xs ys = true
theorem sorts_rows {vs : List Value} {ds : List PyData} (e : EachIs (fun v d => ∃ as, Reads s.heap v d as) vs ds) (W : RowsCmp ds) (hu : ∀ d, d ∈ ds → A.units + d.depth < cLine) : SortsAt prog w A s (dataKind s.heap ds) vs := by
  refine ⟨fun v hv => ?_, ?_⟩
  · obtain ⟨d, hd, as, r⟩ := e.left v hv
    exact ⟨_, key_of hd r⟩
  · cases hds : ds with
    | nil =>
      rw [hds] at e
      cases e
      exact ⟨general', fun E x y a b Q ha _ _ => (by obtain ⟨d, _, hd, _⟩ := PySem.W.dataKind_inv ha; exact absurd hd (by simp)), fun h2 => absurd h2 (by simp)⟩
    | cons d0 ds0 =>
      rw [← hds]
      have m0 : d0 ∈ ds := by rw [hds]; exact List.mem_cons_self
      obtain ⟨x0, r0, e0⟩ := W.form d0 m0
      have m0 : PyData.tuple (x0 :: r0) ∈ ds := by rw [← e0]; exact m0
      refine ⟨tuples' (dataType x0 != Value.type "tuple"), ?_, fun h2 E Q hq => ?_⟩
      · intro E x y a b Q ha hb hq
        obtain ⟨d, as, hd, ra, rfl⟩ := PySem.W.dataKind_inv ha
        obtain ⟨d2, as2, hd2, rb, rfl⟩ := PySem.W.dataKind_inv hb
        obtain ⟨x1, r1, rfl⟩ := W.form d hd
        obtain ⟨x2, r2, rfl⟩ := W.form d2 hd2
        have room : A.units + min (PyData.tuple (x1 :: r1)).depth (PyData.tuple (x2 :: r2)).depth < cLine := Nat.lt_of_le_of_lt (Nat.add_le_add_left (Nat.min_le_left _ _) _) (hu _ hd)
        have hq2 : Q (dataLt (.tuple (x1 :: r1)) (.tuple (x2 :: r2))) s := hq
        rw [PySem.W.dataLt_tuple] at hq2
        cases ra with
        | @tuple l o us n _ _ h1 h2 h3 h4 =>
          cases rb with
          | @tuple l2 o2 us2 n2 _ _ k1 k2 k3 k4 =>
            have z1 : us.size = (x1 :: r1).length := by simpa using SeqAt.ReadsAll.length _ _ _ h4
            have z2 : us2.size = (x2 :: r2).length := by simpa using SeqAt.ReadsAll.length _ _ _ k4
            refine PySem.W.kat_lt h1 h3 k1 k3 (kat_ok (prog := prog) (w := w) (A := A) (s := s) (x1 :: r1) (x2 :: r2) 0 _ _ _ _ h4 k4 (W.cmp _ _ hd hd2) (by have := SeqAt.room_in room; omega) (fun hb1 _ xx rr t ex => ?_) (by rw [z1, z2]) hq2)
            obtain ⟨rfl, rfl⟩ := List.cons.inj ex
            rw [← PySem.W.dataType_alike (W.first _ _ _ _ hd m0)] at hb1
            exact PySem.W.dataType_tuple hb1 t
      · obtain ⟨fs, t1, t2, t3⟩ := PySem.W.each_katTups e W.form
        refine PySem.W.kat_kind (T := dataType x0) t1 (by omega) (fun f hf => ?_) (beq_self_eq_true _) hq
        obtain ⟨xx, rr, as, m1, m2⟩ := t3 f hf
        rw [← PySem.W.dataType_alike (W.first _ _ _ _ m1 m0)]
        exact PySem.W.looks_reads m2
end
theorem perm_lift {α β : Type} (f : α → β) {out l : List β} (h : out.Perm l) : ∀ L : List α, L.map f = l → ∃ L2 : List α, L2.Perm L ∧ L2.map f = out := by
  induction h with
  | nil => intro L e; exact ⟨L, .refl _, e⟩
  | cons x _ ih =>
    intro L e
    cases L with
    | nil => cases e
    | cons y L =>
      obtain ⟨e1, e2⟩ := List.cons.inj e
      obtain ⟨L2, p2, m2⟩ := ih L e2
      exact ⟨y :: L2, p2.cons y, by rw [List.map_cons, m2, e1]⟩
  | swap x y l =>
    intro L e
    match L, e with
    | a :: b :: L, e =>
      obtain ⟨e1, e2⟩ := List.cons.inj e
      obtain ⟨e2, e3⟩ := List.cons.inj e2
      exact ⟨b :: a :: L, .swap a b L, by rw [List.map_cons, List.map_cons, e1, e2, e3]⟩
  | trans _ _ ih1 ih2 =>
    intro L e
    obtain ⟨L2, p2, m2⟩ := ih2 L e
    obtain ⟨L3, p3, m3⟩ := ih1 L2 m2
    exact ⟨L3, p3.trans p2, m3⟩
section
variable {X : Cx} {K : PySem.W.Frag}
theorem each_reads {pins : List (Addr × Obj)} {σ : L2.St} {H : Hp} {s : Shared} (I : Inv X pins σ H s) : ∀ {xs : List V} {its : List Value} {ds : List PyData}, Vals xs its → DpAll X.K H xs ds → ∃ L : List (Value × V × PyData), L.map (·.1) = its ∧ L.map (·.2.1) = xs ∧ L.map (·.2.2) = ds ∧ ∀ t ∈ L, RelV t.2.1 t.1 ∧ Dp X.K H t.2.1 t.2.2
  | _, _, _, .nil, .nil => ⟨[], rfl, rfl, rfl, fun _ h => (List.not_mem_nil h).elim⟩
  | _, _, _, .cons (a := x) (b := u) r rs, .cons (d := d) p ps => by
    obtain ⟨L, h1, h2, h3, h4⟩ := each_reads I rs ps
    refine ⟨(u, x, d) :: L, by rw [List.map_cons, h1], by rw [List.map_cons, h2], by rw [List.map_cons, h3], fun t ht => ?_⟩
    rcases List.mem_cons.mp ht with e | e
    · rw [e]; exact ⟨r, p⟩
    · exact h4 t e
/-- sorted of a list of rows: a new list of the same ones -/
def rSortedR (K : PySem.W.Frag) : List V → Hp → VK → Prop := fun vs H Q => ∃ (a : Addr) (xs : List V) (ds : List PyData), vs = [V.ref a] ∧ SqL K H a xs ∧ DpAll K H xs ds ∧ RowsCmp ds ∧ (∀ d ∈ ds, d.depth ≤ 60) ∧
  ∀ (zs : List V) (es : List PyData) (p : Addr), DpAll K H zs es → es.Perm ds → H p = none → Q (.ref p) (upd H p (.lst zs))
theorem cr_sortedR (hu : X.A.units + 70 < cLine) : CallR X (.builtin "sorted") (rSortedR X.K) := by
  intro pins s σ H vs0 us0 Q I r h
  obtain ⟨a, xs, ds, rfl, hs, da, W, dep, q⟩ := h
  obtain ⟨its, rv, hl, hz⟩ := I.list hs
  rw [Vals.ref1 r]
  obtain ⟨L, e1, e2, e3, all⟩ := each_reads I rv da
  have er : EachIs (fun v d => ∃ as, Reads s.heap v d as) its ds := by
    rw [← e1, ← e3]
    clear e1 e2 e3
    induction L with
    | nil => exact .nil
    | cons t L ih =>
      have ht := all t List.mem_cons_self
      exact .cons (Dp.reads I _ _ _ ht.2 ht.1) (ih fun x hx => all x (List.mem_cons_of_mem _ hx))
  have ll : its.length = xs.length := by rw [← e1, ← e2, List.length_map, List.length_map]
  have ln : its.length ≤ sizeLine := by rw [ll]; exact hz
  have er' : EachIs (fun v d => ∃ as, Reads (sortingHeap (copyHeap s.heap its) (s.heap.objs.size + 1) its) v d as) its ds := er.mono fun _ _ ⟨as, r⟩ => ⟨as, PyProof.Rows.Reads.keeps (fun _ _ => PySem.W.sorting_copy_old) r⟩
  have S := sorts_rows (prog := X.prog) (w := X.w) (A := X.A.in1.in1) (s := { s with heap := sortingHeap (copyHeap s.heap its) (s.heap.objs.size + 1) its }) er' W (fun d hd => by have := dep d hd; simp only [Around.in1]; omega)
  refine PySem.W.sorted_vals hl.isList S ln ?_
  generalize eo : sortVals _ false its its = out
  have po : out.Perm its := by
    rw [← eo]
    unfold sortVals
    have := (List.mergeSort_perm (its.zip its) (sortLe (dataKind (sortingHeap (copyHeap s.heap its) (s.heap.objs.size + 1) its) ds).toKeyOrd false fun p : Keyed => PySem.W.keyD (dataKind (sortingHeap (copyHeap s.heap its) (s.heap.objs.size + 1) its) ds) p.1)).map Prod.snd
    rw [List.map_snd_zip (Nat.le_refl _)] at this
    exact this
  obtain ⟨L2, p2, m2⟩ := perm_lift (·.1) po L e1
  have rv2 : Vals (L2.map (·.2.1)) out := by
    rw [← m2]
    clear m2
    have hh : ∀ t ∈ L2, RelV t.2.1 t.1 := fun t ht => (all t (p2.mem_iff.mp ht)).1
    clear p2
    induction L2 with
    | nil => exact .nil
    | cons t L2 ih => exact .cons (hh t List.mem_cons_self) (ih fun x hx => hh x (List.mem_cons_of_mem _ hx))
  have dp2 : DpAll X.K H (L2.map (·.2.1)) (L2.map (·.2.2)) := by
    have hh : ∀ t ∈ L2, Dp X.K H t.2.1 t.2.2 := fun t ht => (all t (p2.mem_iff.mp ht)).2
    clear p2 m2 rv2
    induction L2 with
    | nil => exact .nil
    | cons t L2 ih => exact .cons (hh t List.mem_cons_self) (ih fun x hx => hh x (List.mem_cons_of_mem _ hx))
  have pd : (L2.map (·.2.2)).Perm ds := by rw [← e3]; exact p2.map _
  obtain ⟨ep, hat⟩ := PyProof.Rows.sortedAll_at s.heap its out.toArray
  have fr : H (s.heap.objs.size + 1) = none := I.hok.fresh (Nat.le_succ _)
  exact ⟨.ref _, upd H (s.heap.objs.size + 1) (.lst (L2.map (·.2.1))), I.laid (t' := s.toks) (fun _ _ => PyProof.Rows.sortedAll_old) (Nat.le_succ _) ⟨by rw [List.length_map, p2.length_eq, ← List.length_map (f := fun x : Value × V × PyData => x.1), e1]; exact ln, out, ep, rv2, hat⟩, rfl, q _ _ _ dp2 pd fr⟩
theorem kc_sortedR (hu : X.A.units + 70 < cLine) (h : X.K = K := by rfl) : CallR X (.builtin "sorted") (rSortedR K) := h ▸ cr_sortedR hu
end
end Pot

namespace Pot
open PySem PySem.Spec PyProof.Rows L2
/-! ### dicts whose keys are tuples: one written with one pair, the greatest of the values -/
def tDispT (tk tv : TE) : TE := fun σ H Q => ∀ p, H p = none → tk σ (upd H p (.dT [])) fun x H1 => tv σ H1 fun y H2 => ∃ (b : Addr) (k : List Key), x = .ref b ∧ H2 b = some (.tup (k.map kV)) ∧ H2 p = some (.dT []) ∧ Q (.ref p) (upd H2 p (.dT [(k, y)]))
def rValsT : V → List V → Hp → VK → Prop := fun x xs H Q => ∃ (a : Addr) (kvs : List (List Key × V)), x = .ref a ∧ xs = [] ∧ H a = some (.dT kvs) ∧ ∀ p, H p = none → Q (.ref p) (upd H p (viewO "dict_values" p a))
def rMaxT : List V → Hp → VK → Prop := fun xs H Q => ∃ (p a : Addr) (kvs : List (List Key × V)) (ns : List Int), xs = [.ref p] ∧ H p = some (viewO "dict_values" p a) ∧ H a = some (.dT kvs) ∧ kvs.map Prod.snd = ns.map V.int ∧ 0 < ns.length ∧ ∀ m, m ∈ ns → (∀ y, y ∈ ns → y ≤ m) → Q (.int m) H
section
variable {X : Cx}
theorem pe_dispT {k v : Expr} {pos : Pos} {tk tv : TE} (hu : X.A.units + 1 < cLine) (hk : PE X k tk) (hv : PE X v tv) : PE X (.Dict [some k] [v] pos) (tDispT tk tv) := by
  refine ⟨fun pins s σ H Q I q => ?_⟩
  have fresh := I.hok.fresh (Nat.le_refl s.heap.objs.size)
  have J := I.laid (t' := s.toks) (a := s.heap.objs.size) (o := .dT []) (h' := s.heap.push { cls := .type "dict", data := .dict #[] }) (fun _ _ z => Heap.get?_push_of_some _ z) (Nat.le_refl _) (dt_empty s.heap I.big)
  have two : PPs X pos [some k] [v] [(tk, tv)] := pps_cons hk hv pps_nil
  rw [arm_eval_Dict, zip_pairTrees [some k] [v] X.env pos rfl rfl, dictDisplay_pairs _ (by exact List.cons_ne_nil _ _) (by exact Nat.le_of_ble_eq_true rfl)]
  have go := two.run pins _ σ _ (fun ps H2 => match ps with
    | [(x, y)] => ∃ (b : Addr) (k : List Key), x = .ref b ∧ H2 b = some (.tup (k.map kV)) ∧ H2 s.heap.objs.size = some (.dT []) ∧ Q (.ref s.heap.objs.size) (upd H2 s.heap.objs.size (.dT [(k, y)]))
    | _ => False) J (q _ fresh)
  refine wpAny_bind (wpAny_standAt (wpAny_bind (wpAny_subDictH (knd := tupleKind (mixKind X.prog X.w)) (Q := fun d s2 => wpAny (model X.prog X.w) X.A (pure (Value.ref d)) (EP X pins σ Q) X.xe s2) (show X.A.units < cLine by omega) (by exact Nat.le_of_ble_eq_true rfl) (thn go fun ws s2 res => ?_))))
  obtain ⟨ps, H2, I2, rel, z⟩ := res
  cases rel with
  | nil => exact z.elim
  | @cons a0 b0 as bs r0 t =>
    cases t with
    | cons _ _ => exact z.elim
    | nil =>
      obtain ⟨x, y⟩ := a0
      obtain ⟨u, r⟩ := b0
      obtain ⟨r1, r2⟩ := r0
      obtain ⟨b, ks, rfl, hb, hd, z⟩ := z
      obtain rfl : u = Value.ref b := r1
      obtain ⟨small, sys, xs, kt, dd⟩ := dt_of I2.hok hd
      cases kt
      refine ⟨[(ks, b, r)], ⟨rfl, rfl, L2.key_of I2.hok hb, trivial⟩, dd, fun h2 tk dd2 only => wpAny_pure ?_⟩
      obtain ⟨o, es, ep, at_, c1, c2, c3, c4, c5⟩ := dd2
      have J2 := d_write (t' := tk) I2 (by rw [hd]; exact True.intro) only ⟨o, at_⟩ (ob := .dT [(ks, y)]) ⟨by show 1 ≤ sizeLine; decide, sys, _, .cons ⟨rfl, by rw [upd_ne (ne_of hb hd (fun w => nomatch w))]; exact hb, r2⟩ .nil, o, es, ep, at_, c1, c2, c3, c5⟩
      exact ⟨.ref _, _, J2, rfl, z⟩
theorem mt_valuesT : MtR X "dict.values" rValsT := by
  intro pins s σ H x xs v us Q I rx rxs h
  obtain ⟨a, kvs, rfl, rfl, at_, q⟩ := h
  cases rx
  cases rxs
  obtain ⟨_, sys, xs, _, dd⟩ := dt_of I.hok at_
  obtain ⟨o, es, ep, lies, c1, c2, _⟩ := id dd
  refine call_meetsIn PySem.F.slot_dict_values dd.typeIs PySem.F.entry_dict_values (PySem.F.args_dict_values_1 _) (meets_dict_values_raw a sys) ⟨⟨es, ep, o, lies, c1, c2⟩, ?_⟩
  exact ⟨.ref s.heap.objs.size, _, I.laid (t' := s.toks) (fun _ _ z => Heap.get?_push_of_some _ z) (Nat.le_refl _) (viewO_ok (Heap.get?_push_size _ rfl)), rfl, q _ (I.hok.fresh (Nat.le_refl _))⟩
theorem mates {α β : Type} {F : α → β → Prop} : ∀ {l : List α} {m : List β} {i : Nat} {y : β}, Paired F l m → m[i]? = some y → ∃ x, l[i]? = some x ∧ F x y
  | _, _, i, y, .nil, g => by simp at g
  | _, _, 0, y, .cons (a := x) f _, g => ⟨x, rfl, by cases g; exact f⟩
  | _, _, i + 1, y, .cons _ t, g => mates (i := i) t g
theorem cr_maxT (hc : X.calm = true) : CallR X (.builtin "max") rMaxT := by
  intro pins s σ H xs us Q I rx h
  obtain ⟨p, a, kvs, ns, rfl, view, at_, vals, some_, q⟩ := h
  rw [Vals.ref1 rx]
  have hv : s.heap.get? p = some (DSub.viewOb "dict_values" a) := (show ObjOk X.prog X.w H s.heap p (viewO "dict_values" p a) from I.hok p _ view).1
  obtain ⟨_, sys, xs, kt, dd⟩ := dt_of I.hok at_
  obtain ⟨o, es, ep, lies, c1, c2, c3, c4, c5⟩ := id dd
  have n1 : kvs.length = ns.length := by simpa using congrArg List.length vals
  have n2 : xs.length = kvs.length := (Paired.length kt).symm
  have n3 : es.size = ns.length := by rw [size_of_entries c3]; omega
  have val : ∀ (i : Nat) (e : DictEntry), es[i]? = some e → ∃ t, e.val = .int (ns.getD i 0) t := fun i e g => by
    rw [entry_at c3, Option.map_eq_some_iff] at g
    obtain ⟨y, gy, rfl⟩ := g
    obtain ⟨x, gx, f⟩ := mates kt gy
    have g2 : (kvs.map Prod.snd)[i]? = some x.2 := by rw [List.getElem?_map, gx]; rfl
    rw [vals, List.getElem?_map, Option.map_eq_some_iff] at g2
    obtain ⟨n, gn, ex⟩ := g2
    have r := f.2.2
    rw [← ex] at r
    obtain ⟨t, et⟩ := r
    refine ⟨t, ?_⟩
    rw [List.getD_eq_getElem?_getD, gn]
    exact et
  have la : a < s.heap.objs.size := Heap.lt_size lies
  refine call_max_walk (DSub.iter_vals hv lies c2 ?_)
  refine ⟨s.heap.objs.size, [s.heap.objs.size, a], [s.heap.objs.size], es.size, fun i v => ∃ t, v = .int (ns.getD i 0) t, _, fun i j => decide (ns.getD i 0 > ns.getD j 0), rfl, DSub.walksVal (a := a) (show X.A.in1.handled = none from I.ok.hd hc) (Nat.ne_of_lt la) c2 val, ⟨Heap.get?_push_size _ rfl, Heap.get?_push_of_some _ lies⟩, fun b hb => ?_, by omega, CmpOf.ints_gt (fun i => ns.getD i 0) (fun i v z => z), fun v h2 tk is_ keep => ?_⟩
  · show b < (s.heap.push _).objs.size
    rw [Heap.size_push]
    rcases List.mem_cons.mp hb with e | e
    · exact e ▸ Nat.lt_succ_self _
    · exact List.mem_singleton.mp e ▸ Nat.lt_succ_of_lt la
  · obtain ⟨t, rfl⟩ := is_
    obtain ⟨b1, b2⟩ := argBest_gt (fun i => ns.getD i 0) (es.size - 1)
    refine ⟨.int _, H, I.kept (t' := tk) fun b u g => keep b u (fun m => ?_) (Heap.get?_push_of_some _ g), ⟨t, rfl⟩, q _ ?_ fun y hy => ?_⟩
    · rw [List.mem_singleton.mp m] at g
      exact absurd (Heap.lt_size g) (Nat.lt_irrefl _)
    · have lb : argBest (fun i j => decide (ns.getD i 0 > ns.getD j 0)) (es.size - 1) ≤ es.size - 1 := b1
      exact PySem.getD_mem (by omega)
    · obtain ⟨j, lj, e⟩ := List.mem_iff_getElem.mp hy
      have top : ns.getD j 0 ≤ ns.getD (argBest (fun i j => decide (ns.getD i 0 > ns.getD j 0)) (es.size - 1)) 0 := b2 j (by omega)
      have g : ns.getD j 0 = y := by rw [List.getD_eq_getElem?_getD, List.getElem?_eq_getElem lj, ← e]; rfl
      rw [g] at top
      exact top
end
end Pot

namespace Pot
open PySem PySem.Spec PyProof.Rows L2
/-! ### the least and the greatest of a list of numbers -/
section
variable {X : Cx} {K : PySem.W.Frag}
theorem kc_min (hc : X.calm = true := by rfl) (h : X.K = K := by rfl) : CallR X (.builtin "min") (rMin K) := h ▸ cr_min hc
theorem kc_max (hc : X.calm = true := by rfl) (h : X.K = K := by rfl) : CallR X (.builtin "max") (rMax K) := h ▸ cr_max hc
end
end Pot

namespace Pot
open PySem PySem.Spec PyProof.Rows L2
def topS (i : Nat) : Stmt := PySem.Challenge.pw_potround_k48_slots.main.body.getD i (.Pass ⟨0, 0, 0, 0⟩)
section
variable {P : Program} {w : World} {K : PySem.W.Frag} {mg : Str → Option Value} {base : Heap}
abbrev s__law_take : Stmt := topS 8
def n__law_take : List Str := ["_law_state", "_law_many", "_law_digit", "_law_low", "_law_high", "_law_turn", "_law_once", "_law_twice"]
theorem sc__law_take : FnScope n__law_take ["_law_state", "_law_many"] (defScope s__law_take) := ⟨rfl, rfl, rfl, by decide +kernel, rfl, by decide +kernel, by decide +kernel⟩
/-! ### _law_take -/
def spTake : Sp := fun vs H Q _ => ∃ (b : Addr) (m : Int) (n : Nat), vs = [.ref b, .int m] ∧ 0 < m ∧ m < 1073741824 ∧ Bq H b n ∧ n < 2 ^ 40 ∧
  ∀ H' r, 0 ≤ r → r < m → Bq H' b (n + 1) → Sm [b] H H' → Q (.int r) H'
theorem ok_take {f : Addr} {fd : FuncData} {k : Nat} (F : Fun K "_law_take" "_law_take" s__law_take f fd) (T : Txt mg) :
    FnOk P w K mg base CX0 (k + 1) f fd ["_law_state", "_law_many"] spTake := by
  refine F.ok sc__law_take (fun vs H Q E h => ?_) (fun cdv A outer s H vs Q E hr h => ?_)
  · obtain ⟨b, m, n, rfl, _⟩ := h
    rfl
  · obtain ⟨b, m, n, rfl, hm0, hm1, ⟨x, y, z, B, z0, zn⟩, hn, q⟩ := h
    have nd := sc__law_take.nd
    refine ⟨_, (pss_cons (ps_if (pt_cmpR op_gt (pe_ix (kx_list (K := K)) (pv 0) pe_int (fun _ _ => rfl)) pe_int (nomark _))
          (pss_cons (ps_asg (pe_callB call_divmod (by rfl) T.divmod (by decide +kernel) (pa_cons (pe_ix (kx_list (K := K)) (pv 0) pe_int (fun _ _ => rfl)) (pa_cons (pv 1) pa_nil))) (kg_tup (K := K) (n := 2) (pgs_cons (pg_sub (pv 0) pe_int set_list) (pgs_cons (pg_name (i := 2) nd rfl (.inl rfl)) pgs_nil))))
          (pss_one (ps_ret (pv 2))))
          pss_nil)
      (pss_cons (ps_asg (pe_op op_add (pe_ix (kx_list (K := K)) (pv 0) pe_int (fun _ _ => rfl)) pe_int) (pg_sub (pv 0) pe_int set_list))
      (pss_cons (ps_par3 (i := 3) (j := 4) (l := 5) rfl nd rfl rfl rfl (by decide) (by decide) (by decide) rfl rfl rfl (pa_cons (pe_op op_mod (pe_ix (kx_list (K := K)) (pv 0) pe_int (fun _ _ => rfl)) pe_int) (pa_cons (pe_op op_fdivW (pe_ix (kx_list (K := K)) (pv 0) pe_int (fun _ _ => rfl)) pe_int) (pa_cons (pe_ix (kx_list (K := K)) (pv 0) pe_int (fun _ _ => rfl)) pa_nil))) rfl)
      (pss_cons (ps_set (i := 6) nd rfl (.inl rfl) (pe_op op_mod (pe_op op_mul (pe_op op_add (pe_op op_add (pv 3) (pe_op op_mul (pe_op op_mul (pv 5) (pv 5)) pe_int)) pe_int) pe_int) pe_int))
      (pss_cons (ps_set (i := 7) nd rfl (.inl rfl) (pe_op op_mod (pe_op op_add (pe_op op_add (pe_op op_mul (pv 6) (pe_op op_add (pe_op op_mod (pv 6) pe_int) pe_int)) (pv 4)) (pv 5)) pe_int))
      (pss_one (ps_ret (pe_op op_mod (pe_op op_fdiv (pe_op op_mod (pe_op op_add (pe_op op_mul (pv 7) pe_int) (pv 6)) pe_int) pe_int) (pv 1))))))))), ?_⟩
    refine ⟨_, rfl, b, _, 0, .int x, rfl, rfl, SqL.of B, rfl, _, _, rfl, rfl, _, rfl, ite2 (fun hb => ?_) (fun hb => ?_)⟩
    · refine ⟨_, rfl, b, _, 0, .int x, rfl, rfl, SqL.of B, rfl, _, rfl, _, _, rfl, ⟨hm0, hm1⟩, fun p np => ?_⟩
      have nb : b ≠ p := ne_of_none B np
      have B1 : upd H p (.tup [.int (x / m), .int (x % m)]) b = some (.lst [.int x, .int y, .int z]) := by rw [upd_ne nb]; exact B
      refine ⟨p, _, rfl, .inl (.inl upd_same), rfl, _, _, rfl, _, rfl, b, _, 0, 0, rfl, rfl, B1, rfl, ?_⟩
      refine ⟨_, _, rfl, rfl, _, rfl, ?_⟩
      exact q _ _ (Int.emod_nonneg _ (by omega)) (Int.emod_lt_of_pos _ hm0) ⟨_, _, _, upd_same, z0, by omega⟩ ((sm_put np).trans (sm_wr List.mem_cons_self))
    · refine ⟨_, rfl, b, _, 2, .int z, rfl, rfl, SqL.of B, rfl, _, _, rfl, rfl, _, rfl, b, _, 2, 2, rfl, rfl, B, rfl, ?_⟩
      have B2 : upd H b (.lst [.int x, .int y, .int (z + 1)]) b = some (.lst [.int x, .int y, .int (z + 1)]) := upd_same
      have s2 : Sm [b] H (upd H b (.lst [.int x, .int y, .int (z + 1)])) := sm_wr List.mem_cons_self
      show tSeq _ _ _ _ (upd H b (.lst [.int x, .int y, .int (z + 1)]))
      generalize upd H b (.lst [.int x, .int y, .int (z + 1)]) = H2 at B2 s2 ⊢
      have t2 : z + 1 < 2 ^ 41 := by omega
      refine ⟨_, rfl, b, _, 1, .int y, rfl, rfl, SqL.of B2, rfl, _, _, rfl, rfl, (by show (0 : Int) < 2147483629; decide), ?_⟩
      refine ⟨_, rfl, b, _, 1, .int y, rfl, rfl, SqL.of B2, rfl, _, _, rfl, rfl, CDivW.of (by decide) (by decide), ?_⟩
      refine ⟨_, rfl, b, _, 2, .int (z + 1), rfl, rfl, SqL.of B2, rfl, _, _, _, rfl, ?_⟩
      refine ⟨_, rfl, _, rfl, _, rfl, _, _, rfl, rfl, .inl ⟨by omega, by omega⟩, _, _, rfl, rfl, .inr ⟨by decide, by decide⟩, _, _, rfl, rfl, _, _, rfl, rfl, _, _, rfl, rfl, .inr ⟨by decide, by decide⟩, _, _, rfl, rfl, (by show (0 : Int) < 2147483647; decide), ?_⟩
      refine ⟨_, rfl, _, rfl, _, _, rfl, rfl, (by show (0 : Int) < 30011; decide), _, _, rfl, rfl, _, _, rfl, rfl, cmul_mod _ _ (by decide) (by decide), _, rfl, _, _, rfl, rfl, _, rfl, _, _, rfl, rfl, _, _, rfl, rfl, (by show (0 : Int) < 2147483587; decide), ?_⟩
      refine ⟨_, rfl, _, _, rfl, rfl, .inr ⟨by decide, by decide⟩, _, rfl, _, _, rfl, rfl, _, _, rfl, rfl, (by show (0 : Int) < 2147483629; decide), _, _, rfl, rfl, ⟨by decide, by decide⟩, _, rfl, _, _, rfl, rfl, hm0, ?_⟩
      exact q _ _ (Int.emod_nonneg _ (by omega)) (Int.emod_lt_of_pos _ hm0) ⟨_, _, _, B2, by omega, by omega⟩ s2

abbrev s__law_begin : Stmt := topS 7
def n__law_begin : List Str := ["_law_script", "_law_k", "_law_cell"]
theorem sc__law_begin : FnScope n__law_begin ["_law_script", "_law_k"] (defScope s__law_begin) := ⟨rfl, rfl, rfl, by decide +kernel, rfl, by decide +kernel, by decide +kernel⟩
/-! ### _law_begin -/
def spBegin (K : PySem.W.Frag) : Sp := fun vs H Q _ => ∃ (a : Addr) (ns : List Int) (k : Nat), vs = [.ref a, .int (k : Nat)] ∧ SqL K H a (ns.map V.int) ∧ k ≤ 63 ∧ ∀ H' b, Same H H' → Bq H' b 0 → H b = none → Q (.ref b) H'
theorem ok_begin {f : Addr} {fd : FuncData} {k : Nat} (F : Fun K "_law_begin" "_law_begin" s__law_begin f fd) (T : Txt mg) : FnOk P w K mg base CX0 (k + 1) f fd ["_law_script", "_law_k"] (spBegin K) := by
  refine F.ok sc__law_begin (fun vs H Q E h => ?_) (fun cdv A outer s H vs Q E hr h => ?_)
  · obtain ⟨a, ns, k, rfl, _⟩ := h
    rfl
  · obtain ⟨a, ns, k, rfl, hS, h63, q⟩ := h
    have nd := sc__law_begin.nd
    refine ⟨_, (pss_cons (ps_set (i := 2) nd rfl (.inl rfl) (pe_ifExp (pt_cmpR op_lt (pv 1) (pe_callB (kc_len (K := K)) (by rfl) T.len PySem.boot_len (pa_cons (pv 0) pa_nil)) (nomark _)) (pe_ix (kx_list (K := K)) (pv 0) (pv 1) (fun _ _ => rfl)) pe_int))
      (pss_one (ps_ret (pe_lst (pa_cons (pe_op op_mul (pe_callB call_abs (by rfl) T.abs (by decide +kernel) (pa_cons (pv 2) pa_nil)) (pe_callTy call_int1 (by rfl) T.int (by decide +kernel) (pa_cons (pe_cmpR op_ge (pe_callB call_abs (by rfl) T.abs (by decide +kernel) (pa_cons (pv 2) pa_nil)) (pe_op op_pow pe_int pe_int) (nomark _)) pa_nil))) (pa_cons (pe_op op_add (pe_op op_add (pe_op op_mod (pe_callB call_abs (by rfl) T.abs (by decide +kernel) (pa_cons (pv 2) pa_nil)) (pe_op op_pow pe_int pe_int)) (pe_op op_mul pe_int (pv 1))) (pe_callTy call_int1 (by rfl) T.int (by decide +kernel) (pa_cons (pe_cmpR op_lt (pv 2) pe_int (nomark _)) pa_nil))) (pa_cons pe_int pa_nil))))))), ?_⟩
    refine ⟨_, rfl, _, rfl, _, _, rfl, .inl ⟨_, hS, rfl⟩, _, _, rfl, rfl, _, rfl, ite2 (fun hb => ?_) (fun hb => ?_)⟩
    · have hk : k < ns.length := by have := of_decide_eq_true hb; rw [List.length_map] at this; omega
      refine ⟨_, rfl, _, rfl, a, _, _, _, rfl, rfl, hS, atI_nat (by rw [List.getElem?_map, List.getElem?_eq_getElem hk]; rfl), ?_⟩
      refine ⟨_, rfl, _, rfl, _, rfl, _, rfl, _, _, rfl, rfl, ⟨by decide, by decide, by decide⟩, _, _, rfl, rfl, .inr ⟨_, rfl, _, _, rfl, rfl, .inr (b01 _), ?_⟩⟩
      refine ⟨_, rfl, _, rfl, _, _, rfl, rfl, ⟨by decide, by decide, by decide⟩, _, _, rfl, rfl, (by show (0 : Int) < 10 ^ 40; decide), _, rfl, _, _, rfl, rfl, .inl ⟨by decide, by decide⟩, _, _, rfl, rfl, _, rfl, _, _, rfl, rfl, .inr ⟨_, rfl, _, _, rfl, rfl, (by show 3 ≤ sizeLine; decide), fun p np => ?_⟩⟩
      exact q _ _ (same_upd np) ⟨_, _, _, upd_same, Int.le_refl _, Int.le_refl _⟩ np
    · skip
      refine ⟨_, rfl, _, rfl, _, rfl, _, rfl, _, _, rfl, rfl, ⟨by decide, by decide, by decide⟩, _, _, rfl, rfl, .inr ⟨_, rfl, _, _, rfl, rfl, .inr (b01 _), ?_⟩⟩
      refine ⟨_, rfl, _, rfl, _, _, rfl, rfl, ⟨by decide, by decide, by decide⟩, _, _, rfl, rfl, (by show (0 : Int) < 10 ^ 40; decide), _, rfl, _, _, rfl, rfl, .inl ⟨by decide, by decide⟩, _, _, rfl, rfl, _, rfl, _, _, rfl, rfl, .inr ⟨_, rfl, _, _, rfl, rfl, (by show 3 ≤ sizeLine; decide), fun p np => ?_⟩⟩
      exact q _ _ (same_upd np) ⟨_, _, _, upd_same, Int.le_refl _, Int.le_refl _⟩ np

end
end Pot

namespace Pot
open PySem PySem.Spec PyProof.Rows L2
section
variable {P : Program} {w : World} {K : PySem.W.Frag} {mg : Str → Option Value} {base : Heap}
abbrev s__law_same : Stmt := topS 9
def n__law_same : List Str := ["_law_found", "_law_due", "_law_one", "_law_other"]
theorem sc__law_same : FnScope n__law_same ["_law_found", "_law_due"] (defScope s__law_same) := ⟨rfl, rfl, rfl, by decide +kernel, rfl, by decide +kernel, by decide +kernel⟩
/-! ### _law_same: two of one and the same make are told to be so -/
def spSame (K : PySem.W.Frag) (k : Nat) : Sp := fun vs H Q _ => ∃ (x y : V) (d : PyData) (m : Nat), vs = [x, y] ∧ Dp K H x d ∧ Dp K H y d ∧ d.depth < k ∧ widAll.wid d ≤ 1000 ∧ gd m d ∧ ∀ H', Same H H' → Q (.bl true) H'
theorem ok_same {f : Addr} {fd : FuncData} (F : Fun K "_law_same" "_law_same" s__law_same f fd) (T : Txt mg) (bF : Binds K fd ["_law_found", "_law_due"] []) (gF : mg "_law_same" = some (.ref f)) :
    ∀ k : Nat, FnOk P w K mg base CX0 (k + 1) f fd ["_law_found", "_law_due"] (spSame K k) := by
  intro k
  induction k with
  | zero =>
    refine F.ok sc__law_same (fun vs H Q E h => ?_) (fun cdv A outer s H vs Q E hr h => ?_)
    · obtain ⟨x, y, d, m, rfl, _⟩ := h
      rfl
    · obtain ⟨x, y, d, m, rfl, hx, hy, hd, hw, hg, q⟩ := h
      exact absurd hd (Nat.not_lt_zero _)
  | succ k G =>
    refine F.ok sc__law_same (fun vs H Q E h => ?_) (fun cdv A outer s H vs Q E hr h => ?_)
    · obtain ⟨x, y, d, m, rfl, _⟩ := h
      rfl
    · obtain ⟨x, y, d, m, rfl, hx, hy, hd, hw, hg, q⟩ := h
      have nd := sc__law_same.nd
      have hu64 := hr.units
      refine ⟨_, (pss_cons (ps_if (pt_val (pe_callB (kc_isiT (K := K)) (by rfl) T.isinstance (by decide +kernel) (pa_cons (pv 1) (pa_cons (pe_tup (pa_cons (pe_bltn (v := .ty "list") (by rfl) T.list (by decide +kernel) rfl) (pa_cons (pe_bltn (v := .ty "tuple") (by rfl) T.tuple (by decide +kernel) rfl) pa_nil))) pa_nil))))
          (pss_cons (ps_if ((pw_or (pt_cmpR op_ne (pe_callB (kc_isi (K := K)) (by rfl) T.isinstance (by decide +kernel) (pa_cons (pv 0) (pa_cons (pe_bltn (v := .ty "list") (by rfl) T.list (by decide +kernel) rfl) pa_nil))) (pe_callB (kc_isi (K := K)) (by rfl) T.isinstance (by decide +kernel) (pa_cons (pv 1) (pa_cons (pe_bltn (v := .ty "list") (by rfl) T.list (by decide +kernel) rfl) pa_nil))) (nomark _)) (pw_or1 (pt_cmpR op_ne (pe_callB (kc_isi (K := K)) (by rfl) T.isinstance (by decide +kernel) (pa_cons (pv 0) (pa_cons (pe_bltn (v := .ty "tuple") (by rfl) T.tuple (by decide +kernel) rfl) pa_nil))) (pe_callB (kc_isi (K := K)) (by rfl) T.isinstance (by decide +kernel) (pa_cons (pv 1) (pa_cons (pe_bltn (v := .ty "tuple") (by rfl) T.tuple (by decide +kernel) rfl) pa_nil))) (nomark _))))).pt
              pss_never
              pss_nil)
          (pss_one (ps_ret (pe_and (pe_cmpR op_eq (pe_callB (kc_len (K := K)) (by rfl) T.len PySem.boot_len (pa_cons (pv 0) pa_nil)) (pe_callB (kc_len (K := K)) (by rfl) T.len PySem.boot_len (pa_cons (pv 1) pa_nil)) (nomark _)) (pe_one (pe_callB (kc_all (K := K)) (by rfl) T.all (by decide +kernel) (pa_cons (pe_lc (own := [("_law_one", 2), ("_law_other", 3)]) rfl nd (ki_zip (K := K) (by rfl) T.zip (pa_cons (pv 0) (pa_cons (pv 1) pa_nil))) (blkOk_by (N := n__law_same) (sc := defScope s__law_same) (by decide +kernel)) (fun _ _ _ _ _ => (kg_tup (K := K) (n := 2) (pgs_cons (pg_name (i := 2) nd rfl (.inl rfl)) (pgs_cons (pg_name (i := 3) nd rfl (.inl rfl)) pgs_nil)))) (fun _ _ _ _ _ => pts_nil) (fun _ _ _ _ _ => (pe_call G hr (by rfl) gF F.kp bF .nil pass0 (pa_cons (pv 2) (pa_cons (pv 3) pa_nil))))) pa_nil)))))))
          pss_nil)
      (pss_cons (ps_if ((pw_or (pt_cmpR op_isN (pv 1) pe_non (nomark _)) (pw_or1 (pt_val (pe_callB (kc_isi (K := K)) (by rfl) T.isinstance (by decide +kernel) (pa_cons (pv 1) (pa_cons (pe_bltn (v := .ty "str") (by rfl) T.str (by decide +kernel) rfl) pa_nil))))))).pt
          (pss_one (ps_ret (pe_and (pe_cmpR (ko_eq (K := K) hu64) (pv 0) (pv 1) (nomark _)) (pe_one (pe_cmpR op_eq (pe_callB (kc_isi (K := K)) (by rfl) T.isinstance (by decide +kernel) (pa_cons (pv 0) (pa_cons (pe_bltn (v := .ty "str") (by rfl) T.str (by decide +kernel) rfl) pa_nil))) (pe_callB (kc_isi (K := K)) (by rfl) T.isinstance (by decide +kernel) (pa_cons (pv 1) (pa_cons (pe_bltn (v := .ty "str") (by rfl) T.str (by decide +kernel) rfl) pa_nil))) (nomark _))))))
          pss_nil)
      (pss_one (ps_ret (pe_and (pe_callB (kc_isi (K := K)) (by rfl) T.isinstance (by decide +kernel) (pa_cons (pv 0) (pa_cons (pe_bltn (v := .ty "int") (by rfl) T.int (by decide +kernel) rfl) pa_nil))) (pe_and (pe_cmpR op_eq (pe_callB (kc_isi (K := K)) (by rfl) T.isinstance (by decide +kernel) (pa_cons (pv 0) (pa_cons (pe_bltn (v := .ty "bool") (by rfl) T.bool (by decide +kernel) rfl) pa_nil))) (pe_callB (kc_isi (K := K)) (by rfl) T.isinstance (by decide +kernel) (pa_cons (pv 1) (pa_cons (pe_bltn (v := .ty "bool") (by rfl) T.bool (by decide +kernel) rfl) pa_nil))) (nomark _)) (pe_one (pe_cmpR (ko_eq (K := K) hu64) (pv 0) (pv 1) (nomark _))))))))), ?_⟩
      refine ⟨_, rfl, (by show 2 ≤ sizeLine; decide), fun t ht => ?_⟩
      have sm1 : Same H (upd H t (.tup [.ty "list", .ty "tuple"])) := same_upd ht
      have hx1 := dp_same sm1 hx
      have hy1 := dp_same sm1 hy
      have ht1 : (upd H t (.tup [.ty "list", .ty "tuple"])) t = some (.tup [.ty "list", .ty "tuple"]) := upd_same
      generalize upd H t (.tup [.ty "list", .ty "tuple"]) = H1 at sm1 hx1 hy1 ht1 ⊢
      refine ⟨_, t, _, _, _, _, rfl, ht1, .cons (.ty _) (.cons (.ty _) .nil), tyx_dp hy1, kit_lt hy1, _, rfl, ?_⟩
      have hx2 := hx1
      have hy2 := hy1
      cases hy1 with
      | non =>
        cases hx1
        refine iteF ?_
        refine ⟨_, rfl, rfl, _, rfl, iteT ?_⟩
        refine ⟨_, rfl, _, rfl, _, _, hx2, hy2, rfl, rfl, _, rfl, ?_⟩
        refine iteT ⟨_, rfl, _, .ty _, _, _, isStrD _, rfl, .ty _, tyx_dp hx2, kit_str hx2, _, rfl, _, .ty _, _, _, isStrD _, rfl, .ty _, tyx_dp hy2, kit_str hy2, rfl, ?_⟩
        rw [decide_eq_true rfl]
        exact q _ sm1
      | str z =>
        cases hx1
        have hsh := gd_shaped hg (by show 0 ≤ 64; decide)
        refine iteF ?_
        refine ⟨_, rfl, rfl, _, rfl, iteF ⟨_, rfl, _, .ty _, _, _, isStrD _, rfl, .ty _, tyx_dp hy2, kit_str hy2, _, rfl, iteT ?_⟩⟩
        refine ⟨_, rfl, _, rfl, _, _, hx2, hy2, hsh, hsh, _, rfl, ?_⟩
        have e : PyData.eqv (.str z) (.str z) = true := by simp [PyData.eqv]
        rw [e]
        refine iteT ⟨_, rfl, _, .ty _, _, _, isStrD _, rfl, .ty _, tyx_dp hx2, kit_str hx2, _, rfl, _, .ty _, _, _, isStrD _, rfl, .ty _, tyx_dp hy2, kit_str hy2, rfl, ?_⟩
        rw [decide_eq_true rfl]
        exact q _ sm1
      | bl b =>
        cases hx1
        refine iteF ?_
        refine ⟨_, rfl, rfl, _, rfl, iteF ⟨_, rfl, _, .ty _, _, _, isStrD _, rfl, .ty _, tyx_dp hy2, kit_str hy2, _, rfl, iteF ?_⟩⟩
        refine ⟨_, rfl, _, .ty _, _, _, isIntD _, rfl, .ty _, tyx_dp hx2, kit_int hx2, _, rfl, iteT ⟨_, rfl, _, .ty _, _, _, isBoolD _, rfl, .ty _, tyx_dp hx2, kit_bool hx2, _, rfl, _, .ty _, _, _, isBoolD _, rfl, .ty _, tyx_dp hy2, kit_bool hy2, rfl, _, rfl, iteT ?_⟩⟩
        refine ⟨_, rfl, _, rfl, _, _, hx2, hy2, rfl, rfl, ?_⟩
        have e : PyData.eqv (.bool b) (.bool b) = true := by cases b <;> rfl
        rw [e]
        exact q _ sm1
      | int i =>
        cases hx1
        refine iteF ?_
        refine ⟨_, rfl, rfl, _, rfl, iteF ⟨_, rfl, _, .ty _, _, _, isStrD _, rfl, .ty _, tyx_dp hy2, kit_str hy2, _, rfl, iteF ?_⟩⟩
        refine ⟨_, rfl, _, .ty _, _, _, isIntD _, rfl, .ty _, tyx_dp hx2, kit_int hx2, _, rfl, iteT ⟨_, rfl, _, .ty _, _, _, isBoolD _, rfl, .ty _, tyx_dp hx2, kit_bool hx2, _, rfl, _, .ty _, _, _, isBoolD _, rfl, .ty _, tyx_dp hy2, kit_bool hy2, rfl, _, rfl, iteT ?_⟩⟩
        refine ⟨_, rfl, _, rfl, _, _, hx2, hy2, rfl, rfl, ?_⟩
        have e : PyData.eqv (.int i) (.int i) = true := by show (i == i) = true; exact beq_self_eq_true i
        rw [e]
        exact q _ sm1
      | @lst b ys ds hl ha =>
        cases hx1 with
        | @lst a xs _ hl' ha' =>
        have e1 : xs.length = ys.length := (dpAll_len ha').trans (dpAll_len ha).symm
        refine iteT ?_
        refine ⟨_, rfl, _, .ty _, _, _, isListD _, rfl, .ty _, tyx_dp hx2, kit_list hx2, _, rfl, _, .ty _, _, _, isListD _, rfl, .ty _, tyx_dp hy2, kit_list hy2, rfl, _, rfl, iteF ?_⟩
        refine ⟨_, rfl, _, .ty _, _, _, isTupD _, rfl, .ty _, tyx_dp hx2, kit_tup hx2, _, rfl, _, .ty _, _, _, isTupD _, rfl, .ty _, tyx_dp hy2, kit_tup hy2, rfl, _, rfl, iteF ?_⟩
        refine ⟨_, rfl, _, xs.length, rfl, .inl ⟨xs, hl', rfl⟩, _, rfl, _, ys.length, rfl, .inl ⟨ys, hl, rfl⟩, rfl, _, rfl, ?_⟩
        rw [e1]
        refine ite2 (fun _ => ?_) (fun h => absurd (decide_eq_true rfl) h)
        refine ⟨_, rfl, _, rfl, a, b, xs, ys, rfl, .inl ⟨hl', hl, fun D hD => ?_⟩⟩
        refine lc_it (walk_zip (xs := xs) (ys := ys) (n := ys.length) (by rw [e1, Nat.min_self])) (fun i H2 => Same H1 H2 ∧ H1 D = none ∧ H2 D = some (.lst ((List.replicate i true).map V.bl))) ⟨same_upd hD, hD, upd_same⟩ (fun i H2 _ h => ⟨h.1.seq hl', h.1.seq hl⟩) ?_ ?_
        · skip
          rintro i v H2 H3 hi ⟨sm, nD, hL⟩ ⟨u, x1, y1, rfl, hu, rfl, gx, gy⟩
          have sm3 : Same H1 (upd H2 u (.tup [x1, y1])) := same_put sm (sm.free hu)
          obtain ⟨d1, g1, p1⟩ := dpAll_at ha' gx
          obtain ⟨d2, g2, p2⟩ := dpAll_at ha gy
          have ed : d1 = d2 := Option.some.inj (g1.symm.trans g2)
          subst ed
          refine ⟨u, _, rfl, .inl (.inl upd_same), rfl, _, _, rfl, _, _, rfl, rfl, rfl, tYes_at ?_⟩
          rw [if_pos rfl]
          refine ⟨_, rfl, _, rfl, x1, y1, d1, m, rfl, dp_same sm3 p1, dp_same sm3 p2, ?_, ?_, gdAll_iff.mp hg d1 (List.mem_of_getElem? g1), fun H4 s4 => ?_⟩
          · have h1 := depth_at g1
            have h2 : PyData.depthAll ds + 1 < k + 1 := hd
            omega
          · exact Nat.le_trans (wid_at g1) (Nat.le_trans (Nat.le_max_right _ _) hw)
          · have nuD : D ≠ u := ne_of_none hL hu
            refine ⟨_, s4 _ _ (by rw [upd_ne nuD]; exact hL), ?_, same_put (sm3.trans s4) nD, nD, ?_⟩
            · rw [List.length_map, List.length_replicate]
              exact Nat.lt_of_lt_of_le (dpAll_len ha ▸ hi) (Nat.le_trans (Nat.le_trans (Nat.le_max_left _ _) hw) (by decide))
            · rw [upd_same, List.replicate_succ', List.map_append]
              rfl
        · skip
          rintro H2 ⟨sm, nD, hL⟩
          refine ⟨D, _, rfl, SqL.of hL, ?_⟩
          have e : (List.replicate ys.length true).all id = true := by simp
          rw [e]
          exact q _ (sm1.trans sm)
      | @tup b ys ds hl ha =>
        cases hx1 with
        | @tup a xs _ hl' ha' =>
        have e1 : xs.length = ys.length := (dpAll_len ha').trans (dpAll_len ha).symm
        refine iteT ?_
        refine ⟨_, rfl, _, .ty _, _, _, isListD _, rfl, .ty _, tyx_dp hx2, kit_list hx2, _, rfl, _, .ty _, _, _, isListD _, rfl, .ty _, tyx_dp hy2, kit_list hy2, rfl, _, rfl, iteF ?_⟩
        refine ⟨_, rfl, _, .ty _, _, _, isTupD _, rfl, .ty _, tyx_dp hx2, kit_tup hx2, _, rfl, _, .ty _, _, _, isTupD _, rfl, .ty _, tyx_dp hy2, kit_tup hy2, rfl, _, rfl, iteF ?_⟩
        refine ⟨_, rfl, _, xs.length, rfl, .inr ⟨xs, hl', rfl⟩, _, rfl, _, ys.length, rfl, .inr ⟨ys, hl, rfl⟩, rfl, _, rfl, ?_⟩
        rw [e1]
        refine ite2 (fun _ => ?_) (fun h => absurd (decide_eq_true rfl) h)
        refine ⟨_, rfl, _, rfl, a, b, xs, ys, rfl, .inr ⟨hl', hl, fun D hD => ?_⟩⟩
        refine lc_it (walk_zipT (xs := xs) (ys := ys) (n := ys.length) (by rw [e1, Nat.min_self])) (fun i H2 => Same H1 H2 ∧ H1 D = none ∧ H2 D = some (.lst ((List.replicate i true).map V.bl))) ⟨same_upd hD, hD, upd_same⟩ (fun i H2 _ h => ⟨same_tup h.1 hl', same_tup h.1 hl⟩) ?_ ?_
        · skip
          rintro i v H2 H3 hi ⟨sm, nD, hL⟩ ⟨u, x1, y1, rfl, hu, rfl, gx, gy⟩
          have sm3 : Same H1 (upd H2 u (.tup [x1, y1])) := same_put sm (sm.free hu)
          obtain ⟨d1, g1, p1⟩ := dpAll_at ha' gx
          obtain ⟨d2, g2, p2⟩ := dpAll_at ha gy
          have ed : d1 = d2 := Option.some.inj (g1.symm.trans g2)
          subst ed
          refine ⟨u, _, rfl, .inl (.inl upd_same), rfl, _, _, rfl, _, _, rfl, rfl, rfl, tYes_at ?_⟩
          rw [if_pos rfl]
          refine ⟨_, rfl, _, rfl, x1, y1, d1, m, rfl, dp_same sm3 p1, dp_same sm3 p2, ?_, ?_, gdAll_iff.mp hg d1 (List.mem_of_getElem? g1), fun H4 s4 => ?_⟩
          · have h1 := depth_at g1
            have h2 : PyData.depthAll ds + 1 < k + 1 := hd
            omega
          · exact Nat.le_trans (wid_at g1) (Nat.le_trans (Nat.le_max_right _ _) hw)
          · have nuD : D ≠ u := ne_of_none hL hu
            refine ⟨_, s4 _ _ (by rw [upd_ne nuD]; exact hL), ?_, same_put (sm3.trans s4) nD, nD, ?_⟩
            · rw [List.length_map, List.length_replicate]
              exact Nat.lt_of_lt_of_le (dpAll_len ha ▸ hi) (Nat.le_trans (Nat.le_trans (Nat.le_max_left _ _) hw) (by decide))
            · rw [upd_same, List.replicate_succ', List.map_append]
              rfl
        · skip
          rintro H2 ⟨sm, nD, hL⟩
          refine ⟨D, _, rfl, SqL.of hL, ?_⟩
          have e : (List.replicate ys.length true).all id = true := by simp
          rw [e]
          exact q _ (sm1.trans sm)

end
end Pot

namespace Pot
open PySem PySem.Spec PyProof.Rows L2
section
variable {P : Program} {w : World} {K : PySem.W.Frag} {mg : Str → Option Value} {base : Heap}
abbrev Pc := Int × Int
def pc0 : Pc := (0, 0)
def pcD (p : Pc) : PyData := .tuple [.int p.1, .int p.2]
def inB (p : Pc) (h : Int) : Bool := decide (p.1 ≤ h) && decide (h < p.1 + p.2)
def hereN (ps : List Pc) (h : Int) (i : Nat) : List Nat := (List.range i).filter fun k => inB (ps.getD k pc0) h
def natV (k : Nat) : V := .int ((k : Nat) : Int)
def hereF (ps : List Pc) (h : Int) : List Int := (hereN ps h ps.length).map fun k => ((k : Nat) : Int)
theorem hereN_yes {ps : List Pc} {h : Int} {i : Nat} (e : inB (ps.getD i pc0) h = true) : hereN ps h (i + 1) = hereN ps h i ++ [i] := by
  unfold hereN
  rw [List.range_succ, List.filter_append, List.filter_cons_of_pos (p := fun k => inB (ps.getD k pc0) h) e]; rfl
theorem hereN_no {ps : List Pc} {h : Int} {i : Nat} (e : inB (ps.getD i pc0) h = false) : hereN ps h (i + 1) = hereN ps h i := by
  unfold hereN
  rw [List.range_succ, List.filter_append, List.filter_cons_of_neg (p := fun k => inB (ps.getD k pc0) h) (by rw [e]; exact Bool.false_ne_true), List.filter_nil, List.append_nil]
theorem hereN_len (ps : List Pc) (h : Int) (i : Nat) : (hereN ps h i).length ≤ i := by
  have := List.length_filter_le (fun k => inB (ps.getD k pc0) h) (List.range i)
  rw [List.length_range] at this; exact this
theorem hereF_len (ps : List Pc) (h : Int) : (hereF ps h).length ≤ ps.length := by
  unfold hereF
  rw [List.length_map]; exact hereN_len ..
theorem hereF_map (ps : List Pc) (h : Int) : (hereN ps h ps.length).map natV = (hereF ps h).map V.int := by
  unfold hereF natV
  rw [List.map_map]; rfl
def stepM (ps : List Pc) (b : Int × Option Int) (h : Int) : Int × Option Int := if b.1 < ((hereF ps h).length : Int) then (((hereF ps h).length : Int), some h) else b
def bestF (ps : List Pc) (zs : List Int) : Int × Option Int := zs.foldl (stepM ps) (0, none)
theorem bestF_one {ps : List Pc} {zs : List Int} {i : Nat} {z : Int} (g : zs[i]? = some z) : bestF ps (zs.take (i + 1)) = stepM ps (bestF ps (zs.take i)) z := by
  unfold bestF
  rw [List.take_add_one, g, List.foldl_append]; rfl
def opV : Option Int → V
  | none => .non
  | some h => .int h
def opD : Option Int → PyData
  | none => .none
  | some h => .int h
theorem dp_op {H : Hp} (o : Option Int) : Dp K H (opV o) (opD o) := by
  cases o with
  | none => exact .non
  | some h => exact .int h
def bestD (b : Int × Option Int) : PyData := .tuple [.int b.1, opD b.2]
theorem best_dp {H : Hp} {t : Addr} {b : Int × Option Int} (h : SqT K H t [.int b.1, opV b.2]) : Dp K H (.ref t) (bestD b) := .tup h (.cons (.int _) (.cons (dp_op _) .nil))
def HoursOk (ps : List Pc) (zs : List Int) : Prop := zs.Pairwise (· < ·) ∧ ∀ k, k ∈ zs ↔ k ∈ ps.map (·.1)
theorem hours_uniq {ps : List Pc} {zs ys : List Int} (h1 : HoursOk ps zs) (h2 : HoursOk ps ys) : zs = ys := sorted_uniq h1.1 h2.1 fun k => by rw [h1.2 k, h2.2 k]
theorem pc_dp {H : Hp} {v : V} {p : Pc} (h : Dp K H v (pcD p)) : ∃ a, v = .ref a ∧ SqT K H a [.int p.1, .int p.2] := by
  obtain ⟨a, xs, rfl, hs, ha⟩ := dp_tup h
  obtain ⟨x, y, rfl, h1, h2⟩ := dp_two ha
  rw [dp_int h1, dp_int h2] at hs
  exact ⟨a, rfl, hs⟩
theorem pcs_at {H : Hp} {xs : List V} {ps : List Pc} (h : DpAll K H xs (ps.map pcD)) {i : Nat} {v : V} (g : xs[i]? = some v) : ∃ a, v = .ref a ∧ SqT K H a [.int (ps.getD i pc0).1, .int (ps.getD i pc0).2] ∧ i < ps.length ∧ Dp K H v (pcD (ps.getD i pc0)) := by
  obtain ⟨d, gd, dp⟩ := dpAll_at h g
  rw [List.getElem?_map] at gd
  obtain ⟨p, gp, rfl⟩ := Option.map_eq_some_iff.mp gd
  have e : ps.getD i pc0 = p := by rw [List.getD_eq_getElem?_getD, gp]; rfl
  rw [e]
  obtain ⟨a, rfl, hs⟩ := pc_dp dp
  exact ⟨a, rfl, hs, (List.getElem?_eq_some_iff.mp gp).1, dp⟩

abbrev s_out_at : Stmt := topS 2
def n_out_at : List Str := ["piece", "come", "cool"]
theorem sc_out_at : FnScope n_out_at ["piece"] (defScope s_out_at) := ⟨rfl, rfl, rfl, by decide +kernel, rfl, by decide +kernel, by decide +kernel⟩
def spOut (K : PySem.W.Frag) : Sp := fun vs H Q _ => ∃ (a : Addr) (p : Pc), vs = [.ref a] ∧ SqT K H a [.int p.1, .int p.2] ∧ Q (.int (p.1 + p.2)) H
theorem ok_out {f : Addr} {fd : FuncData} {k : Nat} (F : Fun K "out_at" "out_at" s_out_at f fd) : FnOk P w K mg base CX0 (k + 1) f fd ["piece"] (spOut K) := by
  refine F.ok sc_out_at (fun vs H Q E h => ?_) (fun cdv A outer s H vs Q E hr h => ?_)
  · obtain ⟨a, p, rfl, _⟩ := h
    rfl
  · obtain ⟨a, p, rfl, hS, q⟩ := h
    have nd := sc_out_at.nd
    refine ⟨_, (pss_cons (ps_asg (pv 0) (kg_tup (K := K) (n := 2) (pgs_cons (pg_name (i := 1) nd rfl (.inl rfl)) (pgs_cons (pg_name (i := 2) nd rfl (.inl rfl)) pgs_nil))))
      (pss_one (ps_ret (pe_op op_add (pv 1) (pv 2))))), ?_⟩
    refine ⟨_, rfl, a, _, rfl, hS, rfl, _, _, rfl, _, _, rfl, rfl, _, rfl, _, rfl, _, _, rfl, rfl, q⟩
abbrev s_is_in : Stmt := topS 1
def n_is_in : List Str := ["piece", "hour"]
theorem sc_is_in : FnScope n_is_in ["piece", "hour"] (defScope s_is_in) := ⟨rfl, rfl, rfl, by decide +kernel, rfl, by decide +kernel, by decide +kernel⟩
def spIn (K : PySem.W.Frag) : Sp := fun vs H Q _ => ∃ (a : Addr) (p : Pc) (h : Int), vs = [.ref a, .int h] ∧ SqT K H a [.int p.1, .int p.2] ∧ Q (.bl (inB p h)) H
theorem ok_in {f : Addr} {fd : FuncData} {k : Nat} (F : Fun K "is_in" "is_in" s_is_in f fd) (c_out_at : Cl P w K mg base (k + 1) "out_at" (spOut K)) : FnOk P w K mg base CX0 (k + 2) f fd ["piece", "hour"] (spIn K) := by
  refine F.ok sc_is_in (fun vs H Q E h => ?_) (fun cdv A outer s H vs Q E hr h => ?_)
  · obtain ⟨a, p, h, rfl, _⟩ := h
    rfl
  · obtain ⟨a, p, h, rfl, hS, q⟩ := h
    have nd := sc_is_in.nd
    refine ⟨_, (pss_one (ps_ret (pe_chain op_le op_lt (pe_ix (kx_tup (K := K)) (pv 0) pe_int (fun _ _ => rfl)) (pv 1) (pe_cl c_out_at hr (by omega) (by rfl) (pa_cons (pv 0) pa_nil))))), ?_⟩
    refine ⟨_, rfl, a, _, 0, _, rfl, rfl, hS, rfl, _, rfl, _, _, rfl, rfl, _, rfl, ite2 (fun h1 => ?_) (fun h1 => ?_)⟩
    · refine ⟨_, rfl, a, p, rfl, hS, _, _, rfl, rfl, ?_⟩
      have e : inB p h = decide (h < p.1 + p.2) := by unfold inB; rw [h1]; rfl
      rw [e] at q; exact q
    · have e : inB p h = false := by unfold inB; rw [Bool.not_eq_true _ |>.mp h1]; rfl
      rw [e] at q; exact q
def spAt (K : PySem.W.Frag) : Sp := fun vs H Q _ => ∃ (a : Addr) (xs : List V) (ps : List Pc) (h : Int), vs = [.ref a, .int h] ∧ SqL K H a xs ∧ DpAll K H xs (ps.map pcD) ∧ ps.length ≤ 60 ∧ ∀ H' L, Same H H' → H L = none → H' L = some (.lst ((hereF ps h).map V.int)) → Q (.ref L) H'
abbrev s__law_here : Stmt := topS 11
def n__law_here : List Str := ["_law_pieces_here", "_law_hour", "_law_found", "_law_number", "_law_come", "_law_cool"]
theorem sc__law_here : FnScope n__law_here ["_law_pieces_here", "_law_hour"] (defScope s__law_here) := ⟨rfl, rfl, rfl, by decide +kernel, rfl, by decide +kernel, by decide +kernel⟩
theorem ok_here {f : Addr} {fd : FuncData} {k : Nat} (F : Fun K "_law_here" "_law_here" s__law_here f fd) (T : Txt mg) : FnOk P w K mg base CX0 (k + 1) f fd ["_law_pieces_here", "_law_hour"] (spAt K) := by
  refine F.ok sc__law_here (fun vs H Q E h => ?_) (fun cdv A outer s H vs Q E hr h => ?_)
  · obtain ⟨a, xs, ps, h, rfl, _⟩ := h
    rfl
  · obtain ⟨a, xs, ps, h, rfl, hS, hx, l60, q⟩ := h
    have nd := sc__law_here.nd
    have lx : xs.length = ps.length := dpAll_map_len hx
    refine ⟨_, (pss_cons (ps_set (i := 2) nd rfl (.inl rfl) (pe_lst pa_nil))
      (pss_cons (ps_for PassesOwn.never rfl (ki_enum (K := K) (by rfl) T.enumerate (pa_cons (pv 0) pa_nil)) (kg_tup (K := K) (n := 2) (pgs_cons (pg_name (i := 3) nd rfl (.inl rfl)) (pgs_cons (kg_tup (K := K) (n := 2) (pgs_cons (pg_name (i := 4) nd rfl (.inl rfl)) (pgs_cons (pg_name (i := 5) nd rfl (.inl rfl)) pgs_nil))) pgs_nil)))
          (pss_one (ps_if ((pw_and (pt_cmpR op_le (pv 4) (pv 1) (nomark _)) (pw_and1 (pt_cmpR op_lt (pe_op op_sub (pv 1) (pv 4)) (pv 5) (nomark _))))).pt
              (pss_one (ps_expr (pe_bm PySem.F.plainAttrs_list PySem.F.slot_list_append PySem.F.type_list_append mt_append (pv 2) (pa_cons (pv 3) pa_nil))))
              pss_nil)))
      (pss_one (ps_ret (pv 2))))), ?_⟩
    refine ⟨Nat.zero_le _, fun L nL => ?_⟩
    refine ⟨_, rfl, a, _, rfl, (same_upd nL).seq hS, ?_⟩
    refine for_it (walk_enum (xs := xs)) (fun i σ H2 => ∃ v3 v4 v5, σ = [some (.ref a), some (.int h), some (.ref L), v3, v4, v5] ∧ PvL H L (fun i => (hereN ps h i).map natV) i H2) ⟨_, _, _, rfl, pv_start nL rfl⟩ (fun i σ H4 _ h => by obtain ⟨_, _, _, _, h⟩ := h; exact h.1.seq hS) ?_ ?_
    · rintro i y σ H4 H5 hi ⟨v3, v4, v5, rfl, p⟩ ⟨u, x1, x2, rfl, nu, rfl, g1, g2⟩
      cases g1
      replace g2 : xs[i]? = some x2 := g2
      obtain ⟨b, rfl, hb, hi2, _⟩ := pcs_at (dpAll_same p.1 hx) g2
      have su := same_upd (o := .tup [.int (i : Nat), .ref b]) nu
      have lf : ((hereN ps h i).map natV).length < sizeLine := by
        rw [List.length_map, sizeLine_eq]
        have := hereN_len ps h i
        omega
      refine ⟨u, _, rfl, .inl (.inl upd_same), rfl, _, _, rfl, _, _, rfl, b, _, rfl, same_tup su hb, rfl, _, _, rfl, _, _, rfl, rfl, rfl, ?_⟩
      refine ⟨_, rfl, _, rfl, _, _, rfl, rfl, _, rfl, ite2 (fun h1 => ?_) (fun h1 => ?_)⟩
      · refine ⟨_, rfl, _, rfl, _, _, rfl, rfl, _, rfl, _, _, rfl, rfl, _, rfl, ite2 (fun h2 => ?_) (fun h2 => ?_)⟩
        · have e : inB (ps.getD i pc0) h = true := by unfold inB; rw [h1, decide_eq_true (by have := of_decide_eq_true h2; omega)]; rfl
          refine ⟨_, rfl, .inl ⟨rfl, _, SqL.of (su _ _ p.2)⟩, _, rfl, L, _, _, rfl, rfl, su _ _ p.2, lf, ?_⟩
          refine ⟨_, _, _, rfl, same_put (p.1.trans su) nL, ?_⟩
          show _ = some (HO.lst ((hereN ps h (i + 1)).map natV))
          rw [hereN_yes e, List.map_append]; exact upd_same
        · have e : inB (ps.getD i pc0) h = false := by unfold inB; rw [h1, decide_eq_false (fun z => h2 (decide_eq_true (by omega)))]; rfl
          exact ⟨_, _, _, rfl, pv_skip p su (by rw [hereN_no e])⟩
      · have e : inB (ps.getD i pc0) h = false := by unfold inB; rw [Bool.not_eq_true _ |>.mp h1]; rfl
        exact ⟨_, _, _, rfl, pv_skip p su (by rw [hereN_no e])⟩
    · rintro σ H4 ⟨v3, v4, v5, rfl, p⟩
      obtain ⟨s4, hL⟩ := pv_end p (show _ = (hereF ps h).map V.int by rw [← hereF_map, lx])
      exact ⟨_, rfl, q _ _ s4 nL hL⟩

end
end Pot

namespace Pot
open PySem PySem.Spec PyProof.Rows L2
section
variable {P : Program} {w : World} {K : PySem.W.Frag} {mg : Str → Option Value} {base : Heap}
theorem sm_wr0 {H H2 : Hp} {S : List Addr} {L : Addr} {o : HO} (s : Sm S H H2) (n : H L = none) : Sm S H (upd H2 L o) := fun x u e => by
  have nm := off_mem e
  have e2 := s x u e
  rw [off_out nm] at e e2 ⊢
  have ne : x ≠ L := fun z => by rw [z, n] at e; cases e
  rw [upd_ne ne]; exact e2
theorem pcs_gd : ∀ {ps : List Pc}, (∀ p ∈ ps, 0 ≤ p.1 ∧ p.1 ≤ 1000000 ∧ 1 ≤ p.2 ∧ p.2 ≤ 99) → gd 1000000 (.list (ps.map pcD)) := fun h => gdAll_iff.mpr fun d hd => by
  obtain ⟨p, hp, rfl⟩ := List.mem_map.mp hd
  have := h p hp
  exact ⟨by show p.1.natAbs ≤ _; omega, by show p.2.natAbs ≤ _; omega, trivial⟩
theorem pcs_depth : ∀ (ps : List Pc), PyData.depth (.list (ps.map pcD)) ≤ 3 := fun ps => by
  show PyData.depthAll (ps.map pcD) + 1 ≤ 3
  have : PyData.depthAll (ps.map pcD) ≤ 2 := depthAll_iff.mpr fun d hd => by
    obtain ⟨p, hp, rfl⟩ := List.mem_map.mp hd
    simp [pcD, PyData.depth, PyData.depthAll]
  omega
theorem pcs_shaped {ps : List Pc} (h : ∀ p ∈ ps, 0 ≤ p.1 ∧ p.1 ≤ 1000000 ∧ 1 ≤ p.2 ∧ p.2 ≤ 99) : SeqAt.shaped (.list (ps.map pcD)) = true := gd_shaped (pcs_gd h) (Nat.le_trans (pcs_depth ps) (by decide))
structure PcOk (ps : List Pc) : Prop where
  len : ps.length ≤ 40
  each : ∀ p ∈ ps, 0 ≤ p.1 ∧ p.1 ≤ 1000000 ∧ 1 ≤ p.2 ∧ p.2 ≤ 99
theorem noL_pc (p : Pc) : noLAll.noL (pcD p) := ⟨trivial, trivial, trivial⟩
def spPieces (K : PySem.W.Frag) : Sp := fun vs H Q _ => ∃ (b : Addr) (n : Nat), vs = [.ref b, .int 40] ∧ Bq H b n ∧ n < 2 ^ 39 ∧
  ∀ (H' : Hp) (L : Addr) (xs : List V) (ps : List Pc), Bq H' b (n + 250) → Sm [b] H H' → H L = none → H' L = some (.lst xs) → DpAll K (off H' [L, b]) xs (ps.map pcD) → PcOk ps → Q (.ref L) H'
abbrev s__law_pieces : Stmt := topS 10
def n__law_pieces : List Str := ["_law_state", "_law_most", "_law_found", "_law_near", "_law_wide", "_law_long", "_law_k", "_law_piece"]
theorem sc__law_pieces : FnScope n__law_pieces ["_law_state", "_law_most"] (defScope s__law_pieces) := ⟨rfl, rfl, rfl, by decide +kernel, rfl, by decide +kernel, by decide +kernel⟩
theorem ok_pieces {f : Addr} {fd : FuncData} {k : Nat} (F : Fun K "_law_pieces" "_law_pieces" s__law_pieces f fd) (T : Txt mg) (c__law_take : Cl P w K mg base (k + 1) "_law_take" spTake) : FnOk P w K mg base CX0 (k + 2) f fd ["_law_state", "_law_most"] (spPieces K) := by
  refine F.ok sc__law_pieces (fun vs H Q E h => ?_) (fun cdv A outer s H vs Q E hr h => ?_)
  · obtain ⟨b, n, rfl, _⟩ := h
    rfl
  · obtain ⟨b, n, rfl, B, hn, q⟩ := h
    have nd := sc__law_pieces.nd
    have hu64 := hr.units
    refine ⟨_, (pss_cons (ps_par (i := 2) (j := 3) rfl nd rfl rfl (by decide) rfl rfl (pa_cons (pe_lst pa_nil) (pa_cons (pe_ix (kx_list (K := K)) (pe_lst (pa_cons pe_int (pa_cons (pe_cl c__law_take hr (by omega) (by rfl) (pa_cons (pv 0) (pa_cons pe_int pa_nil))) (pa_cons (pe_op op_sub (pe_op op_pow pe_int pe_int) (pe_cl c__law_take hr (by omega) (by rfl) (pa_cons (pv 0) (pa_cons pe_int pa_nil)))) pa_nil)))) (pe_cl c__law_take hr (by omega) (by rfl) (pa_cons (pv 0) (pa_cons pe_int pa_nil))) (fun _ _ => rfl)) pa_nil)) rfl)
      (pss_cons (ps_par (i := 4) (j := 5) rfl nd rfl rfl (by decide) rfl rfl (pa_cons (pe_ix (kx_list (K := K)) (pe_lst (pa_cons pe_int (pa_cons pe_int (pa_cons pe_int (pa_cons pe_int pa_nil))))) (pe_cl c__law_take hr (by omega) (by rfl) (pa_cons (pv 0) (pa_cons pe_int pa_nil))) (fun _ _ => rfl)) (pa_cons (pe_ix (kx_list (K := K)) (pe_lst (pa_cons pe_int (pa_cons pe_int (pa_cons pe_int (pa_cons pe_int pa_nil))))) (pe_cl c__law_take hr (by omega) (by rfl) (pa_cons (pv 0) (pa_cons pe_int pa_nil))) (fun _ _ => rfl)) pa_nil)) rfl)
      (pss_cons (ps_for PassesOwn.never rfl (pi_range1 (by rfl) T.range (pa_cons (pe_ix (kx_list (K := K)) (pe_lst (pa_cons (pe_cl c__law_take hr (by omega) (by rfl) (pa_cons (pv 0) (pa_cons (pe_op op_add (pv 1) pe_int) pa_nil))) (pa_cons (pv 1) (pa_cons (pe_cl c__law_take hr (by omega) (by rfl) (pa_cons (pv 0) (pa_cons pe_int pa_nil))) pa_nil)))) (pe_cl c__law_take hr (by omega) (by rfl) (pa_cons (pv 0) (pa_cons pe_int pa_nil))) (fun _ _ => rfl)) pa_nil)) (pg_name (i := 6) nd rfl (.inl rfl))
          (pss_cons (ps_set (i := 7) nd rfl (.inl rfl) (pe_tup (pa_cons (pe_callB (call_min2 rfl) (by rfl) T.min (by decide +kernel) (pa_cons (pe_op op_pow pe_int pe_int) (pa_cons (pe_op op_add (pv 3) (pe_cl c__law_take hr (by omega) (by rfl) (pa_cons (pv 0) (pa_cons (pv 4) pa_nil)))) pa_nil))) (pa_cons (pe_op op_add pe_int (pe_cl c__law_take hr (by omega) (by rfl) (pa_cons (pv 0) (pa_cons (pv 5) pa_nil)))) pa_nil))))
          (pss_cons (ps_if ((pw_and (pt_cmpR (ko_ne (K := K) hu64) (pv 2) (pe_lst pa_nil) (nomark _)) (pw_and1 (pt_cmpR op_eq (pe_cl c__law_take hr (by omega) (by rfl) (pa_cons (pv 0) (pa_cons pe_int pa_nil))) pe_int (nomark _))))).pt
              (pss_one (ps_set (i := 7) nd rfl (.inl rfl) (pe_ix (kx_list (K := K)) (pv 2) (pe_cl c__law_take hr (by omega) (by rfl) (pa_cons (pv 0) (pa_cons (pe_callB (kc_len (K := K)) (by rfl) T.len PySem.boot_len (pa_cons (pv 2) pa_nil)) pa_nil))) (fun _ _ => rfl))))
              pss_nil)
          (pss_one (ps_expr (pe_bm PySem.F.plainAttrs_list PySem.F.slot_list_append PySem.F.type_list_append mt_append (pv 2) (pa_cons (pv 7) pa_nil)))))))
      (pss_one (ps_ret (pv 2)))))), ?_⟩
    have lv := Live.q B
    have sc : Sm [b] H H := Same.refl _
    obtain ⟨S, eS⟩ : ∃ S, S = [b] := ⟨_, rfl⟩
    have hb : b ∈ S := by rw [eS]; simp
    rw [← eS] at lv
    refine ⟨Nat.zero_le _, fun L nL => ?_⟩
    have Lb : L ≠ b := B.ne nL
    have fL := off_new (o := .lst []) lv nL
    have lv := lv.put (o := .lst []) nL
    have B := B.put (o := .lst []) nL
    have sc := sc.trans (sm_put (S := [b]) (o := .lst []) nL)
    generalize upd H L (.lst []) = H1 at fL lv B sc  ⊢
    refine ⟨_, rfl, b, 30, _, rfl, (by decide), (by decide), B, by omega, fun H2 r1 r10 r11 B2 s2 => ?_⟩
    have lv := lv.box B2.bx s2
    have sc := sc.trans s2
    have B := B2
    have fL := (sm_one hb s2) _ _ fL
    refine ⟨_, _, rfl, rfl, ⟨by decide, by decide, by decide⟩, _, rfl, b, 300, _, rfl, (by decide), (by decide), B, by omega, fun H3 r2 r20 r21 B3 s3 => ⟨_, _, rfl, rfl, (by show 3 ≤ sizeLine; decide), fun p1 np1 => ?_⟩⟩
    have lv := lv.box B3.bx s3
    have sc := sc.trans s3
    have B := B3
    have fL := (sm_one hb s3) _ _ fL
    have fp1 := off_new (o := .lst [.int 0, .int r1, .int (10 ^ Int.toNat 6 - r2)]) lv np1
    have lv := lv.put (o := .lst [.int 0, .int r1, .int (10 ^ Int.toNat 6 - r2)]) np1
    have B := B.put (o := .lst [.int 0, .int r1, .int (10 ^ Int.toNat 6 - r2)]) np1
    have sc := sc.trans (sm_put (S := [b]) (o := .lst [.int 0, .int r1, .int (10 ^ Int.toNat 6 - r2)]) np1)
    have fL := (sm_put (S := S) (o := .lst [.int 0, .int r1, .int (10 ^ Int.toNat 6 - r2)]) np1) _ _ fL
    generalize upd H3 p1 (.lst [.int 0, .int r1, .int (10 ^ Int.toNat 6 - r2)]) = H4 at fp1 lv B sc fL ⊢
    refine ⟨_, rfl, b, 3, _, rfl, (by decide), (by decide), B, by omega, fun H5 r3 r30 r31 B5 s5 => ?_⟩
    have lv := lv.box B5.bx s5
    have sc := sc.trans s5
    have B := B5
    have fL := (sm_one hb s5) _ _ fL
    have fp1 := (sm_one hb s5) _ _ fp1
    obtain ⟨near, en, n0, n1⟩ : ∃ near : Int, atI [V.int 0, .int r1, .int (10 ^ Int.toNat 6 - r2)] r3 = some (.int near) ∧ 0 ≤ near ∧ near ≤ 1000000 := by
      have e6 : (10 : Int) ^ Int.toNat 6 = 1000000 := by decide
      have h : r3 = 0 ∨ r3 = 1 ∨ r3 = 2 := by omega
      rcases h with rfl | rfl | rfl
      · exact ⟨0, rfl, by decide, by decide⟩
      · exact ⟨r1, rfl, by omega, by omega⟩
      · exact ⟨_, rfl, by rw [e6]; omega, by rw [e6]; omega⟩
    refine ⟨p1, _, r3, _, rfl, rfl, SqL.of (at_off fp1), en, _, _, rfl, ?_⟩
    refine ⟨(by show 4 ≤ sizeLine; decide), fun p2 np2 => ?_⟩
    have fp2 := off_new (o := .lst [.int 1, .int 6, .int 40, .int 300]) lv np2
    have lv := lv.put (o := .lst [.int 1, .int 6, .int 40, .int 300]) np2
    have B := B.put (o := .lst [.int 1, .int 6, .int 40, .int 300]) np2
    have sc := sc.trans (sm_put (S := [b]) (o := .lst [.int 1, .int 6, .int 40, .int 300]) np2)
    have fL := (sm_put (S := S) (o := .lst [.int 1, .int 6, .int 40, .int 300]) np2) _ _ fL
    generalize upd H5 p2 (.lst [.int 1, .int 6, .int 40, .int 300]) = H6 at fp2 lv B sc fL ⊢
    refine ⟨_, rfl, b, 4, _, rfl, (by decide), (by decide), B, by omega, fun H7 r4 r40 r41 B7 s7 => ?_⟩
    have lv := lv.box B7.bx s7
    have sc := sc.trans s7
    have B := B7
    have fL := (sm_one hb s7) _ _ fL
    have fp2 := (sm_one hb s7) _ _ fp2
    obtain ⟨wide, ew, w0, w1⟩ : ∃ wide : Int, atI [V.int 1, .int 6, .int 40, .int 300] r4 = some (.int wide) ∧ 0 < wide ∧ wide ≤ 300 := by
      have h : r4 = 0 ∨ r4 = 1 ∨ r4 = 2 ∨ r4 = 3 := by omega
      rcases h with rfl | rfl | rfl | rfl
      · exact ⟨1, rfl, by decide, by decide⟩
      · exact ⟨6, rfl, by decide, by decide⟩
      · exact ⟨40, rfl, by decide, by decide⟩
      · exact ⟨300, rfl, by decide, by decide⟩
    refine ⟨p2, _, r4, _, rfl, rfl, SqL.of (at_off fp2), ew, ?_⟩
    refine ⟨(by show 4 ≤ sizeLine; decide), fun p3 np3 => ?_⟩
    have fp3 := off_new (o := .lst [.int 1, .int 4, .int 30, .int 99]) lv np3
    have lv := lv.put (o := .lst [.int 1, .int 4, .int 30, .int 99]) np3
    have B := B.put (o := .lst [.int 1, .int 4, .int 30, .int 99]) np3
    have sc := sc.trans (sm_put (S := [b]) (o := .lst [.int 1, .int 4, .int 30, .int 99]) np3)
    have fL := (sm_put (S := S) (o := .lst [.int 1, .int 4, .int 30, .int 99]) np3) _ _ fL
    generalize upd H7 p3 (.lst [.int 1, .int 4, .int 30, .int 99]) = H8 at fp3 lv B sc fL ⊢
    refine ⟨_, rfl, b, 4, _, rfl, (by decide), (by decide), B, by omega, fun H9 r5 r50 r51 B9 s9 => ?_⟩
    have lv := lv.box B9.bx s9
    have sc := sc.trans s9
    have B := B9
    have fL := (sm_one hb s9) _ _ fL
    have fp3 := (sm_one hb s9) _ _ fp3
    obtain ⟨long, el, l0, l1⟩ : ∃ long : Int, atI [V.int 1, .int 4, .int 30, .int 99] r5 = some (.int long) ∧ 0 < long ∧ long ≤ 99 := by
      have h : r5 = 0 ∨ r5 = 1 ∨ r5 = 2 ∨ r5 = 3 := by omega
      rcases h with rfl | rfl | rfl | rfl
      · exact ⟨1, rfl, by decide, by decide⟩
      · exact ⟨4, rfl, by decide, by decide⟩
      · exact ⟨30, rfl, by decide, by decide⟩
      · exact ⟨99, rfl, by decide, by decide⟩
    refine ⟨p3, _, r5, _, rfl, rfl, SqL.of (at_off fp3), el, _, _, rfl, ?_⟩
    refine ⟨_, rfl, _, rfl, _, _, rfl, rfl, b, 40 + 1, _, rfl, (by decide), (by decide), B, by omega, fun H10 r6 r60 r61 B10 s10 => ?_⟩
    have lv := lv.box B10.bx s10
    have sc := sc.trans s10
    have B := B10
    have fL := (sm_one hb s10) _ _ fL
    refine ⟨_, rfl, _, rfl, b, 6, _, rfl, (by decide), (by decide), B, by omega, fun H11 r7 r70 r71 B11 s11 => ⟨(by show 3 ≤ sizeLine; decide), fun p4 np4 => ?_⟩⟩
    have lv := lv.box B11.bx s11
    have sc := sc.trans s11
    have B := B11
    have fL := (sm_one hb s11) _ _ fL
    have fp4 := off_new (o := .lst [.int r6, .int 40, .int r7]) lv np4
    have lv := lv.put (o := .lst [.int r6, .int 40, .int r7]) np4
    have B := B.put (o := .lst [.int r6, .int 40, .int r7]) np4
    have sc := sc.trans (sm_put (S := [b]) (o := .lst [.int r6, .int 40, .int r7]) np4)
    have fL := (sm_put (S := S) (o := .lst [.int r6, .int 40, .int r7]) np4) _ _ fL
    generalize upd H11 p4 (.lst [.int r6, .int 40, .int r7]) = H12 at fp4 lv B sc fL ⊢
    refine ⟨_, rfl, b, 3, _, rfl, (by decide), (by decide), B, by omega, fun H13 r8 r80 r81 B13 s13 => ?_⟩
    have lv := lv.box B13.bx s13
    have sc := sc.trans s13
    have B := B13
    have fL := (sm_one hb s13) _ _ fL
    have fp4 := (sm_one hb s13) _ _ fp4
    obtain ⟨many, em, m0, m1⟩ : ∃ many : Int, atI [V.int r6, .int 40, .int r7] r8 = some (.int many) ∧ 0 ≤ many ∧ many ≤ 40 := by
      have h : r8 = 0 ∨ r8 = 1 ∨ r8 = 2 := by omega
      rcases h with rfl | rfl | rfl
      · exact ⟨r6, rfl, by omega, by omega⟩
      · exact ⟨40, rfl, by decide, by decide⟩
      · exact ⟨r7, rfl, by omega, by omega⟩
    refine ⟨p4, _, r8, _, rfl, rfl, SqL.of (at_off fp4), em, ?_⟩
    have nL0 : H L = none := nL
    have fL := at_off fL
    have B := B.mono (show _ ≤ n + 20 by omega)
    clear lv hb
    refine ⟨_, rfl, (by omega), (by omega), ?_⟩
    refine for_it walk_range (fun i σ H2 => ∃ v6 v7 xs ps, σ = [some (.ref b), some (.int 40), some (.ref L), some (.int near), some (.int wide), some (.int long), v6, v7] ∧ Bq H2 b (n + 20 + 5 * i) ∧ Sm [b] H H2 ∧ H2 L = some (.lst xs) ∧ DpAll K (off H2 [L, b]) xs (ps.map pcD) ∧ ps.length = i ∧ ∀ p ∈ ps, 0 ≤ p.1 ∧ p.1 ≤ 1000000 ∧ 1 ≤ p.2 ∧ p.2 ≤ 99)
      ⟨_, _, [], [], rfl, B, sc, fL, .nil, rfl, fun _ h => (List.not_mem_nil h).elim⟩ (fun _ _ _ _ _ => trivial) ?_ ?_
    · rintro i x σ H2 H3 hi ⟨v6, v7, xs, ps, rfl, B, sc, hL, da, lp, bp⟩ ⟨rfl, rfl⟩
      have hi40 : i < 40 := by omega
      generalize hm : n + 20 + 5 * i = m at B
      have hmm : m < 2 ^ 40 - 10 := by omega
      have lx : xs.length = ps.length := dpAll_map_len da
      obtain ⟨S, eS⟩ : ∃ S, S = [L, b] := ⟨_, rfl⟩
      have hb : b ∈ S := by rw [eS]; simp
      have hLS : L ∈ S := by rw [eS]; simp
      have lv : Live S H3 := by rw [eS]; exact (Live.q B).cons hL
      rw [← eS] at da
      refine ⟨_, _, rfl, rfl, ⟨by decide, by decide, by decide⟩, _, rfl, _, rfl, _, rfl, b, wide, _, rfl, w0, by omega, B, by omega, fun H4 r1 r10 r11 B4 s4 => ⟨_, _, rfl, rfl, _, _, rfl, ?_⟩⟩
      have hL := sm_at s4 (by simp [Lb]) hL
      have lv := lv.box B4.bx s4
      have sc := sc.trans s4
      have B := B4
      have da := dpAll_same ((sm_one hb s4)) da
      refine ⟨_, rfl, _, rfl, b, long, _, rfl, l0, by omega, B, by omega, fun H5 r2 r20 r21 B5 s5 => ⟨_, _, rfl, rfl, (by show 2 ≤ sizeLine; decide), fun t nt => ?_⟩⟩
      have hL := sm_at s5 (by simp [Lb]) hL
      have lv := lv.box B5.bx s5
      have sc := sc.trans s5
      have B := B5
      have da := dpAll_same ((sm_one hb s5)) da
      have tL : L ≠ t := ne_of_none hL nt
      have hL := same_upd (o := .tup [.int (if near + r1 < 10 ^ Int.toNat 6 then near + r1 else 10 ^ Int.toNat 6), .int (1 + r2)]) nt _ _ hL
      have ft := off_new (o := .tup [.int (if near + r1 < 10 ^ Int.toNat 6 then near + r1 else 10 ^ Int.toNat 6), .int (1 + r2)]) lv nt
      have lv := lv.put (o := .tup [.int (if near + r1 < 10 ^ Int.toNat 6 then near + r1 else 10 ^ Int.toNat 6), .int (1 + r2)]) nt
      have B := B.put (o := .tup [.int (if near + r1 < 10 ^ Int.toNat 6 then near + r1 else 10 ^ Int.toNat 6), .int (1 + r2)]) nt
      have sc := sc.trans (sm_put (S := [b]) (o := .tup [.int (if near + r1 < 10 ^ Int.toNat 6 then near + r1 else 10 ^ Int.toNat 6), .int (1 + r2)]) nt)
      have da := dpAll_same ((sm_put (S := S) (o := .tup [.int (if near + r1 < 10 ^ Int.toNat 6 then near + r1 else 10 ^ Int.toNat 6), .int (1 + r2)]) nt)) da
      generalize upd H5 t (.tup [.int (if near + r1 < 10 ^ Int.toNat 6 then near + r1 else 10 ^ Int.toNat 6), .int (1 + r2)]) = H6 at ft lv B sc hL da ⊢
      obtain ⟨pc, ec, pok⟩ : ∃ pc : Pc, Dp K (off H6 S) (.ref t) (pcD pc) ∧ (0 ≤ pc.1 ∧ pc.1 ≤ 1000000 ∧ 1 ≤ pc.2 ∧ pc.2 ≤ 99) := by
        have e6 : (10 : Int) ^ Int.toNat 6 = 1000000 := by decide
        rw [e6] at ft
        refine ⟨(if near + r1 < 1000000 then near + r1 else 1000000, 1 + r2), .tup (.inl (.inl ft)) (.cons (.int _) (.cons (.int _) .nil)), ?_, ?_, ?_, ?_⟩
        · show 0 ≤ (if near + r1 < 1000000 then near + r1 else 1000000); split <;> omega
        · show (if near + r1 < 1000000 then near + r1 else 1000000) ≤ 1000000; split <;> omega
        · show 1 ≤ 1 + r2; omega
        · show 1 + r2 ≤ 99; omega
      refine ⟨_, rfl, Nat.zero_le _, fun e ne => ?_⟩
      have hL := same_upd (o := .lst []) ne _ _ hL
      have fe := off_new (o := .lst []) lv ne
      have lv := lv.put (o := .lst []) ne
      have B := B.put (o := .lst []) ne
      have sc := sc.trans (sm_put (S := [b]) (o := .lst []) ne)
      have da := dpAll_same ((sm_put (S := S) (o := .lst []) ne)) da
      have ec := dp_same ((sm_put (S := S) (o := .lst []) ne)) ec
      generalize upd H6 e (.lst []) = H7 at fe lv B sc hL da ec ⊢
      have dL : Dp K H7 (.ref L) (.list (ps.map pcD)) := .lst (SqL.of hL) (dpAll_same off_sub da)
      refine ⟨_, _, dL, .lst (SqL.of (at_off fe)) .nil, pcs_shaped bp, PySem.W.ke_shaped_ints [], _, rfl, ?_⟩
      by_cases hps : ps = []
      · have e2 : PyData.eqv (.list (ps.map pcD)) (.list []) = true := by rw [hps]; rfl
        rw [e2]
        refine iteF ?_
        refine ⟨_, rfl, .inl ⟨rfl, _, SqL.of hL⟩, _, rfl, L, _, _, rfl, rfl, hL, (by rw [lx, lp, sizeLine_eq]; omega), ?_⟩
        refine ⟨_, _, _, ps ++ [pc], rfl, (B.wr Lb).mono (by omega), sm_wr0 sc nL0, upd_same, ?_, (by rw [List.length_append, lp]; rfl), fun p hp => ?_⟩
        · rw [← eS, List.map_append]
          exact dpAll_same (sm_wr hLS) (dpAll_app da (.cons ec .nil))
        · rcases List.mem_append.mp hp with h | h
          · exact bp p h
          · rw [List.mem_singleton.mp h]; exact pok
      · have e2 : PyData.eqv (.list (ps.map pcD)) (.list []) = false := by
          cases ps with
          | nil => exact absurd rfl hps
          | cons _ _ => rfl
        rw [e2]
        refine iteT ⟨_, rfl, b, 6, _, rfl, (by decide), (by decide), B, by omega, fun H8 r3 r30 r31 B8 s8 => ⟨rfl, _, rfl, ?_⟩⟩
        have hL := sm_at s8 (by simp [Lb]) hL
        have lv := lv.box B8.bx s8
        have sc := sc.trans s8
        have B := B8
        have da := dpAll_same ((sm_one hb s8)) da
        have ec := dp_same ((sm_one hb s8)) ec
        refine ite2 (fun c1 => ?_) (fun c1 => ?_)
        · have lp0 : 0 < ps.length := List.length_pos_iff.mpr hps
          refine ⟨_, rfl, _, rfl, _, rfl, _, _, rfl, .inl ⟨_, SqL.of hL, rfl⟩, b, _, _, rfl, (by omega), (by omega), B, by omega, fun H9 r4 r40 r41 B9 s9 => ?_⟩
          have hL := sm_at s9 (by simp [Lb]) hL
          have lv := lv.box B9.bx s9
          have sc := sc.trans s9
          have B := B9
          have da := dpAll_same ((sm_one hb s9)) da
          have ec := dp_same ((sm_one hb s9)) ec
          obtain ⟨ri, rfl⟩ : ∃ ri : Nat, r4 = (ri : Int) := ⟨r4.toNat, by omega⟩
          have hri : ri < xs.length := by omega
          obtain ⟨a2, ea2, _, hri2, ec⟩ := pcs_at da (List.getElem?_eq_getElem hri)
          refine ⟨L, _, _, _, rfl, rfl, SqL.of hL, atI_nat (List.getElem?_eq_getElem hri), ?_⟩
          have pok := bp (ps.getD ri pc0) (by rw [List.getD_eq_getElem?_getD, List.getElem?_eq_getElem hri2]; exact List.getElem_mem hri2)
          generalize ps.getD ri pc0 = pc at ec pok
          refine ⟨_, rfl, .inl ⟨rfl, _, SqL.of hL⟩, _, rfl, L, _, _, rfl, rfl, hL, (by rw [lx, lp, sizeLine_eq]; omega), ?_⟩
          refine ⟨_, _, _, ps ++ [pc], rfl, (B.wr Lb).mono (by omega), sm_wr0 sc nL0, upd_same, ?_, (by rw [List.length_append, lp]; rfl), fun p hp => ?_⟩
          · rw [← eS, List.map_append]
            exact dpAll_same (sm_wr hLS) (dpAll_app da (.cons ec .nil))
          · rcases List.mem_append.mp hp with h | h
            · exact bp p h
            · rw [List.mem_singleton.mp h]; exact pok
        · skip
          refine ⟨_, rfl, .inl ⟨rfl, _, SqL.of hL⟩, _, rfl, L, _, _, rfl, rfl, hL, (by rw [lx, lp, sizeLine_eq]; omega), ?_⟩
          refine ⟨_, _, _, ps ++ [pc], rfl, (B.wr Lb).mono (by omega), sm_wr0 sc nL0, upd_same, ?_, (by rw [List.length_append, lp]; rfl), fun p hp => ?_⟩
          · rw [← eS, List.map_append]
            exact dpAll_same (sm_wr hLS) (dpAll_app da (.cons ec .nil))
          · rcases List.mem_append.mp hp with h | h
            · exact bp p h
            · rw [List.mem_singleton.mp h]; exact pok
    · rintro σ H2 ⟨v6, v7, xs, ps, rfl, B, sc, hL, da, lp, bp⟩
      exact ⟨_, rfl, q _ L xs ps (B.mono (by omega)) sc nL0 hL da ⟨by omega, bp⟩⟩

end
end Pot





namespace Pot
open PySem PySem.Spec PyProof.Rows L2
section
variable {P : Program} {w : World} {K : PySem.W.Frag} {mg : Str → Option Value} {base : Heap}
def qBy : Str := ("by_coming" : Str) ++ (".<locals>." : Str) ++ ("<lambda>" : Str)
def cmF (ps : List Pc) (i : Nat) : Int := (ps.getD i pc0).1
def ordF (ps : List Pc) : List Nat := (List.range ps.length).mergeSort fun i j => decide (cmF ps i < cmF ps j ∨ (cmF ps i = cmF ps j ∧ (i : Int) ≤ (j : Int)))
def spBy (K : PySem.W.Frag) (Pt : Addr) : Sp := fun vs H Q _ => ∃ (a : Addr) (xs : List V) (ps : List Pc), vs = [.ref a] ∧ SqL K H a xs ∧ DpAll K H xs (ps.map pcD) ∧ ps.length ≤ 60 ∧ LamX.Tabs [(Pt, qBy)] H ∧
  ∀ (H' : Hp) (L : Addr), LamX.ExtN H H' → LamX.Tabs [(Pt, qBy)] H' → (∀ x u, H x = some u → (∀ ps, u ≠ .tbl ps) → x ≠ L) → H' L = some (.lst ((ordF ps).map natV)) → Q (.ref L) H'
abbrev s_by_coming : Stmt := topS 3
def n_by_coming : List Str := ["pieces"]
theorem sc_by_coming : FnScope n_by_coming ["pieces"] (defScope s_by_coming) := ⟨rfl, rfl, rfl, by decide +kernel, rfl, by decide +kernel, by decide +kernel⟩
theorem ok_by {f cd0 Pt : Addr} {fd : FuncData} {k : Nat} (F : Fun K "by_coming" "by_coming" s_by_coming f fd) (hcd : fd.code = .ref cd0) (T : Txt mg) (TB : LamX.TabB base mg cd0 Pt) : FnOk P w K mg base CX0 (k + 2) f fd ["pieces"] (spBy K Pt) := by
  refine okC F hcd sc_by_coming (fun vs H Q E h => ?_) (fun A outer s H vs Q E hr h => ?_)
  · obtain ⟨a, xs, ps, rfl, _⟩ := h
    rfl
  · obtain ⟨a, xs, ps, rfl, hS, dx, l60, tbs, q⟩ := h
    have nd := sc_by_coming.nd
    have hmT : (Pt, qBy) ∈ [(Pt, qBy)] := List.mem_singleton.mpr rfl
    have huT : ∀ p ∈ [(Pt, qBy)], p.1 = Pt → p.2 = qBy := fun p hp _ => by rw [List.mem_singleton.mp hp]
    have lx : xs.length = ps.length := dpAll_map_len dx
    refine ⟨_, (pss_one (ps_ret (RLam.pe_sortLamP (io := 0) rfl (by rfl) T.sorted (pa_cons (pe_callTy RLam.cr_range1 (by rfl) T.range (by decide +kernel) (pa_cons (pe_callB (kc_len (K := K)) (by rfl) T.len PySem.boot_len (pa_cons (pv 0) pa_nil)) pa_nil)) pa_nil) TB rfl hmT huT hr ⟨rfl, rfl, rfl, by decide +kernel, rfl, rfl, up_by (sc := defScope s_by_coming) (by decide +kernel)⟩ rfl rfl (fun _ _ _ _ _ _ => rfl)))), ?_⟩
    refine ⟨_, rfl, _, _, rfl, .inl ⟨_, hS, rfl⟩, _, rfl, fun rp nrp => ?_⟩
    have sr := same_upd (o := .rng 0 (xs.length : Int)) nrp
    rw [lx] at sr ⊢
    refine ⟨rp, a, ps.length, xs, cmF ps, rfl, upd_same, Nat.le_trans l60 (by decide), tbs.ext sr, rfl, sr.seq hS, fun i hi => ?_, fun H4 x4 tbs4 q0 nq0 => ?_⟩
    · obtain ⟨b, eb, hb, _⟩ := pcs_at (dpAll_same sr dx) (List.getElem?_eq_getElem (show i < xs.length by omega))
      exact ⟨b, _, by rw [List.getElem?_eq_getElem (show i < xs.length by omega), eb], hb, rfl⟩
    have s5 := same_upd (o := .lst ((ordF ps).map natV)) nq0
    replace x4 : LamX.ExtN H H4 := (LamX.ExtN.of sr).trans x4
    refine q _ q0 (x4.trans (.of s5)) (tbs4.ext s5) (fun x u e nt z => ?_) upd_same
    have := x4 x u e nt
    rw [z, nq0] at this
    cases this
theorem nodup_leG {α : Type} [DecidableEq α] : ∀ {l ts : List α}, l.Nodup → (∀ x ∈ l, x ∈ ts) → l.length ≤ ts.length
  | [], _, _, _ => Nat.zero_le _
  | x :: l, ts, nd, h => by
    have hx := h x List.mem_cons_self
    obtain ⟨n1, n2⟩ := List.nodup_cons.mp nd
    have h1 : l.length ≤ (ts.erase x).length := nodup_leG n2 fun y hy => by
      have ne : y ≠ x := fun e => n1 (e ▸ hy)
      exact (List.mem_erase_of_ne ne).mpr (h y (List.mem_cons_of_mem x hy))
    have h2 := List.length_erase_of_mem hx
    have h3 := List.length_pos_of_mem hx
    rw [List.length_cons]
    omega
/-- the least that isn't one of these -/
def mexF (ts : List Nat) : Nat := ((List.range (ts.length + 1)).find? fun k => decide (k ∉ ts)).getD 0
theorem mex_is {ts : List Nat} : mexF ts ∉ ts ∧ (∀ j, j < mexF ts → j ∈ ts) ∧ mexF ts ≤ ts.length := by
  unfold mexF
  cases e : (List.range (ts.length + 1)).find? fun k => decide (k ∉ ts) with
  | none =>
    have h := List.find?_eq_none.mp e
    have := nodup_leG (l := List.range (ts.length + 1)) (ts := ts) List.nodup_range fun x hx => by
      have := h x hx
      simpa using this
    rw [List.length_range] at this
    omega
  | some k =>
    obtain ⟨h1, as, bs, h2, h3⟩ := List.find?_eq_some_iff_append.mp e
    have hk : k ∈ List.range (ts.length + 1) := by rw [h2]; simp
    have hk := List.mem_range.mp hk
    refine ⟨by simpa using h1, fun j hj => ?_, by show k ≤ _; omega⟩
    have hj : j < k := hj
    have jr : j ∈ as ++ k :: bs := by rw [← h2]; exact List.mem_range.mpr (by omega)
    rcases List.mem_append.mp jr with h | h
    · have := h3 j h
      simpa using this
    · have pw : (as ++ k :: bs).Pairwise (· < ·) := by rw [← h2]; exact List.pairwise_lt_range
      obtain ⟨_, p2, _⟩ := List.pairwise_append.mp pw
      rcases List.mem_cons.mp h with h | h
      · omega
      · have := (List.pairwise_cons.mp p2).1 j h
        omega
theorem mex_uniq {ts : List Nat} {x : Nat} (h1 : x ∉ ts) (h2 : ∀ j, j < x → j ∈ ts) : x = mexF ts := by
  obtain ⟨m1, m2, _⟩ := mex_is (ts := ts)
  rcases Nat.lt_trichotomy x (mexF ts) with h | h | h
  · exact absurd (m2 x h) h1
  · exact h
  · exact absurd (h2 _ h) m1
theorem mex_congr {ts us : List Nat} (h : ∀ x, x ∈ ts ↔ x ∈ us) : mexF ts = mexF us := by
  obtain ⟨m1, m2, _⟩ := mex_is (ts := ts)
  exact mex_uniq (fun z => m1 ((h _).mpr z)) fun j hj => (h j).mp (m2 j hj)
theorem inV_nats (j : Nat) : ∀ ts : List Nat, inV (natV j) (ts.map natV) = decide (j ∈ ts)
  | [] => rfl
  | x :: zs => by
    have ih := inV_nats j zs
    unfold inV at ih ⊢
    rw [List.map_cons, List.any_cons, ih, Bool.eq_iff_iff, Bool.or_eq_true, decide_eq_true_eq, decide_eq_true_eq, List.mem_cons]
    refine or_congr ?_ Iff.rfl
    show decide ((x : Int) = (j : Int)) = true ↔ _
    rw [decide_eq_true_eq]
    constructor
    · intro e; omega
    · intro e; omega
theorem flat_nats : ∀ ts : List Nat, (ts.map natV).all flatV = true
  | [] => rfl
  | _ :: zs => by rw [List.map_cons, List.all_cons, flat_nats zs]; rfl
abbrev s_least_free : Stmt := topS 5
def n_least_free : List Str := ["taken", "slot"]
theorem sc_least_free : FnScope n_least_free ["taken"] (defScope s_least_free) := ⟨rfl, rfl, rfl, by decide +kernel, rfl, by decide +kernel, by decide +kernel⟩
def spFree (K : PySem.W.Frag) : Sp := fun vs H Q _ => ∃ (a : Addr) (ts : List Nat), vs = [.ref a] ∧ SqL K H a (ts.map natV) ∧ ts.length ≤ 60 ∧ Q (.int (mexF ts : Nat)) H
theorem ok_free {f : Addr} {fd : FuncData} {k : Nat} (F : Fun K "least_free" "least_free" s_least_free f fd) (T : Txt mg) : FnOk P w K mg base CX0 (k + 1) f fd ["taken"] (spFree K) := by
  refine F.ok sc_least_free (fun vs H Q E h => ?_) (fun cdv A outer s H vs Q E hr h => ?_)
  · obtain ⟨a, ts, rfl, _⟩ := h
    rfl
  · obtain ⟨a, ts, rfl, hS, l60, q⟩ := h
    have nd := sc_least_free.nd
    obtain ⟨m1, m2, m3⟩ := mex_is (ts := ts)
    refine ⟨_, (pss_cons (ps_set (i := 1) nd rfl (.inl rfl) pe_int)
      (pss_cons (ps_while PassesOwn.never (pt_cmpR (ko_in (K := K)) (pv 1) (pv 0) rfl)
          (pss_one (ps_aug (i := 1) nd rfl (.inl rfl) pe_int ip_add)))
      (pss_one (ps_ret (pv 1))))), ?_⟩
    refine ⟨fun m σ H1 => ∃ j : Nat, σ = [some (.ref a), some (.int (j : Nat))] ∧ H1 = H ∧ j ≤ mexF ts ∧ m = mexF ts - j, ⟨_, 0, rfl, rfl, Nat.zero_le _, rfl⟩, ?_⟩
    rintro m σ H1 ⟨j, rfl, rfl, hj, rfl⟩
    refine ⟨_, rfl, _, rfl, a, ts.map natV, rfl, .inl hS, rfl, flat_nats ts, _, rfl, ?_⟩
    have e9 : inV (V.int (j : Int)) (ts.map natV) = decide (j ∈ ts) := inV_nats j ts
    rw [if_neg Bool.false_ne_true, e9]
    by_cases hm : j ∈ ts
    · rw [decide_eq_true hm]
      have ne : j ≠ mexF ts := fun e => m1 (e ▸ hm)
      refine iteT ⟨fun σ H2 => σ = [some (.ref a), some (.int ((j + 1 : Nat)))] ∧ H2 = H1, fun σ' H' h => ⟨_, ?_, j + 1, h.1, h.2, by omega, rfl⟩, ?_⟩
      · omega
      · exact ⟨_, rfl, _, _, rfl, rfl, rfl, rfl⟩
    · rw [decide_eq_false hm]
      have e : j = mexF ts := by
        rcases Nat.lt_or_ge j (mexF ts) with h | h
        · exact absurd (m2 j h) hm
        · omega
      subst e
      exact iteF ⟨_, rfl, q⟩
/-- the slots, one behind the other -/
def slF (ps : List Pc) (S : List (Nat × Nat)) (p : Nat) : List Nat := ((S.filter fun q => inB (ps.getD q.1 pc0) (cmF ps p)).map (·.2))
def stepS (ps : List Pc) (S : List (Nat × Nat)) (p : Nat) : List (Nat × Nat) := S ++ [(p, mexF (slF ps S p))]
def allS (ps : List Pc) (l : List Nat) : List (Nat × Nat) := l.foldl (stepS ps) []
def kvS (S : List (Nat × Nat)) : List (Key × V) := S.map fun q => (.inl ((q.1 : Nat) : Int), natV q.2)
def getS (S : List (Nat × Nat)) (p : Nat) : Nat := ((S.find? fun q => decide (q.1 = p)).map (·.2)).getD 0
theorem pcs_ext {H H' : Hp} (s : LamX.ExtN H H') : ∀ {ps : List Pc} {xs : List V}, DpAll K H xs (ps.map pcD) → DpAll K H' xs (ps.map pcD)
  | [], _, h => by
    cases h
    exact .nil
  | p :: ps, _, h => by
    cases h with
    | cons a r =>
      obtain ⟨t, rfl, ht⟩ := pc_dp a
      exact .cons (.tup (RLam.sqT_ext ht s) (.cons (.int _) (.cons (.int _) .nil))) (pcs_ext s r)
theorem pcs_dK {H H' : Hp} {D : Addr} {kvs : List (Key × V)} (s : Sm [D] H H') (h : H D = some (.dK kvs)) : ∀ {ps : List Pc} {xs : List V}, DpAll K H xs (ps.map pcD) → DpAll K H' xs (ps.map pcD)
  | [], _, z => by
    cases z
    exact .nil
  | p :: ps, _, z => by
    cases z with
    | cons a r =>
      obtain ⟨t, rfl, ht⟩ := pc_dp a
      refine .cons (.tup ?_ (.cons (.int _) (.cons (.int _) .nil))) (pcs_dK s h r)
      rcases ht with (ht | ⟨o, ht⟩) | ht
      · exact .inl (.inl (sm_at s (fun e => by rw [List.mem_singleton.mp e, h] at ht; cases ht) ht))
      · exact .inl (.inr ⟨o, sm_at s (fun e => by rw [List.mem_singleton.mp e, h] at ht; cases ht) ht⟩)
      · exact .inr ht
theorem sqL_dK {H H' : Hp} {D c : Addr} {xs : List V} {kvs : List (Key × V)} (s : Sm [D] H H') (h : H D = some (.dK kvs)) (z : SqL K H c xs) : SqL K H' c xs := by
  rcases z with (ht | ⟨o, ht⟩) | ht
  · exact .inl (.inl (sm_at s (fun e => by rw [List.mem_singleton.mp e, h] at ht; cases ht) ht))
  · exact .inl (.inr ⟨o, sm_at s (fun e => by rw [List.mem_singleton.mp e, h] at ht; cases ht) ht⟩)
  · exact .inr ht
theorem tabs_dK {T : List (Addr × Str)} {H H' : Hp} {D : Addr} {kvs : List (Key × V)} (s : Sm [D] H H') (h : H D = some (.dK kvs)) (t : LamX.Tabs T H) : LamX.Tabs T H' := fun p hp => by
  obtain ⟨ps, h1, h2, h3⟩ := t p hp
  refine ⟨ps, sm_at s (fun e => by rw [List.mem_singleton.mp e, h] at h1; cases h1) h1, h2, fun pos cv hc => (h3 pos cv hc).imp fun c z => ⟨z.1, sm_at s (fun e => ?_) z.2⟩⟩
  have := z.2
  rw [List.mem_singleton.mp e, h] at this
  cases this
theorem keys_step {ps : List Pc} {S : List (Nat × Nat)} {p : Nat} : (stepS ps S p).map (·.1) = S.map (·.1) ++ [p] := by
  unfold stepS
  rw [List.map_append]; rfl
theorem allS_one {ps : List Pc} {l : List Nat} {i p : Nat} (g : l[i]? = some p) : allS ps (l.take (i + 1)) = stepS ps (allS ps (l.take i)) p := by
  unfold allS
  rw [List.take_add_one, g, List.foldl_append]; rfl
theorem keys_fold {ps : List Pc} : ∀ (l : List Nat) (S : List (Nat × Nat)), (l.foldl (stepS ps) S).map (·.1) = S.map (·.1) ++ l
  | [], S => by rw [List.append_nil]; rfl
  | p :: l, S => by
    rw [List.foldl_cons, keys_fold l, keys_step, List.append_assoc]; rfl
theorem keys_all {ps : List Pc} (l : List Nat) : (allS ps l).map (·.1) = l := keys_fold l []
theorem valV_kvS : ∀ (S : List (Nat × Nat)) (p : Nat), valV (kvS S) (.inl ((p : Nat) : Int)) = (S.find? fun q => decide (q.1 = p)).map fun q => natV q.2
  | [], _ => rfl
  | q :: S, p => by
    have ih := valV_kvS S p
    unfold kvS at ih ⊢
    rw [List.map_cons, List.find?_cons]
    by_cases e : q.1 = p
    · rw [valV_pos (by rw [e]), decide_eq_true e]; rfl
    · rw [valV_neg (fun z => e (by have := Sum.inl.inj z; omega)), decide_eq_false e, ih]
theorem find_none {S : List (Nat × Nat)} {p : Nat} (h : p ∉ S.map (·.1)) : (S.find? fun q => decide (q.1 = p)) = none := by
  rw [List.find?_eq_none]
  intro q hq z
  exact h (List.mem_map.mpr ⟨q, hq, of_decide_eq_true z⟩)
theorem find_some {S : List (Nat × Nat)} {p : Nat} (h : p ∈ S.map (·.1)) : ∃ x, (S.find? fun q => decide (q.1 = p)) = some (p, x) ∧ (p, x) ∈ S := by
  cases e : S.find? fun q => decide (q.1 = p) with
  | none =>
    obtain ⟨q, hq, rfl⟩ := List.mem_map.mp h
    have := List.find?_eq_none.mp e q hq
    simp at this
  | some q =>
    have h1 := List.find?_some e
    have h1 : q.1 = p := of_decide_eq_true h1
    have h2 := List.mem_of_find?_eq_some e
    exact ⟨q.2, by rw [← h1], by rw [← h1]; exact h2⟩
theorem getS_of {S : List (Nat × Nat)} {p : Nat} (h : p ∈ S.map (·.1)) : valV (kvS S) (.inl ((p : Nat) : Int)) = some (natV (getS S p)) ∧ (p, getS S p) ∈ S := by
  obtain ⟨x, e, hm⟩ := find_some h
  rw [valV_kvS]
  unfold getS
  rw [e]
  exact ⟨rfl, hm⟩
theorem getS_nodup {S : List (Nat × Nat)} (nd : (S.map (·.1)).Nodup) {p x : Nat} (h : (p, x) ∈ S) : getS S p = x := by
  have hp : p ∈ S.map (·.1) := List.mem_map.mpr ⟨_, h, rfl⟩
  have h2 := (getS_of hp).2
  generalize getS S p = y at h2
  clear hp
  induction S with
  | nil => cases h
  | cons q S ih =>
    obtain ⟨n1, n2⟩ := List.nodup_cons.mp nd
    rcases List.mem_cons.mp h with h | h <;> rcases List.mem_cons.mp h2 with z | z
    · rw [← h] at z; exact (Prod.mk.inj z).2
    · exact absurd (List.mem_map.mpr ⟨_, z, rfl⟩) (by rw [← h] at n1; exact n1)
    · exact absurd (List.mem_map.mpr ⟨_, h, rfl⟩) (by rw [← z] at n1; exact n1)
    · exact ih n2 h z
theorem put_kvS {S : List (Nat × Nat)} {p x : Nat} (h : p ∉ S.map (·.1)) : putK (kvS S) (.inl ((p : Nat) : Int)) (natV x) = kvS (S ++ [(p, x)]) := by
  rw [putK_new (fun q hq e => by
    obtain ⟨z, hz, rfl⟩ := List.mem_map.mp hq
    have := Sum.inl.inj e
    have e2 : z.1 = p := by omega
    exact h (List.mem_map.mpr ⟨z, hz, e2⟩))]
  unfold kvS
  rw [List.map_append]; rfl
theorem ordF_perm (ps : List Pc) : (ordF ps).Perm (List.range ps.length) := List.mergeSort_perm ..
theorem ordF_mem {ps : List Pc} {p : Nat} : p ∈ ordF ps ↔ p < ps.length := by rw [(ordF_perm ps).mem_iff, List.mem_range]
theorem ordF_nodup (ps : List Pc) : (ordF ps).Nodup := (ordF_perm ps).nodup_iff.mpr List.nodup_range
theorem ordF_len (ps : List Pc) : (ordF ps).length = ps.length := by rw [(ordF_perm ps).length_eq, List.length_range]
theorem take_new {l : List Nat} (nd : l.Nodup) {i p : Nat} (g : l[i]? = some p) : p ∉ l.take i := by
  intro h
  obtain ⟨hi, e⟩ := List.getElem?_eq_some_iff.mp g
  have : (l.take i ++ l.drop i).Nodup := by rw [List.take_append_drop]; exact nd
  have h2 := (List.nodup_append.mp this).2.2
  refine h2 p h p ?_ rfl
  rw [List.drop_eq_getElem_cons hi, e]
  exact List.mem_cons_self
abbrev s_slotted : Stmt := topS 4
def n_slotted : List Str := ["pieces", "slots", "number", "come", "taken", "other"]
theorem sc_slotted : FnScope n_slotted ["pieces"] (defScope s_slotted) := ⟨rfl, rfl, rfl, by decide +kernel, rfl, by decide +kernel, by decide +kernel⟩
def spSlot (K : PySem.W.Frag) (Pt : Addr) : Sp := fun vs H Q _ => ∃ (a : Addr) (xs : List V) (ps : List Pc), vs = [.ref a] ∧ SqL K H a xs ∧ DpAll K H xs (ps.map pcD) ∧ ps.length ≤ 60 ∧ LamX.Tabs [(Pt, qBy)] H ∧
  ∀ (H' : Hp) (L : Addr), LamX.ExtN H H' → LamX.Tabs [(Pt, qBy)] H' → (∀ x u, H x = some u → (∀ ps, u ≠ .tbl ps) → x ≠ L) → H' L = some (.lst ((List.range ps.length).map fun p => natV (getS (allS ps (ordF ps)) p))) → Q (.ref L) H'
theorem ok_slot {f Pt : Addr} {fd : FuncData} {k : Nat} (F : Fun K "slotted" "slotted" s_slotted f fd) (T : Txt mg) (c_by_coming : Cl P w K mg base (k + 2) "by_coming" (spBy K Pt)) (c_is_in : Cl P w K mg base (k + 2) "is_in" (spIn K)) (c_least_free : Cl P w K mg base (k + 1) "least_free" (spFree K)) : FnOk P w K mg base CX0 (k + 3) f fd ["pieces"] (spSlot K Pt) := by
  refine F.ok sc_slotted (fun vs H Q E h => ?_) (fun cdv A outer s H vs Q E hr h => ?_)
  · obtain ⟨a, xs, ps, rfl, _⟩ := h
    rfl
  · obtain ⟨a, xs, ps, rfl, hS, dx, l60, tbs, q⟩ := h
    have nd := sc_slotted.nd
    have hu := hu_of hr
    have lx : xs.length = ps.length := dpAll_map_len dx
    /- 0 pieces, 1 slots, 2 number, 3 come, 4 taken, 5 other -/
    refine ⟨_, (pss_cons (ps_set (i := 1) nd rfl (.inr rfl) pe_dnewK)
      (pss_cons (ps_for PassesOwn.never rfl (ki_list (K := K) (pe_cl c_by_coming hr (by omega) (by rfl) (pa_cons (pv 0) pa_nil))) (pg_name (i := 2) nd rfl (.inl rfl))
          (pss_cons (ps_set (i := 3) nd rfl (.inr rfl) (pe_ix (kx_tup (K := K)) (pe_ix (kx_list (K := K)) (pv 0) (pv 2) (fun _ _ => rfl)) pe_int (fun _ _ => rfl)))
          (pss_cons (ps_lock (ps_setLc (i := 4) (own := [("other", 5)]) rfl nd rfl rfl (sw_true rfl rfl rfl (by decide +kernel)) (pi_keys (pv 1)) (blkOk_by (N := n_slotted) (sc := defScope s_slotted) (by decide +kernel)) (fun _ _ _ _ _ => (pg_name (i := 5) nd rfl (.inl rfl))) (fun _ _ _ _ _ => (pts_one (pt_val (pe_cl c_is_in hr (by omega) (by rfl) (pa_cons (pe_ix (kx_list (K := K)) (pv 0) (pv 5) (fun _ _ => rfl)) (pa_cons (pv 3) pa_nil)))))) (fun _ _ _ _ _ => (pe_dget hu (pv 1) (pv 5) (fun _ _ => rfl)))))
          (pss_one (ps_dput hu (pv 1) (pv 2) (pe_cl c_least_free hr (by omega) (by rfl) (pa_cons (pv 4) pa_nil)) rfl)))))
      (pss_one (ps_ret (pe_lc (own := [("number", 2)]) rfl nd (pi_range1 (by rfl) T.range (pa_cons (pe_callB (kc_len (K := K)) (by rfl) T.len PySem.boot_len (pa_cons (pv 0) pa_nil)) pa_nil)) (blkOk_by (N := n_slotted) (sc := defScope s_slotted) (by decide +kernel)) (fun _ _ _ _ _ => (pg_name (i := 2) nd rfl (.inl rfl))) (fun _ _ _ _ _ => pts_nil) (fun _ _ _ _ _ => (pe_dget hu (pv 1) (pv 2) (fun _ _ => rfl)))))))), ?_⟩
    refine fun D nD => ?_
    have s0 := same_upd (o := .dK []) nD
    have hD : upd H D (.dK []) D = some (.dK []) := upd_same
    have hS0 := s0.seq hS
    have dx0 := dpAll_same s0 dx
    have tbs0 := tbs.ext s0
    generalize upd H D (.dK []) = H0 at s0 hD hS0 dx0 tbs0 ⊢
    have est : ((L2.start n_slotted [V.ref a]).set 1 (some (V.ref D))) = [some (.ref a), some (.ref D), none, none, none, none] := rfl
    show tSeq _ _ _ ((L2.start n_slotted [V.ref a]).set 1 (some (V.ref D))) _
    rw [est]
    refine ⟨_, rfl, a, xs, ps, rfl, hS0, dx0, l60, tbs0, fun H1 L x1 tbs1 fr hL => ?_⟩
    have hD1 : H1 D = some (.dK (kvS (allS ps ((ordF ps).take 0)))) := x1 _ _ hD (fun ps z => by cases z)
    have hS1 := RLam.sqL_ext hS0 x1
    have dx1 := pcs_ext x1 dx0
    have LD : L ≠ D := fun e => fr D _ hD (fun ps z => by cases z) e.symm
    refine ⟨L, rfl, ⟨_, SqL.of hL⟩, ?_⟩
    refine for_it (walk_list (xs := (ordF ps).map natV)) (fun i σ Hz => ∃ (v2 v3 v4 v5 : Option V), σ = [some (.ref a), some (.ref D), v2, v3, v4, v5] ∧ Sm [D] H1 Hz ∧ Hz D = some (.dK (kvS (allS ps ((ordF ps).take i))))) ⟨_, _, _, _, rfl, Same.refl _, hD1⟩ (fun i σ Hz _ h => by obtain ⟨_, _, _, _, _, h, _⟩ := h; exact SqL.of (sm_at h (by simp [LD]) hL)) ?_ ?_
    · rintro i y σ Hz Hw hi ⟨v2, v3, v4, v5, rfl, sm, hDz⟩ ⟨rfl, gy⟩
      rw [List.getElem?_map] at gy
      obtain ⟨p, gp, rfl⟩ := Option.map_eq_some_iff.mp gy
      have hp := ordF_mem.mp (List.mem_of_getElem? gp)
      have hi2 : i < ps.length := by rw [List.length_map, ordF_len] at hi; exact hi
      have hSz := sqL_dK sm hD1 hS1
      have dxz := pcs_dK sm hD1 dx1
      have pnew : p ∉ (allS ps ((ordF ps).take i)).map (·.1) := by rw [keys_all]; exact take_new (ordF_nodup ps) gp
      have Slen : (allS ps ((ordF ps).take i)).length ≤ 60 := by
        have := congrArg List.length (keys_all (ps := ps) ((ordF ps).take i))
        rw [List.length_map, List.length_take] at this
        omega
      have eone := allS_one (ps := ps) gp
      have Snd : ((allS ps ((ordF ps).take i)).map (·.1)).Nodup := by rw [keys_all]; exact (List.take_sublist _ _).nodup (ordF_nodup ps)
      have Smem : ∀ q ∈ allS ps ((ordF ps).take i), q.1 < ps.length := fun q hq => by
        have : q.1 ∈ (allS ps ((ordF ps).take i)).map (·.1) := List.mem_map.mpr ⟨q, hq, rfl⟩
        rw [keys_all] at this
        exact ordF_mem.mp (List.mem_of_mem_take this)
      generalize allS ps ((ordF ps).take i) = S at hDz pnew Slen eone Snd Smem
      obtain ⟨b, eb, hb, _⟩ := pcs_at dxz (List.getElem?_eq_getElem (show p < xs.length by omega))
      refine ⟨_, rfl, _, rfl, a, _, _, _, rfl, rfl, hSz, atI_nat (List.getElem?_eq_getElem (show p < xs.length by omega)), ?_⟩
      rw [eb]
      refine ⟨b, _, 0, _, rfl, rfl, hb, rfl, ?_⟩
      refine ⟨D, _, hDz, trivial, fun od => ?_⟩
      have hF : upd Hw D (.frz od (.dK (kvS S))) D = some (.frz od (.dK (kvS S))) := upd_same
      have sF : Sm [D] H1 (upd Hw D (.frz od (.dK (kvS S)))) := sm.trans (sm_wr (List.mem_singleton_self D))
      have dxF := pcs_dK sF hD1 dx1
      have hSF := sqL_dK sF hD1 hS1
      generalize upd Hw D (.frz od (.dK (kvS S))) = HF at hF sF dxF hSF ⊢
      refine ⟨_, rfl, D, od, rfl, .inl ⟨_, hF, fun C nC => ?_⟩⟩
      have kat : ∀ {j : Nat} {q : Nat × Nat}, S[j]? = some q → (kvS S)[j]? = some (.inl ((q.1 : Nat) : Int), natV q.2) := fun {j q} g => by unfold kvS; rw [List.getElem?_map, g]; rfl
      refine lc_it (walk_keys (kvs := kvS S)) (PvL HF C fun j => (((S.take j).filter fun q => inB (ps.getD q.1 pc0) (cmF ps p)).map (·.2)).map natV) (pv_start nC rfl) (fun j H4 _ h => h.1 _ _ hF) ?_ ?_
      · rintro j y Ha Hb hj pz ⟨rfl, key, v, gk, rfl⟩
        have hj2 : j < S.length := by unfold kvS at hj; rw [List.length_map] at hj; exact hj
        have gS := List.getElem?_eq_getElem hj2
        have gk2 := kat gS
        rw [gk2] at gk
        obtain ⟨rfl, rfl⟩ := Prod.mk.inj (Option.some.inj gk)
        have qm := List.getElem_mem hj2
        generalize S[j] = q0 at gS gk2 qm
        have hq0 := Smem _ qm
        obtain ⟨b2, eb2, hb2, _⟩ := pcs_at (dpAll_same pz.1 dxF) (List.getElem?_eq_getElem (show q0.1 < xs.length by omega))
        refine ⟨rfl, _, rfl, _, rfl, a, _, _, _, rfl, rfl, pz.1.seq hSF, atI_nat (List.getElem?_eq_getElem (show q0.1 < xs.length by omega)), ?_⟩
        rw [eb2]
        refine ⟨_, rfl, b2, ps.getD q0.1 pc0, cmF ps p, rfl, hb2, _, rfl, ?_⟩
        have lf : ((((S.take j).filter fun q => inB (ps.getD q.1 pc0) (cmF ps p)).map (·.2)).map natV).length < sizeLine := by
          rw [List.length_map, List.length_map, sizeLine_eq]
          have h1 := List.length_filter_le (fun q : Nat × Nat => inB (ps.getD q.1 pc0) (cmF ps p)) (S.take j)
          have h2 := List.length_take (i := j) (l := S)
          omega
        cases e : inB (ps.getD q0.1 pc0) (cmF ps p) with
        | true =>
          refine iteT ⟨_, rfl, _, rfl, D, natV (getS S q0.1), rfl, .inl ⟨kvS S, .inl ((q0.1 : Nat) : Int), .inr ⟨od, pz.1 _ _ hF⟩, rfl, ?_⟩, ?_⟩
          · exact ((getS_of (List.mem_map.mpr ⟨_, qm, rfl⟩)).1).symm
          · rw [getS_nodup Snd qm]
            refine pv_put nC pz (Same.refl _) ?_ lf
            rw [List.take_add_one, gS, List.filter_append]
            show _ = _
            rw [show (Option.some q0).toList = [q0] from rfl, List.filter_cons_of_pos (p := fun q : Nat × Nat => inB (ps.getD q.1 pc0) (cmF ps p)) e, List.filter_nil, List.map_append, List.map_append]
            rfl
        | false =>
          refine iteF (pv_skip pz (Same.refl _) ?_)
          rw [List.take_add_one, gS, List.filter_append]
          show _ = _
          rw [show (Option.some q0).toList = [q0] from rfl, List.filter_cons_of_neg (p := fun q : Nat × Nat => inB (ps.getD q.1 pc0) (cmF ps p)) (by rw [e]; decide), List.filter_nil, List.append_nil]
      · intro H2 pz
        obtain ⟨s2, hC⟩ := pv_end pz (show _ = (slF ps S p).map natV by unfold slF kvS; rw [List.length_map, List.take_length])
        clear pz
        have hF2 := s2 _ _ hF
        have CD : C ≠ D := fun e => by rw [e, hF] at nC; cases nC
        refine ⟨hF2, ?_⟩
        have hC3 : upd H2 D (.dK (kvS S)) C = some (.lst ((slF ps S p).map natV)) := by rw [upd_ne CD]; exact hC
        have hD3 : upd H2 D (.dK (kvS S)) D = some (.dK (kvS S)) := upd_same
        have s3 : Sm [D] H1 (upd H2 D (.dK (kvS S))) := (sF.trans (sm_of s2)).trans (sm_wr (List.mem_singleton_self D))
        generalize upd H2 D (.dK (kvS S)) = H3 at hC3 hD3 s3 ⊢
        have l3 : (slF ps S p).length ≤ 60 := by
          unfold slF
          rw [List.length_map]
          have h1 := List.length_filter_le (fun q : Nat × Nat => inB (ps.getD q.1 pc0) (cmF ps p)) S
          omega
        refine ⟨_, rfl, C, slF ps S p, rfl, SqL.of hC3, l3, ?_⟩
        refine ⟨_, rfl, _, rfl, D, _, rfl, .inl ⟨kvS S, .inl ((p : Nat) : Int), hD3, rfl, ?_, rfl⟩, ?_⟩
        · unfold kvS
          rw [List.length_map, sizeLine_eq]; omega
        · refine ⟨_, _, _, _, rfl, s3.trans (sm_wr (List.mem_singleton_self D)), ?_⟩
          rw [eone, upd_same]
          exact congrArg (fun z => some (HO.dK z)) (put_kvS pnew)
    · rintro σ Hz ⟨v2, v3, v4, v5, rfl, sm, hDz⟩
      have hSz := sqL_dK sm hD1 hS1
      rw [List.length_map, List.take_of_length_le (Nat.le_refl _)] at hDz
      refine ⟨_, rfl, _, _, rfl, .inl ⟨_, hSz, rfl⟩, _, rfl, (by omega), (by omega), ?_⟩
      rw [Int.toNat_natCast, lx]
      intro C nC
      have CD : C ≠ D := fun e => by rw [e, hDz] at nC; cases nC
      refine lc_it (walk_range (lo := 0) (n := ps.length)) (PvL Hz C fun j => (List.range j).map fun p => natV (getS (allS ps (ordF ps)) p)) (pv_start nC rfl) (fun _ _ _ _ => trivial) ?_ ?_
      · rintro j y Ha Hb hj pz ⟨rfl, rfl⟩
        show gName 2 (V.int (0 + (j : Int))) _ _ _
        rw [Int.zero_add]
        refine ⟨rfl, tYes_at ?_⟩
        rw [if_pos rfl]
        have hm : j ∈ (allS ps (ordF ps)).map (·.1) := by rw [keys_all]; exact ordF_mem.mpr hj
        refine ⟨_, rfl, _, rfl, D, natV (getS (allS ps (ordF ps)) j), rfl, .inl ⟨_, .inl ((j : Nat) : Int), .inl (pz.1 _ _ hDz), rfl, ?_⟩, ?_⟩
        · have := (getS_of hm).1
          rw [← this]
        · refine pv_put nC pz (Same.refl _) ?_ ?_
          · rw [List.range_succ, List.map_append]; rfl
          · rw [List.length_map, List.length_range, sizeLine_eq]; omega
      · intro H2 pz
        obtain ⟨s2, hC⟩ := pv_end pz rfl
        clear pz
        have xn : LamX.ExtN H Hz := fun b o e n => sm_at sm (fun z => by rw [List.mem_singleton.mp z, nD] at e; cases e) (x1 _ _ (s0 _ _ e) n)
        refine q H2 C (xn.trans (.of s2)) ((tabs_dK sm hD1 tbs1).ext s2) (fun x u e n z => ?_) hC
        have := xn x u e n
        rw [z, nC] at this
        cases this

end
end Pot




namespace Pot
open PySem PySem.Spec PyProof.Rows L2
section
variable {K : PySem.W.Frag}
theorem uniqR {R : Nat → Nat → Prop} (ir : ∀ a, ¬ R a a) (as : ∀ a b, R a b → ¬ R b a) : ∀ {l m : List Nat}, l.Pairwise R → m.Pairwise R → (∀ k, k ∈ l ↔ k ∈ m) → l = m
  | [], [], _, _, _ => rfl
  | [], y :: m, _, _, h => absurd ((h y).mpr List.mem_cons_self) (List.not_mem_nil)
  | x :: l, [], _, _, h => absurd ((h x).mp List.mem_cons_self) (List.not_mem_nil)
  | x :: l, y :: m, h1, h2, h => by
    obtain ⟨a1, a2⟩ := List.pairwise_cons.mp h1
    obtain ⟨b1, b2⟩ := List.pairwise_cons.mp h2
    have e : x = y := by
      rcases List.mem_cons.mp ((h x).mp List.mem_cons_self) with z | z
      · exact z
      · rcases List.mem_cons.mp ((h y).mpr List.mem_cons_self) with u | u
        · exact u.symm
        · exact absurd (b1 _ z) (as _ _ (a1 _ u))
    subst e
    refine congrArg (x :: ·) (uniqR ir as a2 b2 fun k => ⟨fun hk => ?_, fun hk => ?_⟩)
    · rcases List.mem_cons.mp ((h k).mp (List.mem_cons_of_mem _ hk)) with z | z
      · exact absurd (a1 _ hk) (by rw [z]; exact ir x)
      · exact z
    · rcases List.mem_cons.mp ((h k).mpr (List.mem_cons_of_mem _ hk)) with z | z
      · exact absurd (b1 _ hk) (by rw [z]; exact ir x)
      · exact z
/-- comes first, or with it and of lesser number -/
def RO (ps : List Pc) (i j : Nat) : Prop := cmF ps i < cmF ps j ∨ (cmF ps i = cmF ps j ∧ i < j)
theorem ordF_RO (ps : List Pc) : (ordF ps).Pairwise (RO ps) := by
  have h := List.pairwise_mergeSort (le := fun i j : Nat => decide (cmF ps i < cmF ps j ∨ (cmF ps i = cmF ps j ∧ (i : Int) ≤ (j : Int)))) (fun a b c h1 h2 => by simp only [decide_eq_true_eq] at h1 h2 ⊢; omega) (fun a b => by simp only [Bool.or_eq_true, decide_eq_true_eq]; omega) (List.range ps.length)
  have h : (ordF ps).Pairwise fun i j => decide (cmF ps i < cmF ps j ∨ (cmF ps i = cmF ps j ∧ (i : Int) ≤ (j : Int))) = true := h
  have nd : (ordF ps).Pairwise fun i j => i ≠ j := ordF_nodup ps
  refine (h.and nd).imp fun {i j} z => ?_
  have z1 := of_decide_eq_true z.1
  have z2 := z.2
  unfold RO
  omega
def atF (ps : List Pc) (z : Int) (j : Nat) : List Nat := (List.range j).filter fun p => decide (cmF ps p = z)
def runF (ps : List Pc) (zs : List Int) : List Nat := zs.flatMap fun z => atF ps z ps.length
theorem mem_atF {ps : List Pc} {z : Int} {j p : Nat} : p ∈ atF ps z j ↔ p < j ∧ cmF ps p = z := by
  unfold atF
  rw [List.mem_filter, List.mem_range, decide_eq_true_eq]
theorem mem_runF {ps : List Pc} {zs : List Int} {p : Nat} : p ∈ runF ps zs ↔ p < ps.length ∧ cmF ps p ∈ zs := by
  unfold runF
  rw [List.mem_flatMap]
  constructor
  · rintro ⟨z, hz, hp⟩
    obtain ⟨h1, rfl⟩ := mem_atF.mp hp
    exact ⟨h1, hz⟩
  · intro h
    exact ⟨_, h.2, mem_atF.mpr ⟨h.1, rfl⟩⟩
theorem atF_RO {ps : List Pc} {z : Int} {j : Nat} : (atF ps z j).Pairwise (RO ps) := by
  have h : (atF ps z j).Pairwise (· < ·) := List.pairwise_lt_range.sublist List.filter_sublist
  refine h.imp_of_mem fun {a b} ha hb l => .inr ⟨?_, l⟩
  rw [(mem_atF.mp ha).2, (mem_atF.mp hb).2]
theorem runF_RO {ps : List Pc} : ∀ {zs : List Int}, zs.Pairwise (· < ·) → (runF ps zs).Pairwise (RO ps)
  | [], _ => .nil
  | z :: zs, h => by
    obtain ⟨a1, a2⟩ := List.pairwise_cons.mp h
    unfold runF
    rw [List.flatMap_cons]
    refine List.pairwise_append.mpr ⟨atF_RO, runF_RO a2, fun a ha b hb => .inl ?_⟩
    have hb := (mem_runF (zs := zs)).mp hb
    rw [(mem_atF.mp ha).2]
    exact a1 _ hb.2
theorem run_ord {ps : List Pc} {zs : List Int} (h : HoursOk ps zs) : runF ps zs = ordF ps := by
  refine uniqR (R := RO ps) (fun a z => by unfold RO at z; omega) (fun a b z y => by unfold RO at z y; omega) (runF_RO h.1) (ordF_RO ps) fun k => ?_
  rw [mem_runF, ordF_mem]
  refine ⟨fun z => z.1, fun z => ⟨z, (h.2 _).mpr ?_⟩⟩
  unfold cmF
  rw [List.getD_eq_getElem?_getD, List.getElem?_eq_getElem z]
  exact List.mem_map.mpr ⟨_, List.getElem_mem z, rfl⟩
theorem atF_yes {ps : List Pc} {z : Int} {j : Nat} (e : cmF ps j = z) : atF ps z (j + 1) = atF ps z j ++ [j] := by
  unfold atF
  rw [List.range_succ, List.filter_append, List.filter_cons_of_pos (p := fun p => decide (cmF ps p = z)) (decide_eq_true e)]; rfl
theorem atF_no {ps : List Pc} {z : Int} {j : Nat} (e : ¬ cmF ps j = z) : atF ps z (j + 1) = atF ps z j := by
  unfold atF
  rw [List.range_succ, List.filter_append, List.filter_cons_of_neg (p := fun p => decide (cmF ps p = z)) (fun h => e (of_decide_eq_true h)), List.filter_nil, List.append_nil]
theorem runF_one {ps : List Pc} {zs : List Int} {i : Nat} {z : Int} (g : zs[i]? = some z) : runF ps (zs.take (i + 1)) = runF ps (zs.take i) ++ atF ps z ps.length := by
  unfold runF
  rw [List.take_add_one, g, List.flatMap_append]
  show _ ++ ([z].flatMap fun z => atF ps z ps.length) = _
  rw [List.flatMap_cons, List.flatMap_nil, List.append_nil]
theorem allS_app (ps : List Pc) (l : List Nat) (p : Nat) : allS ps (l ++ [p]) = stepS ps (allS ps l) p := by
  unfold allS
  rw [List.foldl_append]; rfl
def outF (ps : List Pc) (p : Nat) : Int := (ps.getD p pc0).1 + (ps.getD p pc0).2
/-- what is told of those that follow one another -/
def SR (ps : List Pc) (a b : Nat × Nat) : Prop := cmF ps a.1 ≤ cmF ps b.1 ∧ (cmF ps b.1 < outF ps a.1 → a.2 ≠ b.2)
theorem step_SR {ps : List Pc} {S : List (Nat × Nat)} {p : Nat} (h : S.Pairwise (SR ps)) (hc : ∀ q ∈ S, cmF ps q.1 ≤ cmF ps p) : (stepS ps S p).Pairwise (SR ps) := by
  unfold stepS
  refine List.pairwise_append.mpr ⟨h, List.pairwise_singleton _ _, fun a ha b hb => ?_⟩
  rw [List.mem_singleton.mp hb]
  refine ⟨hc a ha, fun lt e => (mex_is (ts := slF ps S p)).1 ?_⟩
  have e : a.2 = mexF (slF ps S p) := e
  rw [← e]
  unfold slF
  refine List.mem_map.mpr ⟨a, List.mem_filter.mpr ⟨ha, ?_⟩, rfl⟩
  have h1 := hc a ha
  have lt : cmF ps p < outF ps a.1 := lt
  unfold inB
  rw [Bool.and_eq_true, decide_eq_true_eq, decide_eq_true_eq]
  exact ⟨h1, lt⟩
theorem all_SR {ps : List Pc} : ∀ {l : List Nat} {S : List (Nat × Nat)}, S.Pairwise (SR ps) → (∀ q ∈ S, ∀ p ∈ l, cmF ps q.1 ≤ cmF ps p) → l.Pairwise (RO ps) → (l.foldl (stepS ps) S).Pairwise (SR ps)
  | [], _, h, _, _ => h
  | p :: l, S, h, hc, ho => by
    obtain ⟨a1, a2⟩ := List.pairwise_cons.mp ho
    rw [List.foldl_cons]
    refine all_SR (step_SR h fun q hq => hc q hq p List.mem_cons_self) (fun q hq r hr => ?_) a2
    unfold stepS at hq
    rcases List.mem_append.mp hq with z | z
    · exact hc q z r (List.mem_cons_of_mem _ hr)
    · rw [List.mem_singleton.mp z]
      show cmF ps p ≤ cmF ps r
      have := a1 _ hr
      unfold RO at this
      omega
theorem allS_SR {ps : List Pc} {l : List Nat} (h : l.Pairwise (RO ps)) : (allS ps l).Pairwise (SR ps) := all_SR .nil (fun _ hq => (List.not_mem_nil hq).elim) h
/-- who lies where at an hour, and until when -/
def lyF (ps : List Pc) (S : List (Nat × Nat)) (z : Int) : List (Nat × Int) := (S.filter fun q => decide (z < outF ps q.1)).map fun q => (q.2, outF ps q.1)
def lyK (l : List (Nat × Int)) : List (Key × V) := l.map fun q => (.inl ((q.1 : Nat) : Int), V.int q.2)
theorem ly_nodup {ps : List Pc} {S : List (Nat × Nat)} {z : Int} (h : S.Pairwise (SR ps)) (hc : ∀ q ∈ S, cmF ps q.1 ≤ z) : ((lyF ps S z).map (·.1)).Nodup := by
  unfold lyF
  rw [List.map_map]
  refine List.pairwise_map.mpr ?_
  have h1 : (S.filter fun q => decide (z < outF ps q.1)).Pairwise (SR ps) := h.sublist List.filter_sublist
  refine h1.imp_of_mem fun {a b} ha hb r => r.2 ?_
  have ha2 := of_decide_eq_true (List.mem_filter.mp ha).2
  have := hc b (List.mem_filter.mp hb).1
  omega
theorem ly_later {ps : List Pc} {S : List (Nat × Nat)} {y z : Int} (h : y ≤ z) : (lyF ps S y).filter (fun q => decide (z < q.2)) = lyF ps S z := by
  unfold lyF
  rw [List.filter_map, List.filter_filter]
  refine congrArg _ (List.filter_congr fun q _ => ?_)
  show (decide (z < outF ps q.1) && decide (y < outF ps q.1)) = _
  by_cases h1 : z < outF ps q.1
  · rw [decide_eq_true h1, decide_eq_true (by omega)]; rfl
  · rw [decide_eq_false h1]; rfl
theorem ly_keys {ps : List Pc} {S : List (Nat × Nat)} {p : Nat} (hc : ∀ q ∈ S, cmF ps q.1 ≤ cmF ps p) : (lyF ps S (cmF ps p)).map (·.1) = slF ps S p := by
  unfold lyF slF
  rw [List.map_map]
  show List.map (fun q : Nat × Nat => q.2) _ = List.map (fun q : Nat × Nat => q.2) _
  refine congrArg _ (List.filter_congr fun q hq => ?_)
  unfold inB outF
  have := hc q hq
  rw [show decide ((ps.getD q.1 pc0).1 ≤ cmF ps p) = true from decide_eq_true this]; rfl
theorem ly_step {ps : List Pc} {S : List (Nat × Nat)} {p : Nat} (hp : 1 ≤ (ps.getD p pc0).2) : lyF ps (stepS ps S p) (cmF ps p) = lyF ps S (cmF ps p) ++ [(mexF (slF ps S p), outF ps p)] := by
  unfold lyF stepS
  rw [List.filter_append, List.filter_cons_of_pos (p := fun q : Nat × Nat => decide (cmF ps p < outF ps q.1)) (decide_eq_true (by unfold cmF outF; show (ps.getD p pc0).1 < (ps.getD p pc0).1 + (ps.getD p pc0).2; omega)), List.filter_nil, List.map_append]; rfl
/-- what has been found so far -/
def fdF (n : Nat) (S : List (Nat × Nat)) : List V := (List.range n).map fun p => if p ∈ S.map (·.1) then natV (getS S p) else V.non
theorem fd_step {n : Nat} {S : List (Nat × Nat)} {j x : Nat} (nd : ((S ++ [(j, x)]).map (·.1)).Nodup) (hj : j < n) : (fdF n S).set j (natV x) = fdF n (S ++ [(j, x)]) := by
  have nd0 : (S.map (·.1)).Nodup := by rw [List.map_append] at nd; exact (List.nodup_append.mp nd).1
  unfold fdF
  refine List.ext_getElem (by simp) fun i h1 h2 => ?_
  rw [List.getElem_set, List.getElem_map, List.getElem_range]
  by_cases e : j = i
  · subst e
    rw [if_pos rfl, List.getElem_map, List.getElem_range, if_pos (List.mem_map.mpr ⟨(j, x), List.mem_append_right _ List.mem_cons_self, rfl⟩), getS_nodup nd (List.mem_append_right _ List.mem_cons_self)]
  · rw [if_neg e, List.getElem_map, List.getElem_range]
    by_cases hi : i ∈ S.map (·.1)
    · rw [if_pos hi, if_pos (by rw [List.map_append]; exact List.mem_append_left _ hi)]
      have := (getS_of hi).2
      rw [getS_nodup nd (List.mem_append_left _ this)]
    · rw [if_neg hi, if_neg]
      rw [List.map_append]
      intro z
      rcases List.mem_append.mp z with z | z
      · exact hi z
      · exact e (List.mem_singleton.mp z).symm
theorem fd_end {ps : List Pc} : fdF ps.length (allS ps (ordF ps)) = (List.range ps.length).map fun p => natV (getS (allS ps (ordF ps)) p) := by
  unfold fdF
  refine List.map_congr_left fun p hp => ?_
  rw [if_pos (by rw [keys_all]; exact ordF_mem.mpr (List.mem_range.mp hp))]
theorem fd_len (n : Nat) (S : List (Nat × Nat)) : (fdF n S).length = n := by unfold fdF; rw [List.length_map, List.length_range]
theorem valV_lyK {l : List (Nat × Int)} : ∀ {k : Nat}, (valV (lyK l) (.inl ((k : Nat) : Int))).isSome = decide (k ∈ l.map (·.1)) := by
  intro k
  rw [← valV_any]
  unfold lyK
  rw [List.any_map, Bool.eq_iff_iff, List.any_eq_true, decide_eq_true_eq, List.mem_map]
  constructor
  · rintro ⟨q, hq, h⟩
    have := Sum.inl.inj (of_decide_eq_true h)
    exact ⟨q, hq, by omega⟩
  · rintro ⟨q, hq, rfl⟩
    exact ⟨q, hq, decide_eq_true rfl⟩
theorem drop_lyK (l : List (Nat × Int)) (k : Nat) : dropK (lyK l) (.inl ((k : Nat) : Int)) = lyK (l.filter fun q => decide (q.1 ≠ k)) := by
  unfold dropK lyK
  rw [List.filter_map]
  refine congrArg _ (List.filter_congr fun q _ => ?_)
  show decide (Sum.inl ((q.1 : Nat) : Int) ≠ Sum.inl ((k : Nat) : Int)) = decide (q.1 ≠ k)
  rw [Bool.eq_iff_iff, decide_eq_true_eq, decide_eq_true_eq]
  refine not_congr ⟨fun h => by have := Sum.inl.inj h; omega, fun h => by rw [h]⟩
theorem put_lyK {l : List (Nat × Int)} {k : Nat} {v : Int} (h : k ∉ l.map (·.1)) : putK (lyK l) (.inl ((k : Nat) : Int)) (V.int v) = lyK (l ++ [(k, v)]) := by
  rw [putK_new (fun q hq e => by
    obtain ⟨z, hz, rfl⟩ := List.mem_map.mp hq
    have := Sum.inl.inj e
    have e2 : z.1 = k := by omega
    exact h (List.mem_map.mpr ⟨z, hz, e2⟩))]
  unfold lyK
  rw [List.map_append]; rfl
/-- those gone behind i of the slots -/
def goneF (l : List (Nat × Int)) (z : Int) : List Nat := (l.filter fun q => decide (q.2 ≤ z)).map (·.1)
def stayF (l : List (Nat × Int)) (ks : List Nat) : List (Nat × Int) := l.filter fun q => decide (q.1 ∉ ks)
theorem stay_one {l : List (Nat × Int)} {ks : List Nat} {i k : Nat} (g : ks[i]? = some k) : (stayF l (ks.take i)).filter (fun q => decide (q.1 ≠ k)) = stayF l (ks.take (i + 1)) := by
  unfold stayF
  rw [List.filter_filter]
  refine List.filter_congr fun q _ => ?_
  rw [List.take_add_one, g, ← Bool.decide_and, Bool.eq_iff_iff, decide_eq_true_eq, decide_eq_true_eq, List.mem_append]
  show _ ↔ ¬(_ ∨ q.1 ∈ [k])
  rw [List.mem_singleton]
  constructor
  · rintro ⟨a, b⟩ (c | c)
    · exact b c
    · exact a c
  · intro h
    exact ⟨fun c => h (.inr c), fun c => h (.inl c)⟩
theorem stay_end {l : List (Nat × Int)} {z : Int} (nd : (l.map (·.1)).Nodup) : stayF l (goneF l z) = l.filter fun q => decide (z < q.2) := by
  unfold stayF
  refine List.filter_congr fun q hq => ?_
  rw [Bool.eq_iff_iff, decide_eq_true_eq, decide_eq_true_eq]
  unfold goneF
  rw [List.mem_map]
  constructor
  · intro h
    rcases Int.lt_or_le z q.2 with c | c
    · exact c
    · exact absurd ⟨q, List.mem_filter.mpr ⟨hq, decide_eq_true c⟩, rfl⟩ h
  · rintro h ⟨r, hr, e⟩
    obtain ⟨h1, h2⟩ := List.mem_filter.mp hr
    have h2 := of_decide_eq_true h2
    have e2 : r = q := by
      obtain ⟨i, hi, rfl⟩ := List.getElem_of_mem hq
      obtain ⟨j, hj, rfl⟩ := List.getElem_of_mem h1
      have := (List.getElem_inj (xs := l.map (·.1)) (h₀ := by rw [List.length_map]; exact hj) (h₁ := by rw [List.length_map]; exact hi) nd).mp (by rw [List.getElem_map, List.getElem_map]; exact e)
      subst this; rfl
    rw [e2] at h2
    omega

end
end Pot





namespace Pot
open PySem PySem.Spec PyProof.Rows L2
section
variable {P : Program} {w : World} {K : PySem.W.Frag} {mg : Str → Option Value} {base : Heap}
abbrev s__law_slots : Stmt := topS 12
def n__law_slots : List Str := ["_law_pieces_here", "_law_found", "_law_lying", "_law_come", "_law_slot", "_law_number", "_law_own", "_law_cool", "_law_free", "_law_out", "_law_piece"]
theorem sc__law_slots : FnScope n__law_slots ["_law_pieces_here"] (defScope s__law_slots) := ⟨rfl, rfl, rfl, by decide +kernel, rfl, by decide +kernel, by decide +kernel⟩
def spLSlots (K : PySem.W.Frag) : Sp := fun vs H Q _ => ∃ (a : Addr) (xs : List V) (ps : List Pc), vs = [.ref a] ∧ SqL K H a xs ∧ DpAll K H xs (ps.map pcD) ∧ ps.length ≤ 60 ∧ PcOk ps ∧ ∀ (H' : Hp) (L : Addr), Same H H' → H L = none → H' L = some (.lst ((List.range ps.length).map fun p => natV (getS (allS ps (ordF ps)) p))) → Q (.ref L) H'
theorem same_smF {H H3 Hz : Hp} {S : List Addr} (s : Same H H3) (t : Sm S H3 Hz) (n : ∀ x ∈ S, H x = none) : Same H Hz := fun b o e => sm_at t (fun h => by rw [n b h] at e; cases e) (s _ _ e)
theorem fd_nil (n : Nat) : (List.replicate n [V.non]).flatten = fdF n [] := by
  rw [List.flatten_replicate_singleton]
  unfold fdF
  refine List.ext_getElem (by simp) fun i h1 h2 => ?_
  simp
theorem ok_lslots {f : Addr} {fd : FuncData} {k : Nat} (F : Fun K "_law_slots" "_law_slots" s__law_slots f fd) (T : Txt mg) : FnOk P w K mg base CX0 (k + 1) f fd ["_law_pieces_here"] (spLSlots K) := by
  refine F.ok sc__law_slots (fun vs H Q E h => ?_) (fun cdv A outer s H vs Q E hr h => ?_)
  · obtain ⟨a, xs, ps, rfl, _⟩ := h
    rfl
  · obtain ⟨a, xs, ps, rfl, hS, dx, l60, ok, q⟩ := h
    have nd := sc__law_slots.nd
    have hu := hu_of hr
    have lx : xs.length = ps.length := dpAll_map_len dx
    /- 0 _law_pieces_here, 1 _law_found, 2 _law_lying, 3 _law_come, 4 _law_slot, 5 _law_number, 6 _law_own, 7 _law_cool, 8 _law_free, 9 _law_out, 10 _law_piece -/
    refine ⟨_, (pss_cons (ps_par (i := 1) (j := 2) rfl nd rfl rfl (by decide) rfl rfl (pa_cons (pe_op op_rep (pe_lst (pa_cons pe_non pa_nil)) (pe_callB (kc_len (K := K)) (by rfl) T.len PySem.boot_len (pa_cons (pv 0) pa_nil))) (pa_cons pe_dnewK pa_nil)) rfl)
      (pss_cons (ps_for PassesOwn.never rfl (ki_list (K := K) (pe_callB (kc_sortedSet (w := w)) (by rfl) T.sorted (by decide +kernel) (pa_cons (pe_callTy (kc_setLj (K := K) (w := w)) (by rfl) T.set (by decide +kernel) (pa_cons (pe_lc (own := [("_law_piece", 10)]) rfl nd (ki_list (K := K) (pv 0)) (blkOk_by (N := n__law_slots) (sc := defScope s__law_slots) (by decide +kernel)) (fun _ _ _ _ _ => (pg_name (i := 10) nd rfl (.inl rfl))) (fun _ _ _ _ _ => pts_nil) (fun _ _ _ _ _ => (pe_ix (kx_tup (K := K)) (pv 10) pe_int (fun _ _ => rfl)))) pa_nil)) pa_nil))) (pg_name (i := 3) nd rfl (.inr rfl))
          (pss_cons (ps_for PassesOwn.never rfl (ki_list (K := K) (pe_lock (pe_lc (own := [("_law_slot", 4), ("_law_out", 9)]) rfl nd (pi_items (pv 2)) (blkOk_by (N := n__law_slots) (sc := defScope s__law_slots) (by decide +kernel)) (fun _ _ _ _ _ => (kg_tup (K := K) (n := 2) (pgs_cons (pg_name (i := 4) nd rfl (.inl rfl)) (pgs_cons (pg_name (i := 9) nd rfl (.inl rfl)) pgs_nil)))) (fun _ _ _ _ _ => (pts_one (pt_cmpR op_le (pv 9) (pv 3) (nomark _)))) (fun _ _ _ _ _ => (pv 4))))) (pg_name (i := 4) nd rfl (.inl rfl))
              (pss_one (ps_expr (pe_dpop1 (pv 2) (pv 4) ⟨rfl, rfl, rfl, rfl⟩))))
          (pss_one (ps_for PassesOwn.never rfl (ki_enum (K := K) (by rfl) T.enumerate (pa_cons (pv 0) pa_nil)) (kg_tup (K := K) (n := 2) (pgs_cons (pg_name (i := 5) nd rfl (.inl rfl)) (pgs_cons (kg_tup (K := K) (n := 2) (pgs_cons (pg_name (i := 6) nd rfl (.inl rfl)) (pgs_cons (pg_name (i := 7) nd rfl (.inl rfl)) pgs_nil))) pgs_nil)))
              (pss_one (ps_if (pt_cmpR op_eq (pv 6) (pv 3) (nomark _))
                  (pss_cons (ps_set (i := 8) nd rfl (.inl rfl) pe_int)
                  (pss_cons (ps_while PassesOwn.never (pt_cmp (pc_din hu (pv 8) (pv 2)))
                      (pss_one (ps_set (i := 8) nd rfl (.inl rfl) (pe_op op_add (pv 8) pe_int))))
                  (pss_one (ps_asg (pe_tup (pa_cons (pv 8) (pa_cons (pe_op op_add (pv 3) (pv 7)) pa_nil))) (kg_tup (K := K) (n := 2) (pgs_cons (pg_sub (pv 1) (pv 5) set_list) (pgs_cons (pg_sub (pv 2) (pv 8) (set_dict hu)) pgs_nil)))))))
                  pss_nil))))))
      (pss_one (ps_ret (pv 1))))), ?_⟩
    refine ⟨(by show 1 ≤ sizeLine; decide), fun L0 n0 => ?_⟩
    have s0 := same_upd (o := .lst [V.non]) n0
    refine ⟨_, rfl, _, _, rfl, .inl ⟨_, s0.seq hS, rfl⟩, L0, (xs.length : Int), [V.non], rfl, rfl, upd_same, (by omega), (by omega), (by rw [sizeLine_eq, Int.toNat_natCast]; show 1 * xs.length ≤ _; omega), fun L nL => ?_⟩
    rw [Int.toNat_natCast, fd_nil, lx]
    have s1 := s0.trans (same_upd (o := .lst (fdF ps.length [])) nL)
    have nL0 := s0.free nL
    have hL : upd (upd H L0 (.lst [V.non])) L (.lst (fdF ps.length [])) L = _ := upd_same
    generalize upd (upd H L0 (.lst [V.non])) L (.lst (fdF ps.length [])) = H1 at s1 hL ⊢
    clear s0 n0 nL
    refine fun D nD => ⟨_, _, rfl, ?_⟩
    have LD : L ≠ D := ne_of_none hL nD
    have nD0 := s1.free nD
    have s2 := s1.trans (same_upd (o := .dK []) nD)
    have hL := (same_upd (o := .dK []) nD) _ _ hL
    have hD : upd H1 D (.dK []) D = _ := upd_same
    generalize upd H1 D (.dK []) = H2 at s2 hL hD ⊢
    clear nD s1
    have est : ((L2.start n__law_slots [V.ref a]).set 1 (some (V.ref L))).set 2 (some (V.ref D)) = [some (.ref a), some (.ref L), some (.ref D), none, none, none, none, none, none, none, none] := rfl
    show tSeq _ _ _ (((L2.start n__law_slots [V.ref a]).set 1 (some (V.ref L))).set 2 (some (V.ref D))) _
    rw [est]
    refine ⟨_, rfl, a, rfl, ⟨_, s2.seq hS⟩, fun C nC => ?_⟩
    refine lc_it (walk_list (xs := xs)) (PvL H2 C fun i => ((ps.map (·.1)).take i).map V.int) (pv_start nC rfl) (fun i H4 _ h => (s2.trans h.1).seq hS) ?_ ?_
    · rintro i y H4 H5 hi p ⟨rfl, gx⟩
      obtain ⟨b, rfl, hb, hi2, _⟩ := pcs_at (dpAll_same (s2.trans p.1) dx) gx
      refine ⟨rfl, tYes_at ?_⟩
      rw [if_pos rfl]
      refine ⟨_, rfl, b, _, 0, _, rfl, rfl, hb, rfl, ?_⟩
      exact pv_put nC p (Same.refl _) (take_map V.int (by rw [List.getElem?_map, List.getElem?_eq_getElem hi2]; show some _ = some (ps.getD i pc0).1; rw [List.getD_eq_getElem?_getD, List.getElem?_eq_getElem hi2]; rfl)) (take_len_le (by rw [List.length_map]; omega))
    · intro H4 p
      obtain ⟨s4, hC⟩ := pv_end p (take_all (by rw [List.length_map, lx]; exact Nat.le_refl _))
      clear p
      have ln : (ps.map (·.1)).length ≤ 60 := by rw [List.length_map]; exact l60
      refine ⟨C, ps.map (·.1), rfl, SqL.of hC, (by omega), fun p1 ks np1 nod mem => ?_⟩
      refine ⟨p1, _, _, rfl, upd_same, ?_, fun zs p2 hz hm hl np2 => ?_⟩
      · have := nodup_le (l := ps.map (·.1)) nod fun k hk => (mem k).mp hk
        omega
      have s5 := (s4.trans (same_upd (o := SetO w p1 (fun k => decide (k ∈ ps.map (·.1))) ks.length) np1)).trans (same_upd (o := .lst (zs.map V.int)) np2)
      have hO : HoursOk ps zs := ⟨hz, fun k => by rw [hm k, decide_eq_true_eq]⟩
      have hP : upd (upd H4 p1 (SetO w p1 (fun k => decide (k ∈ ps.map (·.1))) ks.length)) p2 (.lst (zs.map V.int)) p2 = _ := upd_same
      have nP : H2 p2 = none := s4.free ((same_upd np1).free np2)
      generalize upd (upd H4 p1 (SetO w p1 (fun k => decide (k ∈ ps.map (·.1))) ks.length)) p2 (.lst (zs.map V.int)) = H6 at s5 hP ⊢
      have pL : p2 ∉ [L, D] := by
        intro h
        rcases List.mem_cons.mp h with e | e
        · rw [e, hL] at nP; cases nP
        · rw [List.mem_singleton.mp e, hD] at nP; cases nP
      have fr : ∀ x ∈ [L, D], H x = none := fun x hx => by
        rcases List.mem_cons.mp hx with e | e
        · rw [e]; exact nL0
        · rw [List.mem_singleton.mp e]; exact nD0
      have s6 := s2.trans s5
      have hL := s5 _ _ hL
      have hD := s5 _ _ hD
      clear s4 hC np1 np2 mem nod hm hl s5 s2 nC nP
      refine ⟨p2, rfl, ⟨_, SqL.of hP⟩, ?_⟩
      refine for_it (walk_list (xs := zs.map V.int)) (fun i σ Hz => ∃ (v3 v4 v5 v6 v7 v8 v9 va : Option V), σ = [some (.ref a), some (.ref L), some (.ref D), v3, v4, v5, v6, v7, v8, v9, va] ∧ Sm [L, D] H6 Hz ∧ Hz L = some (.lst (fdF ps.length (allS ps (runF ps (zs.take i))))) ∧ Hz D = some (.dK (lyK (lyF ps (allS ps (runF ps (zs.take i))) (zs.getD (i - 1) 0))))) ⟨_, _, _, _, _, _, _, _, rfl, Same.refl _, hL, hD⟩ (fun i σ Hz _ h => by obtain ⟨_, _, _, _, _, _, _, _, _, h, _⟩ := h; exact SqL.of (sm_at h pL hP)) ?_ ?_
      · rintro i y σ Hz Hw hi ⟨v3, v4, v5, v6, v7, v8, v9, va, rfl, sz, hLz, hDz⟩ ⟨rfl, gy⟩
        rw [List.getElem?_map] at gy
        obtain ⟨z, gz, rfl⟩ := Option.map_eq_some_iff.mp gy
        have hi2 : i < zs.length := by rw [List.length_map] at hi; exact hi
        have lz : ∀ p ∈ runF ps (zs.take i), cmF ps p < z := fun p hp => by
          obtain ⟨j, hj, e⟩ := List.getElem_of_mem (mem_runF.mp hp).2
          rw [List.getElem_take] at e
          have hj2 : j < i := by rw [List.length_take] at hj; omega
          have := List.pairwise_iff_getElem.mp hO.1 j i (by omega) hi2 hj2
          rw [List.getElem?_eq_getElem hi2] at gz
          rw [Option.some.inj gz] at this
          omega
        have yz : zs.getD (i - 1) 0 ≤ z := by
          rw [List.getD_eq_getElem?_getD, List.getElem?_eq_getElem (show i - 1 < zs.length by omega)]
          rw [List.getElem?_eq_getElem hi2] at gz
          have e := Option.some.inj gz
          show zs[i - 1] ≤ z
          rcases Nat.eq_zero_or_pos i with h | h
          · subst h; rw [← e]; exact Int.le_refl _
          · have := List.pairwise_iff_getElem.mp hO.1 (i - 1) i (by omega) hi2 (by omega)
            omega
        have yk : ∀ p ∈ runF ps (zs.take i), cmF ps p ≤ zs.getD (i - 1) 0 := fun p hp => by
          obtain ⟨j, hj, e⟩ := List.getElem_of_mem (mem_runF.mp hp).2
          rw [List.getElem_take] at e
          have hj2 : j < i := by rw [List.length_take] at hj; omega
          rw [List.getD_eq_getElem?_getD, List.getElem?_eq_getElem (show i - 1 < zs.length by omega)]
          show cmF ps p ≤ zs[i - 1]
          rcases Nat.lt_or_ge j (i - 1) with h | h
          · have := List.pairwise_iff_getElem.mp hO.1 j (i - 1) (by omega) (by omega) h
            omega
          · have : j = i - 1 := by omega
            subst this
            omega
        have hRO : (runF ps (zs.take i)).Pairwise (RO ps) := runF_RO (hO.1.sublist (List.take_sublist _ _))
        have hRO2 : (runF ps (zs.take (i + 1))).Pairwise (RO ps) := runF_RO (hO.1.sublist (List.take_sublist _ _))
        have zn : zs.getD (i + 1 - 1) 0 = z := by rw [Nat.add_sub_cancel, List.getD_eq_getElem?_getD, gz]; rfl
        have eone := runF_one (ps := ps) gz
        rw [zn, eone]
        rw [eone] at hRO2
        have lr : ∀ p ∈ runF ps (zs.take i), p < ps.length := fun p hp => (mem_runF.mp hp).1
        have lln : (runF ps (zs.take i)).length ≤ 40 := by
          have nd1 : (runF ps (zs.take i)).Nodup := hRO.imp fun {a b} h e => by unfold RO at h; rw [e] at h; omega
          have := nodup_leG (ts := List.range ps.length) nd1 fun x hx => List.mem_range.mpr (mem_runF.mp hx).1
          rw [List.length_range] at this
          have := ok.len
          omega
        generalize runF ps (zs.take i) = l0 at hLz hDz lz yk lr hRO hRO2 lln ⊢
        have keys0 : ∀ q ∈ allS ps l0, q.1 ∈ l0 := fun q hq => by
          have : q.1 ∈ (allS ps l0).map (·.1) := List.mem_map.mpr ⟨q, hq, rfl⟩
          rw [keys_all] at this; exact this
        have nd0 := ly_nodup (allS_SR hRO) (z := zs.getD (i - 1) 0) fun q hq => yk _ (keys0 q hq)
        have lat := ly_later (ps := ps) (S := allS ps l0) yz
        have lly : (lyF ps (allS ps l0) (zs.getD (i - 1) 0)).length ≤ 40 := by
          unfold lyF
          rw [List.length_map]
          have h1 := List.length_filter_le (fun q : Nat × Nat => decide (zs.getD (i - 1) 0 < outF ps q.1)) (allS ps l0)
          have h2 := congrArg List.length (keys_all (ps := ps) l0)
          rw [List.length_map] at h2
          omega
        generalize lyF ps (allS ps l0) (zs.getD (i - 1) 0) = ly at hDz nd0 lat lly
        refine ⟨D, _, hDz, trivial, fun od => ?_⟩
        have hF : upd Hw D (.frz od (.dK (lyK ly))) D = some (.frz od (.dK (lyK ly))) := upd_same
        have sF : Sm [L, D] H6 (upd Hw D (.frz od (.dK (lyK ly)))) := sz.trans (sm_wr (by simp))
        have hLF : upd Hw D (.frz od (.dK (lyK ly))) L = _ := (upd_ne LD).trans hLz
        generalize upd Hw D (.frz od (.dK (lyK ly))) = HF at hF sF hLF ⊢
        refine ⟨_, rfl, D, od, _, rfl, hF, fun C nC => ?_⟩
        refine lc_it (walk_items (kvs := lyK ly)) (PvL HF C fun j => (goneF (ly.take j) z).map natV) (pv_start nC rfl) (fun j H4 _ h => h.1 _ _ hF) ?_ ?_
        · rintro j y Ha Hb hj pz ⟨u, x1, x2, rfl, nu, rfl, g1, g2⟩
          have hj2 : j < ly.length := by unfold lyK at hj; rw [List.length_map] at hj; exact hj
          have gl := List.getElem?_eq_getElem hj2
          have gk : (lyK ly)[j]? = some (.inl ((ly[j].1 : Nat) : Int), V.int ly[j].2) := by unfold lyK; rw [List.getElem?_map, gl]; rfl
          replace g1 : ((lyK ly)[j]?.map fun kv => kV kv.1) = some x1 := g1
          replace g2 : ((lyK ly)[j]?.map Prod.snd) = some x2 := g2
          rw [gk] at g1 g2
          cases Option.some.inj g1
          cases Option.some.inj g2
          have eg : goneF (ly.take (j + 1)) z = goneF (ly.take j) z ++ (if ly[j].2 ≤ z then [ly[j].1] else []) := by
            unfold goneF
            rw [List.take_add_one, gl, List.filter_append, List.map_append]
            show _ ++ List.map _ (List.filter _ [ly[j]]) = _
            by_cases h : ly[j].2 ≤ z
            · rw [if_pos h, List.filter_cons_of_pos (p := fun q : Nat × Int => decide (q.2 ≤ z)) (decide_eq_true h)]; rfl
            · rw [if_neg h, List.filter_cons_of_neg (p := fun q : Nat × Int => decide (q.2 ≤ z)) (fun e => h (of_decide_eq_true e))]; rfl
          have lf : ((goneF (ly.take j) z).map natV).length < sizeLine := by
            unfold goneF
            rw [List.length_map, List.length_map, sizeLine_eq]
            have h1 := List.length_filter_le (fun q : Nat × Int => decide (q.2 ≤ z)) (ly.take j)
            have h2 := List.length_take (i := j) (l := ly)
            omega
          generalize ly[j] = e0 at gl eg gk
          have su := same_upd (o := .tup [kV (.inl ((e0.1 : Nat) : Int)), V.int e0.2]) nu
          refine ⟨u, _, rfl, .inl (.inl upd_same), rfl, _, _, rfl, _, _, rfl, rfl, rfl, _, rfl, _, rfl, _, _, rfl, rfl, _, rfl, ite2 (fun h1 => ?_) (fun h1 => ?_)⟩
          · have h1 : e0.2 ≤ z := of_decide_eq_true h1
            refine ⟨_, rfl, ?_⟩
            exact pv_put nC pz su (by show List.map natV (goneF (ly.take (j + 1)) z) = _; rw [eg, if_pos h1, List.map_append]; rfl) lf
          · have h1 : ¬ e0.2 ≤ z := fun e => h1 (decide_eq_true e)
            exact pv_skip pz su (by show List.map natV (goneF (ly.take (j + 1)) z) = _; rw [eg, if_neg h1, List.append_nil])
        · intro H7 pz
          obtain ⟨s7, hC⟩ := pv_end pz (show _ = (goneF ly z).map natV by unfold lyK; rw [List.length_map, List.take_length])
          clear pz
          have hF7 := s7 _ _ hF
          refine ⟨hF7, ?_⟩
          have CD : C ≠ D := fun e => by rw [e, hF] at nC; cases nC
          have CL : C ≠ L := fun e => by rw [e, hLF] at nC; cases nC
          have hL7 : upd H7 D (.dK (lyK ly)) L = _ := (upd_ne LD).trans (s7 _ _ hLF)
          have hD7 : upd H7 D (.dK (lyK ly)) D = _ := upd_same
          have hC7 : upd H7 D (.dK (lyK ly)) C = _ := (upd_ne CD).trans hC
          have s8 : Sm [L, D] H6 (upd H7 D (.dK (lyK ly))) := (sF.trans (sm_of s7)).trans (sm_wr (by simp))
          generalize upd H7 D (.dK (lyK ly)) = H8 at hL7 hD7 hC7 s8 ⊢
          clear hF hF7 s7 hC sF hLF nC
          refine ⟨C, rfl, ⟨_, SqL.of hC7⟩, ?_⟩
          have gnd : (goneF ly z).Nodup := nd0.sublist (List.filter_sublist.map _)
          have gsub : ∀ k ∈ goneF ly z, k ∈ ly.map (·.1) := fun k hk => (List.filter_sublist.map _).subset hk
          have stl : ∀ ks, (stayF ly ks).length ≤ 40 := fun ks => Nat.le_trans (List.length_filter_le _ _) lly
          refine for_it (walk_list (xs := (goneF ly z).map natV)) (fun j σ Hv => ∃ (v4 v5 v6 v7 v8 v9 va : Option V), σ = [some (.ref a), some (.ref L), some (.ref D), some (.int z), v4, v5, v6, v7, v8, v9, va] ∧ Sm [D] H8 Hv ∧ Hv D = some (.dK (lyK (stayF ly ((goneF ly z).take j))))) ⟨_, _, _, _, _, _, _, rfl, Same.refl _, ?_⟩ (fun j σ Hv _ h => by obtain ⟨_, _, _, _, _, _, _, _, h, _⟩ := h; exact SqL.of (sm_at h (by simp [CD]) hC7)) ?_ ?_
          · rw [hD7, List.take_zero]
            unfold stayF
            rw [List.filter_eq_self.mpr fun q _ => decide_eq_true (List.not_mem_nil)]
          · rintro j y σ Ha Hb hj ⟨v4, v5, v6, v7, v8, v9, va, rfl, sv, hDv⟩ ⟨rfl, gy⟩
            rw [List.getElem?_map] at gy
            obtain ⟨k0, gk, rfl⟩ := Option.map_eq_some_iff.mp gy
            have hm : k0 ∈ (stayF ly ((goneF ly z).take j)).map (·.1) := by
              obtain ⟨q0, hq, rfl⟩ := List.mem_map.mp (gsub _ (List.mem_of_getElem? gk))
              exact List.mem_map.mpr ⟨q0, List.mem_filter.mpr ⟨hq, decide_eq_true (take_new gnd gk)⟩, rfl⟩
            have hv := valV_lyK (l := stayF ly ((goneF ly z).take j)) (k := k0)
            rw [decide_eq_true hm] at hv
            obtain ⟨v, ev⟩ := Option.isSome_iff_exists.mp hv
            refine ⟨_, rfl, D, rfl, .inl ⟨_, .inl hDv⟩, _, rfl, _, .inl ((k0 : Nat) : Int), v, hDv, rfl, ev, ?_⟩
            refine ⟨_, _, _, _, _, _, _, rfl, sv.trans (sm_wr (by simp)), ?_⟩
            rw [upd_same, drop_lyK, stay_one gk]
          · rintro σ Hz ⟨v4, v5, v6, v7, v8, v9, va, rfl, sv, hDv⟩
            rw [List.length_map, List.take_length, stay_end nd0, lat] at hDv
            have hLv : Hz L = some (.lst (fdF ps.length (allS ps (l0 ++ atF ps z 0)))) := by
              show Hz L = some (HO.lst (fdF ps.length (allS ps (l0 ++ []))))
              rw [List.append_nil]
              exact sm_at sv (by simp [LD]) hL7
            have hDv : Hz D = some (.dK (lyK (lyF ps (allS ps (l0 ++ atF ps z 0)) z))) := by
              show Hz D = some (HO.dK (lyK (lyF ps (allS ps (l0 ++ [])) z)))
              rw [List.append_nil]
              exact hDv
            have sw : Sm [L, D] H6 Hz := s8.trans (fun x u e => by
              have n := off_mem e
              rw [off_out n] at e ⊢
              exact sm_at sv (fun h => n (by rw [List.mem_singleton.mp h]; simp)) e)
            clear sv hC7 hL7 hD7 s8 gnd gsub stl CD CL
            have sH := same_smF s6 sw fr
            refine ⟨_, rfl, a, _, rfl, sH.seq hS, ?_⟩
            refine for_it (walk_enum (xs := xs)) (fun j σ Hy => ∃ (v4 v5 v6 v7 v8 v9 va : Option V), σ = [some (.ref a), some (.ref L), some (.ref D), some (.int z), v4, v5, v6, v7, v8, v9, va] ∧ Sm [L, D] H6 Hy ∧ Hy L = some (.lst (fdF ps.length (allS ps (l0 ++ atF ps z j)))) ∧ Hy D = some (.dK (lyK (lyF ps (allS ps (l0 ++ atF ps z j)) z)))) ⟨_, _, _, _, _, _, _, rfl, sw, hLv, hDv⟩ (fun j σ Hy _ h => by obtain ⟨_, _, _, _, _, _, _, _, h, _⟩ := h; exact (same_smF s6 h fr).seq hS) ?_ ?_
            · clear hLv hDv sw sH
              rintro j y σ Hy Hx hj ⟨v4, v5, v6, v7, v8, v9, va, rfl, sy, hLy, hDy⟩ ⟨u, x1, x2, rfl, nu, rfl, g1, g2⟩
              cases g1
              replace g2 : xs[j]? = some x2 := g2
              have dy := dpAll_same (same_smF s6 sy fr) dx
              obtain ⟨b, rfl, hb, hj2, _⟩ := pcs_at dy g2
              have su := same_upd (o := .tup [.int (j : Nat), .ref b]) nu
              have fu : upd Hy u (.tup [.int (j : Nat), .ref b]) u = some (.tup [.int (j : Nat), .ref b]) := upd_same
              have hb := same_tup su hb
              have sy := sy.trans (sm_of su)
              have hLy := su _ _ hLy
              have hDy := su _ _ hDy
              generalize upd Hy u (.tup [.int (j : Nat), .ref b]) = Hx at fu hb sy hLy hDy ⊢
              clear su dy
              refine ⟨u, _, rfl, .inl (.inl fu), rfl, _, _, rfl, _, _, rfl, b, _, rfl, hb, rfl, _, _, rfl, _, _, rfl, rfl, rfl, ?_⟩
              refine ⟨_, rfl, _, rfl, rfl, _, rfl, ite2 (fun h1 => ?_) (fun h1 => ?_)⟩
              · have ej : cmF ps j = z := V.int.inj (of_decide_eq_true h1)
                rw [atF_yes ej, ← List.append_assoc, allS_app]
                have hsub : ((l0 ++ atF ps z j) ++ [j]).Sublist (l0 ++ atF ps z ps.length) := by
                  rw [List.append_assoc, ← atF_yes ej]
                  refine List.Sublist.append (List.Sublist.refl _) ?_
                  unfold atF
                  exact (List.range_sublist.mpr hj2).filter _
                have hR3 := hRO2.sublist hsub
                have nd3 : ((l0 ++ atF ps z j) ++ [j]).Nodup := hR3.imp fun {a b} h e => by unfold RO at h; rw [e] at h; omega
                have hle : ∀ p ∈ l0 ++ atF ps z j, cmF ps p ≤ cmF ps j := fun p hp => by
                  rcases List.mem_append.mp hp with h | h
                  · have := lz _ h; omega
                  · rw [(mem_atF.mp h).2, ej]; exact Int.le_refl _
                have len3 : (l0 ++ atF ps z j).length ≤ 60 := by
                  have h1 := nodup_leG (ts := List.range ps.length) nd3 fun x hx => by
                    refine List.mem_range.mpr ?_
                    rcases List.mem_append.mp hx with h | h
                    · rcases List.mem_append.mp h with h | h
                      · exact lr _ h
                      · exact Nat.lt_trans (mem_atF.mp h).1 hj2
                    · rw [List.mem_singleton.mp h]; exact hj2
                  rw [List.length_range, List.length_append] at h1
                  omega
                generalize l0 ++ atF ps z j = l at hLy hDy nd3 hle len3 ⊢
                have hkeys : ∀ q ∈ allS ps l, cmF ps q.1 ≤ cmF ps j := fun q hq => by
                  have : q.1 ∈ (allS ps l).map (·.1) := List.mem_map.mpr ⟨q, hq, rfl⟩
                  rw [keys_all] at this
                  exact hle _ this
                have ek := ly_keys hkeys
                have es := ly_step (ps := ps) (S := allS ps l) (p := j) (by
                  have := (ok.each (ps.getD j pc0) (by rw [List.getD_eq_getElem?_getD, List.getElem?_eq_getElem hj2]; exact List.getElem_mem hj2)).2.2.1
                  exact this)
                rw [ej] at ek es
                have nd4 : ((allS ps l ++ [(j, mexF (slF ps (allS ps l) j))]).map (·.1)).Nodup := by
                  rw [List.map_append, keys_all]; exact nd3
                have lly2 : (lyF ps (allS ps l) z).length ≤ 60 := by
                  unfold lyF
                  rw [List.length_map]
                  have h1 := List.length_filter_le (fun q : Nat × Nat => decide (z < outF ps q.1)) (allS ps l)
                  have h2 := congrArg List.length (keys_all (ps := ps) l)
                  rw [List.length_map] at h2
                  omega
                rw [es]
                show _
                have fs := fd_step (n := ps.length) nd4 hj2
                generalize allS ps l = S at hLy hDy ek fs lly2 ⊢
                generalize lyF ps S z = ly2 at hDy ek lly2 ⊢
                obtain ⟨m1, m2, m3⟩ := mex_is (ts := slF ps S j)
                unfold stepS
                generalize slF ps S j = ts at ek m1 m2 m3 fs ⊢
                clear nd4 hkeys es nd3 hle hR3 hsub
                refine ⟨fun m σ H1 => ∃ c : Nat, σ = [some (.ref a), some (.ref L), some (.ref D), some (.int z), v4, some (.int (j : Nat)), some (.int (ps.getD j pc0).1), some (.int (ps.getD j pc0).2), some (.int (c : Nat)), v9, va] ∧ H1 = Hx ∧ c ≤ mexF ts ∧ m = mexF ts - c, ⟨_, 0, rfl, rfl, Nat.zero_le _, rfl⟩, ?_⟩
                rintro m σ H1 ⟨c, rfl, rfl, hc, rfl⟩
                have hv := valV_lyK (l := ly2) (k := c)
                rw [ek] at hv
                refine ⟨_, rfl, _, rfl, D, valV (lyK ly2) (.inl ((c : Nat) : Int)), rfl, .inl ⟨_, .inl ((c : Nat) : Int), .inl hDy, rfl, rfl⟩, _, rfl, ?_⟩
                rw [hv]
                by_cases hm : c ∈ ts
                · rw [decide_eq_true hm]
                  have ne : c ≠ mexF ts := fun e => m1 (e ▸ hm)
                  refine iteT ⟨fun σ H2 => σ = [some (.ref a), some (.ref L), some (.ref D), some (.int z), v4, some (.int (j : Nat)), some (.int (ps.getD j pc0).1), some (.int (ps.getD j pc0).2), some (.int ((c + 1 : Nat))), v9, va] ∧ H2 = H1, fun σ' H' h => ⟨_, ?_, c + 1, h.1, h.2, by omega, rfl⟩, ?_⟩
                  · omega
                  · exact ⟨_, rfl, _, _, rfl, rfl, rfl, rfl⟩
                · rw [decide_eq_false hm]
                  have e : c = mexF ts := by
                    rcases Nat.lt_or_ge c (mexF ts) with h | h
                    · exact absurd (m2 c h) hm
                    · omega
                  rw [← e] at fs m1 ⊢
                  refine iteF ⟨_, rfl, _, rfl, _, rfl, _, _, rfl, rfl, (by show 2 ≤ sizeLine; decide), fun t nt => ?_⟩
                  have st := same_upd (o := .tup [.int (c : Nat), .int (z + (ps.getD j pc0).2)]) nt
                  have ft : upd H1 t (.tup [.int (c : Nat), .int (z + (ps.getD j pc0).2)]) t = _ := upd_same
                  have hLy := st _ _ hLy
                  have hDy := st _ _ hDy
                  have sy := sy.trans (sm_of st)
                  generalize upd H1 t (.tup [.int (c : Nat), .int (z + (ps.getD j pc0).2)]) = H7 at st ft hLy hDy sy ⊢
                  refine ⟨t, _, rfl, .inl (.inl ft), rfl, _, _, rfl, _, rfl, _, rfl, L, _, _, j, rfl, rfl, hLy, ?_, ?_⟩
                  · rw [fd_len]; unfold ixN; rw [if_pos (by omega), if_pos (by omega), Int.toNat_natCast]
                  rw [show (fdF ps.length S).set j (V.int (c : Nat)) = _ from fs]
                  have hL9 : upd H7 L (.lst (fdF ps.length (S ++ [(j, c)]))) L = _ := upd_same
                  have hD9 : upd H7 L (.lst (fdF ps.length (S ++ [(j, c)]))) D = _ := (upd_ne (Ne.symm LD)).trans hDy
                  have s9 : Sm [L, D] H6 (upd H7 L (.lst (fdF ps.length (S ++ [(j, c)])))) := sy.trans (sm_wr (by simp))
                  generalize upd H7 L (.lst (fdF ps.length (S ++ [(j, c)]))) = H9 at hL9 hD9 s9 ⊢
                  refine ⟨_, _, rfl, _, rfl, _, rfl, D, _, rfl, .inl ⟨_, .inl ((c : Nat) : Int), hD9, rfl, ?_, rfl⟩, rfl, ?_⟩
                  · unfold lyK
                    rw [List.length_map, sizeLine_eq]; omega
                  · refine ⟨_, _, _, _, _, _, _, rfl, s9.trans (sm_wr (by simp)), ?_, ?_⟩
                    · rw [upd_ne LD]; exact hL9
                    · rw [upd_same, put_lyK (by rw [ek]; exact m1)]
                      have : z + (ps.getD j pc0).2 = outF ps j := by rw [← ej]; rfl
                      rw [this]
              · have ej : ¬ cmF ps j = z := fun e => h1 (decide_eq_true (congrArg V.int e))
                rw [atF_no ej]
                exact ⟨_, _, _, _, _, _, _, rfl, sy, hLy, hDy⟩
            · rintro σ Hy ⟨v4, v5, v6, v7, v8, v9, va, rfl, sy, hLy, hDy⟩
              rw [lx] at hLy hDy
              exact ⟨_, _, _, _, _, _, _, _, rfl, sy, hLy, hDy⟩
      · rintro σ Hz ⟨v3, v4, v5, v6, v7, v8, v9, va, rfl, sz, hLz, hDz⟩
        rw [List.length_map, List.take_length, run_ord hO, fd_end] at hLz
        exact ⟨_, rfl, q _ L (same_smF s6 sz fr) nL0 hLz⟩

end
end Pot




namespace Pot
open PySem PySem.Spec PyProof.Rows L2
section
variable {P : Program} {w : World} {K : PySem.W.Frag} {mg : Str → Option Value} {base : Heap}
theorem pair_or {α : Type} {R : α → α → Prop} {l : List α} (h : l.Pairwise R) {a b : α} (ha : a ∈ l) (hb : b ∈ l) (ne : a ≠ b) : R a b ∨ R b a := by
  obtain ⟨i, hi, rfl⟩ := List.getElem_of_mem ha
  obtain ⟨j, hj, rfl⟩ := List.getElem_of_mem hb
  rcases Nat.lt_trichotomy i j with c | c | c
  · exact .inl (List.pairwise_iff_getElem.mp h i j hi hj c)
  · subst c; exact absurd rfl ne
  · exact .inr (List.pairwise_iff_getElem.mp h j i hj hi c)
/-- the slot of each -/
def gsF (ps : List Pc) (p : Nat) : Nat := getS (allS ps (ordF ps)) p
theorem gs_mem {ps : List Pc} {p : Nat} (hp : p < ps.length) : (p, gsF ps p) ∈ allS ps (ordF ps) := (getS_of (by rw [keys_all]; exact ordF_mem.mpr hp)).2
theorem gs_diff {ps : List Pc} {p q : Nat} {h : Int} (hp : p < ps.length) (hq : q < ps.length) (ne : p ≠ q) (ip : inB (ps.getD p pc0) h = true) (iq : inB (ps.getD q pc0) h = true) : gsF ps p ≠ gsF ps q := by
  unfold inB at ip iq
  rw [Bool.and_eq_true, decide_eq_true_eq, decide_eq_true_eq] at ip iq
  rcases pair_or (allS_SR (ordF_RO ps)) (gs_mem hp) (gs_mem hq) (fun e => ne (Prod.mk.inj e).1) with r | r
  · exact r.2 (by show cmF ps q < outF ps p; unfold cmF outF; omega)
  · exact Ne.symm (r.2 (by show cmF ps p < outF ps q; unfold cmF outF; omega))
/-- none lies higher than those that were in -/
def LowI (ps : List Pc) (S : List (Nat × Nat)) : Prop := ∀ p x, (p, x) ∈ S → ∃ ks : List Nat, ks.Nodup ∧ p ∉ ks ∧ (∀ q ∈ ks, q ∈ S.map (·.1) ∧ inB (ps.getD q pc0) (cmF ps p) = true) ∧ x ≤ ks.length
theorem lowI_step {ps : List Pc} {S : List (Nat × Nat)} {p : Nat} (h : LowI ps S) (nd : (S.map (·.1)).Nodup) (hp : p ∉ S.map (·.1)) : LowI ps (stepS ps S p) := by
  intro r x hr
  unfold stepS at hr
  rcases List.mem_append.mp hr with z | z
  · obtain ⟨ks, h1, h2, h3, h4⟩ := h r x z
    exact ⟨ks, h1, h2, fun q hq => ⟨by rw [keys_step]; exact List.mem_append_left _ (h3 q hq).1, (h3 q hq).2⟩, h4⟩
  · obtain ⟨rfl, rfl⟩ := Prod.mk.inj (List.mem_singleton.mp z)
    refine ⟨(S.filter fun q => inB (ps.getD q.1 pc0) (cmF ps r)).map (·.1), nd.sublist (List.filter_sublist.map _), fun z => hp ((List.filter_sublist.map _).subset z), fun q hq => ?_, ?_⟩
    · obtain ⟨e, he, rfl⟩ := List.mem_map.mp hq
      obtain ⟨e1, e2⟩ := List.mem_filter.mp he
      exact ⟨by rw [keys_step]; exact List.mem_append_left _ (List.mem_map.mpr ⟨e, e1, rfl⟩), e2⟩
    · refine Nat.le_trans (mex_is (ts := slF ps S r)).2.2 ?_
      unfold slF
      rw [List.length_map, List.length_map]
      exact Nat.le_refl _
theorem lowI_all {ps : List Pc} : ∀ {l : List Nat} {S : List (Nat × Nat)}, LowI ps S → (S.map (·.1) ++ l).Nodup → LowI ps (l.foldl (stepS ps) S)
  | [], _, h, _ => h
  | p :: l, S, h, nd => by
    rw [List.foldl_cons]
    obtain ⟨n1, n2, n3⟩ := List.nodup_append.mp nd
    refine lowI_all (lowI_step h n1 fun z => n3 p z p List.mem_cons_self rfl) ?_
    rw [keys_step, List.append_assoc]
    exact nd
theorem inB_self {ps : List Pc} (ok : PcOk ps) {p : Nat} (hp : p < ps.length) : inB (ps.getD p pc0) (cmF ps p) = true := by
  have := (ok.each (ps.getD p pc0) (by rw [List.getD_eq_getElem?_getD, List.getElem?_eq_getElem hp]; exact List.getElem_mem hp)).2.2.1
  unfold inB cmF
  rw [Bool.and_eq_true, decide_eq_true_eq, decide_eq_true_eq]
  exact ⟨Int.le_refl _, by omega⟩
theorem mem_hereN {ps : List Pc} {h : Int} {i p : Nat} : p ∈ hereN ps h i ↔ p < i ∧ inB (ps.getD p pc0) h = true := by
  unfold hereN
  rw [List.mem_filter, List.mem_range]
theorem hereN_nodup {ps : List Pc} {h : Int} {i : Nat} : (hereN ps h i).Nodup := List.nodup_range.sublist List.filter_sublist
theorem gs_lt {ps : List Pc} (ok : PcOk ps) {p : Nat} (hp : p < ps.length) : gsF ps p < (hereN ps (cmF ps p) ps.length).length := by
  have L : LowI ps (allS ps (ordF ps)) := lowI_all (fun p x h => (List.not_mem_nil h).elim) (ordF_nodup ps)
  obtain ⟨ks, h1, h2, h3, h4⟩ := L p _ (gs_mem hp)
  have := nodup_leG (l := p :: ks) (ts := hereN ps (cmF ps p) ps.length) (List.nodup_cons.mpr ⟨h2, h1⟩) fun x hx => by
    rcases List.mem_cons.mp hx with e | e
    · rw [e]; exact mem_hereN.mpr ⟨hp, inB_self ok hp⟩
    · have := h3 x e
      rw [keys_all] at this
      exact mem_hereN.mpr ⟨ordF_mem.mp this.1, this.2⟩
  rw [List.length_cons] at this
  omega
/-- the most that are in as one comes -/
structure MostI (ps : List Pc) (m : Nat) : Prop where
  up : ∀ p, p < ps.length → (hereN ps (cmF ps p) ps.length).length ≤ m
  at_ : m = 0 ∨ ∃ p, p < ps.length ∧ m = (hereN ps (cmF ps p) ps.length).length
theorem slots_mem {ps : List Pc} (ok : PcOk ps) {m : Nat} (M : MostI ps m) (k : Nat) : k ∈ (List.range ps.length).map (gsF ps) ↔ k < m := by
  rw [List.mem_map]
  constructor
  · rintro ⟨p, hp, rfl⟩
    have hp := List.mem_range.mp hp
    exact Nat.lt_of_lt_of_le (gs_lt ok hp) (M.up p hp)
  · intro hk
    rcases M.at_ with z | ⟨p, hp, e⟩
    · omega
    · refine Classical.byContradiction fun hn => ?_
      have nd : (k :: (hereN ps (cmF ps p) ps.length).map (gsF ps)).Nodup := by
        refine List.nodup_cons.mpr ⟨fun z => ?_, ?_⟩
        · obtain ⟨q, hq, e2⟩ := List.mem_map.mp z
          exact hn ⟨q, List.mem_range.mpr (mem_hereN.mp hq).1, e2⟩
        · refine List.pairwise_map.mpr ((hereN_nodup (ps := ps) (h := cmF ps p) (i := ps.length)).imp_of_mem fun {a b} ha hb ne => ?_)
          obtain ⟨a1, a2⟩ := mem_hereN.mp ha
          obtain ⟨b1, b2⟩ := mem_hereN.mp hb
          exact gs_diff a1 b1 ne a2 b2
      have := nodup_leG (ts := List.range m) nd fun x hx => by
        refine List.mem_range.mpr ?_
        rcases List.mem_cons.mp hx with e2 | e2
        · rw [e2]; exact hk
        · obtain ⟨q, hq, rfl⟩ := List.mem_map.mp e2
          have hq := (mem_hereN.mp hq).1
          exact Nat.lt_of_lt_of_le (gs_lt ok hq) (M.up q hq)
      rw [List.length_cons, List.length_map, List.length_range, ← e] at this
      omega
theorem sm_lists {H H' : Hp} {S : List Addr} (h : ∀ s ∈ S, ∃ xs, H s = some (.lst xs)) (s : Sm S H H') {b : Addr} {o : HO} (e : H b = some o) (n : ∀ xs, o ≠ .lst xs) : H' b = some o := sm_at s (fun hb => by
  obtain ⟨xs, e2⟩ := h b hb
  rw [e] at e2
  exact n xs (Option.some.inj e2)) e
theorem tabs_sm {T : List (Addr × Str)} {H H' : Hp} {S : List Addr} (h : ∀ s ∈ S, ∃ xs, H s = some (.lst xs)) (s : Sm S H H') (t : LamX.Tabs T H) : LamX.Tabs T H' := fun p hp => by
  obtain ⟨ps, h1, h2, h3⟩ := t p hp
  exact ⟨ps, sm_lists h s h1 (fun xs z => by cases z), h2, fun pos cv hc => (h3 pos cv hc).imp fun c z => ⟨z.1, sm_lists h s z.2 (fun xs q => by unfold LamX.CodeO at q; cases q)⟩⟩
theorem extN_sm {H H1 H2 : Hp} {S : List Addr} (x : LamX.ExtN H H1) (s : Sm S H1 H2) (f : ∀ s ∈ S, H s = none) : LamX.ExtN H H2 := fun b o e n => sm_at s (fun hb => by rw [f b hb] at e; cases e) (x b o e n)
theorem pcs_wr {H : Hp} {R : Addr} {us : List V} {o : HO} (h : H R = some (.lst us)) : ∀ {ps : List Pc} {xs : List V}, DpAll K H xs (ps.map pcD) → DpAll K (upd H R o) xs (ps.map pcD)
  | [], _, z => by
    cases z
    exact .nil
  | p :: ps, _, z => by
    cases z with
    | cons a r =>
      obtain ⟨t, rfl, ht⟩ := pc_dp a
      have ne : ∀ {u : HO}, H t = some u → (∀ l, u ≠ .lst l) → t ≠ R := fun e n z => by rw [z, h] at e; exact n _ (Option.some.inj e).symm
      refine .cons (.tup ?_ (.cons (.int _) (.cons (.int _) .nil))) (pcs_wr h r)
      rcases ht with (ht | ⟨o, ht⟩) | ht
      · exact .inl (.inl ((upd_ne (ne ht fun l z => by cases z)).trans ht))
      · exact .inl (.inr ⟨o, (upd_ne (ne ht fun l z => by cases z)).trans ht⟩)
      · exact .inr ht
theorem ints_gd (ns : List Int) : ∃ m, gd m (.list (ns.map PyData.int)) := by
  induction ns with
  | nil => exact ⟨0, trivial⟩
  | cons x ns ih =>
    obtain ⟨m, h⟩ := ih
    exact ⟨x.natAbs + m, by show x.natAbs ≤ _; omega, gdAll_mono (by omega) _ h⟩
theorem ints_depth (ns : List Int) : PyData.depth (.list (ns.map PyData.int)) < 4 := by
  show PyData.depthAll _ + 1 < 4
  have : PyData.depthAll (ns.map PyData.int) ≤ 1 := depthAll_iff.mpr fun d hd => by
    obtain ⟨p, hp, rfl⟩ := List.mem_map.mp hd
    simp [PyData.depth]
  omega
theorem ints_wid {ns : List Int} (h : ns.length ≤ 1000) : widAll.wid (.list (ns.map PyData.int)) ≤ 1000 := by
  show max (ns.map PyData.int).length (widAll (ns.map PyData.int)) ≤ 1000
  refine Nat.max_le.mpr ⟨by rw [List.length_map]; exact h, widAll_iff.mpr fun e he => ?_⟩
  obtain ⟨g, _, rfl⟩ := List.mem_map.mp he
  exact Nat.zero_le _
def intsD (ns : List Int) : PyData := .list (ns.map PyData.int)
theorem two_gd {m : Nat} {d : PyData} (h : gd m d) : gd m (.list [d, d]) := ⟨h, h, trivial⟩
theorem two_depth {ns : List Int} : PyData.depth (.list [intsD ns, intsD ns]) < 4 := by
  show PyData.depthAll [_, _] + 1 < 4
  have : PyData.depthAll [intsD ns, intsD ns] ≤ 2 := depthAll_iff.mpr fun d hd => by
    have e : d = intsD ns := by
      rcases List.mem_cons.mp hd with e | e
      · exact e
      · exact List.mem_singleton.mp e
    rw [e]
    show PyData.depthAll _ + 1 ≤ 2
    have : PyData.depthAll (ns.map PyData.int) ≤ 1 := depthAll_iff.mpr fun d hd => by
      obtain ⟨p, hp, rfl⟩ := List.mem_map.mp hd
      simp [PyData.depth]
    omega
  omega
theorem two_wid {ns : List Int} (h : ns.length ≤ 1000) : widAll.wid (.list [intsD ns, intsD ns]) ≤ 1000 := by
  show max 2 (widAll [_, _]) ≤ 1000
  refine Nat.max_le.mpr ⟨by decide, widAll_iff.mpr fun e he => ?_⟩
  have e2 : e = intsD ns := by
    rcases List.mem_cons.mp he with e | e
    · exact e
    · exact List.mem_singleton.mp e
  rw [e2]
  exact ints_wid h
theorem ints_shaped {ns : List Int} : SeqAt.shaped (intsD ns) = true := by
  obtain ⟨m, h⟩ := ints_gd ns
  exact gd_shaped h (Nat.le_trans (Nat.le_of_lt (ints_depth ns)) (by decide))
def fndF (ps : List Pc) : List Int := (List.range ps.length).map fun p => ((gsF ps p : Nat) : Int)
theorem fnd_map (ps : List Pc) : ((List.range ps.length).map fun p => natV (getS (allS ps (ordF ps)) p)) = (fndF ps).map V.int := by
  unfold fndF
  rw [List.map_map]; rfl
theorem fnd_len (ps : List Pc) : (fndF ps).length = ps.length := by unfold fndF; rw [List.length_map, List.length_range]
/-- how many are in as each comes -/
def cntF (ps : List Pc) : List Int := (List.range ps.length).map fun p => (((hereN ps (cmF ps p) ps.length).length : Nat) : Int)
theorem most_of {ps : List Pc} {m : Int} (hm : m ∈ cntF ps ++ [0]) (up : ∀ y ∈ cntF ps ++ [0], y ≤ m) : MostI ps m.toNat ∧ m = (m.toNat : Nat) ∧ m ≤ ps.length := by
  have h0 : 0 ≤ m := up 0 (List.mem_append_right _ List.mem_cons_self)
  have e : m = (m.toNat : Nat) := by omega
  have mm : m = 0 ∨ ∃ p, p < ps.length ∧ m = ((hereN ps (cmF ps p) ps.length).length : Nat) := by
    rcases List.mem_append.mp hm with z | z
    · obtain ⟨p, hp, rfl⟩ := List.mem_map.mp z
      exact .inr ⟨p, List.mem_range.mp hp, rfl⟩
    · exact .inl (List.mem_singleton.mp z)
  refine ⟨⟨fun p hp => ?_, ?_⟩, e, ?_⟩
  · have := up _ (List.mem_append_left _ (List.mem_map.mpr ⟨p, List.mem_range.mpr hp, rfl⟩))
    omega
  · rcases mm with z | ⟨p, hp, z⟩
    · exact .inl (by omega)
    · exact .inr ⟨p, hp, by omega⟩
  · rcases mm with z | ⟨p, hp, z⟩
    · omega
    · have := hereN_len ps (cmF ps p) ps.length
      omega
theorem range_told {ps : List Pc} (ok : PcOk ps) {m : Nat} (M : MostI ps m) {zs : List Int} (hz : zs.Pairwise (· < ·)) (hm : ∀ k, k ∈ zs ↔ k ∈ fndF ps) : zs = (List.range m).map fun i => ((i : Nat) : Int) := by
  refine sorted_uniq hz (List.pairwise_map.mpr (List.pairwise_lt_range.imp fun h => by omega)) fun k => ?_
  rw [hm k, List.mem_map]
  unfold fndF
  rw [List.mem_map]
  constructor
  · rintro ⟨p, hp, rfl⟩
    exact ⟨_, List.mem_range.mpr ((slots_mem ok M _).mp (List.mem_map.mpr ⟨p, hp, rfl⟩)), rfl⟩
  · rintro ⟨i, hi, rfl⟩
    obtain ⟨p, hp, e⟩ := List.mem_map.mp ((slots_mem ok M i).mpr (List.mem_range.mp hi))
    exact ⟨p, hp, by rw [e]⟩
theorem rgV_range (m : Nat) : rgV 0 (m : Nat) = ((List.range m).map fun i => ((i : Nat) : Int)).map V.int := by
  unfold rgV
  rw [List.map_map, Int.sub_zero, Int.toNat_natCast]
  refine List.map_congr_left fun i _ => ?_
  rw [Int.zero_add]; rfl
def spLaw (K : PySem.W.Frag) (Pt : Addr) : Sp := fun vs H Q _ => ∃ (a : Addr) (ns : List Int), vs = [.ref a] ∧ SqL K H a (ns.map V.int) ∧ ns.length ≤ 63 ∧ LamX.Tabs [(Pt, qBy)] H ∧ ∀ H', Q (.bl true) H'
abbrev s_law : Stmt := topS 13
def n_law : List Str := ["_law_script", "_law_k", "_law_state", "_law_pieces_here", "_law_handed", "_law_due", "_law_come", "_law_cool", "_law_most", "_law_found", "_law_here_here", "_law_number"]
theorem sc_law : FnScope n_law ["_law_script"] (defScope s_law) := ⟨rfl, rfl, rfl, by decide +kernel, rfl, by decide +kernel, by decide +kernel⟩
set_option maxHeartbeats 2000000 in
theorem ok_law {f Pt : Addr} {fd : FuncData} {k : Nat} (F : Fun K "law" "law" s_law f fd) (T : Txt mg) (c__law_begin : Cl P w K mg base (k + 1) "_law_begin" (spBegin K)) (c__law_pieces : Cl P w K mg base (k + 2) "_law_pieces" (spPieces K)) (c__law_here : Cl P w K mg base (k + 1) "_law_here" (spAt K)) (c__law_slots : Cl P w K mg base (k + 1) "_law_slots" (spLSlots K)) (c_slotted : Cl P w K mg base (k + 3) "slotted" (spSlot K Pt)) (c__law_same : Cl P w K mg base (k + 5) "_law_same" (spSame K 4)) : FnG P w K mg base (k + 6) f fd ["_law_script"] (spLaw K Pt) := by
  refine okG F sc_law (fun vs H Q E h => ?_) (fun cdv A outer s H vs Q gd hr h => ?_)
  · obtain ⟨a, ns, rfl, _⟩ := h
    rfl
  · obtain ⟨a, ns, rfl, hS, h63, tb0, q⟩ := h
    have nd := sc_law.nd
    have hu64 := hr.units
    /- 0 _law_script, 1 _law_k, 2 _law_state, 3 _law_pieces_here, 4 _law_handed, 5 _law_due, 6 _law_come, 7 _law_cool, 8 _law_most, 9 _law_found, 10 _law_here_here, 11 _law_number -/
    refine ⟨_, (pss_cons (ps_for PassesOwn.never rfl (pi_range1 (by rfl) T.range (pa_cons (pe_op op_add pe_int (pe_callB (call_min2 rfl) (by rfl) T.min (by decide +kernel) (pa_cons pe_int (pa_cons (pe_callB (kc_len (K := K)) (by rfl) T.len PySem.boot_len (pa_cons (pv 0) pa_nil)) pa_nil)))) pa_nil)) (pg_name (i := 1) nd rfl (.inl rfl))
          (pss_cons (ps_set (i := 2) nd rfl (.inl rfl) (pe_cl c__law_begin hr (by omega) (by rfl) (pa_cons (pv 0) (pa_cons (pv 1) pa_nil))))
          (pss_cons (ps_set (i := 3) nd rfl (.inr rfl) (pe_cl c__law_pieces hr (by omega) (by rfl) (pa_cons (pv 2) (pa_cons pe_int pa_nil))))
          (pss_cons (ps_par (i := 4) (j := 5) rfl nd rfl rfl (by decide) rfl rfl (pa_cons (pe_callTy (kc_list (K := K)) (by rfl) T.list (by decide +kernel) (pa_cons (pv 3) pa_nil)) (pa_cons (pe_cl c__law_slots hr (by omega) (by rfl) (pa_cons (pv 3) pa_nil)) pa_nil)) rfl)
          (pss_cons (ps_set (i := 8) nd rfl (.inl rfl) (pe_callB (kc_max (K := K)) (by rfl) T.max (by decide +kernel) (pa_cons (pe_op op_cat (pe_lc (own := [("_law_come", 6), ("_law_cool", 7)]) rfl nd (ki_list (K := K) (pv 3)) (blkOk_by (N := n_law) (sc := defScope s_law) (by decide +kernel)) (fun _ _ _ _ _ => (kg_tup (K := K) (n := 2) (pgs_cons (pg_name (i := 6) nd rfl (.inl rfl)) (pgs_cons (pg_name (i := 7) nd rfl (.inl rfl)) pgs_nil)))) (fun _ _ _ _ _ => pts_nil) (fun _ _ _ _ _ => (pe_callB (kc_len (K := K)) (by rfl) T.len PySem.boot_len (pa_cons (pe_cl c__law_here hr (by omega) (by rfl) (pa_cons (pv 3) (pa_cons (pv 6) pa_nil))) pa_nil)))) (pe_lst (pa_cons pe_int pa_nil))) pa_nil)))
          (pss_cons (ps_set (i := 9) nd rfl (.inr rfl) (pe_cl c_slotted hr (by omega) (by rfl) (pa_cons (pv 4) pa_nil)))
          (pss_cons (ps_if ((pw_or (pt_not (pt_val (pe_cl c__law_same hr (by omega) (by rfl) (pa_cons (pv 9) (pa_cons (pv 5) pa_nil))))) (pw_or1 (pt_cmpR (ko_ne (K := K) hu64) (pe_callB (kc_sortedSet (w := w)) (by rfl) T.sorted (by decide +kernel) (pa_cons (pe_callTy (kc_setLj (K := K) (w := w)) (by rfl) T.set (by decide +kernel) (pa_cons (pv 9) pa_nil)) pa_nil)) (pe_listRg rfl (by rfl) T.list (prg_1 (by rfl) T.range (pv 8))) (nomark _))))).pt
              pss_never
              pss_nil)
          (pss_cons (ps_for PassesOwn.never rfl (ki_list (K := K) (pv 3)) (kg_tup (K := K) (n := 2) (pgs_cons (pg_name (i := 6) nd rfl (.inl rfl)) (pgs_cons (pg_name (i := 7) nd rfl (.inl rfl)) pgs_nil)))
              (pss_cons (ps_set (i := 10) nd rfl (.inl rfl) (pe_cl c__law_here hr (by omega) (by rfl) (pa_cons (pv 3) (pa_cons (pv 6) pa_nil))))
              (pss_one (ps_if (pt_cmpR op_lt (pe_callB (kc_lenSet (w := w)) (by rfl) T.len PySem.boot_len (pa_cons (pe_callTy (kc_setLj (K := K) (w := w)) (by rfl) T.set (by decide +kernel) (pa_cons (pe_lc (own := [("_law_number", 11)]) rfl nd (ki_list (K := K) (pv 10)) (blkOk_by (N := n_law) (sc := defScope s_law) (by decide +kernel)) (fun _ _ _ _ _ => (pg_name (i := 11) nd rfl (.inl rfl))) (fun _ _ _ _ _ => pts_nil) (fun _ _ _ _ _ => (pe_ix (kx_list (K := K)) (pv 9) (pv 11) (fun _ _ => rfl)))) pa_nil)) pa_nil)) (pe_callB (kc_len (K := K)) (by rfl) T.len PySem.boot_len (pa_cons (pv 10) pa_nil)) (nomark _))
                  pss_never
                  pss_nil))))
          (pss_cons (ps_expr (pe_bm0 PySem.F.plainAttrs_list PySem.F.slot_list_reverse PySem.F.type_list_reverse mt_reverse (pv 9)))
          (pss_cons (ps_expr (pe_bm PySem.F.plainAttrs_list PySem.F.slot_list_append PySem.F.type_list_append mt_append (pv 9) (pa_cons pe_int pa_nil)))
          (pss_one (ps_if ((pw_or (pt_not (pt_val (pe_cl c__law_same hr (by omega) (by rfl) (pa_cons (pe_lst (pa_cons (pe_cl c_slotted hr (by omega) (by rfl) (pa_cons (pv 4) pa_nil)) (pa_cons (pe_cl c_slotted hr (by omega) (by rfl) (pa_cons (pv 4) pa_nil)) pa_nil))) (pa_cons (pe_lst (pa_cons (pv 5) (pa_cons (pv 5) pa_nil))) pa_nil))))) (pw_or1 (pt_cmpR (ko_ne (K := K) hu64) (pv 4) (pv 3) (nomark _))))).pt
              pss_never
              pss_nil))))))))))))
      (pss_one (ps_ret (pe_cmpR (ko_eq (K := K) hu64) (pe_cl c_slotted hr (by omega) (by rfl) (pa_cons (pe_lst pa_nil) pa_nil)) (pe_lst pa_nil) (nomark _))))), ?_⟩
    refine ⟨_, rfl, _, _, rfl, .inl ⟨_, hS, rfl⟩, _, _, rfl, _, _, rfl, rfl, _, rfl, (by split <;> rw [List.length_map] at * <;> omega), (by split <;> rw [List.length_map] at * <;> omega), ?_⟩
    refine for_it walk_range (fun i σ H2 => ∃ v1 v2 v3 v4 v5 v6 v7 v8 v9 va, σ = [some (.ref a), v1, v2, v3, v4, v5, v6, v7, v8, v9, va, none] ∧ LamX.ExtN H H2 ∧ LamX.Tabs [(Pt, qBy)] H2) ⟨_, _, _, _, _, _, _, _, _, _, rfl, LamX.ExtN.refl _, tb0⟩ (fun _ _ _ _ _ => trivial) ?_ ?_
    · rintro i x σ H2 H3 hi ⟨v1, v2, v3, v4, v5, v6, v7, v8, v9, va, rfl, x3, tb3⟩ ⟨rfl, rfl⟩
      have hi7 : i ≤ 63 := by
        have h2 : (1 + if ((List.map V.int ns).length : Int) < 6 then ((List.map V.int ns).length : Int) else 6) ≤ 7 := by split <;> omega
        omega
      refine ⟨_, rfl, _, rfl, a, ns, i, (by show [_, V.int (0 + (i : Int))] = _; rw [Int.zero_add]), RLam.sqL_ext hS x3, hi7, fun H4 b s4 B4 nb => ?_⟩
      refine ⟨_, rfl, b, 0, rfl, B4, by decide, fun H5 L xs ps B5 s5 nL hL da ok => ?_⟩
      have lx : xs.length = ps.length := dpAll_map_len da
      have l40 := ok.len
      have l60 : ps.length ≤ 60 := by omega
      have da := dpAll_same off_sub da
      have bl4 : ∀ s ∈ [b], ∃ xs, H4 s = some (.lst xs) := fun s hs => by
        rw [List.mem_singleton.mp hs]
        obtain ⟨_, _, _, e⟩ := B4.bx
        exact ⟨_, e⟩
      have x5 : LamX.ExtN H3 H5 := extN_sm (.of s4) s5 fun s hs => by rw [List.mem_singleton.mp hs]; exact nb
      have tb5 := tabs_sm bl4 s5 (tb3.ext s4)
      clear bl4 B4 s4 s5 B5 nL nb
      refine ⟨_, rfl, L, _, rfl, .inl (SqL.of hL), fun Pp nP => ?_⟩
      have s1 := same_upd (o := .lst xs) nP
      have hL := s1 _ _ hL
      have hP : upd H5 Pp (.lst xs) Pp = some (.lst xs) := upd_same
      have da := dpAll_same s1 da
      have x5 := x5.trans (.of s1)
      have tb5 := tb5.ext s1
      generalize upd H5 Pp (.lst xs) = H6 at hL hP da x5 tb5 ⊢
      clear s1 nP
      refine ⟨_, rfl, L, xs, ps, rfl, SqL.of hL, da, l60, ok, fun H7 Du s7 nDu hDu => ⟨_, _, rfl, ?_⟩⟩
      rw [fnd_map] at hDu
      have hL := s7 _ _ hL
      have hP := s7 _ _ hP
      have da := dpAll_same s7 da
      have x5 := x5.trans (.of s7)
      have tb5 := tb5.ext s7
      clear s7 nDu
      refine ⟨_, rfl, L, rfl, ⟨_, SqL.of hL⟩, fun C nC => ?_⟩
      refine lc_it (walk_list (xs := xs)) (PvL H7 C fun i => ((cntF ps).take i).map V.int) (pv_start nC rfl) (fun i Ha _ h => SqL.of (h.1 _ _ hL)) ?_ ?_
      · rintro j y Ha Hb hj p ⟨rfl, gx⟩
        obtain ⟨pb, rfl, hb, hj2, _⟩ := pcs_at (dpAll_same p.1 da) gx
        refine ⟨pb, _, rfl, hb, rfl, _, _, rfl, _, _, rfl, rfl, rfl, tYes_at ?_⟩
        rw [if_pos rfl]
        refine ⟨_, rfl, _, rfl, L, xs, ps, _, rfl, SqL.of (p.1 _ _ hL), dpAll_same p.1 da, l60, fun Hc Ar sc nAr hAr => ?_⟩
        refine ⟨_, _, rfl, .inl ⟨_, SqL.of hAr, rfl⟩, ?_⟩
        have gc : (cntF ps)[j]? = some (((hereN ps (cmF ps j) ps.length).length : Nat) : Int) := by
          unfold cntF
          rw [List.getElem?_map, List.getElem?_range hj2]; rfl
        have el : (((hereF ps (ps.getD j pc0).1).map V.int).length : Int) = (((hereN ps (cmF ps j) ps.length).length : Nat) : Int) := by
          rw [List.length_map]
          unfold hereF cmF
          rw [List.length_map]
        rw [el]
        exact pv_put nC p sc (take_map V.int gc) (take_len_le (by unfold cntF; rw [List.length_map, List.length_range]; omega))
      · intro H8 p
        obtain ⟨s8, hC⟩ := pv_end p (take_all (by unfold cntF; rw [List.length_map, List.length_range, lx]; exact Nat.le_refl _))
        clear p
        have lcn : (cntF ps).length = ps.length := by unfold cntF; rw [List.length_map, List.length_range]
        refine ⟨(by show 1 ≤ sizeLine; decide), fun Z nZ => ?_⟩
        have s9 := same_upd (o := .lst [.int 0]) nZ
        refine ⟨C, Z, _, _, rfl, rfl, s9 _ _ hC, upd_same, (by rw [List.length_map, lcn, sizeLine_eq]; show _ + 1 ≤ _; omega), fun M nM => ?_⟩
        have em : (cntF ps).map V.int ++ [V.int 0] = (cntF ps ++ [0]).map V.int := by rw [List.map_append]; rfl
        rw [em]
        have sA := (s8.trans s9).trans (same_upd (o := .lst ((cntF ps ++ [0]).map V.int)) nM)
        refine ⟨M, _, rfl, SqL.of upd_same, (by rw [List.length_append]; show 0 < _ + 1; omega), fun m hm hup => ?_⟩
        generalize upd (upd H8 Z (.lst [.int 0])) M (.lst ((cntF ps ++ [0]).map V.int)) = H9 at sA ⊢
        obtain ⟨MI, me, ml⟩ := most_of hm hup
        generalize m.toNat = mn at MI me
        subst me
        clear hm hup s8 s9 nZ nM em hC nC
        have hL := sA _ _ hL
        have hP := sA _ _ hP
        have hDu := sA _ _ hDu
        have da := dpAll_same sA da
        have x5 := x5.trans (.of sA)
        have tb5 := tb5.ext sA
        clear sA
        refine ⟨_, rfl, Pp, xs, ps, rfl, SqL.of hP, da, l60, tb5, fun HA R xA tbA fR hR => ?_⟩
        rw [fnd_map] at hR
        have nt : ∀ {xs : List V} (ps : Array Value), HO.lst xs ≠ .tbl ps := fun ps z => by cases z
        have RL := fR _ _ hL nt
        have RP := fR _ _ hP nt
        have RDu := fR _ _ hDu nt
        have fR3 : ∀ y u, H3 y = some u → (∀ ps, u ≠ .tbl ps) → y ≠ R := fun y u e n => fR _ _ (x5 _ _ e n) n
        have hL := xA _ _ hL nt
        have hP := xA _ _ hP nt
        have hDu := xA _ _ hDu nt
        have da := pcs_ext xA da
        have x5 := x5.trans xA
        clear xA fR tb5
        obtain ⟨gm, hgm⟩ := ints_gd (fndF ps)
        have wd := ints_wid (ns := fndF ps) (by rw [fnd_len]; omega)
        have flen := fnd_len ps
        refine ⟨_, rfl, _, rfl, .ref R, .ref Du, _, gm, rfl, .lst (SqL.of hR) (dp_ints _), .lst (SqL.of hDu) (dp_ints _), ints_depth _, wd, hgm, fun HB sB => ⟨_, rfl, iteF ?_⟩⟩
        have hL := sB _ _ hL
        have hP := sB _ _ hP
        have hDu := sB _ _ hDu
        have hR := sB _ _ hR
        have da := dpAll_same sB da
        have x5 := x5.trans (.of sB)
        have tbA := tbA.ext sB
        clear sB
        refine ⟨_, rfl, R, fndF ps, rfl, SqL.of hR, (by omega), fun p1 ks np1 nod mem => ?_⟩
        refine ⟨p1, _, _, rfl, upd_same, ?_, fun zs p2 hz hm hl np2 => ?_⟩
        · have := nodup_le (l := fndF ps) nod fun k hk => (mem k).mp hk
          omega
        have s5 := (same_upd (o := SetO w p1 (fun k => decide (k ∈ fndF ps)) ks.length) np1).trans (same_upd (o := .lst (zs.map V.int)) np2)
        have hZ : upd (upd HB p1 (SetO w p1 (fun k => decide (k ∈ fndF ps)) ks.length)) p2 (.lst (zs.map V.int)) p2 = _ := upd_same
        have ez := range_told ok MI hz fun k => by rw [hm k, decide_eq_true_eq]
        generalize upd (upd HB p1 (SetO w p1 (fun k => decide (k ∈ fndF ps)) ks.length)) p2 (.lst (zs.map V.int)) = HC at s5 hZ ⊢
        refine ⟨_, rfl, _, rfl, .of_le (by omega) (by omega) (by omega) (by omega), fun q1 nq1 => ?_⟩
        have s6 := s5.trans (same_upd (o := .lst (rgV 0 (mn : Nat))) nq1)
        have hQ : upd HC q1 (.lst (rgV 0 (mn : Nat))) q1 = some (.lst (zs.map V.int)) := by rw [upd_same, rgV_range, ez]
        have hZ := (same_upd (o := .lst (rgV 0 (mn : Nat))) nq1) _ _ hZ
        generalize upd HC q1 (.lst (rgV 0 (mn : Nat))) = HD at s6 hQ hZ ⊢
        refine ⟨intsD zs, intsD zs, .lst (SqL.of hZ) (dp_ints _), .lst (SqL.of hQ) (dp_ints _), ints_shaped, ints_shaped, _, rfl, ?_⟩
        obtain ⟨gz, hgz⟩ := ints_gd zs
        rw [show PyData.eqv (intsD zs) (intsD zs) = true from SeqAt.eqv_refl _ (gd_lay _ hgz)]
        refine iteF ?_
        have hL := s6 _ _ hL
        have hP := s6 _ _ hP
        have hDu := s6 _ _ hDu
        have hR := s6 _ _ hR
        have da := dpAll_same s6 da
        have x5 := x5.trans (.of s6)
        have tbA := tbA.ext s6
        clear s6 s5 np1 np2 nq1 hQ hZ mem nod hm hl hz ez hgz
        refine ⟨_, rfl, L, rfl, ⟨_, SqL.of hL⟩, ?_⟩
        refine for_it (walk_list (xs := xs)) (fun j σ Hx => ∃ v6 v7 va, σ = [some (.ref a), some (.int (0 + (i : Nat))), some (.ref b), some (.ref L), some (.ref Pp), some (.ref Du), v6, v7, some (.int (mn : Nat)), some (.ref R), va, none] ∧ Same HD Hx) ⟨_, _, _, rfl, Same.refl _⟩ (fun j σ Hx _ h => by obtain ⟨_, _, _, _, h⟩ := h; exact SqL.of (h _ _ hL)) ?_ ?_
        · rintro j y σ Hx Hy hj ⟨v6, v7, va, rfl, sx⟩ ⟨rfl, gx⟩
          obtain ⟨pb, rfl, hb, hj2, _⟩ := pcs_at (dpAll_same sx da) gx
          refine ⟨pb, _, rfl, hb, rfl, _, _, rfl, _, _, rfl, rfl, ?_⟩
          refine ⟨_, rfl, _, rfl, L, xs, ps, _, rfl, SqL.of (sx _ _ hL), dpAll_same sx da, l60, fun Hc Ar sc nAr hAr => ?_⟩
          generalize (ps.getD j pc0).1 = h at hAr
          have sx := sx.trans sc
          clear sc nAr
          refine ⟨_, rfl, Ar, rfl, ⟨_, SqL.of hAr⟩, fun C nC => ?_⟩
          have lh : ((hereF ps h).map V.int).length = (hereN ps h ps.length).length := by rw [List.length_map]; unfold hereF; rw [List.length_map]
          have lh2 := hereN_len ps h ps.length
          refine lc_it (walk_list (xs := (hereF ps h).map V.int)) (PvL Hc C fun c => (((hereN ps h ps.length).map fun p => ((gsF ps p : Nat) : Int)).take c).map V.int) (pv_start nC rfl) (fun c Ha _ z => SqL.of (z.1 _ _ hAr)) ?_ ?_
          · rintro c y Ha Hb hc p ⟨rfl, gy⟩
            rw [← hereF_map, List.getElem?_map] at gy
            obtain ⟨r, gr, rfl⟩ := Option.map_eq_some_iff.mp gy
            have hr := (mem_hereN.mp (List.mem_of_getElem? gr)).1
            refine ⟨rfl, tYes_at ?_⟩
            rw [if_pos rfl]
            have gf : ((fndF ps).map V.int)[r]? = some (V.int ((gsF ps r : Nat) : Int)) := by
              unfold fndF
              rw [List.getElem?_map, List.getElem?_map, List.getElem?_range hr]; rfl
            refine ⟨_, rfl, _, rfl, R, _, _, _, rfl, rfl, SqL.of (p.1 _ _ (sx _ _ hR)), atI_nat gf, ?_⟩
            exact pv_put nC p (Same.refl _) (take_map V.int (by rw [List.getElem?_map, gr]; rfl)) (take_len_le (by rw [List.length_map]; omega))
          · intro Hd p
            obtain ⟨sd, hC⟩ := pv_end p (take_all (by rw [List.length_map, lh]; exact Nat.le_refl _))
            clear p
            refine ⟨C, _, rfl, SqL.of hC, (by rw [List.length_map]; omega), fun p1 ks np1 nod mem => ?_⟩
            have se := same_upd (o := SetO w p1 (fun k => decide (k ∈ (hereN ps h ps.length).map fun p => ((gsF ps p : Nat) : Int))) ks.length) np1
            refine ⟨p1, _, _, rfl, upd_same, _, rfl, _, _, rfl, .inl ⟨_, SqL.of (se _ _ (sd _ _ hAr)), rfl⟩, _, _, rfl, rfl, _, rfl, ?_⟩
            have ndg : ((hereN ps h ps.length).map fun p => ((gsF ps p : Nat) : Int)).Nodup := by
              refine List.pairwise_map.mpr ((hereN_nodup (ps := ps) (h := h) (i := ps.length)).imp_of_mem fun {u v} hu hv ne z => ?_)
              obtain ⟨a1, a2⟩ := mem_hereN.mp hu
              obtain ⟨b1, b2⟩ := mem_hereN.mp hv
              exact gs_diff a1 b1 ne a2 b2 (by omega)
            have := nodup_leG (ts := ks) ndg fun x hx => (mem x).mpr hx
            rw [List.length_map] at this
            rw [decide_eq_false (by rw [lh]; omega)]
            exact iteF ⟨_, _, _, rfl, (sx.trans sd).trans se⟩
        · rintro σ Hx ⟨v6, v7, va, rfl, sx⟩
          have hL := sx _ _ hL
          have hP := sx _ _ hP
          have hDu := sx _ _ hDu
          have hR := sx _ _ hR
          have da := dpAll_same sx da
          have x5 := x5.trans (.of sx)
          have tbA := tbA.ext sx
          clear sx
          have LR : ∀ {HX : Hp} {us : List V}, HX R = some (.lst us) → ∀ s ∈ [R], ∃ xs, HX s = some (.lst xs) := fun h s hs => by
            rw [List.mem_singleton.mp hs]; exact ⟨_, h⟩
          have x35 : ∀ {HX HY : Hp}, LamX.ExtN H3 HX → Sm [R] HX HY → LamX.ExtN H3 HY := fun x s b o e n => sm_at s (by simp [fR3 b o e n]) (x b o e n)
          refine ⟨_, rfl, .inl ⟨rfl, _, SqL.of hR⟩, R, _, rfl, rfl, hR, ?_⟩
          have sr : Sm [R] Hx (upd Hx R (.lst ((fndF ps).map V.int).reverse)) := sm_wr List.mem_cons_self
          have da := pcs_wr (o := .lst ((fndF ps).map V.int).reverse) hR da
          have hL := sm_at sr (by simp [RL]) hL
          have hP := sm_at sr (by simp [RP]) hP
          have hDu := sm_at sr (by simp [RDu]) hDu
          have x5 := x35 x5 sr
          have tbA := tabs_sm (LR hR) sr tbA
          have hR : upd Hx R (.lst ((fndF ps).map V.int).reverse) R = some (.lst ((fndF ps).map V.int).reverse) := upd_same
          generalize upd Hx R (.lst ((fndF ps).map V.int).reverse) = HE at hL hP hDu hR da x5 tbA ⊢
          clear sr
          refine ⟨_, rfl, .inl ⟨rfl, _, SqL.of hR⟩, R, _, _, rfl, rfl, hR, (by rw [List.length_reverse, List.length_map, sizeLine_eq]; omega), ?_⟩
          have sr : Sm [R] HE (upd HE R (.lst (((fndF ps).map V.int).reverse ++ [.int 0]))) := sm_wr List.mem_cons_self
          have da := pcs_wr (o := .lst (((fndF ps).map V.int).reverse ++ [.int 0])) hR da
          have hL := sm_at sr (by simp [RL]) hL
          have hP := sm_at sr (by simp [RP]) hP
          have hDu := sm_at sr (by simp [RDu]) hDu
          have x5 := x35 x5 sr
          have tbA := tabs_sm (LR hR) sr tbA
          generalize upd HE R (.lst (((fndF ps).map V.int).reverse ++ [.int 0])) = HF at hL hP hDu da x5 tbA ⊢
          clear sr hR LR
          refine ⟨_, rfl, Pp, xs, ps, rfl, SqL.of hP, da, l60, tbA, fun HG R1 xG tbG fR1 hR1 => ?_⟩
          rw [fnd_map] at hR1
          refine ⟨_, rfl, Pp, xs, ps, rfl, SqL.of (xG _ _ hP nt), pcs_ext xG da, l60, tbG, fun HI R2 xI tbI fR2 hR2 => ⟨(by show 2 ≤ sizeLine; decide), fun A1 nA1 => ?_⟩⟩
          rw [fnd_map] at hR2
          have hR1 := xI _ _ hR1 nt
          have xG := xG.trans xI
          have hL := xG _ _ hL nt
          have hP := xG _ _ hP nt
          have hDu := xG _ _ hDu nt
          have da := pcs_ext xG da
          have x5 := x5.trans xG
          clear xG xI tbG fR1 fR2 tbA
          refine ⟨_, rfl, _, rfl, (by show 2 ≤ sizeLine; decide), fun A2 nA2 => ?_⟩
          have sJ := same_upd (o := .lst [.ref R1, .ref R2]) nA1
          have sK := same_upd (o := .lst [.ref Du, .ref Du]) nA2
          have sL := sJ.trans sK
          have hA1 : upd (upd HI A1 (.lst [.ref R1, .ref R2])) A2 (.lst [.ref Du, .ref Du]) A1 = some (.lst [.ref R1, .ref R2]) := sK _ _ upd_same
          have hA2 : upd (upd HI A1 (.lst [.ref R1, .ref R2])) A2 (.lst [.ref Du, .ref Du]) A2 = some (.lst [.ref Du, .ref Du]) := upd_same
          generalize upd (upd HI A1 (.lst [.ref R1, .ref R2])) A2 (.lst [.ref Du, .ref Du]) = HM at sL hA1 hA2 ⊢
          have hR1 := sL _ _ hR1
          have hR2 := sL _ _ hR2
          have hL := sL _ _ hL
          have hP := sL _ _ hP
          have hDu := sL _ _ hDu
          have da := dpAll_same sL da
          have x5 := x5.trans (.of sL)
          have tbI := tbI.ext sL
          clear sJ sK sL nA1 nA2
          refine ⟨.ref A1, .ref A2, .list [intsD (fndF ps), intsD (fndF ps)], gm, rfl, .lst (SqL.of hA1) (.cons (.lst (SqL.of hR1) (dp_ints _)) (.cons (.lst (SqL.of hR2) (dp_ints _)) .nil)), .lst (SqL.of hA2) (.cons (.lst (SqL.of hDu) (dp_ints _)) (.cons (.lst (SqL.of hDu) (dp_ints _)) .nil)), two_depth, two_wid (by omega), two_gd hgm, fun HN sN => ⟨_, rfl, iteF ?_⟩⟩
          refine ⟨_, rfl, _, rfl, _, _, .lst (SqL.of (sN _ _ hP)) (dpAll_same sN da), .lst (SqL.of (sN _ _ hL)) (dpAll_same sN da), pcs_shaped ok.each, pcs_shaped ok.each, _, rfl, ?_⟩
          rw [SeqAt.eqv_refl _ (gd_lay _ (pcs_gd ok.each))]
          exact iteF ⟨_, _, _, _, _, _, _, _, _, _, rfl, x3.trans (x5.trans (.of sN)), tbI.ext sN⟩
    · rintro σ H2 ⟨v1, v2, v3, v4, v5, v6, v7, v8, v9, va, rfl, x3, tb3⟩
      refine ⟨Nat.zero_le _, fun e1 ne1 => ?_⟩
      have s1 := same_upd (o := .lst []) ne1
      refine ⟨e1, [], [], rfl, SqL.of upd_same, .nil, by decide, tb3.ext s1, fun H4 R x4 tb4 fR hR => ⟨Nat.zero_le _, fun e2 ne2 => ?_⟩⟩
      have s2 := same_upd (o := .lst []) ne2
      refine ⟨.list [], .list [], .lst (SqL.of (s2 _ _ hR)) .nil, .lst (SqL.of upd_same) .nil, rfl, rfl, q _⟩

end
end Pot

namespace Pot
open PySem PySem.Spec PyProof.Rows L2
set_option maxHeartbeats 4000000 in
theorem all_mk {l : PySem.W.OpenLaw} {w : World} {K : PySem.W.Frag} {h : Heap} {mg : Str → Option Value} {fa : Addr} (X : K.In h) (G : h.Ns mainGlobals mg) (hfa : mg "law" = some (.ref fa))
    {f1 : Addr} {od1 an1 : Option Addr} {sl1 : Array (Option Value)} {oc1 kV1 dc1 pm1 cd1 ct1 : Value}
    {f2 : Addr} {od2 an2 : Option Addr} {sl2 : Array (Option Value)} {oc2 kV2 dc2 pm2 cd2 ct2 : Value}
    {f3 cT3 pT3 : Addr} {od3 an3 oe3 : Option Addr} {sl3 sm3 : Array (Option Value)} {vT3 : Array Value} {oc3 kV3 dc3 pm3 ct3 of3 : Value}
    {f4 : Addr} {od4 an4 : Option Addr} {sl4 : Array (Option Value)} {oc4 kV4 dc4 pm4 cd4 ct4 : Value}
    {f5 : Addr} {od5 an5 : Option Addr} {sl5 : Array (Option Value)} {oc5 kV5 dc5 pm5 cd5 ct5 : Value}
    {f6 : Addr} {od6 an6 : Option Addr} {sl6 : Array (Option Value)} {oc6 kV6 dc6 pm6 cd6 ct6 : Value}
    {f7 : Addr} {od7 an7 : Option Addr} {sl7 : Array (Option Value)} {oc7 kV7 dc7 pm7 cd7 ct7 : Value}
    {f8 : Addr} {od8 an8 : Option Addr} {sl8 : Array (Option Value)} {oc8 kV8 dc8 pm8 cd8 ct8 : Value}
    {f9 : Addr} {od9 an9 : Option Addr} {sl9 : Array (Option Value)} {oc9 kV9 dc9 pm9 cd9 ct9 : Value}
    {f10 : Addr} {od10 an10 : Option Addr} {sl10 : Array (Option Value)} {oc10 kV10 dc10 pm10 cd10 ct10 : Value}
    {f11 : Addr} {od11 an11 : Option Addr} {sl11 : Array (Option Value)} {oc11 kV11 dc11 pm11 cd11 ct11 : Value}
    {f12 : Addr} {od12 an12 : Option Addr} {sl12 : Array (Option Value)} {oc12 kV12 dc12 pm12 cd12 ct12 : Value}
    (a1 : PySem.W.nsIn K mainGlobals "is_in" = some (some (.ref f1))) (l1 : K.lookup f1 = some ⟨oc1, od1, .func (PySem.W.fnOf "is_in" "is_in" (defArgs s_is_in) (defBody s_is_in) (defScope s_is_in) .none kV1 dc1 pm1 an1 cd1 ct1), sl1⟩) (c1 : PySem.W.codeIn K cd1 "is_in" = true) (k1 : PySem.W.keepIn K (.ref f1) = true)
    (a2 : PySem.W.nsIn K mainGlobals "out_at" = some (some (.ref f2))) (l2 : K.lookup f2 = some ⟨oc2, od2, .func (PySem.W.fnOf "out_at" "out_at" (defArgs s_out_at) (defBody s_out_at) (defScope s_out_at) .none kV2 dc2 pm2 an2 cd2 ct2), sl2⟩) (c2 : PySem.W.codeIn K cd2 "out_at" = true) (k2 : PySem.W.keepIn K (.ref f2) = true)
    (a3 : PySem.W.nsIn K mainGlobals "by_coming" = some (some (.ref f3))) (l3 : K.lookup f3 = some ⟨oc3, od3, .func (PySem.W.fnOf "by_coming" "by_coming" (defArgs s_by_coming) (defBody s_by_coming) (defScope s_by_coming) .none kV3 dc3 pm3 an3 (.ref cT3) ct3), sl3⟩) (c3 : PySem.W.codeIn K (.ref cT3) "by_coming" = true) (k3 : PySem.W.keepIn K (.ref f3) = true)
    (m3 : K.lookup cT3 = some ⟨of3, oe3, .fields vT3, sm3⟩) (u3 : vT3[11]? = some (.ref pT3)) (e3 : PySem.W.codeHdIn K cT3 pT3 = true) (n3 : K.lookup pT3 = none) (h3 : h.get? pT3 = some (PySem.W.tabObj #[]))
    (a4 : PySem.W.nsIn K mainGlobals "slotted" = some (some (.ref f4))) (l4 : K.lookup f4 = some ⟨oc4, od4, .func (PySem.W.fnOf "slotted" "slotted" (defArgs s_slotted) (defBody s_slotted) (defScope s_slotted) .none kV4 dc4 pm4 an4 cd4 ct4), sl4⟩) (c4 : PySem.W.codeIn K cd4 "slotted" = true) (k4 : PySem.W.keepIn K (.ref f4) = true)
    (a5 : PySem.W.nsIn K mainGlobals "least_free" = some (some (.ref f5))) (l5 : K.lookup f5 = some ⟨oc5, od5, .func (PySem.W.fnOf "least_free" "least_free" (defArgs s_least_free) (defBody s_least_free) (defScope s_least_free) .none kV5 dc5 pm5 an5 cd5 ct5), sl5⟩) (c5 : PySem.W.codeIn K cd5 "least_free" = true) (k5 : PySem.W.keepIn K (.ref f5) = true)
    (a6 : PySem.W.nsIn K mainGlobals "_law_begin" = some (some (.ref f6))) (l6 : K.lookup f6 = some ⟨oc6, od6, .func (PySem.W.fnOf "_law_begin" "_law_begin" (defArgs s__law_begin) (defBody s__law_begin) (defScope s__law_begin) .none kV6 dc6 pm6 an6 cd6 ct6), sl6⟩) (c6 : PySem.W.codeIn K cd6 "_law_begin" = true) (k6 : PySem.W.keepIn K (.ref f6) = true)
    (a7 : PySem.W.nsIn K mainGlobals "_law_take" = some (some (.ref f7))) (l7 : K.lookup f7 = some ⟨oc7, od7, .func (PySem.W.fnOf "_law_take" "_law_take" (defArgs s__law_take) (defBody s__law_take) (defScope s__law_take) .none kV7 dc7 pm7 an7 cd7 ct7), sl7⟩) (c7 : PySem.W.codeIn K cd7 "_law_take" = true) (k7 : PySem.W.keepIn K (.ref f7) = true)
    (a8 : PySem.W.nsIn K mainGlobals "_law_same" = some (some (.ref f8))) (l8 : K.lookup f8 = some ⟨oc8, od8, .func (PySem.W.fnOf "_law_same" "_law_same" (defArgs s__law_same) (defBody s__law_same) (defScope s__law_same) .none kV8 dc8 pm8 an8 cd8 ct8), sl8⟩) (c8 : PySem.W.codeIn K cd8 "_law_same" = true) (k8 : PySem.W.keepIn K (.ref f8) = true)
    (a9 : PySem.W.nsIn K mainGlobals "_law_pieces" = some (some (.ref f9))) (l9 : K.lookup f9 = some ⟨oc9, od9, .func (PySem.W.fnOf "_law_pieces" "_law_pieces" (defArgs s__law_pieces) (defBody s__law_pieces) (defScope s__law_pieces) .none kV9 dc9 pm9 an9 cd9 ct9), sl9⟩) (c9 : PySem.W.codeIn K cd9 "_law_pieces" = true) (k9 : PySem.W.keepIn K (.ref f9) = true)
    (a10 : PySem.W.nsIn K mainGlobals "_law_here" = some (some (.ref f10))) (l10 : K.lookup f10 = some ⟨oc10, od10, .func (PySem.W.fnOf "_law_here" "_law_here" (defArgs s__law_here) (defBody s__law_here) (defScope s__law_here) .none kV10 dc10 pm10 an10 cd10 ct10), sl10⟩) (c10 : PySem.W.codeIn K cd10 "_law_here" = true) (k10 : PySem.W.keepIn K (.ref f10) = true)
    (a11 : PySem.W.nsIn K mainGlobals "_law_slots" = some (some (.ref f11))) (l11 : K.lookup f11 = some ⟨oc11, od11, .func (PySem.W.fnOf "_law_slots" "_law_slots" (defArgs s__law_slots) (defBody s__law_slots) (defScope s__law_slots) .none kV11 dc11 pm11 an11 cd11 ct11), sl11⟩) (c11 : PySem.W.codeIn K cd11 "_law_slots" = true) (k11 : PySem.W.keepIn K (.ref f11) = true)
    (a12 : PySem.W.nsIn K mainGlobals "law" = some (some (.ref f12))) (l12 : K.lookup f12 = some ⟨oc12, od12, .func (PySem.W.fnOf "law" "law" (defArgs s_law) (defBody s_law) (defScope s_law) .none kV12 dc12 pm12 an12 cd12 ct12), sl12⟩) (c12 : PySem.W.codeIn K cd12 "law" = true) (k12 : PySem.W.keepIn K (.ref f12) = true)
    (z1 : PySem.W.nsIn K mainGlobals "len" = some none)
    (z2 : PySem.W.nsIn K mainGlobals "divmod" = some none)
    (z3 : PySem.W.nsIn K mainGlobals "range" = some none)
    (z4 : PySem.W.nsIn K mainGlobals "sum" = some none)
    (z5 : PySem.W.nsIn K mainGlobals "all" = some none)
    (z6 : PySem.W.nsIn K mainGlobals "any" = some none)
    (z7 : PySem.W.nsIn K mainGlobals "isinstance" = some none)
    (z8 : PySem.W.nsIn K mainGlobals "str" = some none)
    (z9 : PySem.W.nsIn K mainGlobals "int" = some none)
    (z10 : PySem.W.nsIn K mainGlobals "list" = some none)
    (z11 : PySem.W.nsIn K mainGlobals "tuple" = some none)
    (z12 : PySem.W.nsIn K mainGlobals "bool" = some none)
    (z13 : PySem.W.nsIn K mainGlobals "zip" = some none)
    (z14 : PySem.W.nsIn K mainGlobals "set" = some none)
    (z15 : PySem.W.nsIn K mainGlobals "sorted" = some none)
    (z16 : PySem.W.nsIn K mainGlobals "enumerate" = some none)
    (z17 : PySem.W.nsIn K mainGlobals "repr" = some none)
    (z18 : PySem.W.nsIn K mainGlobals "min" = some none)
    (z19 : PySem.W.nsIn K mainGlobals "max" = some none)
    (z20 : PySem.W.nsIn K mainGlobals "abs" = some none)
    : ∃ (fd : FuncData) (cs : List (Addr × Addr)) (sp : Sp), (∀ p ∈ cs, h.get? p.2 = some (PySem.W.tabObj #[])) ∧ (∀ p ∈ cs, K.lookup p.2 = none) ∧ (∀ p ∈ cs, PySem.W.CodeHd h p.1 p.2) ∧ (∀ (s : Shared) (v : Value), BindsTo s fd ⟨[v], []⟩ [("_law_script", v)]) ∧
      (∀ (H : Hp) (a : Addr) (ns : List Int), ns.length ≤ 63 → (∀ p ∈ cs, H p.2 = some (.tbl #[])) → SqL K H a (ns.map V.int) → sp [.ref a] H (fun v _ => v = .bl true) E0) ∧
      ∀ base : Heap, K.In base → base.Ns mainGlobals mg → (∀ p ∈ cs, LamX.TabB base mg p.1 p.2) → FnG l.prog w K mg base 6 fa fd ["_law_script"] sp := by
  have e := hfa.symm.trans (PySem.W.mg_of X G a12)
  cases e
  have T : Txt mg := ⟨PySem.W.mg_none_of X G z1, PySem.W.mg_none_of X G z2, PySem.W.mg_none_of X G z3, PySem.W.mg_none_of X G z4, PySem.W.mg_none_of X G z5, PySem.W.mg_none_of X G z6, PySem.W.mg_none_of X G z7, PySem.W.mg_none_of X G z8, PySem.W.mg_none_of X G z9, PySem.W.mg_none_of X G z10, PySem.W.mg_none_of X G z11, PySem.W.mg_none_of X G z12, PySem.W.mg_none_of X G z13, PySem.W.mg_none_of X G z14, PySem.W.mg_none_of X G z15, PySem.W.mg_none_of X G z16, PySem.W.mg_none_of X G z17, PySem.W.mg_none_of X G z18, PySem.W.mg_none_of X G z19, PySem.W.mg_none_of X G z20⟩
  have F1 := fun_mk (st := s_is_in) l1 c1 k1
  have b1 := F1.binds (ps := ["piece", "hour"]) fun _ _ _ _ _ _ us hl => match us, hl with | [_, _], _ => rfl
  have g1 := PySem.W.mg_of X G a1
  have F2 := fun_mk (st := s_out_at) l2 c2 k2
  have b2 := F2.binds (ps := ["piece"]) fun _ _ _ _ _ _ us hl => match us, hl with | [_], _ => rfl
  have g2 := PySem.W.mg_of X G a2
  have F3 := fun_mk (st := s_by_coming) l3 c3 k3
  have b3 := F3.binds (ps := ["pieces"]) fun _ _ _ _ _ _ us hl => match us, hl with | [_], _ => rfl
  have g3 := PySem.W.mg_of X G a3
  have F4 := fun_mk (st := s_slotted) l4 c4 k4
  have b4 := F4.binds (ps := ["pieces"]) fun _ _ _ _ _ _ us hl => match us, hl with | [_], _ => rfl
  have g4 := PySem.W.mg_of X G a4
  have F5 := fun_mk (st := s_least_free) l5 c5 k5
  have b5 := F5.binds (ps := ["taken"]) fun _ _ _ _ _ _ us hl => match us, hl with | [_], _ => rfl
  have g5 := PySem.W.mg_of X G a5
  have F6 := fun_mk (st := s__law_begin) l6 c6 k6
  have b6 := F6.binds (ps := ["_law_script", "_law_k"]) fun _ _ _ _ _ _ us hl => match us, hl with | [_, _], _ => rfl
  have g6 := PySem.W.mg_of X G a6
  have F7 := fun_mk (st := s__law_take) l7 c7 k7
  have b7 := F7.binds (ps := ["_law_state", "_law_many"]) fun _ _ _ _ _ _ us hl => match us, hl with | [_, _], _ => rfl
  have g7 := PySem.W.mg_of X G a7
  have F8 := fun_mk (st := s__law_same) l8 c8 k8
  have b8 := F8.binds (ps := ["_law_found", "_law_due"]) fun _ _ _ _ _ _ us hl => match us, hl with | [_, _], _ => rfl
  have g8 := PySem.W.mg_of X G a8
  have F9 := fun_mk (st := s__law_pieces) l9 c9 k9
  have b9 := F9.binds (ps := ["_law_state", "_law_most"]) fun _ _ _ _ _ _ us hl => match us, hl with | [_, _], _ => rfl
  have g9 := PySem.W.mg_of X G a9
  have F10 := fun_mk (st := s__law_here) l10 c10 k10
  have b10 := F10.binds (ps := ["_law_pieces_here", "_law_hour"]) fun _ _ _ _ _ _ us hl => match us, hl with | [_, _], _ => rfl
  have g10 := PySem.W.mg_of X G a10
  have F11 := fun_mk (st := s__law_slots) l11 c11 k11
  have b11 := F11.binds (ps := ["_law_pieces_here"]) fun _ _ _ _ _ _ us hl => match us, hl with | [_], _ => rfl
  have g11 := PySem.W.mg_of X G a11
  have F12 := fun_mk (st := s_law) l12 c12 k12
  refine ⟨PySem.W.fnOf "law" "law" (defArgs s_law) (defBody s_law) (defScope s_law) .none kV12 dc12 pm12 an12 cd12 ct12, [(cT3, pT3)], spLaw K pT3, (fun p hp => by
    simp only [List.mem_cons, List.not_mem_nil, or_false] at hp
    rcases hp with rfl
    · exact h3), (fun p hp => by
    simp only [List.mem_cons, List.not_mem_nil, or_false] at hp
    rcases hp with rfl
    · exact n3), (fun p hp => by
    simp only [List.mem_cons, List.not_mem_nil, or_false] at hp
    rcases hp with rfl
    · exact PySem.W.codeHd_of_K X e3), fun s v => .of_eq rfl, (fun H a ns hl hT hS => ⟨a, ns, rfl, hS, hl, (fun p hp => by
    simp only [List.mem_cons, List.not_mem_nil, or_false] at hp
    rcases hp with rfl
    · exact LamX.TabS.nil (hT (cT3, pT3) (by simp))), fun _ => rfl⟩), fun base _ _ hTB => ?_⟩
  have TB3 := hTB (cT3, pT3) (by simp)
  have c__law_begin : Cl l.prog w K mg base 1 "_law_begin" ((spBegin K)) := ⟨_, _, _, ok_begin F6 T, g6, F6.kp, b6⟩
  have c__law_take : Cl l.prog w K mg base 1 "_law_take" (spTake) := ⟨_, _, _, ok_take F7 T, g7, F7.kp, b7⟩
  have c__law_pieces : Cl l.prog w K mg base 2 "_law_pieces" ((spPieces K)) := ⟨_, _, _, ok_pieces F9 T c__law_take, g9, F9.kp, b9⟩
  have c__law_here : Cl l.prog w K mg base 1 "_law_here" ((spAt K)) := ⟨_, _, _, ok_here F10 T, g10, F10.kp, b10⟩
  have c__law_slots : Cl l.prog w K mg base 1 "_law_slots" ((spLSlots K)) := ⟨_, _, _, ok_lslots F11 T, g11, F11.kp, b11⟩
  have c_by_coming : Cl l.prog w K mg base 2 "by_coming" ((spBy K pT3)) := ⟨_, _, _, ok_by F3 rfl T TB3, g3, F3.kp, b3⟩
  have c_out_at : Cl l.prog w K mg base 1 "out_at" ((spOut K)) := ⟨_, _, _, ok_out F2, g2, F2.kp, b2⟩
  have c_is_in : Cl l.prog w K mg base 2 "is_in" ((spIn K)) := ⟨_, _, _, ok_in F1 c_out_at, g1, F1.kp, b1⟩
  have c_least_free : Cl l.prog w K mg base 1 "least_free" ((spFree K)) := ⟨_, _, _, ok_free F5 T, g5, F5.kp, b5⟩
  have c_slotted : Cl l.prog w K mg base 3 "slotted" ((spSlot K pT3)) := ⟨_, _, _, ok_slot F4 T c_by_coming c_is_in c_least_free, g4, F4.kp, b4⟩
  have c__law_same : Cl l.prog w K mg base 5 "_law_same" (spSame K 4) := ⟨_, _, _, ok_same F8 T b8 g8 4, g8, F8.kp, b8⟩
  exact ok_law F12 T c__law_begin c__law_pieces c__law_here c__law_slots c_slotted c__law_same
end Pot
open PySem PySem.W PyProof.Rows
set_option maxRecDepth 100000 in
set_option maxHeartbeats 0 in
theorem PySem.Challenge.cw_potround_k48_slots_holds : PySem.Challenge.rw_potround_k48_slots.Holds := by
  w_on; o_law; k_head; (case hw => w_witness2)
  k_fill
  refine Pot.walkGT (l := PySem.Challenge.rw_potround_k48_slots) (n := 63) (k := 6) (x := "_law_script") rfl (by decide) rfl ⟨rfl, by decide, by decide⟩ (fun w h Y => PySem.W.km_in_of Y) ?F
  case F =>
    intro w mg fa h Y KX G hmg
    refine' Pot.all_mk KX G hmg ?a1 ?l1 ?c1 ?k1 ?a2 ?l2 ?c2 ?k2 ?a3 ?l3 ?c3 ?k3 ?m3 ?u3 ?e3 ?n3 ?h3 ?a4 ?l4 ?c4 ?k4 ?a5 ?l5 ?c5 ?k5 ?a6 ?l6 ?c6 ?k6 ?a7 ?l7 ?c7 ?k7 ?a8 ?l8 ?c8 ?k8 ?a9 ?l9 ?c9 ?k9 ?a10 ?l10 ?c10 ?k10 ?a11 ?l11 ?c11 ?k11 ?a12 ?l12 ?c12 ?k12 ?z1 ?z2 ?z3 ?z4 ?z5 ?z6 ?z7 ?z8 ?z9 ?z10 ?z11 ?z12 ?z13 ?z14 ?z15 ?z16 ?z17 ?z18 ?z19 ?z20
    (case a1 => k_is)
    (case l1 => k_is)
    (case c1 => k_is)
    (case k1 => k_is)
    (case a2 => k_is)
    (case l2 => k_is)
    (case c2 => k_is)
    (case k2 => k_is)
    (case a3 => k_is)
    (case l3 => k_is)
    (case c3 => k_is)
    (case k3 => k_is)
    (case m3 => k_is)
    (case u3 => rfl)
    (case e3 => first | k_is | kernel_rfl | decide +kernel)
    (case n3 => first | k_is | kernel_rfl | rfl | decide +kernel)
    (case h3 => exact PySem.W.km_tabs_of Y _ (by first | k_mem | decide))
    (case a4 => k_is)
    (case l4 => k_is)
    (case c4 => k_is)
    (case k4 => k_is)
    (case a5 => k_is)
    (case l5 => k_is)
    (case c5 => k_is)
    (case k5 => k_is)
    (case a6 => k_is)
    (case l6 => k_is)
    (case c6 => k_is)
    (case k6 => k_is)
    (case a7 => k_is)
    (case l7 => k_is)
    (case c7 => k_is)
    (case k7 => k_is)
    (case a8 => k_is)
    (case l8 => k_is)
    (case c8 => k_is)
    (case k8 => k_is)
    (case a9 => k_is)
    (case l9 => k_is)
    (case c9 => k_is)
    (case k9 => k_is)
    (case a10 => k_is)
    (case l10 => k_is)
    (case c10 => k_is)
    (case k10 => k_is)
    (case a11 => k_is)
    (case l11 => k_is)
    (case c11 => k_is)
    (case k11 => k_is)
    (case a12 => k_is)
    (case l12 => k_is)
    (case c12 => k_is)
    (case k12 => k_is)
    (case z1 => k_is)
    (case z2 => k_is)
    (case z3 => k_is)
    (case z4 => k_is)
    (case z5 => k_is)
    (case z6 => k_is)
    (case z7 => k_is)
    (case z8 => k_is)
    (case z9 => k_is)
    (case z10 => k_is)
    (case z11 => k_is)
    (case z12 => k_is)
    (case z13 => k_is)
    (case z14 => k_is)
    (case z15 => k_is)
    (case z16 => k_is)
    (case z17 => k_is)
    (case z18 => k_is)
    (case z19 => k_is)
    (case z20 => k_is)
