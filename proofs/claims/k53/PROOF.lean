import PyProof.Rows.All
import Wide.All
import OpenK.AllK
import Wide.FinOn
import HandS.ForMost
import PyProof.ReprRoads
import HandS.FStrTup
import HandS.Strs
import HandS.SetFor
import HandS.Zip
import HandS.ForExc
import HandS.IsInst
import HandS.Evl
import HandS.Conv
import HandS.Flow
import HandS.Style
import HandS.Sort
import HandS.Walk
import HandS.Codes
import HandS.StrMore
import HandS.TupAny
import HandS.Defaults
import KE.KEqSeq
import HandS.WideBits
import HandS.More
import KE.KLam
import KE.SortKeyHeap
import KE.SortData
import KE.SortLaws
import HandS.Base
import HandS.Call
import HandS.List
import HandS.Comp
import HandS.Text
import HandS.Lambda
import KE.KNestM
import PyProof.SetRoads
import HandS.Deep
import PyProof.StrBlock2
import KE.GoesNew
import HandS.DictTup
import HandS.DictSubView
import KE.KDictDisplayH
import KE.KDictWalk
import HandS.SlotsOwn
import HandS.OwnEq
import KE.DataCmp
import HandS.ExcInit
import KE.KExcInit
import KE.KExcSuper
import KE.KSuper
import KE.KSuperObj
import HandS.Words
import HandS.WordsExc
import HandS.Exc
import HandS.ExcIs
import HandS.ExcField
import KE.KExcIs
import HandS.CallSlots
import HandS.ExcOwn
import HandS.DictComp
import KE.KRevSl
import HandS.FStr
import HandS.RaiseMore
import HandS.ListItems
import HandS.Small
import PySem.Challenge.RW_potround_k53_tunnels_again_and_shared
set_option Elab.async false
set_option linter.all false
set_option maxRecDepth 100000
namespace Pot
open PySem PySem.Spec PyProof.Rows L2
/-! ### defs that are called where no text of a thing is under way -/
structure FnG (P : Program) (w : World) (K : PySem.W.Frag) (mg : Str → Option Value) (base : Heap) (k : Nat) (f : Addr) (fd : FuncData) (ps : List Str) (sp : Sp) : Prop where
  many : ∀ vs H Q E, sp vs H Q E → vs.length = ps.length
  does : ∀ (A : Around) (outer : List Env) (s : Shared) (H : Hp) (args : Args) (us : List Value) (vs : List V) (Q : VK), A.guards = some [] → Room k A → Env0 P w K mg base A outer s H →
    BindsTo s fd args (ps.zip us) → Vals vs us → sp vs H Q E0 → codeAny (model P w) A (.call (.ref f) args) (CR CX0 outer P w H s Q E0) s
section
variable {P : Program} {w : World} {K : PySem.W.Frag} {mg : Str → Option Value} {base : Heap}
theorem FnG.of {k : Nat} {f : Addr} {fd : FuncData} {ps : List Str} {sp : Sp} (F : FnOk P w K mg base CX0 k f fd ps sp) : FnG P w K mg base k f fd ps sp :=
  ⟨F.len, fun A outer s H args us vs Q _ hr e hb r h => F.run A outer s H args us vs Q E0 hr e hb r h⟩
theorem okG {x qual : Str} {st : Stmt} {f : Addr} {fd : FuncData} {N ps : List Str} {k : Nat} {sp : Sp} (F : Fun K x qual st f fd) (S : FnScope N ps (defScope st)) (many : ∀ vs H Q E, sp vs H Q E → vs.length = ps.length)
    (body : ∀ (cdv : Value) (A : Around) (outer : List Env) (s : Shared) (H : Hp) (vs : List V) (Q : VK), A.guards = some [] → Room k (A.deeper (envOfC qual (defScope st) s.heap.objs.size f cdv)) → sp vs H Q E0 →
      ∃ t, PSs (cxOf CX0 P w K mg base N qual (defScope st) f cdv A outer s H E0).nox (defBody st) t ∧ t { nx := fun _ H' => Q .non H', rt := Q } (start N vs) H) : FnG P w K mg base (k + 1) f fd ps sp := by
  obtain ⟨oc, od, kV, doc, pm, an, cdv, ct, osl, rfl, at_, code⟩ := F.ex
  refine ⟨many, fun A outer s H args us vs Q gd room e0 bind rel want => ?_⟩
  have kin : K.In s.heap := e0.mod.kin.keeps fun b o e => (e0.bs b o e).1
  have nolim : s.heap.NoLimit := e0.mod.nolimit.keeps fun b o e => (e0.bs b o e).1
  refine codeAny_call_function room.depth (kin _ _ at_) rfl S.co S.gen rfl (PySem.W.codeRec_of kin code) (bind _ _ _ _ (wpAny_newFunctionEnv_cells S.kind (fun y hy => ?_) fun env he s1 x => ?_))
  · obtain ⟨n, v⟩ := y
    exact (S.par n (List.of_mem_zip hy).1).imp id fun q => ⟨q, PySem.W.cellsFrom_some _ _ _ (.inl q)⟩
  · subst he
    obtain ⟨t, ht, hq⟩ := body cdv A outer s H vs Q gd (room.deeper _) want
    have I : Inv (cxOf CX0 P w K mg base N qual (defScope st) f cdv A outer s H E0) [] (start N vs) H s1 := inv_start S room.hd e0 (many _ _ _ _ want) rel x
    refine ⟨nolim.keeps x.toInCall.keep, codeAny_func (wpAny_mono (ht.nox.run [] s1 (start N vs) H _ I hq) (fun fl s' hs => ?_) fun _ _ z => z)⟩
    cases fl with
    | ret u =>
      obtain ⟨v, σ', H', J, rv, q⟩ := hs
      exact ⟨v, H', J.os, J.bare, J.base, J.hok, rv, q⟩
    | next =>
      obtain ⟨σ', H', J, q⟩ := hs
      exact ⟨V.non, H', J.os, J.bare, J.base, J.hok, rfl, q⟩
    | brk => obtain ⟨_, _, _, q⟩ := hs; exact q.elim
    | cont => obtain ⟨_, _, _, q⟩ := hs; exact q.elim
/-! calls -/
/-- a def that may be called by its name where no text is under way -/
def ClG (P : Program) (w : World) (K : PySem.W.Frag) (mg : Str → Option Value) (base : Heap) (k : Nat) (x : Str) (ds : List V) (sp : Sp) : Prop :=
  ∃ (f : Addr) (fd : FuncData) (ps : List Str) (dus : List Value), FnG P w K mg base k f fd ps sp ∧ mg x = some (.ref f) ∧ PySem.W.keepIn K (.ref f) = true ∧ Binds K fd ps dus ∧ Vals ds dus
theorem pe_clG {X : Cx} {k j : Nat} {x : Str} {ds : List V} {sp : Sp} {e : Expr} {es : List Expr} {t : TA} {p pos : Pos} (c : ClG X.prog X.w X.K X.mg X.base k x ds sp) (hr : Room j X.A) (gd : X.A.guards = some []) (hk : k ≤ j) (hg : Gl X x) (ha : PA X (e :: es) t)
    (hdb : (x == ("__debug__" : Str)) = false := by decide) (he : starEach (e :: es) X.env = (false, eval e X.env) :: starEach es X.env := by rfl) (hpl : (backTo pos (starEach es X.env)).any (·.1) = false := by rfl) :
    PE X (.Call (.Name x p) (e :: es) [] pos) (tCall sp ds E0 t) := by
  obtain ⟨f, fd, ps, dus, G, named, kept, binds, dv⟩ := c
  refine ⟨fun pins s σ H Q I h => wpAny_Call_Name_kw (ld_glob I hg named (PySem.W.callWith_K (h₀ := X.base) I.ok.mod.kin kept (thn (ha.run pos pins s σ H _ I h) fun us s1 hh => ?_) he hpl) hdb)⟩
  obtain ⟨vs, H1, I1, r, q⟩ := hh
  refine ⟨I1.kIn, ?_⟩
  have rel := r.append dv
  have n : (us ++ dus).length = ps.length := rel.length ▸ G.many _ _ _ _ q
  refine wpAny_call (codeAny_mono (G.does X.A X.stack s1 H1 ⟨us, []⟩ (us ++ dus) (vs ++ ds) Q gd (hr.mono hk) I1.env0 (binds s1 us I1.kIn n) rel q) fun res s' hq => ?_)
  rcases res with _ | fl
  case error => exact (show False from hq).elim
  cases fl <;> first | exact I1.after hq | exact (show False from hq).elim
/-! the law's own call -/
theorem law_callG {mb : Str → Option Value} {k : Nat} {fa a : Addr} {fd : FuncData} {x : Str} {sp : Sp} {s : Shared} {vs : List Value} {ns : List Int} (kin : K.In s.heap) (glob : s.heap.Ns mainGlobals mg) (blt : s.heap.Ns builtinsNs mb)
    (boot : ∀ y : Str, y ≠ "__name__" → mb y = bootBuiltins y) (lim : s.heap.NoLimit) (gens : s.gens = #[]) (obj : s.heap.get? a = some { cls := .type "list", data := .seq vs.toArray }) (whole : IntsAre vs ns) (small : ns.length ≤ sizeLine) (room : Room k callerA)
    (F : ∀ base : Heap, K.In base → base.Ns mainGlobals mg → FnG P w K mg base k fa fd [x] sp) (bind : ∀ (s : Shared) (u : Value), BindsTo s fd ⟨[u], []⟩ [(x, u)])
    (want : ∀ H : Hp, Only H → SqL K H a (ns.map V.int) → sp [.ref a] H (fun v _ => v = .bl true) E0) :
    codeAny (model P w) callerA (.call (.ref fa) ⟨[.ref a], []⟩) (fun r s' => r = .ok (.ret (.bool true)) ∧ OldK s.heap s'.heap ∧ s'.os = s.os ∧ AllBare s'.gens) s := by
  have rv := vals_ints whole
  have nv := whole.length
  -- which heap is told: the script, locked, where it isn't one of the written part
  obtain ⟨H, only, seq, fine, alone, apart⟩ : ∃ H : Hp, Only H ∧ SqL K H a (ns.map V.int) ∧ HOk P w H s.heap ∧ (∀ b u, H b = some u → b = a) ∧ (∀ u, H a = some u → K.lookup a = none) := by
    cases lk : K.lookup a with
    | some o =>
      have same := kin a o lk
      rw [obj] at same
      cases same
      exact ⟨fun _ => none, fun _ => .inl rfl, .inr ⟨_, vs.toArray, _, lk, rfl, rfl, rfl, by rw [List.size_toArray, nv]; exact small, by simpa using rv⟩, (fun b u z => nomatch (show (none : Option HO) = some u from z)), (fun b u z => nomatch (show (none : Option HO) = some u from z)), fun u z => nomatch (show (none : Option HO) = some u from z)⟩
    | none =>
      have hit : ∀ b u, (if b = a then some (HO.frz { cls := .type "list", data := .seq vs.toArray } (.lst (ns.map V.int))) else none) = some u → b = a ∧ u = .frz { cls := .type "list", data := .seq vs.toArray } (.lst (ns.map V.int)) := fun b u z => by
        split at z
        · cases z; exact ⟨‹_›, rfl⟩
        · cases z
      refine ⟨fun b => if b = a then some (.frz { cls := .type "list", data := .seq vs.toArray } (.lst (ns.map V.int))) else none, fun b => ?_, .inl (.inr ⟨_, if_pos rfl⟩), fun b u z => ?_, fun b u z => (hit b u z).1, fun _ _ => rfl⟩
      · by_cases hb : b = a
        · exact .inr ⟨_, _, if_pos hb⟩
        · exact .inl (if_neg hb)
      · obtain ⟨rfl, rfl⟩ := hit b u z
        exact ⟨obj, by rw [List.length_map]; exact small, vs, _, rv, obj⟩
  have hid : ∀ {b : Addr} {o : Obj}, s.heap.get? b = some o → (b = a → H a = none) → (hidT s.heap H).get? b = some o := fun {b o} e n => hidT_get e (by
    cases q : H b with
    | none => rfl
    | some u =>
      have e2 := alone b u q
      subst e2
      rw [n rfl] at q
      cases q)
  have kinB : K.In (hidT s.heap H) := fun b o e => hid (kin b o e) fun z => by
    subst z
    cases q : H b with
    | none => rfl
    | some u => rw [apart u q] at e; cases e
  have ns_ : ∀ {b : Addr} {m : Str → Option Value}, s.heap.Ns b m → (hidT s.heap H).Ns b m := fun {b m} h => by
    obtain ⟨o, es, ep, e, d, r⟩ := h
    refine ⟨o, es, ep, hid e fun z => ?_, d, r⟩
    subst z
    rw [obj] at e
    cases e
    exact nomatch (show Data.seq vs.toArray _ = Data.dict es ep from d)
  have md : Mod K mg (hidT s.heap H) := ⟨kinB, ns_ glob, ⟨mb, ns_ blt, boot⟩, by obtain ⟨mc, h1, h2⟩ := lim; exact ⟨mc, ns_ h1, h2⟩⟩
  have e0 : Env0 P w K mg (hidT s.heap H) callerA [] s H := ⟨rfl, md, fun b o e => of_hidT e, Nat.le_of_eq (hidT_size _ _), trivial, (fun b hb => nomatch (show b ∈ ([] : List Addr) from hb)), fine, .of_eq gens⟩
  refine codeAny_mono ((F _ kinB (ns_ glob)).does callerA [] s H ⟨[.ref a], []⟩ [.ref a] [.ref a] _ rfl room e0 (bind s (.ref a)) (.cons rfl .nil) (want H only seq)) fun res s' h => ?_
  rcases res with _ | fl
  case error => exact (show False from h).elim
  cases fl <;> first | exact (show False from h).elim | skip
  obtain ⟨v, H', os, bare, un, fine', rel, q⟩ := h
  cases (show v = .bl true from q)
  cases (show _ = Value.bool true from rel)
  refine ⟨rfl, OldK.of_keep fun b o e => ?_, os, bare⟩
  cases q : H b with
  | none => exact un.keep b o e q (fun z => nomatch (show b ∈ ([] : List Addr) from z)) (fun z => nomatch z)
  | some u =>
    rcases only b with z | ⟨ob, xs, z⟩
    · rw [q] at z; cases z
    · obtain ⟨e1, _⟩ := fine b _ z
      obtain ⟨e2, _⟩ := fine' b _ (un.frzs b ob _ z)
      rw [e] at e1; cases e1
      exact e2
end
theorem walkG {l : PySem.W.OpenLaw} {n k : Nat} {q : Program} {loose : List Str} {XP : (Str → Option Value) → Heap → Prop} {YP : World → Heap → Prop} {d : DefRec} {K : Params → PySem.W.Frag} {sp : World → Sp} {x : Str}
    (most : l.most = some n) (fits : n ≤ sizeLine) (plain : d.params.defaults = []) (room : Room k callerA) (part : ∀ (w : World) (h : Heap), YP w h → (K w.params).In h)
    (F : ∀ (w : World) (mg : Str → Option Value) (fa : Addr) (h : Heap), (K w.params).In h → h.Ns mainGlobals mg → mg d.name = some (.ref fa) →
      ∃ fd : FuncData, (∀ (s : Shared) (u : Value), BindsTo s fd ⟨[u], []⟩ [(x, u)]) ∧ ∀ base : Heap, (K w.params).In base → base.Ns mainGlobals mg → FnG l.prog w (K w.params) mg base k fa fd [x] (sp w))
    (want : ∀ (w : World) (H : Hp) (a : Addr) (ns : List Int), ns.length ≤ n → Only H → SqL (K w.params) H a (ns.map V.int) → sp w [.ref a] H (fun v _ => v = .bl true) E0) :
    PySem.W.WalkO q loose XP YP l.row.toRowW d [] (fun f vs => PySem.call f vs) := by
  refine Att.attach_call most plain fun w s₀ s₁ mg mb fa o pm cd doc a vs ns G Y _ _ _ named obj whole len gens => ?_
  obtain ⟨fd, bind, hF⟩ := F w mg fa _ (part w _ Y) G.T.g named
  exact law_callG (part w _ Y) G.T.g G.T.b G.T.builtins G.T.nolimit gens obj whole (Nat.le_trans len fits) room hF bind fun H only seq => want w H a ns len only seq
end Pot

namespace Pot
open PySem PySem.Spec PyProof.Rows L2
/-! ### repr of what is made of numbers, texts, truths, None, lists and tuples -/
section
variable {K : PySem.W.Frag}
mutual
theorem dp_noDict {H : Hp} : ∀ {v : V} {d : PyData}, Dp K H v d → d.hasDict = false
  | _, _, .non => rfl
  | _, _, .bl _ => rfl
  | _, _, .int _ => rfl
  | _, _, .str _ => rfl
  | _, _, .lst _ a => dpAll_noDict a
  | _, _, .tup _ a => dpAll_noDict a
theorem dpAll_noDict {H : Hp} : ∀ {vs : List V} {ds : List PyData}, DpAll K H vs ds → PyData.hasDictAll ds = false
  | _, _, .nil => rfl
  | _, _, .cons h t => by
    show (PyData.hasDict _ || PyData.hasDictAll _) = false
    rw [dp_noDict h, dpAll_noDict t]
    rfl
end
/-- how long its text may be, told roughly -/
def costAll : List PyData → Nat
  | [] => 0
  | x :: xs => cost x + 2 + costAll xs
where cost : PyData → Nat
  | .none => 4
  | .bool _ => 5
  | .int _ => 1921
  | .str x => 10 * x.length + 2
  | .list xs => costAll xs + 3
  | .tuple xs => costAll xs + 3
  | .dict _ => 0
/-- what repr is asked of here: its texts of plain signs -/
def fineAll : List PyData → Prop
  | [] => True
  | x :: xs => fine x ∧ fineAll xs
where fine : PyData → Prop
  | .none => True
  | .bool _ => True
  | .int i => i.natAbs.log2 < 1920
  | .str x => ∀ c ∈ x.cps.toList, c < 16 ^ 8
  | .list xs => fineAll xs
  | .tuple xs => fineAll xs
  | .dict _ => False
theorem from_len : ∀ (ts : List Str) (k : Nat) (acc : Str), (textFrom k acc ts).length ≤ acc.length + piled ts
  | [], k, acc => by rw [piled_nil]; exact Nat.le_refl _
  | t :: r, k, acc => by
    have ih := from_len r (k + 1)
    rw [piled_cons]
    unfold textFrom
    refine Nat.le_trans (ih _) ?_
    rw [strLen_append]
    split
    · rw [strLen_append]
      have e : (", " : Str).length = 2 := by decide +kernel
      omega
    · rw [strLen_append]
      have e : ("" : Str).length = 0 := by decide +kernel
      omega
theorem list_len (ts : List Str) : (listText ts).length ≤ piled ts + 2 := by
  unfold listText
  rw [strLen_append]
  have h := from_len ts 0 "["
  have e1 : ("[" : Str).length = 1 := by decide +kernel
  have e2 : ("]" : Str).length = 1 := by decide +kernel
  omega
mutual
theorem shown_len : ∀ d : PyData, fineAll.fine d → d.shown.length ≤ costAll.cost d
  | .none, _ => by decide +kernel
  | .bool b, _ => by cases b <;> decide +kernel
  | .int i, h => PyProof.Rows.int_text_len_1921 h
  | .str x, h => StrLaws.reprText_len x h
  | .list xs, h => Nat.le_trans (list_len _) (Nat.add_le_add (piled_len xs h) (by decide))
  | .tuple xs, h => Nat.le_trans (fmt_text _) (Nat.add_le_add (piled_len xs h) (by decide))
  | .dict _, h => h.elim
theorem piled_len : ∀ ds : List PyData, fineAll ds → piled (PyData.shownAll ds) ≤ costAll ds
  | [], _ => Nat.le_refl _
  | x :: xs, h => by
    have h1 := shown_len x h.1
    have h2 := piled_len xs h.2
    show piled (x.shown :: PyData.shownAll xs) ≤ costAll.cost x + 2 + costAll xs
    rw [piled_cons]
    omega
end
mutual
theorem fine_show : ∀ d : PyData, fineAll.fine d → d.showable = true
  | .none, _ => rfl
  | .bool _, _ => rfl
  | .int i, h => decide_eq_true h
  | .str _, _ => rfl
  | .list xs, h => fineAll_show xs h
  | .tuple xs, h => fineAll_show xs h
  | .dict _, h => h.elim
theorem fineAll_show : ∀ ds : List PyData, fineAll ds → PyData.showableAll ds = true
  | [], _ => rfl
  | x :: xs, h => by
    show (PyData.showable x && PyData.showableAll xs) = true
    rw [fine_show x h.1, fineAll_show xs h.2]
    rfl
end
end
section
variable {X : Cx}
def rRepr (K : PySem.W.Frag) : List V → Hp → VK → Prop := fun xs H Q => ∃ (a : Addr) (d : PyData), xs = [V.ref a] ∧ Dp K H (.ref a) d ∧ fineAll.fine d ∧ d.depth ≤ 60 ∧ costAll.cost d ≤ 16777216 ∧ Q (.str d.shown) H
theorem cr_repr (gd : X.A.guards = some []) (hu : X.A.units + 64 < cLine) : CallR X (.builtin "repr") (rRepr X.K) := by
  intro pins s σ H vs us Q I r h
  obtain ⟨a, d, rfl, dp, sh, dep, sz, q⟩ := h
  rw [Vals.ref1 r]
  obtain ⟨as, rd⟩ := Dp.reads I d (.ref a) (.ref a) dp rfl
  refine repr_of_reads' rd (fine_show d sh) (fun z => ?_) gd (by omega) (fun _ _ e => e) (fun h' u tk k => ⟨.str d.shown, H, I.kept k, ⟨u, rfl⟩, q⟩) (Nat.le_trans (shown_len d sh) (by rw [sizeLine_eq]; exact sz))
  rw [dp_noDict dp] at z
  cases z
end
end Pot

namespace Pot
open PySem PySem.Spec PyProof.Rows L2 PySem.W PySem.Calls
/-! ### set(xs) of a list of ints -/
/-- the object that set() makes first -/
abbrev emptySet (w : World) : Obj := { cls := .type "set", dict := none, data := .set #[] 0 (.fresh 0 0 (!w.params.followText "set-order")) }
section
variable {P : Program} {w : World} {A : Around} {E : Value → Shared → Prop} {s : Shared}
/-- what is wanted behind the filling -/
def Filled (w : World) (s : Shared) (ns : List Int) (s' : Shared) : Prop := ∃ h' tk c, s' = { s with heap := h', toks := tk } ∧ SetR w h' s.heap.objs.size (fun j => decide (j ∈ ns)) c ∧ c ≤ ns.length ∧ ∀ b o, s.heap.get? b = some o → h'.get? b = some o
set_option maxHeartbeats 4000000 in
theorem call_set_li {l : Addr} {items : Array Value} (ns : List Int) {Q : Value → Shared → Prop} (hh : A.handled = none) (hl : s.heap.IsList l items) (hit : IntsAre items.toList ns) (hb : ns.length + 1 < scanBound)
    (hq : ∀ s', Filled w s ns s' → Q (.ref s.heap.objs.size) s') : wpAny (model P w) A (call (.type "set") [.ref l]) Q E s := by
  have size : items.size = ns.length := by
    rw [← Array.length_toList]; exact IntsAre.length hit
  have made := F.called_set.made
  have below := F.called_set.sub
  obtain ⟨_, _, chain⟩ := F.called_set.mro
  have nt := F.called_set.notType
  have cc := F.called_set.canCreate
  have ck := F.typeCall_set_1 (.ref l)
  refine wpAny_call (codeAny_of_tree (show wpAny _ _ (callAny (.type "set") _) _ _ _ from wpAny_pure ⟨Code.quiet_builtin _ (by decide +kernel), codeAny_builtin F.entry_type_call ?_⟩))
  rw [Around.under_plain (weight_type_call_type "set" [.ref l] []) rfl]
  repeat (any_goals (first | assumption | wp_step))
  refine codeAny_mono (code_set_led1 (.ref l) (E := E) (Q₁ := fun obj z => obj = .ref s.heap.objs.size ∧ z = { s with heap := s.heap.push (emptySet w) }) ⟨rfl, rfl⟩) fun r z hr => ?_
  rcases r with _ | fl
  case error => exact hr
  cases fl <;> first | exact hr.elim | skip
  obtain ⟨rfl, rfl⟩ := hr
  have at0 : (s.heap.push (emptySet w)).get? s.heap.objs.size = some (emptySet w) := Heap.get?_push_size _ rfl
  have ty0 : Shared.TypeIs { s with heap := s.heap.push (emptySet w) } (.ref s.heap.objs.size) "set" := ⟨_, at0, rfl⟩
  have li := F.called_set.init.lookup
  have bi := F.called_set.init.bind (.ref s.heap.objs.size)
  repeat (any_goals (first | assumption | wp_step))
  refine codeAny_mono (codeAny_call_builtin (R := wants (fun r z => r = .none ∧ Filled w s ns z) E) F.called_set.init.plain F.entry_set_init (check_set_init_1 ty0 ?_)) fun r z hz => ?_
  · obtain ⟨⟨_, od, _, os⟩, hol, hcl, nl, hdl⟩ := hl
    simp only at hcl hdl
    subst hcl
    subst hdl
    have keep : (s.heap.push (emptySet w)).get? l = some { cls := .type "list", dict := od, data := .seq items nl, slots := os } := Heap.get?_push_of_some _ hol
    have s1 := F.sub_list_set
    have s2 := F.sub_list_frozenset
    have s3 : (Value.type "list" == Value.type "dict") = false := by decide
    have isl : (s.heap.push (emptySet w)).IsList l items := ⟨_, keep, rfl, nl, rfl⟩
    unfold Builtin.«set.__init__» noKeywords Builtin.Frozenset.updateFrom
    generalize hPI : pyIter = PI
    wp_walk
    subst hPI
    refine wpAny_pyIter_list isl (wpAny_bind (wpAny_runValue ?_))
    have lt : l < s.heap.objs.size := Heap.lt_size hol
    have sz : (s.heap.push (emptySet w)).objs.size = s.heap.objs.size + 1 := Heap.size_push ..
    have ne1 : l ≠ (s.heap.push (emptySet w)).objs.size := by rw [sz]; exact Nat.ne_of_lt (Nat.lt_succ_of_lt lt)
    have ne2 : s.heap.objs.size ∉ [(s.heap.push (emptySet w)).objs.size, l] := by
      rw [sz]
      intro z
      rcases List.mem_cons.mp z with z | z
      · exact absurd z (Nat.ne_of_lt (Nat.lt_succ_self _))
      · exact absurd (List.mem_singleton.mp z) (Nat.ne_of_gt lt)
    have each : ∀ (i : Nat) (v : Value), items[i]? = some v → ∃ k t, ns[i]? = some k ∧ v = .int k t := fun i v hv => by
      have hi : i < ns.length := size ▸ (Array.getElem?_eq_some_iff.mp hv).1
      obtain ⟨t, e⟩ := IntsAre.int_at hit i v (by rw [Array.getElem?_toList]; exact hv)
      exact ⟨ns[i], t, List.getElem?_eq_getElem hi, by rw [e, List.getD_eq_getElem?_getD, List.getElem?_eq_getElem hi]; rfl⟩
    refine set_update_ints ((Walks.list (show A.in1.in1.in1.handled = none by simp [hh]) _ l ne1 items).toS) s.heap.objs.size ne2 ns size hb each (items.size - 0) 0 _ (by omega) (Nat.zero_le _) ⟨⟨_, Heap.get?_push_size _ rfl, rfl, rfl⟩, isl.push _⟩ ⟨0, Nat.le_refl 0, setR_new_at (Heap.get?_push_of_some _ at0)⟩ fun s' c hm hc hS => ?_
    obtain ⟨h', g, d, tk, o⟩ := s'
    cases (show g = s.gens from hm.gens)
    cases (show d = s.drawn from hm.drawn)
    cases (show o = s.os from hm.os)
    refine (show wpAny _ _ _ _ _ _ from wpAny_pure (show wpAny _ _ (ret Value.none) _ _ _ from wpAny_pure ⟨rfl, h', tk, c, rfl, hS, size ▸ hc, fun b o e => ?_⟩))
    have hb0 : b < s.heap.objs.size := Heap.lt_size e
    refine hm.heap b o (fun z => ?_) (Heap.get?_push_of_some _ (Heap.get?_push_of_some _ e))
    rcases List.mem_cons.mp z with z | z
    · exact absurd z (Nat.ne_of_lt hb0)
    · exact absurd ((List.mem_singleton.mp z).trans sz) (Nat.ne_of_lt (Nat.lt_succ_of_lt hb0))
  · rcases r with _ | fl
    case error => exact hz
    cases fl <;> first | exact hz.elim | skip
    obtain ⟨rfl, f⟩ := hz
    obtain ⟨h', tk, c, rfl, hS, hc, k⟩ := id f
    repeat (any_goals (first | assumption | wp_step))
    exact hq _ ⟨_, _, _, rfl, hS, hc, k⟩
end
section
variable {X : Cx}
/-- set(xs), at most 60 ints: a set of just these -/
def rSetLi (K : PySem.W.Frag) (w : World) : List V → Hp → VK → Prop := fun xs H Q => ∃ (a : Addr) (ns : List Int), xs = [V.ref a] ∧ SqL K H a (ns.map V.int) ∧ ns.length ≤ 1000 ∧
  ∀ (p : Addr) (c : Nat), H p = none → c ≤ ns.length → Q (.ref p) (upd H p (SetO w p (fun k => decide (k ∈ ns)) c))
theorem cr_setLi (hc : X.calm = true) : CallR X (.type "set") (rSetLi X.K X.w) := by
  intro pins s σ H vs us Q I r h
  obtain ⟨a, ns, rfl, hS, hl, q⟩ := h
  rw [Vals.ref1 r]
  obtain ⟨its, rv, pl, hz⟩ := I.list hS
  refine call_set_li ns (I.ok.hd hc) pl.isList (by simpa using Vals.ints rv) (by unfold scanBound; omega) fun s' f => ?_
  obtain ⟨h', tk, c, rfl, R, hcn, k⟩ := f
  have hn : H s.heap.objs.size = none := I.hok.fresh (Nat.le_refl _)
  have J : Inv X pins σ (upd H s.heap.objs.size (SetO X.w s.heap.objs.size (fun k => decide (k ∈ ns)) c)) { s with heap := h', toks := tk } := I.laid (t' := tk) k (Nat.le_refl _) (setO_new R)
  exact ⟨.ref s.heap.objs.size, _, J, rfl, q _ _ hn hcn⟩
end
end Pot

/-! The rules whose readings name the written part, with it as a letter of its own. -/
namespace Pot
open PySem PySem.Spec PyProof.Rows L2
section
variable {X : Cx} {K : PySem.W.Frag}
theorem kx_list (h : X.K = K := by rfl) : IxR X (rIxL K) := h ▸ ix_list
theorem kx_tup (h : X.K = K := by rfl) : IxR X (rIxT K) := h ▸ ix_tup
theorem kl_list (h : X.K = K := by rfl) : SlR X (rSlL K) := h ▸ sl_list
theorem kl_tup (h : X.K = K := by rfl) : SlR X (rSlA K) := h ▸ sl_tupA
theorem ko_in (h : X.K = K := by rfl) : OpR X (compareOp .In) (rIn K false) := h ▸ op_in_seq
theorem ko_eq (hu : X.A.units + 64 < cLine) (h : X.K = K := by rfl) : OpR X (compareOp .Eq) (rEqD K) := h ▸ op_eqD hu
theorem ko_ne (hu : X.A.units + 64 < cLine) (h : X.K = K := by rfl) : OpR X (compareOp .NotEq) (rNeD K) := h ▸ op_neD hu
def rLen (K : PySem.W.Frag) : List V → Hp → VK → Prop := fun xs H Q => ∃ x n, xs = [x] ∧ LenV K x H n ∧ Q (.int n) H
theorem kc_len (h : X.K = K := by rfl) : CallR X (.builtin "len") (rLen K) := by subst h; exact call_len
def rListOf (K : PySem.W.Frag) : List V → Hp → VK → Prop := fun xs H Q => ∃ p ys, xs = [.ref p] ∧ (SqL K H p ys ∨ SqT K H p ys) ∧ ∀ l, H l = none → Q (.ref l) (upd H l (.lst ys))
theorem kc_list (h : X.K = K := by rfl) : CallR X (.type "list") (rListOf K) := by subst h; exact call_list_of
def rTupleOf (K : PySem.W.Frag) : List V → Hp → VK → Prop := fun xs H Q => ∃ p ys, xs = [.ref p] ∧ ((SqL K H p ys ∧ ∀ l, H l = none → Q (.ref l) (upd H l (.tup ys))) ∨ (SqT K H p ys ∧ Q (.ref p) H))
theorem kc_tuple (h : X.K = K := by rfl) : CallR X (.type "tuple") (rTupleOf K) := by subst h; exact call_tuple_of
theorem kc_sum (hc : X.calm = true := by rfl) (h : X.K = K := by rfl) : CallR X (.builtin "sum") (rSum K) := h ▸ cr_sum hc
theorem kc_all (hc : X.calm = true := by rfl) (h : X.K = K := by rfl) : CallR X (.builtin "all") (rAll K) := h ▸ cr_all hc
theorem kc_any (hc : X.calm = true := by rfl) (h : X.K = K := by rfl) : CallR X (.builtin "any") (rAny K) := h ▸ cr_any hc
theorem kc_sorted (h : X.K = K := by rfl) : CallR X (.builtin "sorted") (rSorted K) := h ▸ cr_sorted
theorem kc_sortedS (h : X.K = K := by rfl) : CallR X (.builtin "sorted") (rSortedS K) := h ▸ cr_sortedS
theorem kc_isi (h : X.K = K := by rfl) : CallR X (.builtin "isinstance") (rIsi K) := h ▸ call_isi
theorem kc_isiT (h : X.K = K := by rfl) : CallR X (.builtin "isinstance") (rIsiT K) := h ▸ call_isiT
theorem kc_repr (gd : X.A.guards = some []) (hu : X.A.units + 64 < cLine) (h : X.K = K := by rfl) : CallR X (.builtin "repr") (rRepr K) := h ▸ cr_repr gd hu
theorem kc_setLi {w : World} (hc : X.calm = true := by rfl) (h : X.K = K := by rfl) (hw : X.w = w := by rfl) : CallR X (.type "set") (rSetLi K w) := by subst h; subst hw; exact cr_setLi hc
theorem kc_sortedSet {w : World} (hc : X.calm = true := by rfl) (hw : X.w = w := by rfl) : CallR X (.builtin "sorted") (rSortedSet w) := hw ▸ cr_sortedSet hc
theorem ki_list {tg l : Expr} {tl : TE} (hl : PE X l tl) (h : X.K = K := by rfl) : PI X tg l (iList K tl) := h ▸ pi_list hl
theorem ki_tup {tg l : Expr} {tl : TE} (hl : PE X l tl) (h : X.K = K := by rfl) : PI X tg l (iTup K tl) := h ▸ pi_tup hl
theorem ki_zip {e e2 : Expr} {ta : TA} {p pos tpos : Pos} {elts : List Expr} {kk : Nat} (hg : Gl X "zip") (hm : X.mg "zip" = none) (ha : PA X [e, e2] ta) (hs : starEach [e, e2] X.env = (false, eval e X.env) :: starEach [e2] X.env := by rfl)
    (hpl : (backTo pos (starEach [e2] X.env)).any (·.1) = false := by rfl) (h : X.K = K := by rfl) : PI X (.Tuple elts kk tpos) (.Call (.Name "zip" p) [e, e2] [] pos) (RZ.iZipA K ta) := h ▸ RZ.pi_zipA hg hm ha hs hpl
theorem ki_enum {e : Expr} {ta : TA} {p pos tpos : Pos} {elts : List Expr} {kk : Nat} (hg : Gl X "enumerate") (hm : X.mg "enumerate" = none) (ha : PA X [e] ta) (hs : starEach [e] X.env = [(false, eval e X.env)] := by rfl) (h : X.K = K := by rfl)
    : PI X (.Tuple elts kk tpos) (.Call (.Name "enumerate" p) [e] [] pos) (iEnum K ta) := h ▸ pi_enum hg hm ha hs
theorem kg_tup {pos : Pos} {es : List Expr} {k : Nat} {t : TGs} {n : Nat} (h : PGs X es t) (hc : X.calm = true := by rfl) (hn : (assignEach es X.env).length = n := by rfl) (hst : (assignEach es X.env).findIdx? (·.1) = none := by rfl) (hk : X.K = K := by rfl) : PG X (.Tuple es k pos) (gTup K n t) := hk ▸ pg_tup hc h hn hst
def tTru (K : PySem.W.Frag) (ta : TE) : TT := fun σ H Q => ta σ H fun x H' => ∃ k, TruV K x H' k ∧ Q k H'
theorem kt_truth {a : Expr} {ta : TE} (ha : PE X a ta) (he : ∀ whole, isTrue a X.env whole = (do let v ← whole; standAt a.pos; holding [v] (truthy v)) := by intro _; rfl) (h : X.K = K := by rfl) : PT X a (tTru K ta) := by subst h; exact pt_truth ha he
def rJoin (K : PySem.W.Frag) : V → List V → Hp → VK → Prop := fun x xs H Q => ∃ a p, ∃ ys : List Str, x = .str a ∧ xs = [.ref p] ∧ (SqL K H p (ys.map V.str) ∨ SqT K H p (ys.map V.str)) ∧ (ys.map (·.length)).sum + ys.length * a.length ≤ 16777216 ∧ Q (.str (Txt.join a ys)) H
theorem ke_join {o e : Expr} {to te : TE} {apos pos : Pos} (ho : PE X o to) (he : PE X e te) (hs : starEach [e] X.env = [(false, eval e X.env)] := by rfl) (hbase : attributeBase o "join" X.env (eval o X.env) = eval o X.env := by rfl) (hline : (apos.endLine == pos.line) = true := by rfl) (h : X.K = K := by rfl) :
    PE X (.Call (.Attribute o "join" apos) [e] [] pos) (tM1 (rJoin K) to te) := by subst h; exact pe_join ho he hs hbase hline
theorem pss_never {st : List Stmt} : PSs X st (fun _ _ _ => False) := ⟨fun _ _ _ _ _ _ h => h.elim⟩
theorem ps_never {st : Stmt} : PS X st (fun _ _ _ => False) := ⟨fun _ _ _ _ _ _ h => h.elim⟩
theorem pe_never {e : Expr} : PE X e (fun _ _ _ => False) := ⟨fun _ _ _ _ _ _ h => h.elim⟩
theorem tYes_at {σ : L2.St} {H : Hp} {Q : Bool → Hp → Prop} (h : Q true H) : tYes σ H Q := h
end
end Pot

namespace Pot
open PySem PySem.Spec PyProof.Rows L2
/-- built-in names that the module gives no other meaning -/
structure Txt (mg : Str → Option Value) : Prop where
  len : mg "len" = none
  divmod : mg "divmod" = none
  range : mg "range" = none
  sum : mg "sum" = none
  all : mg "all" = none
  any : mg "any" = none
  isinstance : mg "isinstance" = none
  str : mg "str" = none
  int : mg "int" = none
  list : mg "list" = none
  tuple : mg "tuple" = none
  bool : mg "bool" = none
  zip : mg "zip" = none
  set : mg "set" = none
  sorted : mg "sorted" = none
  enumerate : mg "enumerate" = none
  repr : mg "repr" = none
  min : mg "min" = none
  max : mg "max" = none
  abs : mg "abs" = none
/-- a def that may be called by its name: what it keeps, at which level -/
def Cl (P : Program) (w : World) (K : PySem.W.Frag) (mg : Str → Option Value) (base : Heap) (k : Nat) (x : Str) (sp : Sp) : Prop :=
  ∃ (f : Addr) (fd : FuncData) (ps : List Str), FnOk P w K mg base CX0 k f fd ps sp ∧ mg x = some (.ref f) ∧ PySem.W.keepIn K (.ref f) = true ∧ Binds K fd ps []
theorem pe_cl {X : Cx} {k j : Nat} {x : Str} {sp : Sp} {e : Expr} {es : List Expr} {t : TA} {p pos : Pos} (c : Cl X.prog X.w X.K X.mg X.base k x sp) (hr : Room j X.A) (hk : k ≤ j) (hg : Gl X x) (ha : PA X (e :: es) t) (hdb : (x == ("__debug__" : Str)) = false := by decide)
    (he : starEach (e :: es) X.env = (false, eval e X.env) :: starEach es X.env := by rfl) (hpl : (backTo pos (starEach es X.env)).any (·.1) = false := by rfl) : PE X (.Call (.Name x p) (e :: es) [] pos) (tCall sp [] E0 t) := by
  obtain ⟨f, fd, ps, G, hm, kp, b⟩ := c
  exact pe_call G (hr.mono hk) hg hm kp b .nil pass0 ha hdb he hpl
/-! ### the drawing state -/
def dS (c : Addr) (t : Int) : List (Key × V) := [(Sum.inr "cells", .ref c), (Sum.inr "turn", .int t)]
/-- at d stands a state of the law: its cells at c, its turn at most n -/
def StAt (H : Hp) (d c : Addr) (n : Nat) : Prop := d ≠ c ∧ ∃ (xs : List Int) (t : Int),
  H d = some (.dK (dS c t)) ∧ H c = some (.lst (xs.map V.int)) ∧ xs ≠ [] ∧ xs.length ≤ 63 ∧ 0 ≤ t ∧ t ≤ n
/-- all that was tracked stands, but d and c -/
def Kp (d c : Addr) (H H' : Hp) : Prop := ∀ b o, b ≠ d → b ≠ c → H b = some o → H' b = some o
theorem Kp.refl (d c : Addr) (H : Hp) : Kp d c H H := fun _ _ _ _ e => e
theorem Kp.trans {d c : Addr} {H H1 H2 : Hp} (a : Kp d c H H1) (b : Kp d c H1 H2) : Kp d c H H2 := fun x o h1 h2 e => b x o h1 h2 (a x o h1 h2 e)
theorem Kp.of {d c : Addr} {H H' : Hp} (s : Same H H') : Kp d c H H' := fun x o _ _ e => s x o e
theorem same_upd {H : Hp} {p : Addr} {o : HO} (h : H p = none) : Same H (upd H p o) := fun b x e => by
  rw [upd_ne (ne_of_none e h)]
  exact e
theorem same_put {H H' : Hp} {p : Addr} {o : HO} (s : Same H H') (h : H p = none) : Same H (upd H' p o) := fun b x e => by
  rw [upd_ne (ne_of_none e h)]
  exact s b x e
theorem kp_put {d c : Addr} {H H' : Hp} {p : Addr} {o : HO} (s : Kp d c H H') (h : H p = none) : Kp d c H (upd H' p o) := fun b x h1 h2 e => by
  rw [upd_ne (ne_of_none e h)]
  exact s b x h1 h2 e
theorem StAt.mono {H : Hp} {d c : Addr} {n m : Nat} (h : StAt H d c n) (k : n ≤ m) : StAt H d c m := by
  obtain ⟨h0, xs, t, h1, h2, h3, h4, h5, h6⟩ := h
  exact ⟨h0, xs, t, h1, h2, h3, h4, h5, by omega⟩
theorem StAt.same {H H' : Hp} {d c : Addr} {n : Nat} (h : StAt H d c n) (s : Same H H') : StAt H' d c n := by
  obtain ⟨h0, xs, t, h1, h2, h3, h4, h5, h6⟩ := h
  exact ⟨h0, xs, t, s _ _ h1, s _ _ h2, h3, h4, h5, h6⟩
theorem Kp.free {d c : Addr} {H H' : Hp} {n : Nat} {l : Addr} (k : Kp d c H H') (s : StAt H' d c n) (h : H' l = none) : H l = none := by
  obtain ⟨_, xs, t, h1, h2, _⟩ := s
  have n1 : l ≠ d := (ne_of_none h1 h).symm
  have n2 : l ≠ c := (ne_of_none h2 h).symm
  cases e : H l with
  | none => rfl
  | some o =>
    rw [k l o n1 n2 e] at h
    cases h
theorem StAt.ne1 {H : Hp} {d c : Addr} {n : Nat} {l : Addr} (s : StAt H d c n) (h : H l = none) : d ≠ l := by
  obtain ⟨_, xs, t, h1, h2, _⟩ := s
  exact ne_of_none h1 h
theorem StAt.ne2 {H : Hp} {d c : Addr} {n : Nat} {l : Addr} (s : StAt H d c n) (h : H l = none) : c ≠ l := by
  obtain ⟨_, xs, t, h1, h2, _⟩ := s
  exact ne_of_none h2 h
theorem StAt.put {H : Hp} {d c : Addr} {n : Nat} {l : Addr} {o : HO} (s : StAt H d c n) (n1 : d ≠ l) (n2 : c ≠ l) : StAt (upd H l o) d c n := by
  obtain ⟨h0, xs, t, h1, h2, h3, h4, h5, h6⟩ := s
  exact ⟨h0, xs, t, by rw [upd_ne n1]; exact h1, by rw [upd_ne n2]; exact h2, h3, h4, h5, h6⟩
theorem val_turn (c : Addr) (t : Int) : valV (dS c t) (Sum.inr "turn") = some (.int t) := by
  have e : ¬ ((Sum.inr (Str.ofString "cells") : Key) = Sum.inr (Str.ofString "turn")) := by decide +kernel
  unfold dS; rw [valV_neg e, valV_pos rfl]
theorem val_cells (c : Addr) (t : Int) : valV (dS c t) (Sum.inr "cells") = some (.ref c) := by
  unfold dS; rw [valV_pos rfl]
theorem put_turn (c : Addr) (t u : Int) : putK (dS c t) (Sum.inr "turn") (.int u) = dS c u := by
  have e : ¬ ((Sum.inr (Str.ofString "cells") : Key) = Sum.inr (Str.ofString "turn")) := by decide +kernel
  unfold putK dS
  simp [e]

theorem dget_turn {H : Hp} {d c : Addr} {t : Int} (h : H d = some (.dK (dS c t))) : DGet H d (.str "turn") (some (.int t)) := by
  rw [← val_turn c t]; exact DGet.k (k := Sum.inr "turn") h
theorem dget_cells {H : Hp} {d c : Addr} {t : Int} (h : H d = some (.dK (dS c t))) : DGet H d (.str "cells") (some (.ref c)) := by
  rw [← val_cells c t]; exact DGet.k (k := Sum.inr "cells") h
theorem dput_turn {H : Hp} {d c : Addr} {t : Int} (u : Int) (h : H d = some (.dK (dS c t))) : DPut H d (.str "turn") (.int u) (upd H d (.dK (dS c u))) := by
  rw [← put_turn c t u]; exact DPut.k (k := Sum.inr "turn") h (by show 2 < sizeLine; decide)
theorem ge18 (x : Int) : (decide ((10 : Int) ^ (18 : Int).toNat ≤ x) = true) ↔ 1000000000000000000 ≤ x := by
  have e : (10 : Int) ^ (18 : Int).toNat = 1000000000000000000 := by decide
  rw [e, decide_eq_true_eq]
theorem cmul_mod (a b : Int) {m : Int} (h0 : 0 < m) (h1 : m < 2 ^ 64) : CMul (a % m) b := by
  have p := Int.emod_nonneg a (show m ≠ 0 by omega)
  have q := Int.emod_lt_of_pos a h0
  exact .inl ⟨by omega, by omega⟩
theorem mod_at {xs : List Int} {u : Int} (hx : xs ≠ []) : ∃ (j : Nat) (y : Int), u % ((xs.map V.int).length : Int) = (j : Int) ∧ j < xs.length ∧ xs[j]? = some y := by
  have h0 : 0 < xs.length := List.length_pos_iff.mpr hx
  rw [List.length_map]
  have a := Int.emod_nonneg u (show (xs.length : Int) ≠ 0 by omega)
  have b := Int.emod_lt_of_pos u (show (0 : Int) < (xs.length : Int) by omega)
  refine ⟨(u % (xs.length : Int)).toNat, xs[(u % (xs.length : Int)).toNat]'(by omega), by omega, by omega, ?_⟩
  exact List.getElem?_eq_getElem _

section
variable {K : PySem.W.Frag}
theorem cut63 {xs : List V} (h : xs.length ≤ 63) : cutV xs none (some 63) = xs := by
  unfold cutV
  rw [HT.sIx_none, show HT.sIx xs.length xs.length (some 63) = min 63 xs.length from HT.sIx_nat xs.length xs.length 63, Nat.min_eq_right h]
  simp
theorem dp_ints {H : Hp} (ns : List Int) : DpAll K H (ns.map V.int) (ns.map PyData.int) := by
  induction ns with
  | nil => exact .nil
  | cons n r ih => exact .cons (.int n) ih
theorem same_tup {H H' : Hp} {a : Addr} {xs : List V} (e : Same H H') (h : SqT K H a xs) : SqT K H' a xs := by
  rcases h with (h | ⟨o, h⟩) | h
  · exact .inl (.inl (e _ _ h))
  · exact .inl (.inr ⟨o, e _ _ h⟩)
  · exact .inr h
mutual
theorem dp_same {H H' : Hp} (s : Same H H') : ∀ {v : V} {d : PyData}, Dp K H v d → Dp K H' v d
  | _, _, .non => .non
  | _, _, .bl b => .bl b
  | _, _, .int i => .int i
  | _, _, .str x => .str x
  | _, _, .lst h a => .lst (s.seq h) (dpAll_same s a)
  | _, _, .tup h a => .tup (same_tup s h) (dpAll_same s a)
theorem dpAll_same {H H' : Hp} (s : Same H H') : ∀ {vs : List V} {ds : List PyData}, DpAll K H vs ds → DpAll K H' vs ds
  | _, _, .nil => .nil
  | _, _, .cons h t => .cons (dp_same s h) (dpAll_same s t)
end
theorem dpAll_len {H : Hp} : ∀ {vs : List V} {ds : List PyData}, DpAll K H vs ds → vs.length = ds.length
  | _, _, .nil => rfl
  | _, _, .cons _ t => by rw [List.length_cons, List.length_cons, dpAll_len t]
theorem dpAll_at {H : Hp} : ∀ {vs : List V} {ds : List PyData} {i : Nat} {v : V}, DpAll K H vs ds → vs[i]? = some v → ∃ d, ds[i]? = some d ∧ Dp K H v d
  | _, _, _, _, .nil, h => by simp at h
  | _, _, 0, _, .cons h _, e => ⟨_, rfl, by cases e; exact h⟩
  | _, _, i + 1, _, .cons _ t, e => dpAll_at (i := i) t e
theorem depth_at : ∀ {ds : List PyData} {i : Nat} {d : PyData}, ds[i]? = some d → d.depth ≤ PyData.depthAll ds
  | [], _, _, h => by simp at h
  | x :: r, 0, d, h => by cases h; unfold PyData.depthAll; exact Nat.le_max_left ..
  | x :: r, i + 1, d, h => by
    have := depth_at (ds := r) (i := i) (d := d) h
    unfold PyData.depthAll
    exact Nat.le_trans this (Nat.le_max_right ..)
theorem tyx_list {H : Hp} {a : Addr} {xs : List V} (h : SqL K H a xs) : TyX K H (.ref a) (.type "list") := by
  rcases h with (h | ⟨o, h⟩) | ⟨o, its, n, h1, h2, _⟩
  · exact .base (.lst h)
  · exact .base (.frz h)
  · exact .kList h1 h2
theorem tyx_tup {H : Hp} {a : Addr} {xs : List V} (h : SqT K H a xs) : TyX K H (.ref a) (.type "tuple") := by
  rcases h with (h | ⟨o, h⟩) | ⟨o, its, n, h1, h2, _⟩
  · exact .base (.tup h)
  · exact .fTuple h
  · exact .kTuple h1 h2
theorem walk_zipT {a b : Addr} {xs ys : List V} {n : Nat} (hn : n = min xs.length ys.length) : Walk (RZ.ItzT K a b) n (fun H => SqT K H a xs ∧ SqT K H b ys) (YPair (fun i => xs[i]?) (fun i => ys[i]?)) := by
  subst hn
  refine ⟨fun i _ hi q => ?_, fun _ q => ⟨xs, ys, q.1, q.2, by omega⟩, fun i H v H' _ q y => ?_⟩
  · exact ⟨xs, ys, xs[i]'(by omega), ys[i]'(by omega), q.1, q.2, List.getElem?_eq_getElem _, List.getElem?_eq_getElem _⟩
  · obtain ⟨T, x, z, e1, e2, e3, e4, e5⟩ := y
    exact ⟨T, x, z, e1, e2, e3, e4 xs q.1, e5 ys q.2⟩
/-- the longest list within -/
def widAll : List PyData → Nat
  | [] => 0
  | x :: xs => max (wid x) (widAll xs)
where wid : PyData → Nat
  | .list xs => max xs.length (widAll xs)
  | .tuple xs => max xs.length (widAll xs)
  | _ => 0
theorem wid_at : ∀ {ds : List PyData} {i : Nat} {d : PyData}, ds[i]? = some d → widAll.wid d ≤ widAll ds
  | [], _, _, h => by simp at h
  | x :: r, 0, d, h => by cases h; unfold widAll; exact Nat.le_max_left ..
  | x :: r, i + 1, d, h => by
    have := wid_at (ds := r) (i := i) (d := d) h
    unfold widAll
    exact Nat.le_trans this (Nat.le_max_right ..)
theorem depth_ints (ns : List Int) : (PyData.list (ns.map PyData.int)).depth = 1 := by
  have h : ∀ l : List Int, PyData.depthAll (l.map PyData.int) = 0 := by
    intro l
    induction l with
    | nil => rfl
    | cons x r ih =>
      show max 0 (PyData.depthAll (r.map PyData.int)) = 0
      rw [ih]
      rfl
  show PyData.depthAll (ns.map PyData.int) + 1 = 1
  rw [h]
theorem wid_ints (ns : List Int) : widAll.wid (PyData.list (ns.map PyData.int)) = ns.length := by
  have h : ∀ l : List Int, widAll (l.map PyData.int) = 0 := by
    intro l
    induction l with
    | nil => rfl
    | cons x r ih =>
      show max 0 (widAll (r.map PyData.int)) = 0
      rw [ih]
      rfl
  show max (ns.map PyData.int).length (widAll (ns.map PyData.int)) = ns.length
  rw [h, List.length_map, Nat.max_zero]
theorem flat_ints (ns : List Int) : (ns.map V.int).all flatV = true := by
  rw [List.all_eq_true]
  intro x hx
  obtain ⟨k, _, rfl⟩ := List.mem_map.mp hx
  rfl
end
section
variable {P : Program} {w : World} {K : PySem.W.Frag} {mg : Str → Option Value} {base : Heap}
/-- a def with values that may be left out -/
abbrev FunV (K : PySem.W.Frag) (x : Str) (st : Stmt) (dvs : List V) (f : Addr) (fd : FuncData) : Prop := FunD K x x (defArgs st) (defBody st) (defScope st) dvs [] f fd
theorem okD {x : Str} {st : Stmt} {dvs : List V} {f : Addr} {fd : FuncData} {N ps : List Str} {k : Nat} {sp : Sp} (F : FunV K x st dvs f fd) (S : FnScope N ps (defScope st)) (len : ∀ vs H Q E, sp vs H Q E → vs.length = ps.length)
    (body : ∀ (cdv : Value) (A : Around) (outer : List Env) (s : Shared) (H : Hp) (vs : List V) (Q : VK) (E : XK), Room k (A.deeper (envOfC x (defScope st) s.heap.objs.size f cdv)) → sp vs H Q E →
      ∃ t, PSs (cxOf CX0 P w K mg base N x (defScope st) f cdv A outer s H E).nox (defBody st) t ∧ t { nx := fun _ H' => Q .non H', rt := Q } (start N vs) H) : FnOk P w K mg base CX0 (k + 1) f fd ps sp :=
  FunD.ok F S len fun cdv A outer s H vs Q E hr h => by
    obtain ⟨t, ht, hq⟩ := body cdv A outer s H vs Q E hr h
    exact ⟨t, ht.nox, hq⟩
/-- a def that may be called by its name, the values ds being left out -/
def ClD (P : Program) (w : World) (K : PySem.W.Frag) (mg : Str → Option Value) (base : Heap) (k : Nat) (x : Str) (ds : List V) (sp : Sp) : Prop :=
  ∃ (f : Addr) (fd : FuncData) (ps : List Str) (dus : List Value), FnOk P w K mg base CX0 k f fd ps sp ∧ mg x = some (.ref f) ∧ PySem.W.keepIn K (.ref f) = true ∧ Binds K fd ps dus ∧ Vals ds dus
theorem pe_cd {X : Cx} {k j : Nat} {x : Str} {ds : List V} {sp : Sp} {e : Expr} {es : List Expr} {t : TA} {p pos : Pos} (c : ClD X.prog X.w X.K X.mg X.base k x ds sp) (hr : Room j X.A) (hk : k ≤ j) (hg : Gl X x) (ha : PA X (e :: es) t) (hdb : (x == ("__debug__" : Str)) = false := by decide)
    (he : starEach (e :: es) X.env = (false, eval e X.env) :: starEach es X.env := by rfl) (hpl : (backTo pos (starEach es X.env)).any (·.1) = false := by rfl) : PE X (.Call (.Name x p) (e :: es) [] pos) (tCall sp ds E0 t) := by
  obtain ⟨f, fd, ps, dus, G, hm, kp, b, dv⟩ := c
  exact pe_call G (hr.mono hk) hg hm kp b dv pass0 ha hdb he hpl
theorem Cl.mono {k j : Nat} {x : Str} {sp : Sp} (c : Cl P w K mg base k x sp) (h : k ≤ j) : Cl P w K mg base j x sp := by
  obtain ⟨f, fd, ps, G, r⟩ := c
  exact ⟨f, fd, ps, G.mono h, r⟩
end
end Pot

namespace Pot
open PySem PySem.Spec PyProof.Rows L2
/-! ### a box of three numbers from which is drawn, and all that stands beside it -/
def Bx (H : Hp) (b : Addr) : Prop := ∃ x y z : Int, H b = some (.lst [.int x, .int y, .int z])
/-- the heap without some -/
def off (H : Hp) (S : List Addr) : Hp := fun x => if x ∈ S then none else H x
theorem off_in {H : Hp} {S : List Addr} {x : Addr} (h : x ∈ S) : off H S x = none := if_pos h
theorem off_out {H : Hp} {S : List Addr} {x : Addr} (h : x ∉ S) : off H S x = H x := if_neg h
theorem off_mem {H : Hp} {S : List Addr} {x : Addr} {o : HO} (h : off H S x = some o) : x ∉ S := fun e => by rw [off_in e] at h; cases h
theorem off_sub {H : Hp} {S : List Addr} : Same (off H S) H := fun x o h => by
  have n := off_mem h
  rw [off_out n] at h; exact h
theorem off_mono {H : Hp} {S T : List Addr} (h : ∀ x ∈ T, x ∈ S) : Same (off H S) (off H T) := fun x o e => by
  have n := off_mem e
  rw [off_out n] at e
  rw [off_out fun z => n (h x z)]; exact e
/-- what stands beside S stands -/
abbrev Sm (S : List Addr) (H H' : Hp) : Prop := Same (off H S) (off H' S)
theorem sm_mono {H H' : Hp} {S T : List Addr} (h : ∀ x ∈ T, x ∈ S) (s : Sm T H H') : Sm S H H' := fun x o e => by
  have n := off_mem e
  rw [off_out n] at e ⊢
  have n2 : x ∉ T := fun z => n (h x z)
  have := s x o (by rw [off_out n2]; exact e)
  rw [off_out n2] at this; exact this
theorem sm_one {H H' : Hp} {S : List Addr} {b : Addr} (h : b ∈ S) (s : Sm [b] H H') : Sm S H H' := sm_mono (fun x hx => by rw [List.mem_singleton.mp hx]; exact h) s
theorem sm_of {H H' : Hp} {S : List Addr} (s : Same H H') : Sm S H H' := fun x o h => by
  have n := off_mem h
  rw [off_out n] at h ⊢; exact s x o h
theorem sm_put {H : Hp} {S : List Addr} {p : Addr} {o : HO} (h : H p = none) : Sm S H (upd H p o) := sm_of (same_upd h)
theorem sm_wr {H : Hp} {S : List Addr} {p : Addr} {o : HO} (h : p ∈ S) : Sm S H (upd H p o) := fun x u e => by
  have n := off_mem e
  rw [off_out n] at e ⊢
  have ne : x ≠ p := fun z => n (by rw [z]; exact h)
  rw [upd_ne ne]; exact e
theorem at_off {H : Hp} {S : List Addr} {x : Addr} {o : HO} (h : off H S x = some o) : H x = some o := off_sub x o h
theorem Bx.bx {H : Hp} {b : Addr} (B : Bx H b) : Bx H b := B
theorem Bx.ne {H : Hp} {b p : Addr} (B : Bx H b) (h : H p = none) : p ≠ b := fun e => by
  obtain ⟨x, y, z, B⟩ := B
  rw [e, B] at h; cases h
theorem Bx.same {H H' : Hp} {b : Addr} (B : Bx H b) (s : Same H H') : Bx H' b := by
  obtain ⟨x, y, z, B⟩ := B
  exact ⟨x, y, z, s _ _ B⟩
theorem Bx.put {H : Hp} {b p : Addr} {o : HO} (B : Bx H b) (h : H p = none) : Bx (upd H p o) b := B.same (same_upd h)
theorem Bx.wr {H : Hp} {b p : Addr} {o : HO} (B : Bx H b) (h : p ≠ b) : Bx (upd H p o) b := by
  obtain ⟨x, y, z, B⟩ := B
  exact ⟨x, y, z, by rw [upd_ne h.symm]; exact B⟩
/-- all of S are there -/
def Live (S : List Addr) (H : Hp) : Prop := ∀ s ∈ S, H s ≠ none
theorem Live.same {S : List Addr} {H H' : Hp} (L : Live S H) (s : Same H H') : Live S H' := fun x hx e => by
  cases h : H x with
  | none => exact L x hx h
  | some o => rw [s x o h] at e; cases e
theorem Live.box {S : List Addr} {H H' : Hp} {b : Addr} (L : Live S H) (B : Bx H' b) (s : Sm [b] H H') : Live S H' := fun x hx e => by
  by_cases hb : x = b
  · obtain ⟨_, _, _, B⟩ := B
    rw [hb, B] at e; cases e
  · have n : x ∉ [b] := fun z => hb (List.mem_singleton.mp z)
    cases h : H x with
    | none => exact L x hx h
    | some o =>
      have := s x o (by rw [off_out n]; exact h)
      rw [off_out n, e] at this; cases this
theorem Live.put {S : List Addr} {H : Hp} {p : Addr} {o : HO} (L : Live S H) (h : H p = none) : Live S (upd H p o) := L.same (same_upd h)
theorem Live.wr {S : List Addr} {H : Hp} {p : Addr} {o : HO} (L : Live S H) : Live S (upd H p o) := fun x hx e => by
  by_cases hp : x = p
  · rw [hp, upd_same] at e; cases e
  · rw [upd_ne hp] at e; exact L x hx e
theorem Live.one {H : Hp} {b : Addr} (B : Bx H b) : Live [b] H := fun x hx e => by
  obtain ⟨_, _, _, B⟩ := B
  rw [List.mem_singleton.mp hx, B] at e; cases e
theorem Live.out {S : List Addr} {H : Hp} {p : Addr} (L : Live S H) (h : H p = none) : p ∉ S := fun z => L p z h
theorem Live.cons {S : List Addr} {H : Hp} {p : Addr} {o : HO} (L : Live S H) (h : H p = some o) : Live (p :: S) H := fun x hx e => by
  rcases List.mem_cons.mp hx with z | z
  · rw [z, h] at e; cases e
  · exact L x z e
theorem off_new {H : Hp} {S : List Addr} {p : Addr} {o : HO} (L : Live S H) (h : H p = none) : off (upd H p o) S p = some o := by
  rw [off_out (L.out h)]; exact upd_same
theorem off_upd {H : Hp} {S : List Addr} {p : Addr} {o : HO} (h : p ∉ S) : off (upd H p o) S p = some o := by
  rw [off_out h]; exact upd_same
section
variable {K : PySem.W.Frag}
theorem sq_off {H : Hp} {S : List Addr} {a : Addr} {xs : List V} (h : SqL K (off H S) a xs) : SqL K H a xs := off_sub.seq h
theorem sqt_off {H : Hp} {S : List Addr} {a : Addr} {xs : List V} (h : SqT K (off H S) a xs) : SqT K H a xs := same_tup off_sub h
theorem dp_off {H : Hp} {S : List Addr} {v : V} {d : PyData} (h : Dp K (off H S) v d) : Dp K H v d := dp_same off_sub h
/-- a new list is none of S, beside which the rest stands as it was -/
theorem off_fresh {H : Hp} {S : List Addr} {p : Addr} {o : HO} (h : H p = none) : off (upd H p o) (p :: S) = off H S := by
  funext x; unfold off
  by_cases e : x = p
  · subst e
    rw [if_pos List.mem_cons_self, h]
    split <;> rfl
  · have : (x ∈ p :: S) ↔ x ∈ S := by rw [List.mem_cons]; exact ⟨fun z => z.resolve_left e, .inr⟩
    by_cases m : x ∈ S
    · rw [if_pos m, if_pos (this.mpr m)]
    · rw [if_neg m, if_neg fun z => m (this.mp z), upd_ne e]
end
/-! ### what is made of numbers, texts, truths, None, lists and tuples -/
/-- numbers within m, texts of at most 2000 signs -/
def gdAll (m : Nat) : List PyData → Prop
  | [] => True
  | x :: xs => gd m x ∧ gdAll m xs
where gd (m : Nat) : PyData → Prop
  | .none => True
  | .bool _ => True
  | .int i => i.natAbs ≤ m
  | .str x => x.length ≤ 2000 ∧ ∀ c ∈ x.cps.toList, c < 1114112
  | .list xs => gdAll m xs
  | .tuple xs => gdAll m xs
  | .dict _ => False
abbrev gd (m : Nat) (d : PyData) : Prop := gdAll.gd m d
theorem gdAll_iff {m : Nat} : ∀ {ds : List PyData}, gdAll m ds ↔ ∀ d ∈ ds, gd m d
  | [] => ⟨fun _ _ h => (List.not_mem_nil h).elim, fun _ => trivial⟩
  | x :: xs => by
    constructor
    · intro h d hd
      rcases List.mem_cons.mp hd with e | e
      · rw [e]; exact h.1
      · exact gdAll_iff.mp h.2 d e
    · intro h
      exact ⟨h x List.mem_cons_self, gdAll_iff.mpr fun d hd => h d (List.mem_cons_of_mem _ hd)⟩
mutual
theorem gd_mono {m n : Nat} (h : m ≤ n) : ∀ d : PyData, gd m d → gd n d
  | .none, _ => trivial
  | .bool _, _ => trivial
  | .int i, g => Nat.le_trans g h
  | .str _, g => g
  | .list xs, g => gdAll_mono h xs g
  | .tuple xs, g => gdAll_mono h xs g
  | .dict _, g => g.elim
theorem gdAll_mono {m n : Nat} (h : m ≤ n) : ∀ ds : List PyData, gdAll m ds → gdAll n ds
  | [], _ => trivial
  | x :: xs, g => ⟨gd_mono h x g.1, gdAll_mono h xs g.2⟩
end
theorem log_small' {i : Int} (h : i.natAbs ≤ 2000000) : i.natAbs.log2 < 1920 := by
  by_cases z : i.natAbs = 0
  · rw [z]; decide
  · have := (Nat.log2_lt z).mpr (show i.natAbs < 2 ^ 21 from Nat.lt_of_le_of_lt h (by decide))
    omega
mutual
theorem gd_fine {m : Nat} (h : m ≤ 2000000) : ∀ d : PyData, gd m d → fineAll.fine d
  | .none, _ => trivial
  | .bool _, _ => trivial
  | .int i, g => log_small' (Nat.le_trans g h)
  | .str _, g => fun c hc => Nat.lt_trans (g.2 c hc) (by decide)
  | .list xs, g => gdAll_fine h xs g
  | .tuple xs, g => gdAll_fine h xs g
  | .dict _, g => g.elim
theorem gdAll_fine {m : Nat} (h : m ≤ 2000000) : ∀ ds : List PyData, gdAll m ds → fineAll ds
  | [], _ => trivial
  | x :: xs, g => ⟨gd_fine h x g.1, gdAll_fine h xs g.2⟩
end
theorem costAll_app (xs ys : List PyData) : costAll (xs ++ ys) = costAll xs + costAll ys := by
  induction xs with
  | nil => simp [costAll]
  | cons x xs ih => simp only [List.cons_append, costAll, ih]; omega
theorem cost_mem {ds : List PyData} {d : PyData} (h : d ∈ ds) : costAll.cost d + 2 ≤ costAll ds := by
  induction ds with
  | nil => exact (List.not_mem_nil h).elim
  | cons x xs ih =>
    show _ ≤ costAll.cost x + 2 + costAll xs
    rcases List.mem_cons.mp h with e | e
    · rw [e]; omega
    · have := ih e; omega
theorem len_cost : ∀ ds : List PyData, 2 * ds.length ≤ costAll ds
  | [] => Nat.le_refl _
  | x :: xs => by
    have := len_cost xs
    show 2 * (xs.length + 1) ≤ costAll.cost x + 2 + costAll xs
    omega
theorem depthAll_iff {D : Nat} : ∀ {ds : List PyData}, PyData.depthAll ds ≤ D ↔ ∀ d ∈ ds, d.depth ≤ D
  | [] => ⟨fun _ _ h => (List.not_mem_nil h).elim, fun _ => Nat.zero_le _⟩
  | x :: xs => by
    show max x.depth (PyData.depthAll xs) ≤ D ↔ _
    rw [Nat.max_le, depthAll_iff (ds := xs)]
    constructor
    · rintro ⟨h1, h2⟩ d hd
      rcases List.mem_cons.mp hd with e | e
      · rw [e]; exact h1
      · exact h2 d e
    · intro h
      exact ⟨h x List.mem_cons_self, fun d hd => h d (List.mem_cons_of_mem _ hd)⟩
/-- rows of parts: of numbers within m, their cost, how deep and how wide each -/
structure Ths (m C D W : Nat) (ds : List PyData) : Prop where
  g : ∀ d ∈ ds, gd m d
  c : costAll ds ≤ C
  d : ∀ d ∈ ds, d.depth ≤ D
  w : ∀ d ∈ ds, widAll.wid d ≤ W
/-- a thing: of numbers within m, its cost, how deep, how wide -/
structure Th (m C D W : Nat) (dd : PyData) : Prop where
  g : gd m dd
  c : costAll.cost dd ≤ C
  d : dd.depth ≤ D
  w : widAll.wid dd ≤ W
theorem widAll_iff {D : Nat} : ∀ {ds : List PyData}, widAll ds ≤ D ↔ ∀ d ∈ ds, widAll.wid d ≤ D
  | [] => ⟨fun _ _ h => (List.not_mem_nil h).elim, fun _ => Nat.zero_le _⟩
  | x :: xs => by
    show max (widAll.wid x) (widAll xs) ≤ D ↔ _
    rw [Nat.max_le, widAll_iff (ds := xs)]
    constructor
    · rintro ⟨h1, h2⟩ d hd
      rcases List.mem_cons.mp hd with e | e
      · rw [e]; exact h1
      · exact h2 d e
    · intro h
      exact ⟨h x List.mem_cons_self, fun d hd => h d (List.mem_cons_of_mem _ hd)⟩
section
variable {m n C E D F W U : Nat} {d x : PyData} {ds xs ys : List PyData}
theorem Th.mono (h : Th m C D W d) (a : m ≤ n) (b : C ≤ E) (c : D ≤ F) (e : W ≤ U) : Th n E F U d := ⟨gd_mono a d h.g, Nat.le_trans h.c b, Nat.le_trans h.d c, Nat.le_trans h.w e⟩
theorem Ths.mono (h : Ths m C D W ds) (a : m ≤ n) (b : C ≤ E) (c : D ≤ F) (e : W ≤ U) : Ths n E F U ds := ⟨fun x hx => gd_mono a x (h.g x hx), Nat.le_trans h.c b, fun x hx => Nat.le_trans (h.d x hx) c, fun x hx => Nat.le_trans (h.w x hx) e⟩
theorem Ths.app (h : Ths m C D W xs) (k : Ths m E D W ys) : Ths m (C + E) D W (xs ++ ys) :=
  ⟨fun d hd => (List.mem_append.mp hd).elim (h.g d) (k.g d), by rw [costAll_app]; exact Nat.add_le_add h.c k.c, fun d hd => (List.mem_append.mp hd).elim (h.d d) (k.d d), fun d hd => (List.mem_append.mp hd).elim (h.w d) (k.w d)⟩
theorem Ths.nil : Ths m 0 D W [] := ⟨fun _ h => (List.not_mem_nil h).elim, Nat.le_refl _, fun _ h => (List.not_mem_nil h).elim, fun _ h => (List.not_mem_nil h).elim⟩
theorem Ths.one (h : Th m C D W x) : Ths m (C + 2) D W [x] :=
  ⟨fun d hd => by rw [List.mem_singleton.mp hd]; exact h.g, by show costAll.cost x + 2 + 0 ≤ _; have := h.c; omega, fun d hd => by rw [List.mem_singleton.mp hd]; exact h.d, fun d hd => by rw [List.mem_singleton.mp hd]; exact h.w⟩
theorem Ths.mem (h : Ths m C D W ds) (e : d ∈ ds) : Th m C D W d := ⟨h.g d e, by have := cost_mem e; have := h.c; omega, h.d d e, h.w d e⟩
theorem Ths.len (h : Ths m C D W ds) : 2 * ds.length ≤ C := Nat.le_trans (len_cost ds) h.c
theorem Ths.list (h : Ths m C D W ds) (l : ds.length ≤ W) : Th m (C + 3) (D + 1) W (.list ds) :=
  ⟨gdAll_iff.mpr h.g, by show costAll ds + 3 ≤ _; have := h.c; omega, by show PyData.depthAll ds + 1 ≤ _; have := depthAll_iff.mpr h.d; omega, by show max ds.length (widAll ds) ≤ W; exact Nat.max_le.mpr ⟨l, widAll_iff.mpr h.w⟩⟩
theorem Ths.tuple (h : Ths m C D W ds) (l : ds.length ≤ W) : Th m (C + 3) (D + 1) W (.tuple ds) :=
  ⟨gdAll_iff.mpr h.g, by show costAll ds + 3 ≤ _; have := h.c; omega, by show PyData.depthAll ds + 1 ≤ _; have := depthAll_iff.mpr h.d; omega, by show max ds.length (widAll ds) ≤ W; exact Nat.max_le.mpr ⟨l, widAll_iff.mpr h.w⟩⟩
theorem Th.ofList (h : Th m C D W (.list ds)) : Ths m (C - 3) (D - 1) W ds ∧ ds.length ≤ W ∧ 3 ≤ C ∧ 1 ≤ D := by
  have h1 : costAll ds + 3 ≤ C := h.c
  have h2 : PyData.depthAll ds + 1 ≤ D := h.d
  have h3 : max ds.length (widAll ds) ≤ W := h.w
  exact ⟨⟨gdAll_iff.mp h.g, by omega, depthAll_iff.mp (by omega), widAll_iff.mp (Nat.le_trans (Nat.le_max_right ..) h3)⟩, Nat.le_trans (Nat.le_max_left ..) h3, by omega, by omega⟩
theorem Th.ofTuple (h : Th m C D W (.tuple ds)) : Ths m (C - 3) (D - 1) W ds ∧ ds.length ≤ W ∧ 3 ≤ C ∧ 1 ≤ D := by
  have h1 : costAll ds + 3 ≤ C := h.c
  have h2 : PyData.depthAll ds + 1 ≤ D := h.d
  have h3 : max ds.length (widAll ds) ≤ W := h.w
  exact ⟨⟨gdAll_iff.mp h.g, by omega, depthAll_iff.mp (by omega), widAll_iff.mp (Nat.le_trans (Nat.le_max_right ..) h3)⟩, Nat.le_trans (Nat.le_max_left ..) h3, by omega, by omega⟩
theorem costAll_take (n : Nat) (ds : List PyData) : costAll (ds.take n) ≤ costAll ds := by
  have := costAll_app (ds.take n) (ds.drop n)
  rw [List.take_append_drop] at this; omega
theorem costAll_drop (n : Nat) (ds : List PyData) : costAll (ds.drop n) ≤ costAll ds := by
  have := costAll_app (ds.take n) (ds.drop n)
  rw [List.take_append_drop] at this; omega
theorem costAll_rev : ∀ ds : List PyData, costAll ds.reverse = costAll ds
  | [] => rfl
  | x :: xs => by rw [List.reverse_cons, costAll_app, costAll_rev xs]; show _ + (costAll.cost x + 2 + 0) = costAll.cost x + 2 + costAll xs; omega
theorem Ths.sub (h : Ths m C D W ds) (s : ∀ x ∈ xs, x ∈ ds) (c : costAll xs ≤ C) : Ths m C D W xs := ⟨fun d hd => h.g d (s d hd), c, fun d hd => h.d d (s d hd), fun d hd => h.w d (s d hd)⟩
theorem Ths.take (h : Ths m C D W ds) (n : Nat) : Ths m C D W (ds.take n) := h.sub (fun d hd => List.mem_of_mem_take hd) (Nat.le_trans (costAll_take n ds) h.c)
theorem Ths.drop (h : Ths m C D W ds) (n : Nat) : Ths m C D W (ds.drop n) := h.sub (fun d hd => List.mem_of_mem_drop hd) (Nat.le_trans (costAll_drop n ds) h.c)
theorem Ths.rev (h : Ths m C D W ds) : Ths m C D W ds.reverse := h.sub (fun d hd => List.mem_reverse.mp hd) (by rw [costAll_rev]; exact h.c)
theorem costAll_set : ∀ (ds : List PyData) (i : Nat) (x : PyData), costAll (ds.set i x) ≤ costAll ds + (costAll.cost x + 2)
  | [], _, _ => Nat.zero_le _
  | y :: ys, 0, x => by show costAll.cost x + 2 + costAll ys ≤ costAll.cost y + 2 + costAll ys + _; omega
  | y :: ys, i + 1, x => by
    have := costAll_set ys i x
    show costAll.cost y + 2 + costAll (ys.set i x) ≤ costAll.cost y + 2 + costAll ys + _
    omega
theorem Ths.set {i : Nat} (h : Ths m C D W ds) (k : Th m E D W x) : Ths m (C + E + 2) D W (ds.set i x) :=
  ⟨fun d hd => (List.mem_or_eq_of_mem_set hd).elim (h.g d) fun e => by rw [e]; exact k.g, Nat.le_trans (costAll_set ds i x) (by have := h.c; have := k.c; omega), fun d hd => (List.mem_or_eq_of_mem_set hd).elim (h.d d) fun e => by rw [e]; exact k.d, fun d hd => (List.mem_or_eq_of_mem_set hd).elim (h.w d) fun e => by rw [e]; exact k.w⟩
end
section
variable {K : PySem.W.Frag} {H : Hp}
theorem dpAll_app' : ∀ {xs ys : List V} {ds es : List PyData}, DpAll K H xs ds → DpAll K H ys es → DpAll K H (xs ++ ys) (ds ++ es)
  | _, _, _, _, .nil, h => h
  | _, _, _, _, .cons h t, h2 => .cons h (dpAll_app' t h2)
theorem dpAll_take : ∀ {xs : List V} {ds : List PyData} (n : Nat), DpAll K H xs ds → DpAll K H (xs.take n) (ds.take n)
  | _, _, 0, _ => .nil
  | _, _, _ + 1, .nil => .nil
  | _, _, n + 1, .cons h t => .cons h (dpAll_take n t)
theorem dpAll_drop : ∀ {xs : List V} {ds : List PyData} (n : Nat), DpAll K H xs ds → DpAll K H (xs.drop n) (ds.drop n)
  | _, _, 0, h => h
  | _, _, _ + 1, .nil => .nil
  | _, _, n + 1, .cons _ t => dpAll_drop n t
theorem dpAll_rev : ∀ {xs : List V} {ds : List PyData}, DpAll K H xs ds → DpAll K H xs.reverse ds.reverse
  | _, _, .nil => .nil
  | _, _, .cons h t => by rw [List.reverse_cons, List.reverse_cons]; exact dpAll_app' (dpAll_rev t) (.cons h .nil)
theorem dpAll_set : ∀ {xs : List V} {ds : List PyData} {i : Nat} {v : V} {d : PyData}, DpAll K H xs ds → Dp K H v d → DpAll K H (xs.set i v) (ds.set i d)
  | _, _, _, _, _, .nil, _ => .nil
  | _, _, 0, _, _, .cons _ t, k => .cons k t
  | _, _, _ + 1, _, _, .cons h t, k => .cons h (dpAll_set t k)
/-- a slice of a row of parts -/
theorem dp_cut {xs : List V} {ds : List PyData} {lo hi : Option Int} {m C D W : Nat} (h : DpAll K H xs ds) (t : Ths m C D W ds) : ∃ es, DpAll K H (cutV xs lo hi) es ∧ Ths m C D W es ∧ es.length ≤ ds.length := by
  unfold cutV
  exact ⟨_, dpAll_take _ (dpAll_drop _ h), (t.drop _).take _, by rw [List.length_take, List.length_drop]; omega⟩
theorem dp_lst' {v : V} {ds : List PyData} (h : Dp K H v (.list ds)) : ∃ a xs, v = .ref a ∧ SqL K H a xs ∧ DpAll K H xs ds := by
  cases h with
  | lst h a => exact ⟨_, _, rfl, h, a⟩
end
end Pot
namespace Pot
open PySem PySem.Spec PyProof.Rows L2
theorem sm_at {H H' : Hp} {S : List Addr} {x : Addr} {o : HO} (s : Sm S H H') (n : x ∉ S) (h : H x = some o) : H' x = some o := by
  have := s x o (by rw [off_out n]; exact h)
  rw [off_out n] at this; exact this
theorem sm1_at {H H' : Hp} {b x : Addr} {o : HO} (s : Sm [b] H H') (n : x ≠ b) (h : H x = some o) : H' x = some o := sm_at s (fun z => n (List.mem_singleton.mp z)) h
theorem smp {H H' : Hp} {S : List Addr} {p : Addr} {o : HO} (s : Sm S H H') (h : H p = none) : Sm S H (upd H' p o) := fun x u e => by
  have n := off_mem e
  have ne : x ≠ p := fun z => by
    rw [off_out n, z, h] at e; cases e
  have := s x u e
  rw [off_out n] at this ⊢
  rw [upd_ne ne]; exact this
theorem sm_free {H H' : Hp} {b l : Addr} (s : Sm [b] H H') (B : Bx H' b) (h : H' l = none) : H l = none := by
  have nb := B.ne h
  have n : l ∉ [b] := fun z => nb (List.mem_singleton.mp z)
  cases e : H l with
  | none => rfl
  | some o => rw [sm_at s n e] at h; cases h
theorem cut_map {α : Type} (f : α → V) (ns : List α) (lo hi : Option Int) : cutV (ns.map f) lo hi = ((ns.drop (HT.sIx ns.length 0 lo)).take (HT.sIx ns.length ns.length hi - HT.sIx ns.length 0 lo)).map f := by
  unfold cutV
  rw [List.length_map, List.map_take, List.map_drop]
theorem cut_head {xs : List V} {k : Nat} : cutV xs none (some (k : Int)) = xs.take k := by
  unfold cutV
  rw [HT.sIx_none, HT.sIx_nat, List.drop_zero, Nat.sub_zero]
  by_cases h : k ≤ xs.length
  · rw [Nat.min_eq_left h]
  · rw [Nat.min_eq_right (by omega), List.take_length, List.take_of_length_le (by omega)]
theorem cut_tail {xs : List V} {k : Nat} : cutV xs (some (k : Int)) none = xs.drop k := by
  unfold cutV
  rw [HT.sIx_none, HT.sIx_nat]
  by_cases h : k ≤ xs.length
  · rw [Nat.min_eq_left h, List.take_of_length_le (by rw [List.length_drop]; exact Nat.le_refl _)]
  · rw [Nat.min_eq_right (by omega), Nat.sub_self, List.take_zero, List.drop_of_length_le (by omega)]
end Pot
namespace Pot
open PySem PySem.Spec PyProof.Rows L2
section
variable {K : PySem.W.Frag} {H : Hp} {t : Addr} {d : PyData} {ds : List PyData}
theorem seq_dp {x : V} (h : Dp K H x d) (e : d = .list ds ∨ d = .tuple ds) : ∃ t zs, x = .ref t ∧ (SqL K H t zs ∨ SqT K H t zs) ∧ DpAll K H zs ds := by
  rcases e with rfl | rfl
  · cases h with
    | lst h a => exact ⟨_, _, rfl, .inl h, a⟩
  · cases h with
    | tup h a => exact ⟨_, _, rfl, .inr h, a⟩
theorem len_dp (h : Dp K H (.ref t) d) (e : d = .list ds ∨ d = .tuple ds) : LenV K (.ref t) H ds.length := by
  rcases e with rfl | rfl
  · cases h with
    | lst h a => exact .inl ⟨_, h, (dpAll_len a).symm⟩
  · cases h with
    | tup h a => exact .inr ⟨_, h, (dpAll_len a).symm⟩
theorem Th.parts {m C D W : Nat} (h : Th m C D W d) (e : d = .list ds ∨ d = .tuple ds) : Ths m (C - 3) (D - 1) W ds ∧ ds.length ≤ W ∧ 3 ≤ C ∧ 1 ≤ D := by
  rcases e with rfl | rfl
  · exact h.ofList
  · exact h.ofTuple
end
theorem sm_in {H H' : Hp} {S : List Addr} {x : Addr} {o : HO} (s : Sm S H H') (h : off H S x = some o) : off H' S x = some o := s x o h
end Pot
namespace Pot
open PySem PySem.Spec PyProof.Rows L2
theorem costAll_set_eq : ∀ {ds : List PyData} {i : Nat} {x y : PyData}, ds[i]? = some y → costAll (ds.set i x) + costAll.cost y = costAll ds + costAll.cost x
  | [], _, _, _, h => by simp at h
  | z :: zs, 0, x, y, h => by
    have e : z = y := by simpa using h
    subst e
    show costAll.cost x + 2 + costAll zs + costAll.cost z = costAll.cost z + 2 + costAll zs + costAll.cost x
    omega
  | z :: zs, i + 1, x, y, h => by
    have := costAll_set_eq (ds := zs) (i := i) (x := x) (y := y) (by simpa using h)
    show costAll.cost z + 2 + costAll (zs.set i x) + costAll.cost y = costAll.cost z + 2 + costAll zs + costAll.cost x
    omega
theorem codes_ofString (s : String) : ∀ c ∈ (Str.ofString s).cps.toList, c < 1114112 := by
  intro c hc
  rw [Str.ofString_eq_toList] at hc
  have : c ∈ s.toList.map Char.toNat := by simpa using hc
  obtain ⟨ch, _, rfl⟩ := List.mem_map.mp this
  have v := ch.valid
  have e : ch.toNat = ch.val.toNat := rfl
  rcases v with v | ⟨_, v⟩
  · have : ch.val.toNat < 0xD800 := v
    omega
  · have : ch.val.toNat < 0x110000 := v
    omega
theorem th_text {i : Int} (h : i.natAbs ≤ 2000000) {m : Nat} : Th m 19212 0 0 (.str (toString i)) := by
  have l : (Str.ofString (toString i)).length ≤ 1921 := PyProof.Rows.int_text_len_1921 (log_small' h)
  exact ⟨⟨by omega, codes_ofString _⟩, by show 10 * (Str.ofString (toString i)).length + 2 ≤ 19212; omega, Nat.le_refl _, Nat.le_refl _⟩
end Pot

namespace Pot
open PySem PySem.Spec PyProof.Rows L2
theorem Ths.parts2 {m C E D W a b : Nat} {ds es : List PyData} (h : Ths m C D W ds) (hab : a ≤ b) (k : Ths m E D W es) : Ths m (C + E) D W (ds.take a ++ es ++ ds.drop b) := by
  have mem : ∀ d, d ∈ ds.take a ++ es ++ ds.drop b → d ∈ ds ∨ d ∈ es := fun d hd => by
    rcases List.mem_append.mp hd with z | z
    · rcases List.mem_append.mp z with y | y
      · exact .inl (List.mem_of_mem_take y)
      · exact .inr y
    · exact .inl (List.mem_of_mem_drop z)
  refine ⟨fun d hd => (mem d hd).elim (h.g d) (k.g d), ?_, fun d hd => (mem d hd).elim (h.d d) (k.d d), fun d hd => (mem d hd).elim (h.w d) (k.w d)⟩
  rw [costAll_app, costAll_app]
  have e := costAll_app (ds.take a) (ds.drop a)
  rw [List.take_append_drop] at e
  have e2 : ds.drop b = (ds.drop a).drop (b - a) := by rw [List.drop_drop]; congr 1; omega
  have e3 := costAll_drop (b - a) (ds.drop a)
  rw [← e2] at e3
  have := h.c
  have := k.c
  omega
end Pot

namespace Pot
open PySem PySem.Spec PyProof.Rows L2
theorem nodup_le {α : Type} [BEq α] [LawfulBEq α] : ∀ {ks l : List α}, ks.Nodup → (∀ k ∈ ks, k ∈ l) → ks.length ≤ l.length
  | [], _, _, _ => Nat.zero_le _
  | k :: ks, l, h, s => by
    have hk := s k List.mem_cons_self
    have h2 := (List.nodup_cons.mp h)
    have := nodup_le (ks := ks) (l := l.erase k) h2.2 fun x hx => by
      have ne : x ≠ k := fun e => h2.1 (e ▸ hx)
      exact (List.mem_erase_of_ne ne).mpr (s x (List.mem_cons_of_mem _ hx))
    rw [List.length_erase_of_mem hk] at this
    have : 0 < l.length := List.length_pos_of_mem hk
    simp only [List.length_cons]
    omega
section
variable {X : Cx} {K : PySem.W.Frag}
theorem ko_notIn (h : X.K = K := by rfl) : OpR X (compareOp .NotIn) (rIn K true) := h ▸ op_notIn_seq
/-- set(xs) of ints: how many members it has -/
def rSetLj (K : PySem.W.Frag) (w : World) : List V → Hp → VK → Prop := fun xs H Q => ∃ (a : Addr) (ns : List Int), xs = [V.ref a] ∧ SqL K H a (ns.map V.int) ∧ ns.length ≤ 4000 ∧
  ∀ (p : Addr) (ks : List Int), H p = none → ks.Nodup → (∀ k, k ∈ ks ↔ k ∈ ns) → Q (.ref p) (upd H p (SetO w p (fun k => decide (k ∈ ns)) ks.length))
theorem cr_setLj (hc : X.calm = true) : CallR X (.type "set") (rSetLj X.K X.w) := by
  intro pins s σ H vs us Q I r h
  obtain ⟨a, ns, rfl, hS, hl, q⟩ := h
  rw [Vals.ref1 r]
  obtain ⟨its, rv, pl, hz⟩ := I.list hS
  refine call_set_li ns (I.ok.hd hc) pl.isList (by simpa using Vals.ints rv) (by unfold scanBound; omega) fun s' f => ?_
  obtain ⟨h', tk, c, rfl, R, hcn, k⟩ := f
  have hn : H s.heap.objs.size = none := I.hok.fresh (Nat.le_refl _)
  have J : Inv X pins σ (upd H s.heap.objs.size (SetO X.w s.heap.objs.size (fun k => decide (k ∈ ns)) c)) { s with heap := h', toks := tk } := I.laid (t' := tk) k (Nat.le_refl _) (setO_new R)
  obtain ⟨o, es, ep, t, _, _, _, _, nod, mem, _, _, size, _⟩ := R
  have q2 := q s.heap.objs.size (es.toList.map keyOf) hn nod fun k => by rw [← mem k, decide_eq_true_eq]
  rw [List.length_map, Array.length_toList, size] at q2
  exact ⟨.ref s.heap.objs.size, _, J, rfl, q2⟩
theorem kc_setLj {w : World} (hc : X.calm = true := by rfl) (h : X.K = K := by rfl) (hw : X.w = w := by rfl) : CallR X (.type "set") (rSetLj K w) := by subst h; subst hw; exact cr_setLj hc
end
end Pot

namespace Pot
open PySem PySem.Spec PyProof.Rows L2
/-! ### kinds of data -/
def tyD : PyData → String
  | .none => "NoneType"
  | .bool _ => "bool"
  | .int _ => "int"
  | .str _ => "str"
  | .list _ => "list"
  | .tuple _ => "tuple"
  | .dict _ => "dict"
def isIntD : PyData → Bool
  | .int _ => true
  | .bool _ => true
  | _ => false
def isBoolD : PyData → Bool
  | .bool _ => true
  | _ => false
def isStrD : PyData → Bool
  | .str _ => true
  | _ => false
def isListD : PyData → Bool
  | .list _ => true
  | _ => false
def isTupD : PyData → Bool
  | .tuple _ => true
  | _ => false
section
variable {K : PySem.W.Frag} {H : Hp} {x : V} {d : PyData} {Q : VK}
theorem tyx_dp (h : Dp K H x d) : TyX K H x (.type (tyD d)) := by
  cases h with
  | non => exact .base .non
  | bl b => exact .base (.bl b)
  | int i => exact .base (.int i)
  | str z => exact .base (.str z)
  | lst h _ => exact tyx_list h
  | tup h _ => exact tyx_tup h
theorem kit_int (h : Dp K H x d) : PySem.W.kitOne K (.type (tyD d)) (.type "int") = some (isIntD d) := by
  cases h with
  | non => exact kit_ty (show kitB "NoneType" "int" = some false by decide +kernel)
  | bl _ => exact kit_ty (show kitB "bool" "int" = some true by decide +kernel)
  | int _ => exact kit_ty (show kitB "int" "int" = some true by decide +kernel)
  | str _ => exact kit_ty (show kitB "str" "int" = some false by decide +kernel)
  | lst _ _ => exact kit_ty (show kitB "list" "int" = some false by decide +kernel)
  | tup _ _ => exact kit_ty (show kitB "tuple" "int" = some false by decide +kernel)
theorem kit_bool (h : Dp K H x d) : PySem.W.kitOne K (.type (tyD d)) (.type "bool") = some (isBoolD d) := by
  cases h with
  | non => exact kit_ty (show kitB "NoneType" "bool" = some false by decide +kernel)
  | bl _ => exact kit_ty (show kitB "bool" "bool" = some true by decide +kernel)
  | int _ => exact kit_ty (show kitB "int" "bool" = some false by decide +kernel)
  | str _ => exact kit_ty (show kitB "str" "bool" = some false by decide +kernel)
  | lst _ _ => exact kit_ty (show kitB "list" "bool" = some false by decide +kernel)
  | tup _ _ => exact kit_ty (show kitB "tuple" "bool" = some false by decide +kernel)
theorem kit_str (h : Dp K H x d) : PySem.W.kitOne K (.type (tyD d)) (.type "str") = some (isStrD d) := by
  cases h with
  | non => exact kit_ty (show kitB "NoneType" "str" = some false by decide +kernel)
  | bl _ => exact kit_ty (show kitB "bool" "str" = some false by decide +kernel)
  | int _ => exact kit_ty (show kitB "int" "str" = some false by decide +kernel)
  | str _ => exact kit_ty (show kitB "str" "str" = some true by decide +kernel)
  | lst _ _ => exact kit_ty (show kitB "list" "str" = some false by decide +kernel)
  | tup _ _ => exact kit_ty (show kitB "tuple" "str" = some false by decide +kernel)
theorem kit_list (h : Dp K H x d) : PySem.W.kitOne K (.type (tyD d)) (.type "list") = some (isListD d) := by
  cases h with
  | non => exact kit_ty (show kitB "NoneType" "list" = some false by decide +kernel)
  | bl _ => exact kit_ty (show kitB "bool" "list" = some false by decide +kernel)
  | int _ => exact kit_ty (show kitB "int" "list" = some false by decide +kernel)
  | str _ => exact kit_ty (show kitB "str" "list" = some false by decide +kernel)
  | lst _ _ => exact kit_ty (show kitB "list" "list" = some true by decide +kernel)
  | tup _ _ => exact kit_ty (show kitB "tuple" "list" = some false by decide +kernel)
theorem kit_tup (h : Dp K H x d) : PySem.W.kitOne K (.type (tyD d)) (.type "tuple") = some (isTupD d) := by
  cases h with
  | non => exact kit_ty (show kitB "NoneType" "tuple" = some false by decide +kernel)
  | bl _ => exact kit_ty (show kitB "bool" "tuple" = some false by decide +kernel)
  | int _ => exact kit_ty (show kitB "int" "tuple" = some false by decide +kernel)
  | str _ => exact kit_ty (show kitB "str" "tuple" = some false by decide +kernel)
  | lst _ _ => exact kit_ty (show kitB "list" "tuple" = some false by decide +kernel)
  | tup _ _ => exact kit_ty (show kitB "tuple" "tuple" = some true by decide +kernel)
theorem kit_lt (h : Dp K H x d) : PySem.W.kitAny K (.type (tyD d)) [.type "list", .type "tuple"] = some (isListD d || isTupD d) := by
  cases h <;> rfl
end
/-! ### numbers within bounds -/
def numD (lo hi : Int) : PyData → Bool
  | .int i => decide (lo ≤ i) && decide (i ≤ hi)
  | _ => false
def toI : PyData → Int
  | .int i => i
  | _ => 0
theorem numD_int {lo hi : Int} : ∀ {d : PyData}, numD lo hi d = true → d = .int (toI d) ∧ lo ≤ toI d ∧ toI d ≤ hi
  | .int i, h => by
    obtain ⟨h1, h2⟩ := Bool.and_eq_true_iff.mp (show (decide (lo ≤ i) && decide (i ≤ hi)) = true from h)
    exact ⟨rfl, of_decide_eq_true h1, of_decide_eq_true h2⟩
/-- rising -/
def risI : List Int → Bool
  | a :: b :: r => decide (a < b) && risI (b :: r)
  | _ => true
def risD (lo hi : Int) : PyData → Bool
  | .list ds => ds.all (numD lo hi) && risI (ds.map toI)
  | _ => false
theorem risI_pair : ∀ {ns : List Int}, risI ns = true ↔ ns.Pairwise (· < ·)
  | [] => by simp [risI]
  | [a] => by simp [risI]
  | a :: b :: r => by
    have ih := risI_pair (ns := b :: r)
    show (decide (a < b) && risI (b :: r)) = true ↔ _
    rw [Bool.and_eq_true_iff, decide_eq_true_eq, ih]
    constructor
    · rintro ⟨h1, h2⟩
      refine List.pairwise_cons.mpr ⟨fun x hx => ?_, h2⟩
      rcases List.mem_cons.mp hx with e | e
      · rw [e]; exact h1
      · exact Int.lt_trans h1 ((List.pairwise_cons.mp h2).1 x e)
    · intro h
      obtain ⟨h1, h2⟩ := List.pairwise_cons.mp h
      exact ⟨h1 b List.mem_cons_self, h2⟩
theorem nums_of {lo hi : Int} {ds : List PyData} (h : ds.all (numD lo hi) = true) : ds = (ds.map toI).map PyData.int ∧ ∀ k ∈ ds.map toI, lo ≤ k ∧ k ≤ hi := by
  rw [List.all_eq_true] at h
  constructor
  · rw [List.map_map]
    conv => lhs; rw [← List.map_id ds]
    exact List.map_congr_left fun d hd => (numD_int (h d hd)).1
  · intro k hk
    obtain ⟨d, hd, rfl⟩ := List.mem_map.mp hk
    exact (numD_int (h d hd)).2
section
variable {K : PySem.W.Frag} {H : Hp}
theorem dp_intsV : ∀ {xs : List V} {ns : List Int}, DpAll K H xs (ns.map PyData.int) → xs = ns.map V.int
  | [], [], _ => rfl
  | [], _ :: _, h => by cases h
  | _ :: _, [], h => by cases h
  | x :: xs, n :: ns, h => by
    cases h with
    | cons h t => cases h; rw [dp_intsV t]; rfl
end
/-- of a row that rises just the same: a row in which all stand in order, none twice -/
theorem sorted_uniq : ∀ {xs ys : List Int}, xs.Pairwise (· < ·) → ys.Pairwise (· < ·) → (∀ k, k ∈ xs ↔ k ∈ ys) → xs = ys
  | [], [], _, _, _ => rfl
  | [], y :: ys, _, _, h => by have := (h y).mpr List.mem_cons_self; simp at this
  | x :: xs, [], _, _, h => by have := (h x).mp List.mem_cons_self; simp at this
  | x :: xs, y :: ys, h1, h2, h => by
    rw [List.pairwise_cons] at h1 h2
    have e : x = y := by
      rcases List.mem_cons.mp ((h x).mp List.mem_cons_self) with e | e
      · exact e
      · rcases List.mem_cons.mp ((h y).mpr List.mem_cons_self) with e2 | e2
        · exact e2.symm
        · have := h2.1 x e; have := h1.1 y e2; omega
    subst e
    have : xs = ys := sorted_uniq h1.2 h2.2 fun k => by
      constructor
      · intro hk
        rcases List.mem_cons.mp ((h k).mp (List.mem_cons_of_mem _ hk)) with e | e
        · have := h1.1 k hk; omega
        · exact e
      · intro hk
        rcases List.mem_cons.mp ((h k).mpr (List.mem_cons_of_mem _ hk)) with e | e
        · have := h2.1 k hk; omega
        · exact e
    rw [this]
theorem eqv_ints : ∀ xs ys : List Int, PyData.eqv (.list (xs.map PyData.int)) (.list (ys.map PyData.int)) = decide (xs = ys)
  | [], [] => rfl
  | [], _ :: _ => rfl
  | _ :: _, [] => rfl
  | x :: xs, y :: ys => by
    have ih := eqv_ints xs ys
    show (PyData.eqv (.int x) (.int y) && PyData.eqvAll (xs.map PyData.int) (ys.map PyData.int)) = _
    rw [show PyData.eqvAll (xs.map PyData.int) (ys.map PyData.int) = decide (xs = ys) from ih]
    show ((x == y) && _) = _
    by_cases h : x = y
    · subst h; simp
    · simp [h]
/-- thing == sorted(set(thing)): just where it rises -/
theorem eq_sorted {ns zs : List Int} (h : zs.Pairwise (· < ·)) (m : ∀ k, k ∈ zs ↔ k ∈ ns) : decide (ns = zs) = risI ns := by
  by_cases e : ns = zs
  · rw [decide_eq_true e, e]; exact (risI_pair.mpr h).symm
  · rw [decide_eq_false e]
    cases hr : risI ns with
    | false => rfl
    | true => exact absurd (sorted_uniq (risI_pair.mp hr) h fun k => (m k).symm) e
theorem nodup_60 {ks : List Int} (h : ks.Nodup) (b : ∀ k ∈ ks, 0 ≤ k ∧ k ≤ 60) : ks.length < 64 := by
  have := nodup_le (l := (List.range 61).map fun (i : Nat) => (i : Int)) h fun k hk => by
    obtain ⟨h0, h1⟩ := b k hk
    exact List.mem_map.mpr ⟨k.toNat, List.mem_range.mpr (by omega), by omega⟩
  rw [List.length_map, List.length_range] at this
  omega
end Pot
namespace Pot
open PySem PySem.Spec PyProof.Rows L2
/-! ### a comprehension that changes nothing that stood: out i is what is told up to turn i -/
def PvL (H1 : Hp) (D : Addr) (out : Nat → List V) (i : Nat) (H2 : Hp) : Prop := Same H1 H2 ∧ H2 D = some (.lst (out i))
section
variable {H1 H2 H3 : Hp} {D : Addr} {out : Nat → List V} {i : Nat} {y : V}
theorem pv_start (nD : H1 D = none) (e : out 0 = []) : PvL H1 D out 0 (upd H1 D (.lst [])) := ⟨same_upd nD, by rw [e]; exact upd_same⟩
theorem pv_put (nD : H1 D = none) (p : PvL H1 D out i H2) (s : Same H2 H3) (e : out (i + 1) = out i ++ [y]) (l : (out i).length < sizeLine) : ∃ acc, H3 D = some (.lst acc) ∧ acc.length < sizeLine ∧ PvL H1 D out (i + 1) (upd H3 D (.lst (acc ++ [y]))) :=
  ⟨out i, s _ _ p.2, l, same_put (p.1.trans s) nD, by rw [e]; exact upd_same⟩
theorem pv_skip (p : PvL H1 D out i H2) (s : Same H2 H3) (e : out (i + 1) = out i) : PvL H1 D out (i + 1) H3 := ⟨p.1.trans s, by rw [e]; exact s _ _ p.2⟩
end
theorem take_map {α : Type} (f : α → V) {l : List α} {i : Nat} {x : α} (h : l[i]? = some x) : (l.take (i + 1)).map f = (l.take i).map f ++ [f x] := by
  rw [List.take_add_one, h, List.map_append]; rfl
theorem take_len_lt {α : Type} {f : α → V} {l : List α} {i : Nat} (h : i < 100000) : ((l.take i).map f).length < sizeLine := by
  rw [List.length_map, List.length_take, sizeLine_eq]; omega
theorem take_len_le {α : Type} {f : α → V} {l : List α} {i : Nat} (h : l.length < 100000) : ((l.take i).map f).length < sizeLine := by
  rw [List.length_map, List.length_take, sizeLine_eq]; omega
/-- each below the next -/
def rb : List Int → List Bool
  | a :: b :: r => decide (a < b) :: rb (b :: r)
  | _ => []
theorem rb_all : ∀ ns : List Int, (rb ns).all id = risI ns
  | [] => rfl
  | [_] => rfl
  | a :: b :: r => by show (decide (a < b) && (rb (b :: r)).all id) = _; rw [rb_all (b :: r)]; rfl
theorem rb_len : ∀ ns : List Int, (rb ns).length = ns.length - 1
  | [] => rfl
  | [_] => rfl
  | a :: b :: r => by show (rb (b :: r)).length + 1 = _; rw [rb_len (b :: r)]; simp
theorem rb_at : ∀ {ns : List Int} {i : Nat} {x y : Int}, ns[i]? = some x → ns[i + 1]? = some y → (rb ns)[i]? = some (decide (x < y))
  | [], _, _, _, h, _ => by simp at h
  | [_], i, _, _, _, h => by simp at h
  | a :: b :: r, 0, x, y, h, k => by
    have e1 : a = x := by simpa using h
    have e2 : b = y := by simpa using k
    subst e1 e2; rfl
  | a :: b :: r, i + 1, x, y, h, k => rb_at (ns := b :: r) (i := i) (by simpa using h) (by simpa using k)
/-- what is told of each of some data -/
theorem all_map {ds : List PyData} {f : PyData → Bool} : (ds.map f).all id = ds.all f := by
  rw [List.all_map]; rfl
end Pot
namespace Pot
open PySem PySem.Spec PyProof.Rows L2
theorem pv_end {H1 H2 : Hp} {D : Addr} {out : Nat → List V} {n : Nat} {zs : List V} (p : PvL H1 D out n H2) (e : out n = zs) : Same H1 H2 ∧ H2 D = some (.lst zs) := ⟨p.1, by rw [← e]; exact p.2⟩
theorem take_all {α : Type} {f : α → V} {l : List α} {n : Nat} (h : l.length ≤ n) : (l.take n).map f = l.map f := by rw [List.take_of_length_le h]
end Pot

namespace Pot
open PySem PySem.Spec PyProof.Rows L2
/-! ### palettes as data -/
abbrev Col := Str × Int × Int × Int
abbrev Wsh := Str × Str × Option Int
def colD (c : Col) : PyData := .tuple [.str c.1, .int c.2.1, .int c.2.2.1, .int c.2.2.2]
def optD : Option Int → PyData
  | none => .none
  | some i => .int i
def washD (r : Wsh) : PyData := .tuple [.str r.1, .str r.2.1, optD r.2.2]
def palD (cs : List Col) (ws : List Wsh) : PyData := .tuple [.tuple (cs.map colD), .tuple (ws.map washD)]
def optV : Option Int → V
  | none => .non
  | some i => .int i
def namV : Option Str → V
  | none => .non
  | some z => .str z
/-- the washing between two: the first row that tells -/
def washF (ws : List Wsh) (a : Option Str) (b : Str) : Option Int := match ws with
  | [] => some 0
  | r :: ws => if some r.1 = a ∧ r.2.1 = b then r.2.2 else washF ws a b
/-- the washing of a row -/
def sumF (ws : List Wsh) : Option Str → List Str → Int → Option Int
  | _, [], h => some h
  | a, b :: r, h => match washF ws a b with
    | none => none
    | some k => sumF ws (some b) r (h + k)
section
variable {K : PySem.W.Frag} {H : Hp}
theorem dp_tup {v : V} {ds : List PyData} (h : Dp K H v (.tuple ds)) : ∃ a xs, v = .ref a ∧ SqT K H a xs ∧ DpAll K H xs ds := by
  cases h with
  | tup h a => exact ⟨_, _, rfl, h, a⟩
theorem dp_lst {v : V} {ds : List PyData} (h : Dp K H v (.list ds)) : ∃ a xs, v = .ref a ∧ SqL K H a xs ∧ DpAll K H xs ds := by
  cases h with
  | lst h a => exact ⟨_, _, rfl, h, a⟩
theorem dp_str {v : V} {z : Str} (h : Dp K H v (.str z)) : v = .str z := by cases h; rfl
theorem dp_int {v : V} {z : Int} (h : Dp K H v (.int z)) : v = .int z := by cases h; rfl
theorem dp_opt {v : V} : ∀ {z : Option Int}, Dp K H v (optD z) → v = optV z
  | none, h => by cases h; rfl
  | some i, h => by cases h; rfl
theorem opt_dp : ∀ (z : Option Int), Dp K H (optV z) (optD z)
  | none => .non
  | some i => .int i
theorem dp_two {xs : List V} {d e : PyData} (h : DpAll K H xs [d, e]) : ∃ x y, xs = [x, y] ∧ Dp K H x d ∧ Dp K H y e := by
  cases h with
  | cons h1 t => cases t with
    | cons h2 t => cases t; exact ⟨_, _, rfl, h1, h2⟩
theorem dp_three {xs : List V} {d e f : PyData} (h : DpAll K H xs [d, e, f]) : ∃ x y z, xs = [x, y, z] ∧ Dp K H x d ∧ Dp K H y e ∧ Dp K H z f := by
  cases h with
  | cons h1 t => obtain ⟨y, z, rfl, h2, h3⟩ := dp_two t; exact ⟨_, _, _, rfl, h1, h2, h3⟩
theorem dp_four {xs : List V} {d e f g : PyData} (h : DpAll K H xs [d, e, f, g]) : ∃ x y z u, xs = [x, y, z, u] ∧ Dp K H x d ∧ Dp K H y e ∧ Dp K H z f ∧ Dp K H u g := by
  cases h with
  | cons h1 t => obtain ⟨y, z, u, rfl, h2, h3, h4⟩ := dp_three t; exact ⟨_, _, _, _, rfl, h1, h2, h3, h4⟩
/-- a colour's tuple -/
theorem col_dp {v : V} {c : Col} (h : Dp K H v (colD c)) : ∃ a, v = .ref a ∧ SqT K H a [.str c.1, .int c.2.1, .int c.2.2.1, .int c.2.2.2] := by
  obtain ⟨a, xs, rfl, hs, ha⟩ := dp_tup h
  obtain ⟨x, y, z, u, rfl, h1, h2, h3, h4⟩ := dp_four ha
  rw [dp_str h1, dp_int h2, dp_int h3, dp_int h4] at hs
  exact ⟨a, rfl, hs⟩
theorem wash_dp {v : V} {r : Wsh} (h : Dp K H v (washD r)) : ∃ a, v = .ref a ∧ SqT K H a [.str r.1, .str r.2.1, optV r.2.2] := by
  obtain ⟨a, xs, rfl, hs, ha⟩ := dp_tup h
  obtain ⟨x, y, z, rfl, h1, h2, h3⟩ := dp_three ha
  rw [dp_str h1, dp_str h2, dp_opt h3] at hs
  exact ⟨a, rfl, hs⟩
/-- a palette in the heap -/
theorem pal_dp {v : V} {cs : List Col} {ws : List Wsh} (h : Dp K H v (palD cs ws)) :
    ∃ p c w xs ys, v = .ref p ∧ SqT K H p [.ref c, .ref w] ∧ SqT K H c xs ∧ DpAll K H xs (cs.map colD) ∧ SqT K H w ys ∧ DpAll K H ys (ws.map washD) := by
  obtain ⟨p, zs, rfl, hp, hz⟩ := dp_tup h
  obtain ⟨x, y, rfl, h1, h2⟩ := dp_two hz
  obtain ⟨c, xs, rfl, hc, hx⟩ := dp_tup h1
  obtain ⟨w, ys, rfl, hw, hy⟩ := dp_tup h2
  exact ⟨p, c, w, xs, ys, rfl, hp, hc, hx, hw, hy⟩
theorem dpAll_map_at {α : Type} {f : α → PyData} {xs : List V} {l : List α} {i : Nat} {x : V} (h : DpAll K H xs (l.map f)) (e : xs[i]? = some x) : ∃ y, l[i]? = some y ∧ Dp K H x (f y) := by
  obtain ⟨d, g, p⟩ := dpAll_at h e
  rw [List.getElem?_map] at g
  obtain ⟨y, hy, rfl⟩ := Option.map_eq_some_iff.mp g
  exact ⟨y, hy, p⟩
theorem dpAll_map_len {α : Type} {f : α → PyData} {xs : List V} {l : List α} (h : DpAll K H xs (l.map f)) : xs.length = l.length := by
  rw [dpAll_len h, List.length_map]
end
theorem decS {a b : Str} : decide (V.str a = V.str b) = decide (a = b) := by
  by_cases h : a = b
  · subst h; rw [decide_eq_true rfl, decide_eq_true rfl]
  · rw [decide_eq_false h, decide_eq_false fun z => h (V.str.inj z)]
/-- behind rows that don't tell -/
theorem washF_skip {a : Option Str} {b : Str} : ∀ {ws : List Wsh} {i : Nat}, (∀ j r, j < i → ws[j]? = some r → ¬ (some r.1 = a ∧ r.2.1 = b)) → washF ws a b = washF (ws.drop i) a b
  | ws, 0, _ => rfl
  | [], i + 1, _ => rfl
  | r :: ws, i + 1, h => by
    show (if some r.1 = a ∧ r.2.1 = b then r.2.2 else washF ws a b) = washF (ws.drop i) a b
    rw [if_neg (h 0 r (Nat.succ_pos _) rfl)]
    exact washF_skip (a := a) (b := b) (ws := ws) (i := i) fun j q hj e => h (j + 1) q (Nat.succ_lt_succ hj) e
theorem washF_at {a : Option Str} {b : Str} {ws : List Wsh} {i : Nat} {r : Wsh} (h : ∀ j r, j < i → ws[j]? = some r → ¬ (some r.1 = a ∧ r.2.1 = b)) (e : ws[i]? = some r) (hr : some r.1 = a ∧ r.2.1 = b) : washF ws a b = r.2.2 := by
  rw [washF_skip h, List.drop_eq_getElem_cons (List.getElem?_eq_some_iff.mp e).1, (List.getElem?_eq_some_iff.mp e).2]
  unfold washF
  rw [if_pos hr]
theorem washF_none {a : Option Str} {b : Str} {ws : List Wsh} (h : ∀ j r, j < ws.length → ws[j]? = some r → ¬ (some r.1 = a ∧ r.2.1 = b)) : washF ws a b = some 0 := by
  rw [washF_skip h, List.drop_length]
  rfl
/-! ### data without lists stays while the law draws -/
def noLAll : List PyData → Prop
  | [] => True
  | x :: xs => noL x ∧ noLAll xs
where noL : PyData → Prop
  | .list _ => False
  | .dict _ => False
  | .tuple xs => noLAll xs
  | _ => True
section
variable {K : PySem.W.Frag}
theorem kp_tup {d c : Addr} {H H' : Hp} {n : Nat} {a : Addr} {xs : List V} (st : StAt H d c n) (k : Kp d c H H') (h : SqT K H a xs) : SqT K H' a xs := by
  obtain ⟨_, ys, t, h1, h2, _⟩ := st
  have go : ∀ o, (H a = some (.tup xs) ∨ H a = some (.frz o (.tup xs))) → a ≠ d ∧ a ≠ c := fun o e => by
    constructor
    · intro z; subst z; rw [h1] at e; rcases e with e | e <;> cases e
    · intro z; subst z; rw [h2] at e; rcases e with e | e <;> cases e
  rcases h with (h | ⟨o, h⟩) | h
  · have g := go ⟨.none, none, .fields #[], #[]⟩ (.inl h); exact .inl (.inl (k _ _ g.1 g.2 h))
  · have g := go o (.inr h); exact .inl (.inr ⟨o, k _ _ g.1 g.2 h⟩)
  · exact .inr h
mutual
theorem dp_kp {d c : Addr} {H H' : Hp} {n : Nat} (st : StAt H d c n) (k : Kp d c H H') : ∀ {v : V} {e : PyData}, noLAll.noL e → Dp K H v e → Dp K H' v e
  | _, _, _, .non => .non
  | _, _, _, .bl b => .bl b
  | _, _, _, .int i => .int i
  | _, _, _, .str x => .str x
  | _, _, h, .lst _ _ => h.elim
  | _, _, h, .tup s a => .tup (kp_tup st k s) (dpAll_kp st k h a)
theorem dpAll_kp {d c : Addr} {H H' : Hp} {n : Nat} (st : StAt H d c n) (k : Kp d c H H') : ∀ {vs : List V} {es : List PyData}, noLAll es → DpAll K H vs es → DpAll K H' vs es
  | _, _, _, .nil => .nil
  | _, _, h, .cons x t => .cons (dp_kp st k h.1 x) (dpAll_kp st k h.2 t)
end
mutual
theorem dp_go {H H' : Hp} (go : ∀ a us, SqT K H a us → SqT K H' a us) : ∀ {v : V} {e : PyData}, noLAll.noL e → Dp K H v e → Dp K H' v e
  | _, _, _, .non => .non
  | _, _, _, .bl b => .bl b
  | _, _, _, .int i => .int i
  | _, _, _, .str x => .str x
  | _, _, h, .lst _ _ => h.elim
  | _, _, h, .tup s a => .tup (go _ _ s) (dpAll_go go h a)
theorem dpAll_go {H H' : Hp} (go : ∀ a us, SqT K H a us → SqT K H' a us) : ∀ {vs : List V} {es : List PyData}, noLAll es → DpAll K H vs es → DpAll K H' vs es
  | _, _, _, .nil => .nil
  | _, _, h, .cons x t => .cons (dp_go go h.1 x) (dpAll_go go h.2 t)
end
theorem noL_map {α : Type} {f : α → PyData} (h : ∀ x, noLAll.noL (f x)) : ∀ l : List α, noLAll (l.map f)
  | [] => trivial
  | x :: r => ⟨h x, noL_map h r⟩
theorem noL_col (c : Col) : noLAll.noL (colD c) := ⟨trivial, trivial, trivial, trivial, trivial⟩
theorem noL_wash (r : Wsh) : noLAll.noL (washD r) := ⟨trivial, trivial, by cases r.2.2 <;> trivial, trivial⟩
theorem noL_pal (cs : List Col) (ws : List Wsh) : noLAll.noL (palD cs ws) := ⟨noL_map noL_col cs, noL_map noL_wash ws, trivial⟩
theorem dpAll_app {H : Hp} : ∀ {xs ys : List V} {ds es : List PyData}, DpAll K H xs ds → DpAll K H ys es → DpAll K H (xs ++ ys) (ds ++ es)
  | _, _, _, _, .nil, h => h
  | _, _, _, _, .cons h t, h2 => .cons h (dpAll_app t h2)
end
/-! ### how long a palette's text may be -/
structure PalOk (cs : List Col) (ws : List Wsh) : Prop where
  nc : cs.length ≤ 20
  nw : ws.length ≤ 60
  cn : ∀ c ∈ cs, c.1.length ≤ 9 ∧ (∀ x ∈ c.1.cps.toList, x < 1114112) ∧ c.2.1.natAbs < 10000 ∧ c.2.2.1.natAbs < 10000 ∧ c.2.2.2.natAbs < 10000
  wn : ∀ r ∈ ws, (r.1.length ≤ 9 ∧ ∀ x ∈ r.1.cps.toList, x < 1114112) ∧ (r.2.1.length ≤ 9 ∧ ∀ x ∈ r.2.1.cps.toList, x < 1114112) ∧ ∀ i, r.2.2 = some i → i.natAbs < 10000
theorem PalOk.addC {cs : List Col} {ws : List Wsh} {c : Col} (h : PalOk cs ws) (n : cs.length < 20) (ok : c.1.length ≤ 9 ∧ (∀ x ∈ c.1.cps.toList, x < 1114112) ∧ c.2.1.natAbs < 10000 ∧ c.2.2.1.natAbs < 10000 ∧ c.2.2.2.natAbs < 10000) : PalOk (cs ++ [c]) ws :=
  ⟨by rw [List.length_append]; exact n, h.nw, fun x hx => (List.mem_append.mp hx).elim (h.cn x) fun z => by rw [List.mem_singleton.mp z]; exact ok, h.wn⟩
theorem PalOk.addW {cs : List Col} {ws : List Wsh} {r : Wsh} (h : PalOk cs ws) (n : ws.length < 60) (ok : (r.1.length ≤ 9 ∧ ∀ x ∈ r.1.cps.toList, x < 1114112) ∧ (r.2.1.length ≤ 9 ∧ ∀ x ∈ r.2.1.cps.toList, x < 1114112) ∧ ∀ i, r.2.2 = some i → i.natAbs < 10000) : PalOk cs (ws ++ [r]) :=
  ⟨h.nc, by rw [List.length_append]; exact n, h.cn, fun x hx => (List.mem_append.mp hx).elim (h.wn x) fun z => by rw [List.mem_singleton.mp z]; exact ok⟩
theorem log_small {i : Int} (h : i.natAbs < 10000) : i.natAbs.log2 < 1920 := by
  by_cases z : i.natAbs = 0
  · rw [z]; decide
  · have := (Nat.log2_lt z).mpr (show i.natAbs < 2 ^ 14 from Nat.lt_of_lt_of_le h (by decide))
    omega
theorem fineAll_map {α : Type} {f : α → PyData} : ∀ {l : List α}, (∀ x ∈ l, fineAll.fine (f x)) → fineAll (l.map f)
  | [], _ => trivial
  | x :: r, h => ⟨h x List.mem_cons_self, fineAll_map fun y hy => h y (List.mem_cons_of_mem _ hy)⟩
theorem costAll_map {α : Type} {f : α → PyData} {b : Nat} : ∀ {l : List α}, (∀ x ∈ l, costAll.cost (f x) ≤ b) → costAll (l.map f) ≤ l.length * (b + 2)
  | [], _ => Nat.zero_le _
  | x :: r, h => by
    have h1 := h x List.mem_cons_self
    have h2 := costAll_map (l := r) fun y hy => h y (List.mem_cons_of_mem _ hy)
    show costAll.cost (f x) + 2 + costAll (r.map f) ≤ (r.length + 1) * (b + 2)
    rw [Nat.succ_mul]
    omega
theorem depthAll_map {α : Type} {f : α → PyData} {b : Nat} : ∀ {l : List α}, (∀ x ∈ l, (f x).depth ≤ b) → PyData.depthAll (l.map f) ≤ b
  | [], _ => Nat.zero_le _
  | x :: r, h => by
    show max (f x).depth (PyData.depthAll (r.map f)) ≤ b
    exact Nat.max_le.mpr ⟨h x List.mem_cons_self, depthAll_map fun y hy => h y (List.mem_cons_of_mem _ hy)⟩
theorem fine_col {c : Col} (h : c.1.length ≤ 9 ∧ (∀ x ∈ c.1.cps.toList, x < 1114112) ∧ c.2.1.natAbs < 10000 ∧ c.2.2.1.natAbs < 10000 ∧ c.2.2.2.natAbs < 10000) : fineAll.fine (colD c) :=
  ⟨fun x hx => Nat.lt_trans (h.2.1 x hx) (by decide), log_small h.2.2.1, log_small h.2.2.2.1, log_small h.2.2.2.2, trivial⟩
theorem fine_opt {o : Option Int} (h : ∀ i, o = some i → i.natAbs < 10000) : fineAll.fine (optD o) := by
  cases o with
  | none => trivial
  | some i => exact log_small (h i rfl)
theorem pal_fine {cs : List Col} {ws : List Wsh} (h : PalOk cs ws) : fineAll.fine (palD cs ws) :=
  ⟨fineAll_map fun c hc => fine_col (h.cn c hc), fineAll_map fun r hr => ⟨fun x hx => Nat.lt_trans ((h.wn r hr).1.2 x hx) (by decide), fun x hx => Nat.lt_trans ((h.wn r hr).2.1.2 x hx) (by decide), fine_opt (h.wn r hr).2.2, trivial⟩, trivial⟩
theorem cost_opt (o : Option Int) : costAll.cost (optD o) ≤ 1921 := by
  cases o with
  | none => decide
  | some i => exact Nat.le_refl _
theorem pal_cost {cs : List Col} {ws : List Wsh} (h : PalOk cs ws) : costAll.cost (palD cs ws) ≤ 1000000 := by
  have h1 : costAll (cs.map colD) ≤ cs.length * (10000 + 2) := costAll_map fun c hc => by
    have := (h.cn c hc).1
    show (10 * c.1.length + 2) + 2 + (1921 + 2 + (1921 + 2 + (1921 + 2 + 0))) + 3 ≤ 10000
    omega
  have h2 : costAll (ws.map washD) ≤ ws.length * (10000 + 2) := costAll_map fun r hr => by
    have a := (h.wn r hr).1.1
    have b := (h.wn r hr).2.1.1
    have c := cost_opt r.2.2
    show (10 * r.1.length + 2) + 2 + ((10 * r.2.1.length + 2) + 2 + (costAll.cost (optD r.2.2) + 2 + 0)) + 3 ≤ 10000
    omega
  have h3 := Nat.mul_le_mul_right 10002 h.nc
  have h4 := Nat.mul_le_mul_right 10002 h.nw
  show (costAll (cs.map colD) + 3) + 2 + ((costAll (ws.map washD) + 3) + 2 + 0) + 3 ≤ 1000000
  omega
theorem depth_opt (o : Option Int) : (optD o).depth = 0 := by cases o <;> rfl
theorem pal_depth (cs : List Col) (ws : List Wsh) : (palD cs ws).depth ≤ 3 := by
  have h1 : PyData.depthAll (cs.map colD) ≤ 1 := depthAll_map fun c _ => by show 1 ≤ 1; decide
  have h2 : PyData.depthAll (ws.map washD) ≤ 1 := depthAll_map fun r _ => by
    show max 0 (max 0 (max (optD r.2.2).depth 0)) + 1 ≤ 1
    rw [depth_opt]
    decide
  show max (PyData.depthAll (cs.map colD) + 1) (max (PyData.depthAll (ws.map washD) + 1) 0) + 1 ≤ 3
  omega
end Pot

namespace Pot
open PySem PySem.Spec PyProof.Rows L2
/-! ### a box of three numbers whose last is at most n -/
def Bq (H : Hp) (b : Addr) (n : Nat) : Prop := ∃ x y z : Int, H b = some (.lst [.int x, .int y, .int z]) ∧ 0 ≤ z ∧ z ≤ n
section
variable {H H' : Hp} {b p : Addr} {n m : Nat} {o : HO}
theorem Bq.bx (B : Bq H b n) : Bx H b := by
  obtain ⟨x, y, z, h, _⟩ := B
  exact ⟨x, y, z, h⟩
theorem Bq.same (B : Bq H b n) (s : Same H H') : Bq H' b n := by
  obtain ⟨x, y, z, h, h2⟩ := B
  exact ⟨x, y, z, s _ _ h, h2⟩
theorem Bq.put (B : Bq H b n) (h : H p = none) : Bq (upd H p o) b n := B.same (same_upd h)
theorem Bq.wr (B : Bq H b n) (h : p ≠ b) : Bq (upd H p o) b n := by
  obtain ⟨x, y, z, e, h2⟩ := B
  exact ⟨x, y, z, by rw [upd_ne h.symm]; exact e, h2⟩
theorem Bq.mono (B : Bq H b n) (h : n ≤ m) : Bq H b m := by
  obtain ⟨x, y, z, e, h1, h2⟩ := B
  exact ⟨x, y, z, e, h1, by omega⟩
theorem Bq.ne (B : Bq H b n) (h : H p = none) : p ≠ b := B.bx.ne h
theorem Live.q (B : Bq H b n) : Live [b] H := Live.one B.bx
end
theorem b01 (k : Bool) : -(2 ^ 64 : Int) < (if k = true then 1 else 0) ∧ (if k = true then 1 else 0) < (2 ^ 64 : Int) := by cases k <;> decide
theorem CDivW.of {i j : Int} (h0 : 0 < j) (h1 : j < 2 ^ 64) : CDivW i j := by
  refine ⟨h0, ?_⟩
  have z : j.natAbs ≠ 0 := by omega
  have := (Nat.log2_lt z).mpr (show j.natAbs < 2 ^ 64 by omega)
  omega
mutual
theorem gd_lay {m : Nat} : ∀ d : PyData, gd m d → d.canLay0 = true
  | .none, _ => rfl
  | .bool _, _ => rfl
  | .int _, _ => rfl
  | .str x, g => by
    show x.cps.all (fun c => decide (c < 0x110000)) = true
    rw [← Array.all_toList, List.all_eq_true]
    exact fun c hc => decide_eq_true (g.2 c hc)
  | .list xs, g => gdAll_lay xs g
  | .tuple xs, g => gdAll_lay xs g
  | .dict _, g => g.elim
theorem gdAll_lay {m : Nat} : ∀ ds : List PyData, gdAll m ds → PyData.canLayAll0 ds = true
  | [], _ => rfl
  | x :: xs, g => by
    show (x.canLay0 && PyData.canLayAll0 xs) = true
    rw [gd_lay x g.1, gdAll_lay xs g.2]; rfl
end
theorem Th.shaped {m C D W : Nat} {d : PyData} (h : Th m C D W d) (hD : D ≤ 64) : SeqAt.shaped d = true := by
  unfold SeqAt.shaped
  rw [gd_lay d h.g, decide_eq_true (Nat.le_trans h.d hD)]; rfl
theorem gd_shaped {m : Nat} {d : PyData} (h : gd m d) (hD : d.depth ≤ 64) : SeqAt.shaped d = true := by
  unfold SeqAt.shaped
  rw [gd_lay d h, decide_eq_true hD]; rfl
end Pot

set_option maxHeartbeats 2000000
namespace RLam
open PySem PySem.Spec PyProof.Rows L2 PySem.Calls
/-! ### a lambda with one value by place, its answer the first part of a row of a captured list, turned -/
section
variable {prog : Program} {w : World} {B : Around} {s : Shared}
theorem ld_captured {E : Value → Shared → Prop} {env : Env} {o : Str} {co : Addr} {v : Value} {Q : Value → Shared → Prop} {p : Pos} (hk : env.scope.kind = .function) (hl : env.kindOf o = some .free) (hc : env.cells.lookup o = some co) (hv : s.heap.IsCell co (some v))
    (h : Q v s) (hd : (o == ("__debug__" : Str)) = false) (hcd : (o == ("__classdict__" : Str)) = false) : wpAny (model prog w) B (eval (.Name o p) env) Q E s :=
  wpAny_Name (wpAny_loadName_free hk hl hc hv h hcd) hd
theorem ld_own {E : Value → Shared → Prop} {env : Env} {o : Str} {m : Str → Option Value} {v : Value} {Q : Value → Shared → Prop} {p : Pos} (hk : env.scope.kind = .function) (hl : env.kindOf o = some .local) (hn : s.heap.Ns env.locals m) (hv : m o = some v)
    (h : Q v s) (hd : (o == ("__debug__" : Str)) = false) : wpAny (model prog w) B (eval (.Name o p) env) Q E s :=
  wpAny_Name (wpAny_loadName_local hk hl hn hv h) hd
theorem turn_neg {f c' co L tp : Addr} {q o n : Str} {params : Arguments} {scope : Scope} {cl : List (Str × Addr)} {pm ctv : Value} {its us : List Value} {i : Nat} {t0 t1 : Tok} {r : Int} {p1 p2 p3 p4 p5 p6 : Pos} {j : Nat}
    (hf : s.heap.get? f = some (PySem.W.kla_obj "<lambda>" q params (.UnaryOp .USub (.Subscript (.Subscript (.Name o p1) (.Name n p2) p3) (.Constant (.int 0) j p4) p5) p6) scope cl pm c' ctv))
    (hcd : ∃ (oc : Obj) (vs : Array Value) (t : Tok), s.heap.get? c' = some oc ∧ oc.data = .fields vs ∧ vs[1]? = some (.str q t))
    (hroom : B.depth < recursionLimit) (lim : s.heap.NoLimit) (hco : scope.isCoroutine = false) (hge : scope.isGenerator = false) (hk : scope.kind = .function) (hnc : ∀ x ∈ scope.names, x.2 ≠ .cell)
    (hn : scope.names.lookup n = some .local) (ho : scope.names.lookup o = some .free)
    (hbind : ∀ (u v : Value), bindArgs (PySem.W.kla_fn "<lambda>" q params (.UnaryOp .USub (.Subscript (.Subscript (.Name o p1) (.Name n p2) p3) (.Constant (.int 0) j p4) p5) p6) scope cl pm u ctv) ⟨[v], []⟩ = pure [(n, v)])
    (hcl : cl.lookup o = some co) (hcell : s.heap.IsCell co (some (.ref L))) (hL : s.heap.IsList L its.toArray) (hi : its[i]? = some (.ref tp)) (hi63 : i < 2 ^ 63) (hT : IsTup s.heap tp us.toArray) (hu : us[0]? = some (.int r t1)) (hus : us.length < 2 ^ 63)
    (hd1 : (o == ("__debug__" : Str)) = false := by decide) (hd2 : (o == ("__classdict__" : Str)) = false := by decide) (hd3 : (n == ("__debug__" : Str)) = false := by decide) :
    wpAny (model prog w) B (call (.ref f) [.int (i : Int) t0]) (PySem.W.KeyPure (.int (-r)) s) (fun _ _ => False) s := by
  refine wpAny_call (PySem.W.kla_callFunE hroom hf rfl hco hge rfl ?_ ?_)
  · obtain ⟨oc, vs, t, a, b, c⟩ := hcd
    exact ⟨c', oc, vs, t, rfl, a, b, c⟩
  rw [hbind]
  refine wpAny_pure (wpAny_newFunctionEnv hnc (fun y hy => ?_) (fun h₁ hns hsb => ⟨lim.fresh _ hsb, ?_⟩) hk)
  · rw [List.mem_singleton] at hy
    rw [hy]
    exact hn
  have kp : ∀ b o, s.heap.get? b = some o → h₁.get? b = some o := fun b o e => hsb.extBut b o (Nat.ne_of_lt (Heap.lt_size e)) (Heap.get?_push_of_some _ e)
  have hcell' : h₁.IsCell co (some (.ref L)) := by
    obtain ⟨oc, e1, e2⟩ := hcell
    exact ⟨oc, kp _ _ e1, e2⟩
  have hL' : h₁.IsList L its.toArray := by
    obtain ⟨oc, e1, e2⟩ := hL
    exact ⟨oc, kp _ _ e1, e2⟩
  have hT' : IsTup h₁ tp us.toArray := hT.keeps kp
  refine PySem.W.kla_codeExpr ?_
  refine UnaryOp_ (Subscript_ (Subscript_ (ld_captured hk ho hcl hcell' (ld_own (v := .int (i : Int) t0) hk hn hns ?_ ?_ hd3) hd1 hd2)))
  · show ([(n, Value.int (i : Int) t0)] : List (Str × Value)).reverse.lookup n = _
    simp [List.lookup]
  · have l63 := line63
    refine item_listR (x := .ref tp) hL' (by omega) (by omega) (by simpa using hi) ?_ (by with_unfolding_all rfl)
    refine wpAny_Constant_int ?_
    refine subscriptTail_builtinR (x := .int r t1) hT'.typeIs slot_tuple_getitem.lookup (getItem_tuple (j := 0) (x := .int r t1) (Q := fun u s' => u = .int r t1 ∧ _) hT' (by omega) (by omega) ?_ ?_ ⟨rfl, ?_⟩) (by with_unfolding_all rfl)
    · rw [List.size_toArray]
      have hz : 0 < us.length := (List.getElem?_eq_some_iff.mp hu).1
      exact seqIndex_of (by omega) (by omega)
    · simpa using hu
    · exact neg_int ⟨_, _, rfl, fun b o e => kp b o e, .int _ _⟩
end

/-! ### lists of values -/
theorem each_of {β : Type} {f : β → V} : ∀ {bs : List β} {us : List Value}, Vals (bs.map f) us → PySem.W.EachIs (fun u b => RelV (f b) u) us bs
  | [], _, r => by
    cases r
    exact .nil
  | b :: bs, _, r => by
    cases r with
    | cons a r => exact .cons a (each_of r)
theorem of_each {β : Type} {f : β → V} : ∀ {bs : List β} {us : List Value}, PySem.W.EachIs (fun u b => RelV (f b) u) us bs → Vals (bs.map f) us
  | _, _, .nil => .nil
  | _, _, .cons a r => .cons a (of_each r)
theorem sqL_ext {K : PySem.W.Frag} {H H' : Hp} {a : Addr} {xs : List V} (h : SqL K H a xs) (e : LamX.ExtN H H') : SqL K H' a xs := by
  rcases h with (h | ⟨o, h⟩) | h
  · exact .inl (.inl (e _ _ h fun ps z => by cases z))
  · exact .inl (.inr ⟨o, e _ _ h fun ps z => by cases z⟩)
  · exact .inr h
theorem sqT_ext {K : PySem.W.Frag} {H H' : Hp} {a : Addr} {xs : List V} (h : SqT K H a xs) (e : LamX.ExtN H H') : SqT K H' a xs := by
  rcases h with (h | ⟨o, h⟩) | h
  · exact .inl (.inl (e _ _ h fun ps z => by cases z))
  · exact .inl (.inr ⟨o, e _ _ h fun ps z => by cases z⟩)
  · exact .inr h
/-- the names of a lambda with the parameter n that reads o -/
structure LamN (sc scope : Scope) (n o : Str) : Prop where
  kind : scope.kind = .function
  co : scope.isCoroutine = false
  gen : scope.isGenerator = false
  cells : ∀ x ∈ scope.names, x.2 ≠ .cell
  par : scope.names.lookup n = some .local
  free : scope.names.lookup o = some .free
  up : ∀ y ∈ scope.names, y.2 = .free → sc.names.lookup y.1 = some .cell ∨ sc.names.lookup y.1 = some .free
theorem cr_range1 {X : Cx} : CallR X (.type "range") (fun vs H Q => ∃ i, vs = [V.int i] ∧ ∀ p, H p = none → Q (.ref p) (upd H p (.rng 0 i))) := by
  intro pins s σ H vs us Q I r h
  obtain ⟨i, rfl, q⟩ := h
  obtain ⟨u1, rfl, ri⟩ := vals1 r
  obtain ⟨t, rfl⟩ := ri
  refine call_range_1 ⟨.ref s.heap.objs.size, upd H s.heap.objs.size (.rng 0 i), I.laid (t' := s.toks + 2) (fun b o e => Heap.get?_push_of_some _ e) (Nat.le_refl _) ?_, rfl, q _ (I.hok.fresh (Nat.le_refl _))⟩
  exact ⟨_, _, _, Heap.get?_push_size _ rfl⟩
/-- sorted(range(m), key=lambda n: -o[n][0]) -/
def tSortLam (K : PySem.W.Frag) (T : List (Addr × Str)) (io : Nat) (ta : TA) : TE := fun σ H Q => ta σ H fun vs H1 => ∃ (p L : Addr) (m : Nat) (xs : List V) (rk : Nat → Int), vs = [V.ref p] ∧ H1 p = some (.rng 0 (m : Int)) ∧ m ≤ 2 ^ 24 ∧ LamX.Tabs T H1 ∧
  σ[io]? = some (some (.ref L)) ∧ SqL K H1 L xs ∧ (∀ i, i < m → ∃ (tp : Addr) (us : List V), xs[i]? = some (.ref tp) ∧ SqT K H1 tp us ∧ us[0]? = some (.int (rk i))) ∧
  ∀ H2, LamX.ExtN H1 H2 → LamX.Tabs T H2 → ∀ q, H2 q = none → Q (.ref q) (upd H2 q (.lst (((List.range m).mergeSort fun i j => decide (-rk i ≤ -rk j)).map fun i : Nat => V.int (i : Int))))
section
variable {X : Cx} {k : Nat} {T : List (Addr × Str)} {io : Nat} {ta : TA} {e : Expr} {n o : Str} {c P : Addr} {params : Arguments} {scope : Scope} {p kpos lpos pos p1 p2 p3 p4 p5 p6 : Pos} {j : Nat}
theorem pe_sortLam (hc : X.calm = true) (hg : Gl X "sorted") (hm : X.mg "sorted" = none) (ha : PA X [e] ta) (TB : LamX.TabB X.base X.mg c P) (hcode : X.env.code = .ref c) (hmT : (P, X.env.qual ++ "<lambda>") ∈ T) (hu : ∀ p ∈ T, p.1 = P → p.2 = X.env.qual ++ "<lambda>")
    (hr : Room (k + 1) X.A) (L : LamN X.env.scope scope n o) (hN : X.N[io]? = some o) (hdef : defaultsOf params X.env = ([], []))
    (hbind : ∀ (q : Str) (cl : List (Str × Addr)) (pm ctv u v : Value), bindArgs (PySem.W.kla_fn "<lambda>" q params (.UnaryOp .USub (.Subscript (.Subscript (.Name o p1) (.Name n p2) p3) (.Constant (.int 0) j p4) p5) p6) scope cl pm u ctv) ⟨[v], []⟩ = pure [(n, v)])
    (hd1 : (o == ("__debug__" : Str)) = false := by decide) (hd2 : (o == ("__classdict__" : Str)) = false := by decide) (hd3 : (n == ("__debug__" : Str)) = false := by decide)
    (he : backTo pos (starEach [e] X.env) = (false, eval e X.env) :: backTo pos (starEach [] X.env) := by rfl) (hpl : (backTo pos (starEach [e] X.env)).any (·.1) = false := by rfl) :
    PE X (.Call (.Name "sorted" p) [e] [⟨some "key", .Lambda params (.UnaryOp .USub (.Subscript (.Subscript (.Name o p1) (.Name n p2) p3) (.Constant (.int 0) j p4) p5) p6) scope lpos, kpos⟩] pos) (tSortLam X.K T io ta) := by
  refine ⟨fun pins s σ H Q I h => ?_⟩
  refine wpAny_Call_Name_kw (ld_blt I hg hm (by rfl) ?_)
  refine PyProof.Rows.callWith_kw (thn (ha.run pos pins s σ H _ I h) fun us s1 ⟨vs, H1, I1, r1, q1⟩ => ?_) he hpl (by rfl) (by rfl)
  obtain ⟨pr, La, m, xs, rk, rfl, hpr, hm24, hT, hσ, hL, hrow, q⟩ := q1
  obtain rfl := Vals.ref1 r1
  have hfree : ∀ y ∈ scope.names, y.2 = .free → ∃ c, X.env.cells.lookup y.1 = some c := fun y hy e => by
    rcases L.up y hy e with k | k
    · exact I1.ok.has _ (.inl k)
    · exact I1.ok.has _ (.inr k)
  show wpAny _ _ (evalAll [do let v ← eval _ X.env; standAt pos; pure v]) _ _ s1
  refine wpAny_evalAll_cons (wpAny_bind (LamX.lam_make2 I1 TB hcode hmT hu hT hdef hfree fun f c' pm ctv H2 s2 I2 eN T2 hf hfn hfr hco => wpAny_bind (wpAny_standAt (wpAny_pure (wpAny_evalAll_nil ?_)))))
  show wpAny _ _ (call (.builtin "sorted") [.ref pr] [(Str.ofString "key", .ref f)]) _ _ _
  obtain ⟨tr, tr2, tr3, hrg⟩ := I2.hok pr _ (eN _ _ hpr fun ps z => by cases z)
  obtain ⟨⟨oc, vsc, tc, hoc, hdc, hvc⟩, _, _⟩ := I2.hok c' _ hco
  obtain ⟨its, rv, pl, hz⟩ := I2.list (sqL_ext hL eN)
  have hup := L.up (o, .free) (PySem.mem_of_lookup L.free) rfl
  obtain ⟨mm, hns, hlk⟩ := I2.loc
  obtain ⟨u0, ru0, hlook⟩ := hlk io o (.ref La) hN hσ (hup.elim (fun z => .inr (.inl z)) (fun z => .inr (.inr z)))
  obtain rfl : u0 = Value.ref La := ru0
  obtain ⟨co, hcc, hcell⟩ : ∃ co, X.env.cells.lookup o = some co ∧ s2.heap.IsCell co (some (.ref La)) := by
    rcases hlook with ⟨z, _⟩ | ⟨_, z⟩
    · have z : X.env.scope.names.lookup o = some .local := z
      rcases hup with y | y <;> rw [show X.env.scope.names.lookup o = _ from y] at z <;> cases z
    · exact z
  have hcl : (cloFrom X.env.cells scope.names []).lookup o = some co := by
    obtain ⟨c1, e1⟩ := mem_lookup (cloFrom_has (cells := X.env.cells) (acc := []) (PySem.mem_of_lookup L.free))
    rcases cloFrom_mem (PySem.mem_of_lookup e1) with hm | ⟨h1, h2⟩
    · cases hm
    · rw [e1, h2, hcc]
      rfl
  have lim2 := I2.nolimit
  refine PyProof.Rows.call_function_entry_kw PyProof.Rows.kind_sorted PyProof.Rows.plain_sorted PyProof.Rows.entry_sorted (PyProof.Rows.ksk_s1 _ _) ?_
  unfold Builtin.«sorted»
  refine wpAny_bind (m := checkCount "sorted" 1 1 _) (wpAny_pure ?_)
  refine wpAny_bind (L2.collect_range (A := X.A.in1) (a := 0) (b := (m : Int)) (c := 1) (n := m) (I2.ok.hd hc) hrg (small_one (by omega) (by omega) (by omega) (by omega)) (by have e := rangeSize_nat 0 (m : Int); rw [e]; omega) hm24 fun h' tk acc hk hacc => ?_)
  have I3 : Inv X pins σ H2 { s2 with heap := h', toks := tk } := I2.kept hk
  have hal : acc.toList.length = m := by rw [Array.length_toList]; exact hacc.1
  refine wpAny_bind (wpAny_newList ?_ (by rw [hal, sizeLine_eq]; omega))
  have hoL : (h'.push (seqObj "list" acc.toList.toArray 0)).get? h'.objs.size = some (seqObj "list" acc.toList.toArray 0) := Heap.get?_push_size _ rfl
  show wpAny _ _ _ _ _ { s2 with heap := h'.push (seqObj "list" acc.toList.toArray 0), toks := tk }
  have hE : PySem.W.EachIs (fun (u : Value) (i : Nat) => RelV (V.int (i : Int)) u) acc.toList (List.range m) := by
    refine each_of ?_
    rw [← hal]
    refine vals_of_get acc.toList _ fun j u hj => ?_
    obtain ⟨t, rfl⟩ := hacc.2 j u (by rw [← hj, Array.getElem?_toList])
    exact ⟨t, by rw [Int.mul_one, Int.zero_add]⟩
  have old : ∀ b o, s2.heap.get? b = some o → b ≠ h'.objs.size ∧ (h'.push (seqObj "list" acc.toList.toArray 0)).get? b = some o := fun b o e => ⟨Nat.ne_of_lt (Heap.lt_size (hk b o e)), Heap.get?_push_of_some _ (hk b o e)⟩
  refine wpAny_bind (wpAny_holding (PySem.W.list_sort_key_data (b := false) (s := { s2 with heap := h'.push (seqObj "list" acc.toList.toArray 0), toks := tk }) (fun i : Nat => PyData.int (-rk i)) hoL hE (PySem.W.AllAlike.of fun _ _ => rfl) (PySem.W.Sortable.others fun b => ⟨fun z => (nomatch z), fun xs z => (nomatch z)⟩) (by rw [List.length_range, sizeLine_eq]; omega)
    (fun x _ => ?_) (PyProof.Rows.ksk_l1 _ _) (PyProof.Rows.ksk_t1 _ _) (fun v i hv hi hh tk2 kp => ?_) fun out cc hh tk2 kp hD hlen eo => ?_))
  · have := hr.un
    show X.A.units + 1 + 1 + 0 < _
    omega
  · obtain ⟨t0, rfl⟩ := hv
    have hi' : i < m := List.mem_range.mp hi
    obtain ⟨tp, us, hx, hS, hu0⟩ := hrow i hi'
    have kp2 : ∀ b o, s2.heap.get? b = some o → hh.get? b = some o := fun b o e => kp b o (old b o e).1 (old b o e).2
    obtain ⟨w1, ew, rw1⟩ := rv.get hx
    obtain rfl : w1 = Value.ref tp := rw1
    obtain ⟨us', rv', pl', hz'⟩ := I2.tuple (sqT_ext hS eN)
    obtain ⟨w2, ew2, rw2⟩ := rv'.get hu0
    obtain ⟨t3, rfl⟩ := rw2
    have l63 := line63
    have hpL : hh.IsList La its.toArray := by
      obtain ⟨oc, e1, e2⟩ := pl.isList
      exact ⟨oc, kp2 _ _ e1, e2⟩
    have hpC : hh.IsCell co (some (.ref La)) := by
      obtain ⟨oc, e1, e2⟩ := hcell
      exact ⟨oc, kp2 _ _ e1, e2⟩
    exact turn_neg (s := { s2 with heap := hh, toks := tk2 }) (kp2 _ _ hf) ⟨oc, vsc, tc, kp2 _ _ hoc, hdc, hvc⟩ hr.depth (lim2.keeps kp2) L.co L.gen L.kind L.cells L.par L.free (fun u v => hbind _ _ _ _ _ _) hcl hpC hpL ew (by omega) (pl'.keeps kp2) ew2 (by have := rv'.length; omega) hd1 hd2 hd3
  · rw [PySem.W.dataLe_int] at eo
    have hE2 : Vals (((List.range m).mergeSort fun i j => decide (-rk i ≤ -rk j)).map fun i : Nat => V.int (i : Int)) out := of_each eo
    refine wpAny_pure ⟨_, rfl, .ref h'.objs.size, upd H2 h'.objs.size (.lst _), I3.laid (t' := tk2) (fun b u e => ?_) (Nat.le_refl _) ⟨?_, out, cc, hE2, hD⟩, rfl, q H2 eN T2 _ (I3.hok.fresh (Nat.le_refl _))⟩
    · exact kp b u (Nat.ne_of_lt (Heap.lt_size e)) (Heap.get?_push_of_some _ e)
    · rw [List.length_map, List.length_mergeSort, List.length_range, sizeLine_eq]
      omega
end
end RLam

namespace Pot
open PySem PySem.Spec PyProof.Rows L2
theorem up_by {sc scope : Scope} (h : (scope.names.all fun y => !decide (y.2 = .free) || (decide (sc.names.lookup y.1 = some .cell) || decide (sc.names.lookup y.1 = some .free))) = true) : ∀ y ∈ scope.names, y.2 = .free → sc.names.lookup y.1 = some .cell ∨ sc.names.lookup y.1 = some .free := fun y hy e => by
  have z := List.all_eq_true.mp h y hy
  simp only [Bool.or_eq_true, Bool.not_eq_true', decide_eq_true_eq, decide_eq_false_iff_not] at z
  exact z.resolve_left fun n => n e
/-! ### a def whose code object is known -/
theorem okC {P : Program} {w : World} {K : PySem.W.Frag} {mg : Str → Option Value} {base : Heap} {x qual : Str} {st : Stmt} {f c : Addr} {fd : FuncData} {N ps : List Str} {k : Nat} {sp : Sp} (F : Fun K x qual st f fd) (hc : fd.code = .ref c)
    (S : FnScope N ps (defScope st)) (many : ∀ vs H Q E, sp vs H Q E → vs.length = ps.length)
    (body : ∀ (A : Around) (outer : List Env) (s : Shared) (H : Hp) (vs : List V) (Q : VK) (E : XK), Room k (A.deeper (envOfC qual (defScope st) s.heap.objs.size f (.ref c))) → sp vs H Q E →
      ∃ t, PSs (cxOf CX0 P w K mg base N qual (defScope st) f (.ref c) A outer s H E).nox (defBody st) t ∧ t { nx := fun _ H' => Q .non H', rt := Q } (start N vs) H) : FnOk P w K mg base CX0 (k + 1) f fd ps sp := by
  obtain ⟨oc, od, kV, doc, pm, an, cdv, ct, osl, rfl, at_, code⟩ := F.ex
  have e : cdv = .ref c := hc
  subst e
  refine fn_of at_ code S many fun A outer s H vs Q E room want => ?_
  obtain ⟨t, ht, hq⟩ := body A outer s H vs Q E room want
  exact ⟨t, ht.nox, hq⟩
/-! ### the law's own call, where tables of code objects grow -/
theorem law_callGT {P : Program} {w : World} {K : PySem.W.Frag} {mg mb : Str → Option Value} {k : Nat} {fa a : Addr} {cs : List (Addr × Addr)} {fd : FuncData} {x : Str} {sp : Sp} {s : Shared} {vs : List Value} {ns : List Int}
    (kin : K.In s.heap) (glob : s.heap.Ns mainGlobals mg) (blt : s.heap.Ns builtinsNs mb) (boot : ∀ y : Str, y ≠ "__name__" → mb y = bootBuiltins y) (lim : s.heap.NoLimit) (gens : s.gens = #[])
    (tabs : ∀ p ∈ cs, s.heap.get? p.2 = some (PySem.W.tabObj #[])) (out : ∀ p ∈ cs, K.lookup p.2 = none) (code : ∀ p ∈ cs, PySem.W.CodeHd s.heap p.1 p.2)
    (bmain : ∃ (bm : Addr) (ob : Obj), mg "__builtins__" = some (.ref bm) ∧ bm ≠ builtinsNs ∧ s.heap.get? bm = some ob ∧ ob.cls = .type "module" ∧ ob.dict = some builtinsNs ∧ ob.data = .plain)
    (obj : s.heap.get? a = some { cls := .type "list", data := .seq vs.toArray }) (whole : IntsAre vs ns) (small : ns.length ≤ sizeLine) (room : Room k callerA)
    (F : ∀ base : Heap, K.In base → base.Ns mainGlobals mg → (∀ p ∈ cs, LamX.TabB base mg p.1 p.2) → FnG P w K mg base k fa fd [x] sp) (bind : ∀ (s : Shared) (u : Value), BindsTo s fd ⟨[u], []⟩ [(x, u)])
    (want : ∀ H : Hp, (∀ p ∈ cs, H p.2 = some (.tbl #[])) → SqL K H a (ns.map V.int) → sp [.ref a] H (fun v _ => v = .bl true) E0) :
    codeAny (model P w) callerA (.call (.ref fa) ⟨[.ref a], []⟩) (fun r s' => r = .ok (.ret (.bool true)) ∧ OldK s.heap s'.heap ∧ s'.os = s.os ∧ AllBare s'.gens) s := by
  have rv := vals_ints whole
  have nv := whole.length
  obtain ⟨isT, eT⟩ : ∃ isT : Addr → Prop, isT = fun b => ∃ p ∈ cs, p.2 = b := ⟨_, rfl⟩
  have inT : ∀ p ∈ cs, isT p.2 := fun p hp => by rw [eT]; exact ⟨p, hp, rfl⟩
  have atT : ∀ {b}, isT b → s.heap.get? b = some (PySem.W.tabObj #[]) := fun {b} h => by
    rw [eT] at h
    obtain ⟨p, hp, rfl⟩ := h
    exact tabs p hp
  have outT : ∀ {b}, isT b → K.lookup b = none := fun {b} h => by
    rw [eT] at h
    obtain ⟨p, hp, rfl⟩ := h
    exact out p hp
  have ofT : ∀ {b}, isT b → ∃ p ∈ cs, p.2 = b := fun {b} h => by rw [eT] at h; exact h
  have aT : ¬ isT a := fun h => by
    have z := (atT h).symm.trans obj
    have z2 : Data.fields #[] = Data.seq vs.toArray _ := congrArg Obj.data (Option.some.inj z)
    cases z2
  clear eT
  -- the tables, and the script where it isn't one of the written part
  obtain ⟨H, H1, H2, H3, H4⟩ : ∃ H : Hp, (∀ b, isT b → H b = some (.tbl #[])) ∧ SqL K H a (ns.map V.int) ∧ HOk P w H s.heap ∧ (∀ b u, H b = some u → (isT b ∧ u = .tbl #[]) ∨ (b = a ∧ K.lookup a = none ∧ ∃ ob xs, u = .frz ob (.lst xs))) := by
    have cl := fun b => Classical.propDecidable (isT b)
    cases lk : K.lookup a with
    | some o =>
      have same := kin a o lk
      rw [obj] at same
      cases same
      have hit : ∀ b u, (if isT b then some (HO.tbl #[]) else none) = some u → isT b ∧ u = .tbl #[] := fun b u z => by
        split at z
        · cases z; exact ⟨‹_›, rfl⟩
        · cases z
      refine ⟨fun b => if isT b then some (.tbl #[]) else none, fun b h => if_pos h, .inr ⟨_, vs.toArray, _, lk, rfl, rfl, rfl, by rw [List.size_toArray, nv]; exact small, by simpa using rv⟩, fun b u z => ?_, fun b u z => .inl (hit b u z)⟩
      obtain ⟨h, rfl⟩ := hit b u z
      exact atT h
    | none =>
      have hit : ∀ b u, (if isT b then some (HO.tbl #[]) else if b = a then some (HO.frz { cls := .type "list", data := .seq vs.toArray } (.lst (ns.map V.int))) else none) = some u → (isT b ∧ u = .tbl #[]) ∨ (b = a ∧ u = .frz { cls := .type "list", data := .seq vs.toArray } (.lst (ns.map V.int))) := fun b u z => by
        split at z
        · cases z; exact .inl ⟨‹_›, rfl⟩
        · split at z
          · cases z; exact .inr ⟨‹_›, rfl⟩
          · cases z
      refine ⟨fun b => if isT b then some (.tbl #[]) else if b = a then some (.frz { cls := .type "list", data := .seq vs.toArray } (.lst (ns.map V.int))) else none, fun b h => if_pos h, .inl (.inr ⟨{ cls := .type "list", data := .seq vs.toArray }, (if_neg aT).trans (if_pos rfl)⟩), fun b u z => ?_, fun b u z => (hit b u z).imp id fun h => ⟨h.1, rfl, _, _, h.2⟩⟩
      rcases hit b u z with ⟨h, rfl⟩ | ⟨rfl, rfl⟩
      · exact atT h
      · exact ⟨obj, by rw [List.length_map]; exact small, vs, _, rv, obj⟩
  have hid : ∀ {b : Addr} {o : Obj}, s.heap.get? b = some o → H b = none → (hidT s.heap H).get? b = some o := fun e n => hidT_get e n
  have no : ∀ {b : Addr} {o : Obj}, s.heap.get? b = some o → (∀ us n, o.data ≠ .seq us n) → o.data ≠ .fields #[] → H b = none := fun {b o} e n1 n2 => by
    cases q : H b with
    | none => rfl
    | some u =>
      rcases H4 b u q with ⟨h, _⟩ | ⟨rfl, _⟩
      · rw [atT h] at e
        cases e
        exact absurd rfl n2
      · rw [obj] at e
        cases e
        exact absurd rfl (n1 _ _)
  have kinB : K.In (hidT s.heap H) := fun b o e => hid (kin b o e) (by
    cases q : H b with
    | none => rfl
    | some u =>
      rcases H4 b u q with ⟨h, _⟩ | ⟨rfl, h, _⟩
      · rw [outT h] at e; cases e
      · rw [h] at e; cases e)
  have ns_ : ∀ {b : Addr} {m : Str → Option Value}, s.heap.Ns b m → (hidT s.heap H).Ns b m := fun {b m} h => by
    obtain ⟨o, es, ep, e, d, r⟩ := h
    exact ⟨o, es, ep, hid e (no e (fun us n z => by rw [d] at z; cases z) fun z => by rw [d] at z; cases z), d, r⟩
  have md : Mod K mg (hidT s.heap H) := ⟨kinB, ns_ glob, ⟨mb, ns_ blt, boot⟩, by obtain ⟨mc, h1, h2⟩ := lim; exact ⟨mc, ns_ h1, h2⟩⟩
  have globNe : ∀ {b : Addr} {o : Obj}, s.heap.get? b = some o → (∀ es ep, o.data ≠ .dict es ep) → b ≠ mainGlobals := fun {b o} e n z => by
    obtain ⟨o2, es, ep, e2, d, _⟩ := glob
    rw [z, e2] at e
    cases e
    exact n _ _ d
  have tb : ∀ p ∈ cs, LamX.TabB (hidT s.heap H) mg p.1 p.2 := fun p hp => by
    have hTp := tabs p hp
    refine ⟨?_, ?_, fun z => globNe hTp (fun es ep q => by cases q) z.symm⟩
    · obtain ⟨o, us, file, tf, flags, tg, inF, text, tt, e1, r1, r2, r3, r⟩ := code p hp
      exact ⟨o, us, file, tf, flags, tg, inF, text, tt, hid e1 (no e1 (fun us n z => by rw [r2] at z; cases z) fun z => by rw [r2] at z; cases z; simp at r3), r1, r2, r3, r⟩
    · obtain ⟨bm, ob, b1, b2, b3, b4, b5, b6⟩ := bmain
      refine ⟨bm, ob, b1, b2, globNe b3 (fun es ep q => by rw [b6] at q; cases q), fun q => ?_, hid b3 (no b3 (fun us n z => by rw [b6] at z; cases z) fun z => by rw [b6] at z; cases z), b4, b5, b6⟩
      rw [q, hTp] at b3
      cases b3
      cases b6
  have e0 : Env0 P w K mg (hidT s.heap H) callerA [] s H := ⟨rfl, md, fun b o e => of_hidT e, Nat.le_of_eq (hidT_size _ _), trivial, (fun b hb => nomatch (show b ∈ ([] : List Addr) from hb)), H3, .of_eq gens⟩
  refine codeAny_mono ((F _ kinB (ns_ glob) tb).does callerA [] s H ⟨[.ref a], []⟩ [.ref a] [.ref a] _ rfl room e0 (bind s (.ref a)) (.cons rfl .nil) (want H (fun p hp => H1 _ (inT p hp)) H2)) fun res s' h => ?_
  rcases res with _ | fl
  case error => exact (show False from h).elim
  cases fl <;> first | exact (show False from h).elim | skip
  obtain ⟨v, H', os, bare, un, fine', rel, q⟩ := h
  cases (show v = .bl true from q)
  cases (show _ = Value.bool true from rel)
  have key : ∀ b o, ¬ isT b → s.heap.get? b = some o → s'.heap.get? b = some o := fun b o nb e => by
    cases q : H b with
    | none => exact un.keep b o e q (fun z => nomatch (show b ∈ ([] : List Addr) from z)) (fun z => nomatch z)
    | some u =>
      rcases H4 b u q with ⟨h, _⟩ | ⟨rfl, _, ob, xs, rfl⟩
      · exact absurd h nb
      · have e1 := (H3 _ _ q).1
        have e2 := (fine' _ _ (un.frzs _ ob _ q)).1
        rw [e] at e1; cases e1
        exact e2
  have grow : ∀ {b}, isT b → ∃ more : Array Value, s'.heap.get? b = some (PySem.W.tabObj more) := fun {b} h => by
    obtain ⟨more, z⟩ := un.tbls b #[] (H1 b h)
    exact ⟨_, fine' b _ z⟩
  refine ⟨rfl, ⟨fun b o e => ?_, fun b o e => ?_⟩, os, bare⟩
  · by_cases hb : isT b
    · obtain ⟨more, hm⟩ := grow hb
      obtain ⟨p, hp, rfl⟩ := ofT hb
      rw [tabs p hp] at e
      cases e
      exact .inr (.inl ⟨((code p hp).tab (tabs p hp)).isCodeTable, rfl, #[], more, rfl, (by rw [Array.empty_append]; exact hm)⟩)
    · exact .inl (key b o hb e)
  · by_cases hb : isT b
    · exact (grow hb).elim fun more hm => ⟨_, hm⟩
    · exact ⟨o, key b o hb e⟩
theorem walkGT {l : PySem.W.OpenLaw} {n k : Nat} {q : Program} {loose : List Str} {XP : (Str → Option Value) → Heap → Prop} {YP : World → Heap → Prop} {d : DefRec} {K : Params → PySem.W.Frag} {x : Str}
    (most : l.most = some n) (fits : n ≤ sizeLine) (plain : d.params.defaults = []) (room : Room k callerA) (part : ∀ (w : World) (h : Heap), YP w h → (K w.params).In h)
    (F : ∀ (w : World) (mg : Str → Option Value) (fa : Addr) (h : Heap), YP w h → (K w.params).In h → h.Ns mainGlobals mg → mg d.name = some (.ref fa) →
      ∃ (fd : FuncData) (cs : List (Addr × Addr)) (sp : Sp), (∀ p ∈ cs, h.get? p.2 = some (PySem.W.tabObj #[])) ∧ (∀ p ∈ cs, (K w.params).lookup p.2 = none) ∧ (∀ p ∈ cs, PySem.W.CodeHd h p.1 p.2) ∧ (∀ (s : Shared) (u : Value), BindsTo s fd ⟨[u], []⟩ [(x, u)]) ∧
        (∀ (H : Hp) (a : Addr) (ns : List Int), ns.length ≤ n → (∀ p ∈ cs, H p.2 = some (.tbl #[])) → SqL (K w.params) H a (ns.map V.int) → sp [.ref a] H (fun v _ => v = .bl true) E0) ∧
        ∀ base : Heap, (K w.params).In base → base.Ns mainGlobals mg → (∀ p ∈ cs, LamX.TabB base mg p.1 p.2) → FnG l.prog w (K w.params) mg base k fa fd [x] sp) :
    PySem.W.WalkO q loose XP YP l.row.toRowW d [] (fun f vs => PySem.call f vs) := by
  refine Att.attach_call most plain fun w s₀ s₁ mg mb fa o pm cd doc a vs ns G Y _ _ _ named obj whole len gens => ?_
  obtain ⟨fd, cs, sp, hT, nT, C, bind, want, hF⟩ := F w mg fa _ Y (part w _ Y) G.T.g named
  exact law_callGT (part w _ Y) G.T.g G.T.b G.T.builtins G.T.nolimit gens hT nT C G.T.bmain obj whole (Nat.le_trans len fits) room hF bind fun H hH seq => want H a ns len hH seq
end Pot

namespace Pot
open PySem PySem.Spec PyProof.Rows L2
section
variable {X : Cx} {K : PySem.W.Frag}
/-- len of a set of ints -/
def rLenSet (w : World) : List V → Hp → VK → Prop := fun xs H Q => ∃ (a : Addr) (S : Int → Bool) (n : Nat), xs = [V.ref a] ∧ H a = some (SetO w a S n) ∧ Q (.int n) H
theorem cr_lenSet : CallR X (.builtin "len") (rLenSet X.w) := by
  intro pins s σ H vs us Q I r h
  obtain ⟨a, S, n, rfl, ha, q⟩ := h
  rw [Vals.ref1 r]
  obtain ⟨o, es, ep, t, ho, hex, hd, _, _, _, hb, hf, rfl, _⟩ := setO_get I ha
  exact PySem.call_len_set ho hex hd hf (by unfold scanBound at hb; omega) ⟨.int _, H, I.tok _, ⟨_, rfl⟩, q⟩
theorem kc_lenSet {w : World} (hw : X.w = w := by rfl) : CallR X (.builtin "len") (rLenSet w) := by subst hw; exact cr_lenSet
/-- repr of any data -/
def rReprA (K : PySem.W.Frag) : List V → Hp → VK → Prop := fun xs H Q => ∃ (x : V) (d : PyData), xs = [x] ∧ Dp K H x d ∧ fineAll.fine d ∧ d.depth ≤ 60 ∧ costAll.cost d ≤ 16777216 ∧ Q (.str d.shown) H
theorem cr_reprA (gd : X.A.guards = some []) (hu : X.A.units + 64 < cLine) : CallR X (.builtin "repr") (rReprA X.K) := by
  intro pins s σ H vs us Q I r h
  obtain ⟨x, d, rfl, dp, sh, dep, sz, q⟩ := h
  obtain ⟨u, rfl, rx⟩ := vals1 r
  have sz2 := Nat.le_trans (shown_len d sh) (by rw [sizeLine_eq]; exact sz : costAll.cost d ≤ sizeLine)
  cases x with
  | ref a =>
    cases rx
    obtain ⟨as, rd⟩ := Dp.reads I d (.ref a) (.ref a) dp rfl
    refine repr_of_reads' rd (fine_show d sh) (fun z => ?_) gd (by omega) (fun _ _ e => e) (fun h' u tk k => ⟨.str d.shown, H, I.kept k, ⟨u, rfl⟩, q⟩) sz2
    rw [dp_noDict dp] at z
    cases z
  | int i =>
    cases dp
    obtain ⟨t, rfl⟩ := rx
    exact PySem.P.repr_of_int sh ⟨.str _, H, I.tok _, ⟨_, rfl⟩, q⟩
  | str z =>
    cases dp
    obtain ⟨t, rfl⟩ := rx
    exact PySem.P.repr_of_str ⟨.str _, H, I.tok _, ⟨_, rfl⟩, q⟩ sz2
  | bl b =>
    cases dp
    cases rx
    refine PySem.P.repr_of_bool ⟨.str _, H, I.tok _, ⟨_, rfl⟩, ?_⟩
    exact q
  | non =>
    cases dp
    cases rx
    exact PySem.P.repr_of_none ⟨.str _, H, I.tok _, ⟨_, rfl⟩, q⟩
  | _ => cases dp
theorem kc_reprA (gd : X.A.guards = some []) (hu : X.A.units + 64 < cLine) (h : X.K = K := by rfl) : CallR X (.builtin "repr") (rReprA K) := h ▸ cr_reprA gd hu
end
theorem short_of {α : Type} [DecidableEq α] : ∀ {ns : List α}, ¬ ns.Nodup → ∃ ns' : List α, ns'.length < ns.length ∧ ∀ k ∈ ns, k ∈ ns'
  | [], h => (h List.nodup_nil).elim
  | x :: ns, h => by
    by_cases hx : x ∈ ns
    · exact ⟨ns, by simp, fun k hk => by
        rcases List.mem_cons.mp hk with e | e
        · rw [e]; exact hx
        · exact e⟩
    · obtain ⟨ns', l, s⟩ := short_of (ns := ns) fun hn => h (List.nodup_cons.mpr ⟨hx, hn⟩)
      exact ⟨x :: ns', by simp only [List.length_cons]; omega, fun k hk => by
        rcases List.mem_cons.mp hk with e | e
        · rw [e]; exact List.mem_cons_self
        · exact List.mem_cons_of_mem _ (s k e)⟩
theorem set_count {ks ns : List Int} (hk : ks.Nodup) (h : ∀ k, k ∈ ks ↔ k ∈ ns) : ks.length ≤ ns.length ∧ (ks.length = ns.length ↔ ns.Nodup) := by
  have le := nodup_le hk fun k x => (h k).mp x
  refine ⟨le, fun e => ?_, fun hn => Nat.le_antisymm le (nodup_le hn fun k x => (h k).mpr x)⟩
  by_cases hn : ns.Nodup
  · exact hn
  · obtain ⟨ns', l, s⟩ := short_of hn
    have := nodup_le hk fun k x => s k ((h k).mp x)
    omega
end Pot

namespace Pot
open PySem PySem.Spec PyProof.Rows L2
section
variable {X : Cx} {K : PySem.W.Frag}
theorem ko_inD (hu : X.A.units + 65 < cLine) (h : X.K = K := by rfl) : OpR X (compareOp .In) (rInD K) := h ▸ op_inD hu
theorem ko_notInD (hu : X.A.units + 65 < cLine) (h : X.K = K := by rfl) : OpR X (compareOp .NotIn) (rNotInD K) := h ▸ op_notInD hu
/-- a text thrice -/
def rRep3 : R2 := fun x y H Q => ∃ z : Str, x = .str z ∧ y = .int 3 ∧ z.length ≤ 100000 ∧ ∀ z' : Str, z'.length ≤ 3 * z.length → (∀ c ∈ z'.cps.toList, c ∈ z.cps.toList) → Q (.str z') H
theorem mul3_len (z : Str) : (Txt.mul z 3).length ≤ 3 * z.length ∧ ∀ c ∈ (Txt.mul z 3).cps.toList, c ∈ z.cps.toList := by
  unfold Txt.mul
  rw [if_neg (show ¬ (3 : Int) < 1 by decide)]
  split
  · exact ⟨by omega, fun c h => h⟩
  · constructor
    · show Array.size _ ≤ _
      simp [List.replicate]
      show z.cps.size + (z.cps.size + z.cps.size) ≤ 3 * z.cps.size
      omega
    · intro c h
      simp [List.replicate] at h
      simpa using h
theorem op_rep3 : OpR X (binaryOp .Mult) rRep3 := by
  intro pins sh sg H xv yv v1 u1 Q I r1 r2 h
  obtain ⟨z, rfl, rfl, hz, q⟩ := h
  obtain ⟨tk1, rfl⟩ := r1
  obtain ⟨tk2, rfl⟩ := r2
  have m3 := mul3_len z
  refine SB.mul ⟨by decide, fun _ _ hh => ?_, fun _ _ => ?_⟩ (fun tt kk => ⟨.str (Txt.mul z 3), H, I.tok _, ⟨_, rfl⟩, q _ m3.1 m3.2⟩)
  · have : ((2 : Int) ^ 63 - 1) / 3 = 3074457345618258602 := by decide
    omega
  · have e : (3 : Int).toNat = 3 := rfl
    rw [e]
    show decide _ = false
    refine decide_eq_false ?_
    have := sizeLine_eq
    omega
end
end Pot

namespace Pot
open PySem PySem.Spec PyProof.Rows L2
/-! ### dict of a list of pairs, a text thrice to the letter -/
section
variable {X : Cx} {K : PySem.W.Frag}
def Dct (mg : Str → Option Value) : Prop := mg "dict" = none
def rDictP (K : PySem.W.Frag) : List V → Hp → VK → Prop := fun xs H Q => ∃ (a : Addr) (ps : List Addr) (kvs : List (Key × V)), xs = [.ref a] ∧ SqL K H a (ps.map V.ref) ∧ Paired (fun p kv => SqT K H p [kV kv.1, kv.2]) ps kvs ∧ ∀ p, H p = none → Q (.ref p) (upd H p (.dK (mergeK [] kvs)))
theorem kc_dictP (hc : X.calm = true := by rfl) (h : X.K = K := by rfl) : CallR X (.type "dict") (rDictP K) := by subst h; exact call_dictP hc
def rRepE : R2 := fun x y H Q => ∃ z : Str, x = .str z ∧ y = .int 3 ∧ z.length ≤ 100000 ∧ Q (.str (Txt.mul z 3)) H
theorem op_repE : OpR X (binaryOp .Mult) rRepE := by
  intro pins sh sg H xv yv v1 u1 Q I r1 r2 h
  obtain ⟨z, rfl, rfl, hz, q⟩ := h
  obtain ⟨tk1, rfl⟩ := r1
  obtain ⟨tk2, rfl⟩ := r2
  refine SB.mul ⟨by decide, fun _ _ hh => ?_, fun _ _ => ?_⟩ (fun tt kk => ⟨.str (Txt.mul z 3), H, I.tok _, ⟨_, rfl⟩, q⟩)
  · have : ((2 : Int) ^ 63 - 1) / 3 = 3074457345618258602 := by decide
    omega
  · have e : (3 : Int).toNat = 3 := rfl
    rw [e]
    show decide _ = false
    refine decide_eq_false ?_
    have := sizeLine_eq
    omega
end
/-! ### pairs as keys and values -/
theorem putK_new {kvs : List (Key × V)} {k : Key} {v : V} (h : ∀ p ∈ kvs, p.1 ≠ k) : putK kvs k v = kvs ++ [(k, v)] := by
  unfold putK
  rw [if_neg]
  intro z
  obtain ⟨p, hp, e⟩ := List.any_eq_true.mp z
  exact h p hp (of_decide_eq_true e)
theorem merge_nd : ∀ (more kvs : List (Key × V)), ((kvs ++ more).map (·.1)).Nodup → mergeK kvs more = kvs ++ more
  | [], kvs, _ => by show kvs = kvs ++ []; rw [List.append_nil]
  | p :: more, kvs, nd => by
    show mergeK (putK kvs p.1 p.2) more = kvs ++ p :: more
    rw [putK_new]
    · rw [merge_nd more (kvs ++ [(p.1, p.2)]) (by rw [List.append_assoc]; exact nd), List.append_assoc]; rfl
    · intro q hq e
      rw [List.map_append, List.nodup_append] at nd
      exact nd.2.2 q.1 (List.mem_map.mpr ⟨q, hq, rfl⟩) p.1 (List.mem_map.mpr ⟨p, List.mem_cons_self, rfl⟩) e
end Pot

namespace Pot
open PySem PySem.Spec PyProof.Rows L2
/-! ### calls by names alone -/
section
variable {X : Cx} {CX : CXT} {k : Nat} {f : Addr} {fd : FuncData} {ps ks : List Str} {sp : Sp} {E : XK} {x : Str} {p pos : Pos} {kws : List Keyword} {tk : TA} {g : List Value → List Value → List Value} {gV : List V → List V → List V}
theorem pe_callK0 (F : FnOk X.prog X.w X.K X.mg X.base CX k f fd ps sp) (hr : Room k X.A) (hg : Gl X x) (hm : X.mg x = some (.ref f)) (hk : PySem.W.keepIn X.K (.ref f) = true) (hb : KBinds X.K fd ps ks g gV) (hx : Passes CX X E)
    (hkw : PK X kws tk) (hall : (backToKw pos (keywordEach kws X.env)).all (·.1.isSome) = true := by rfl) (hks : (backToKw pos (keywordEach kws X.env)).filterMap (·.1) = ks := by rfl)
    (hdb : (x == ("__debug__" : Str)) = false := by decide)
    (hpl : ((backTo pos (starEach [] X.env)).any (·.1) || (backToKw pos (keywordEach kws X.env)).any (·.1.isNone)) = false := by rfl) :
    PE X (.Call (.Name x p) [] kws pos) (tCallK sp gV E tNil tk) := by
  refine ⟨fun pins s σ H Q I h => ?_⟩
  refine wpAny_Call_Name_kw (ld_glob I hg hm ?_ hdb)
  refine PySem.W.callWith_KW0 (h₀ := X.base) I.ok.mod.kin hk hall (thn (hkw.run pos pins s σ H _ I h) fun ws s2 ⟨zs, H2, I2, rz, q2⟩ => ⟨I2.kIn, ?_⟩) hpl
  rw [hks]
  exact run_fnk F hr hb hx I2 .nil rz q2
end
def ClK (P : Program) (w : World) (K : PySem.W.Frag) (mg : Str → Option Value) (base : Heap) (k : Nat) (x : Str) (ks : List Str) (gV : List V → List V → List V) (sp : Sp) : Prop :=
  ∃ (f : Addr) (fd : FuncData) (ps : List Str) (g : List Value → List Value → List Value), FnOk P w K mg base CX0 k f fd ps sp ∧ mg x = some (.ref f) ∧ PySem.W.keepIn K (.ref f) = true ∧ KBinds K fd ps ks g gV
theorem pe_ck {X : Cx} {k j : Nat} {x : Str} {ks : List Str} {gV : List V → List V → List V} {sp : Sp} {kws : List Keyword} {t : TA} {p pos : Pos} (c : ClK X.prog X.w X.K X.mg X.base k x ks gV sp) (hr : Room j X.A) (hk : k ≤ j) (hg : Gl X x) (ha : PK X kws t)
    (hall : (backToKw pos (keywordEach kws X.env)).all (·.1.isSome) = true := by rfl) (hks : (backToKw pos (keywordEach kws X.env)).filterMap (·.1) = ks := by rfl) (hdb : (x == ("__debug__" : Str)) = false := by decide)
    (hpl : ((backTo pos (starEach [] X.env)).any (·.1) || (backToKw pos (keywordEach kws X.env)).any (·.1.isNone)) = false := by rfl) : PE X (.Call (.Name x p) [] kws pos) (tCallK sp gV E0 tNil t) := by
  obtain ⟨f, fd, ps, g, G, hm, kp, b⟩ := c
  exact pe_callK0 G (hr.mono hk) hg hm kp b pass0 ha hall hks hdb hpl
/-- three, handed in from the last to the first -/
def rev3 {α : Type} : List α → List α → List α
  | [], [a, b, c] => [c, b, a]
  | _, _ => []
theorem kb_rev3 {K : PySem.W.Frag} {x qual : Str} {st : Stmt} {f : Addr} {fd : FuncData} {k1 k2 k3 : Str} (F : Fun K x qual st f fd)
    (h : ∀ (kV doc pm : Value) (an : Option Addr) (cdv ct a b c : Value), bindArgs (PySem.W.fnOf x qual (defArgs st) (defBody st) (defScope st) .none kV doc pm an cdv ct) ⟨[], [(k3, a), (k2, b), (k1, c)]⟩ = pure [(k1, c), (k2, b), (k3, a)]) : KBinds K fd [k1, k2, k3] [k3, k2, k1] rev3 rev3 := by
  obtain ⟨oc, od, kV, doc, pm, an, cdv, ct, osl, rfl, lk, hcd⟩ := F.ex
  refine ⟨fun s us ws _ hl => ?_, fun {vs us zs ws} r rz => ?_⟩
  · match us, ws, hl with
    | [], [a, b, c], _ => exact .of_eq (h kV doc pm an cdv ct a b c)
    | [], [], hl => cases hl
    | [], [_], hl => cases hl
    | [], [_, _], hl => cases hl
    | [], _ :: _ :: _ :: _ :: _, hl => cases hl
    | _ :: _, _, hl => cases hl
  · cases r with
    | nil =>
      cases rz with
      | nil => exact .nil
      | cons a rz =>
        cases rz with
        | nil => exact .nil
        | cons b rz =>
          cases rz with
          | nil => exact .nil
          | cons c rz =>
            cases rz with
            | nil => exact .cons c (.cons b (.cons a .nil))
            | cons _ _ => exact .nil
    | cons _ _ => exact .nil
/-- four, from the last to the first, of a def with defaults -/
def rev4 {α : Type} : List α → List α → List α
  | [], [a, b, c, d] => [d, c, b, a]
  | _, _ => []
theorem kb_rev4D {K : PySem.W.Frag} {x : Str} {st : Stmt} {dvs : List V} {f : Addr} {fd : FuncData} {k1 k2 k3 k4 : Str} (F : FunV K x st dvs f fd) (hd : dvs ≠ [])
    (h : ∀ (T : Addr) (kV doc pm : Value) (an : Option Addr) (cdv ct a b c d : Value) (its : List Value), its.length = dvs.length → ∃ k, bindArgs (PySem.W.fnOf x x (defArgs st) (defBody st) (defScope st) (.ref T) kV doc pm an cdv ct) ⟨[], [(k4, a), (k3, b), (k2, c), (k1, d)]⟩ = seqItems? (.ref T) >>= k ∧ k (some its.toArray) = pure [(k1, d), (k2, c), (k3, b), (k4, a)]) : KBinds K fd [k1, k2, k3, k4] [k4, k3, k2, k1] rev4 rev4 := by
  obtain ⟨oc, od, dV, kV, doc, pm, an, cdv, ct, osl, rfl, lk, hcd, hD, hK⟩ := F.ex
  refine ⟨fun s us ws X hl => ?_, fun {vs us zs ws} r rz => ?_⟩
  · rcases hD with ⟨e, _⟩ | ⟨_, T, o, its, m, rfl, lT, oT, rT⟩
    · exact absurd e hd
    · match us, ws, hl with
      | [], [a, b, c, d], _ =>
        obtain ⟨k, e1, e2⟩ := h T kV doc pm an cdv ct a b c d its rT.length.symm
        refine BindsTo.of_looks fun M => ?_
        show PySem.W.Looks M s.heap (bindArgs _ ⟨[], [(k4, a), (k3, b), (k2, c), (k1, d)]⟩) _
        rw [e1]
        exact looks_items X lT oT (.of_pure e2)
      | [], [], hl => cases hl
      | [], [_], hl => cases hl
      | [], [_, _], hl => cases hl
      | [], [_, _, _], hl => cases hl
      | [], _ :: _ :: _ :: _ :: _ :: _, hl => cases hl
      | _ :: _, _, hl => cases hl
  · cases r with
    | nil =>
      cases rz with
      | nil => exact .nil
      | cons a rz =>
        cases rz with
        | nil => exact .nil
        | cons b rz =>
          cases rz with
          | nil => exact .nil
          | cons c rz =>
            cases rz with
            | nil => exact .nil
            | cons d rz =>
              cases rz with
              | nil => exact .cons d (.cons c (.cons b (.cons a .nil)))
              | cons _ _ => exact .nil
    | cons _ _ => exact .nil
/-! ### a list or a tuple walked -/
def iAnyS (K : PySem.W.Frag) (tl : TE) : TI := fun σ H R => iList K tl σ H R ∨ iTup K tl σ H R
theorem ki_anyS {X : Cx} {K : PySem.W.Frag} {tg l : Expr} {tl : TE} (hl : PE X l tl) (h : X.K = K := by rfl) : PI X tg l (iAnyS K tl) :=
  ⟨fun pins s σ H R I z => z.elim (fun z => (ki_list hl h).run pins s σ H R I z) (fun z => (ki_tup hl h).run pins s σ H R I z)⟩
end Pot

namespace Pot
open PySem PySem.Spec PyProof.Rows L2
/-! ### calls by places and names of a def with five values, two of them with defaults -/
def mix5 {α : Type} : List α → List α → List α
  | [], [a, b, c, d, e] => [e, c, a, d, b]
  | _, _ => []
def pl32 {α : Type} : List α → List α → List α
  | [a, b, c], [d, e] => [a, b, c, d, e]
  | _, _ => []
def pl31 {α : Type} (x : α) : List α → List α → List α
  | [a, b, c], [d] => [a, b, c, x, d]
  | _, _ => []
section
variable {K : PySem.W.Frag} {x : Str} {st : Stmt} {dvs : List V} {f : Addr} {fd : FuncData} {k1 k2 k3 k4 k5 : Str}
theorem kb_mix5 (F : FunV K x st dvs f fd) (hd : dvs ≠ [])
    (h : ∀ (T : Addr) (kV doc pm : Value) (an : Option Addr) (cdv ct a b c d e : Value) (its : List Value), its.length = dvs.length → ∃ k, bindArgs (PySem.W.fnOf x x (defArgs st) (defBody st) (defScope st) (.ref T) kV doc pm an cdv ct) ⟨[], [(k3, a), (k5, b), (k2, c), (k4, d), (k1, e)]⟩ = seqItems? (.ref T) >>= k ∧ k (some its.toArray) = pure [(k1, e), (k2, c), (k3, a), (k4, d), (k5, b)]) : KBinds K fd [k1, k2, k3, k4, k5] [k3, k5, k2, k4, k1] mix5 mix5 := by
  obtain ⟨oc, od, dV, kV, doc, pm, an, cdv, ct, osl, rfl, lk, hcd, hD, hK⟩ := F.ex
  refine ⟨fun s us ws X hl => ?_, fun {vs us zs ws} r rz => ?_⟩
  · rcases hD with ⟨e, _⟩ | ⟨_, T, o, its, m, rfl, lT, oT, rT⟩
    · exact absurd e hd
    · match us, ws, hl with
      | [], [a, b, c, d, e], _ =>
        obtain ⟨k, e1, e2⟩ := h T kV doc pm an cdv ct a b c d e its rT.length.symm
        refine BindsTo.of_looks fun M => ?_
        show PySem.W.Looks M s.heap (bindArgs _ ⟨[], [(k3, a), (k5, b), (k2, c), (k4, d), (k1, e)]⟩) _
        rw [e1]
        exact looks_items X lT oT (.of_pure e2)
      | [], [], hl => cases hl
      | [], [_], hl => cases hl
      | [], [_, _], hl => cases hl
      | [], [_, _, _], hl => cases hl
      | [], [_, _, _, _], hl => cases hl
      | [], _ :: _ :: _ :: _ :: _ :: _ :: _, hl => cases hl
      | _ :: _, _, hl => cases hl
  · match r, rz with
    | .nil, .cons a (.cons b (.cons c (.cons d (.cons e .nil)))) => exact .cons e (.cons c (.cons a (.cons d (.cons b .nil))))
    | .nil, .nil => exact .nil
    | .nil, .cons _ .nil => exact .nil
    | .nil, .cons _ (.cons _ .nil) => exact .nil
    | .nil, .cons _ (.cons _ (.cons _ .nil)) => exact .nil
    | .nil, .cons _ (.cons _ (.cons _ (.cons _ .nil))) => exact .nil
    | .nil, .cons _ (.cons _ (.cons _ (.cons _ (.cons _ (.cons _ _))))) => exact .nil
    | .cons _ _, _ => exact .nil
theorem kb_pl32 (F : FunV K x st dvs f fd) (hd : dvs ≠ [])
    (h : ∀ (T : Addr) (kV doc pm : Value) (an : Option Addr) (cdv ct a b c d e : Value) (its : List Value), its.length = dvs.length → ∃ k, bindArgs (PySem.W.fnOf x x (defArgs st) (defBody st) (defScope st) (.ref T) kV doc pm an cdv ct) ⟨[a, b, c], [(k4, d), (k5, e)]⟩ = seqItems? (.ref T) >>= k ∧ k (some its.toArray) = pure [(k1, a), (k2, b), (k3, c), (k4, d), (k5, e)]) : KBinds K fd [k1, k2, k3, k4, k5] [k4, k5] pl32 pl32 := by
  obtain ⟨oc, od, dV, kV, doc, pm, an, cdv, ct, osl, rfl, lk, hcd, hD, hK⟩ := F.ex
  refine ⟨fun s us ws X hl => ?_, fun {vs us zs ws} r rz => ?_⟩
  · rcases hD with ⟨e, _⟩ | ⟨_, T, o, its, m, rfl, lT, oT, rT⟩
    · exact absurd e hd
    · match us, ws, hl with
      | [a, b, c], [d, e], _ =>
        obtain ⟨k, e1, e2⟩ := h T kV doc pm an cdv ct a b c d e its rT.length.symm
        refine BindsTo.of_looks fun M => ?_
        show PySem.W.Looks M s.heap (bindArgs _ ⟨[a, b, c], [(k4, d), (k5, e)]⟩) _
        rw [e1]
        exact looks_items X lT oT (.of_pure e2)
  · match r, rz with
    | .cons a (.cons b (.cons c .nil)), .cons d (.cons e .nil) => exact .cons a (.cons b (.cons c (.cons d (.cons e .nil))))
    | .nil, _ => exact .nil
    | .cons _ .nil, _ => exact .nil
    | .cons _ (.cons _ .nil), _ => exact .nil
    | .cons _ (.cons _ (.cons _ (.cons _ _))), _ => exact .nil
    | .cons _ (.cons _ (.cons _ .nil)), .nil => exact .nil
    | .cons _ (.cons _ (.cons _ .nil)), .cons _ .nil => exact .nil
    | .cons _ (.cons _ (.cons _ .nil)), .cons _ (.cons _ (.cons _ _)) => exact .nil
theorem kb_pl31 {d1 d2 : V} (F : FunV K x st [d1, d2] f fd)
    (h : ∀ (T : Addr) (kV doc pm : Value) (an : Option Addr) (cdv ct a b c d e1 e2 : Value), ∃ k, bindArgs (PySem.W.fnOf x x (defArgs st) (defBody st) (defScope st) (.ref T) kV doc pm an cdv ct) ⟨[a, b, c], [(k5, d)]⟩ = seqItems? (.ref T) >>= k ∧ k (some #[e1, e2]) = pure [(k1, a), (k2, b), (k3, c), (k4, e1), (k5, d)]) : ∃ g, KBinds K fd [k1, k2, k3, k4, k5] [k5] g (pl31 d1) := by
  obtain ⟨oc, od, dV, kV, doc, pm, an, cdv, ct, osl, rfl, lk, hcd, hD, hK⟩ := F.ex
  rcases hD with ⟨e, _⟩ | ⟨_, T, o, its, m, rfl, lT, oT, rT⟩
  · cases e
  · match its, rT with
    | [e1, e2], .cons r1 (.cons r2 .nil) =>
      refine ⟨pl31 e1, fun s us ws X hl => ?_, fun {vs us zs ws} r rz => ?_⟩
      · match us, ws, hl with
        | [a, b, c], [d], _ =>
          obtain ⟨k, e3, e4⟩ := h T kV doc pm an cdv ct a b c d e1 e2
          refine BindsTo.of_looks fun M => ?_
          show PySem.W.Looks M s.heap (bindArgs _ ⟨[a, b, c], [(k5, d)]⟩) _
          rw [e3]
          exact looks_items X lT oT (.of_pure e4)
      · match r, rz with
        | .cons a (.cons b (.cons c .nil)), .cons d .nil => exact .cons a (.cons b (.cons c (.cons r1 (.cons d .nil))))
        | .nil, _ => exact .nil
        | .cons _ .nil, _ => exact .nil
        | .cons _ (.cons _ .nil), _ => exact .nil
        | .cons _ (.cons _ (.cons _ (.cons _ _))), _ => exact .nil
        | .cons _ (.cons _ (.cons _ .nil)), .nil => exact .nil
        | .cons _ (.cons _ (.cons _ .nil)), .cons _ (.cons _ _) => exact .nil
end
/-- a call by places and names -/
theorem pe_ckP {X : Cx} {k j : Nat} {x : Str} {ks : List Str} {gV : List V → List V → List V} {sp : Sp} {e : Expr} {es : List Expr} {kws : List Keyword} {t tk : TA} {p pos : Pos} (c : ClK X.prog X.w X.K X.mg X.base k x ks gV sp) (hr : Room j X.A) (hk : k ≤ j) (hg : Gl X x) (ha : PA X (e :: es) t) (hkw : PK X kws tk)
    (hall : (backToKw pos (keywordEach kws X.env)).all (·.1.isSome) = true := by rfl) (hks : (backToKw pos (keywordEach kws X.env)).filterMap (·.1) = ks := by rfl) (hdb : (x == ("__debug__" : Str)) = false := by decide) (he : starEach (e :: es) X.env = (false, eval e X.env) :: starEach es X.env := by rfl)
    (hpl : ((backTo pos (starEach (e :: es) X.env)).any (·.1) || (backToKw pos (keywordEach kws X.env)).any (·.1.isNone)) = false := by rfl) : PE X (.Call (.Name x p) (e :: es) kws pos) (tCallK sp gV E0 t tk) := by
  obtain ⟨f, fd, ps, g, G, hm, kp, b⟩ := c
  exact pe_callK G (hr.mono hk) hg hm kp b pass0 ha hkw hall hks hdb he hpl
def rSortedD : List V → Hp → VK → Prop := fun xs H Q => ∃ (a : Addr) (kvs : List (Key × V)) (ks : List Str), xs = [.ref a] ∧ Rd H a (.dK kvs) ∧ kvs.map (·.1) = ks.map Sum.inr ∧ ks.length < 64 ∧
    ∀ ys p, ys.Perm ks → sortedS ys = true → H p = none → Q (.ref p) (upd H p (.lst (ys.map V.str)))
theorem kc_sortedD {X : Cx} (hc : X.calm = true := by rfl) : CallR X (.builtin "sorted") rSortedD := call_sortedD hc
end Pot

namespace Pot
open PySem PySem.Spec PyProof.Rows L2
open Sem (wp)
/-! ### enumerate of a list or a tuple -/
set_option maxHeartbeats 1000000 in
theorem en_new {v : Value} {ob : Obj} {Ok : Heap → Prop} (B : Begins v ob Ok) :
    Meets (Builtin.«enumerate.__new__» ⟨[.type "enumerate", v], []⟩) (fun _ R s => Ok s.heap ∧ R (.ok (.ret (.ref (s.heap.push ob).objs.size))) { s with heap := (s.heap.push ob).push { cls := .type "enumerate", data := .fields #[.none, .bool false, .ref s.heap.objs.size, rawInt 0, .none, .none] } }) :=
  .of_wp fun prog w A R st hst => by
    obtain ⟨hp, gl, dd, tt, oo⟩ := st; obtain ⟨ok1, fin⟩ := hst; have isub := sub_enumerate
    have go : ∀ {A1 : Around} {E1 : Value → Shared → Prop} {Q1 : Value → Shared → Prop}, Q1 (.ref hp.objs.size) ⟨hp.push ob, gl, dd, tt, oo⟩ → wpAny (model prog w) A1 (pyIter v) Q1 E1 ⟨hp, gl, dd, tt, oo⟩ := fun z => B.iter prog w _ _ ⟨hp, gl, dd, tt, oo⟩ _ ok1 z
    wp_walk using go
    refine wpAny_stack_any fun stk => wpAny_pure ?_
    split
    · rename_i cc _ _ _ _ _; cases (cc == Value.type "enumerate") <;> (wp_walk using go; exact ⟨_, rfl, fin⟩)
    · wp_walk using go; exact ⟨_, rfl, fin⟩
/-- some untracked cells written, nothing new -/
theorem inv_ch {X : Cx} {pins : List (Addr × Obj)} {σ : L2.St} {H : Hp} {s : Shared} {h2 : Heap} {tk : Nat} {ch : List Addr} (I : Inv X pins σ H s) (kp : ∀ b o, b ∉ ch → s.heap.get? b = some o → h2.get? b = some o) (fo : ∀ b ∈ ch, FpOk X pins H b) :
    Inv X pins σ H { s with heap := h2, toks := tk } := by
  have out : ∀ c u, H c = some u → c ∉ ch := fun c u e z => by have := (fo c z).1; rw [this] at e; cases e
  refine I.step (g' := s.gens) (d' := s.drawn) (ch := ch) (fun c hc => let ⟨_, a2, _, a4, a5, a6⟩ := fo c hc; ⟨a4, a2, a5, a6⟩) (fun c o _ _ n e _ => kp c o n e) (fun c o _ _ n e _ => ⟨o.slots, kp c o n e⟩) (fun _ _ _ _ z => z) (fun c o n e => ⟨o, kp c o n e⟩) (fun _ _ z => z) (fun _ _ _ z => z) (fun c ps e => ⟨#[], by rw [e]; simp⟩) (fun mm hm => ?_) (fun c u e => ?_) I.bare
  · obtain ⟨o, e1, e2, ho, rest⟩ := hm; exact ⟨o, e1, e2, kp _ o (fun z => (fo _ z).2.1 rfl) ho, rest⟩
  · refine (I.hok c u e).stay (fun c2 v hc q => kp c2 v ?_ q) (fun _ z => z) fun _ _ z => z
    rcases hc with z | z
    · rw [z]; exact out c u e
    · exact out c2 _ z
def ItT (K : PySem.W.Frag) (a : Addr) : It :=
  ⟨fun i H => ∃ (xs : List V) (x : V), SqT K H a xs ∧ xs[i]? = some x, fun i H v H' => ∃ T x, v = .ref T ∧ H T = none ∧ H' = upd H T (.tup [.int (i : Nat), x]) ∧ ∀ xs, SqT K H a xs → xs[i]? = some x, fun i H => ∃ xs : List V, SqT K H a xs ∧ xs.length ≤ i⟩
/-- an iterator of a tuple that has come to its end -/
theorem drawsEnd {prog : Program} {w : World} {A : Around} (hh : A.handled = none) (it t : Addr) (items : Array Value) (i : Nat) (hi : items[i]? = none) :
    Draws prog w A it [it, t] i (fun _ _ => False) (fun j h => j = i ∧ h.IsTupleIter it t j ∧ h.IsTuple t items) where
  live := fun _ _ st => let ⟨o, ho, _⟩ := st.2.1; ⟨o, ho⟩
  frame := fun _ _ _ st hk => ⟨st.1, st.2.1.at fun o e => hk it (by simp) o e, st.2.2.at fun o e => hk t (by simp) o e⟩
  item := fun j _ _ _ hj st _ => absurd st.1 (Nat.ne_of_lt hj)
  done := fun s Q E st hE => wpAny_nextOf_tuple_end hh st.2.1 st.2.2 hi hE
theorem turn_enT {P : Program} {w : World} {K : PySem.W.Frag} {elts : List Expr} {kk : Nat} {tpos : Pos} (a e it : Addr) (ne1 : e ≠ it) :
    Turn P w K (.Tuple elts kk tpos) (ItT K a) [e, it] e (fun i h => (∃ old, IsEnum h e it (0 + ((i : Nat) : Int)) old) ∧ h.IsTupleIter it a i) where
  mem := by simp
  obj := fun i h st b hb => by
    obtain ⟨⟨old, he⟩, ⟨o, ho, hc, hd⟩⟩ := st
    rcases List.mem_cons.mp hb with z | z
    · rw [z]; exact ⟨_, he, fun v q => nomatch q⟩
    · rw [List.mem_singleton.mp z]; exact ⟨o, ho, fun v q => by rw [hd] at q; cases q⟩
  keep := fun i h h' st k => let ⟨⟨old, he⟩, hi⟩ := st; ⟨⟨old, k e (by simp) _ he⟩, hi.at fun o q => k it (by simp) o q⟩
  item := by
    intro X q1 q2 q3 hc i pins s σ H E I hf st hg; subst q1 q2 q3
    obtain ⟨⟨old, he⟩, hit⟩ := st
    obtain ⟨xs, x, hq, hx⟩ := hg
    obtain ⟨its, vals_, p, _⟩ := I.tuple hq
    obtain ⟨u, hu, ru⟩ := vals_.get hx
    have at_ : its.toArray[i]? = some u := by simpa using hu
    have hlt : i < its.toArray.size := (Array.getElem?_eq_some_iff.mp at_).1
    have nt : ∀ b ∈ [e, it], a ≠ b := fun b hb z => by
      obtain ⟨o, ho, cl, _⟩ := p
      rcases List.mem_cons.mp hb with y | y
      · rw [z, y] at ho
        rw [show s.heap.get? e = _ from he] at ho; cases ho; injection cl with cl; exact absurd cl (by decide)
      · rw [z, List.mem_singleton.mp y] at ho
        obtain ⟨o2, ho2, cl2, _⟩ := hit
        rw [ho2] at ho; cases ho
        rw [cl2] at cl; injection cl with cl; exact absurd cl (by decide)
    have G := GoesN.enumFrom (elts := elts) (x1 := kk) (pos := tpos) 0 (Draws.tuple (prog := X.prog) (w := X.w) (A := X.A.in1) (I.ok.hd hc) it a (nt it (by simp)) its.toArray) e ne1 (by simp [ne1, (nt e (by simp)).symm]) (by simp)
    refine G.goes i s _ _ hlt ⟨⟨old, he⟩, hit, p⟩ fun v h2 tk hY st2 hk _ => ?_
    obtain ⟨T, t, u2, rfl, hn, hu2, hT⟩ := hY
    have eu : u2 = u := Option.some.inj (hu2.symm.trans at_)
    subst eu
    rw [Int.zero_add] at hT
    have new : ObjOk X.prog X.w (upd H T (.tup [.int (i : Nat), x])) h2 T (.tup [.int (i : Nat), x]) := ⟨by show 2 ≤ sizeLine; decide, [.int i t, u2], .cons ⟨_, rfl⟩ (.cons ru .nil), hT⟩
    have I1 : Inv X pins σ (upd H T (.tup [.int (i : Nat), x])) { s with heap := h2, toks := tk } := I.turnedNew (ch := [e, it]) (fun b ob hb q => hk b ob hb q) hf hn new
    refine ⟨.ref T, _, I1, rfl, ⟨T, x, rfl, I.hok.fresh hn, rfl, fun ys hy => by rw [I.tuple_inj hy hq]; exact hx⟩, ⟨st2.1, st2.2.1⟩, fun b hb => ?_⟩
    have hb0 := (hf b hb).1
    have hbT : b ≠ T := by
      rcases List.mem_cons.mp hb with y | y
      · rw [y]; exact Nat.ne_of_lt (Nat.lt_of_lt_of_le (Heap.lt_size he) hn)
      · rw [List.mem_singleton.mp y]
        obtain ⟨o2, ho2, _⟩ := hit
        exact Nat.ne_of_lt (Nat.lt_of_lt_of_le (Heap.lt_size ho2) hn)
    rw [upd_ne hbT]; exact hb0
  done := by
    intro X q1 q2 q3 hc i pins s σ H E I hf st hg; subst q1 q2 q3
    obtain ⟨⟨old, he⟩, hit⟩ := st
    obtain ⟨xs, hq, hx⟩ := hg
    obtain ⟨its, vals_, p, _⟩ := I.tuple hq
    have hl := vals_.length
    have nt : ∀ b ∈ [e, it], a ≠ b := fun b hb z => by
      obtain ⟨o, ho, cl, _⟩ := p
      rcases List.mem_cons.mp hb with y | y
      · rw [z, y] at ho
        rw [show s.heap.get? e = _ from he] at ho; cases ho; injection cl with cl; exact absurd cl (by decide)
      · rw [z, List.mem_singleton.mp y] at ho
        obtain ⟨o2, ho2, cl2, _⟩ := hit
        rw [ho2] at ho; cases ho
        rw [cl2] at cl; injection cl with cl; exact absurd cl (by decide)
    have G := GoesN.enumFrom (elts := elts) (x1 := kk) (pos := tpos) 0 (drawsEnd (prog := X.prog) (w := X.w) (A := X.A.in1) (I.ok.hd hc) it a its.toArray i (by simp; omega)) e ne1 (by simp [ne1, (nt e (by simp)).symm]) (by simp)
    exact G.stops s _ _ ⟨⟨old, he⟩, rfl, hit, p⟩ fun h2 tk hk _ => inv_ch I hk hf
  self := fun _ _ _ _ _ st fin => let ⟨⟨_, he⟩, _⟩ := st; wpAny_pyIter_enum he fin
/-- enumerate(v), v a list or a tuple -/
def iEnA (K : PySem.W.Frag) (ta : TA) : TI := fun σ H R => ta σ H fun vs H1 => ∃ a xs, vs = [.ref a] ∧ ((SqL K H1 a xs ∧ R (Ite K a) H1) ∨ (SqT K H1 a xs ∧ R (ItT K a) H1))
theorem pi_enA {X : Cx} {e : Expr} {ta : TA} {p pos tpos : Pos} {elts : List Expr} {kk : Nat} (hg : Gl X "enumerate") (hm : X.mg "enumerate" = none) (ha : PA X [e] ta) (hs : starEach [e] X.env = [(false, eval e X.env)] := by rfl) :
    PI X (.Tuple elts kk tpos) (.Call (.Name "enumerate" p) [e] [] pos) (iEnA X.K ta) := by
  refine ⟨fun pins s σ H R I hi => ?_⟩
  refine Call_ (ld_blt I hg hm boot_enumerate (PyProof.Rows.callWith_type1 (thn (ha.run pos pins s σ H _ I hi) fun us s1 ⟨vs, H1, I1, r1, q1⟩ => ?_) hs rfl))
  obtain ⟨a, xs, ex, q⟩ := q1
  subst ex
  cases r1 with
  | cons r rr =>
    cases rr; cases r
    rcases q with ⟨hq, q⟩ | ⟨hq, q⟩
    · obtain ⟨its, rv, p2, hz⟩ := I1.list hq
      refine call_enumerate_list p2.isList fun h2 he hit hsz hk => wpAny_pyIter_enum he ?_
      refine ⟨s1.heap.objs.size + 1, [s1.heap.objs.size + 1, s1.heap.objs.size], _, _, H1, rfl, I1.kept (t' := s1.toks) hk, turn_enum a (s1.heap.objs.size + 1) s1.heap.objs.size, ⟨⟨.none, he⟩, hit, Nat.succ_ne_self _⟩, fun b hb => ?_, q⟩
      have hge : s1.heap.objs.size ≤ b := by
        rcases List.mem_cons.mp hb with z | z
        · rw [z]; exact Nat.le_add_right _ _
        · rw [List.mem_singleton.mp z]; exact Nat.le_refl _
      exact I1.fpOk hge (I1.hok.fresh hge)
    · obtain ⟨its, rv, p2, hz⟩ := I1.tuple hq
      refine callType_new F.called_enumerate (by decide) (F.typeCall_enumerate_1 _) (F.newCall_enumerate_1 _) (fun obj => F.args_object_init_2 obj _) F.entry_enumerate_new (en_new (begins_tuple a its.toArray)) ⟨p2, ?_⟩
      have sz : (s1.heap.push { cls := .type "tuple_iterator", data := .fields #[.ref a, .int 0 0] }).objs.size = s1.heap.objs.size + 1 := Heap.size_push ..
      show _ ∧ _
      rw [sz]
      have he : IsEnum ((s1.heap.push { cls := .type "tuple_iterator", data := .fields #[.ref a, .int 0 0] }).push { cls := .type "enumerate", data := .fields #[.none, .bool false, .ref s1.heap.objs.size, rawInt 0, .none, .none] }) (s1.heap.objs.size + 1) s1.heap.objs.size (0 + ((0 : Nat) : Int)) .none := by
        have g := Heap.get?_push_size (s1.heap.push { cls := .type "tuple_iterator", data := .fields #[.ref a, .int 0 0] }) (o := { cls := .type "enumerate", data := .fields #[.none, .bool false, .ref s1.heap.objs.size, rawInt 0, .none, .none] }) rfl
        rw [sz] at g; exact g
      refine ⟨⟨_, he, rfl⟩, wpAny_pyIter_enum he ⟨s1.heap.objs.size + 1, [s1.heap.objs.size + 1, s1.heap.objs.size], _, _, H1, rfl, I1.kept (t' := s1.toks) (fun b o z => Heap.get?_push_of_some _ (Heap.get?_push_of_some _ z)), turn_enT a (s1.heap.objs.size + 1) s1.heap.objs.size (Nat.succ_ne_self _), ⟨⟨.none, he⟩, ⟨_, Heap.get?_push_of_some _ (Heap.get?_push_size _ rfl), rfl, rfl⟩⟩, fun b hb => ?_, q⟩⟩
      have hge : s1.heap.objs.size ≤ b := by
        rcases List.mem_cons.mp hb with z | z
        · rw [z]; exact Nat.le_add_right _ _
        · rw [List.mem_singleton.mp z]; exact Nat.le_refl _
      exact I1.fpOk hge (I1.hok.fresh hge)
theorem walk_enT {K : PySem.W.Frag} {a : Addr} {xs : List V} : Walk (ItT K a) xs.length (fun H => SqT K H a xs) (YPair (fun i => some (.int (i : Nat))) (fun i => xs[i]?)) := by
  refine ⟨fun i _ hi hs => ⟨xs, xs[i], hs, by simp [hi]⟩, fun _ hs => ⟨xs, hs, Nat.le_refl _⟩, fun i H v H2 _ hs y => ?_⟩
  obtain ⟨T, x, e1, e2, e3, e4⟩ := y
  exact ⟨T, .int (i : Nat), x, e1, e2, e3, rfl, e4 xs hs⟩
theorem ko_catA {X : Cx} {K : PySem.W.Frag} (h : X.K = K := by rfl) : OpR X (binaryOp .Add) (rCatA K) := h ▸ op_catA
theorem ki_enA {X : Cx} {K : PySem.W.Frag} {e : Expr} {ta : TA} {p pos tpos : Pos} {elts : List Expr} {kk : Nat} (hg : Gl X "enumerate") (hm : X.mg "enumerate" = none) (ha : PA X [e] ta) (hs : starEach [e] X.env = [(false, eval e X.env)] := by rfl) (h : X.K = K := by rfl)
    : PI X (.Tuple elts kk tpos) (.Call (.Name "enumerate" p) [e] [] pos) (iEnA K ta) := h ▸ pi_enA hg hm ha hs
end Pot

namespace Pot
open PySem PySem.Spec PyProof.Rows L2
open Sem (wp)
/-! ### zip of three lists of one length -/
def It3 (K : PySem.W.Frag) (a b c : Addr) : It :=
  ⟨fun i H => ∃ (xs ys zs : List V) (x y z : V), SqL K H a xs ∧ SqL K H b ys ∧ SqL K H c zs ∧ xs[i]? = some x ∧ ys[i]? = some y ∧ zs[i]? = some z,
   fun i H v H2 => ∃ T x y z, v = .ref T ∧ H T = none ∧ H2 = upd H T (.tup [x, y, z]) ∧ (∀ xs, SqL K H a xs → xs[i]? = some x) ∧ (∀ ys, SqL K H b ys → ys[i]? = some y) ∧ ∀ zs, SqL K H c zs → zs[i]? = some z,
   fun i H => ∃ xs ys zs : List V, SqL K H a xs ∧ SqL K H b ys ∧ SqL K H c zs ∧ xs.length ≤ i ∧ ys.length ≤ i ∧ zs.length ≤ i⟩
/-- an iterator of a list that has come to its end -/
theorem drawsEndL {prog : Program} {w : World} {A : Around} (hh : A.handled = none) (it t : Addr) (items : Array Value) (i : Nat) (hi : items[i]? = none) :
    Draws prog w A it [it, t] i (fun _ _ => False) (fun j h => j = i ∧ h.IsListIter it t j ∧ h.IsList t items) where
  live := fun _ _ st => let ⟨o, ho, _⟩ := st.2.1; ⟨o, ho⟩
  frame := fun _ _ _ st hk => ⟨st.1, st.2.1.at fun o e => hk it (by simp) o e, st.2.2.at fun o e => hk t (by simp) o e⟩
  item := fun j _ _ _ hj st _ => absurd st.1 (Nat.ne_of_lt hj)
  done := fun s Q E st hE => wpAny_nextOf_list_end hh st.2.1 st.2.2 hi hE
theorem turn_z3 {P : Program} {w : World} {K : PySem.W.Frag} {elts : List Expr} {kk : Nat} {tpos : Pos} {a b c z TI TO i1 i2 i3 : Addr} (D : ZipSep3 z TI TO i1 i2 i3 [i1, a] [i2, b] [i3, c]) (n1 : a ≠ i1) (n2 : b ≠ i2) (n3 : c ≠ i3) :
    Turn P w K (.Tuple elts kk tpos) (It3 K a b c) [z, TI, TO, i1, i2, i3] z (fun i h => IsZip h z TI TO .none ∧ IsTupOf3 h TI (.ref i1) (.ref i2) (.ref i3) ∧ (∃ x y u, IsTupOf3 h TO x y u) ∧ h.IsListIter i1 a i ∧ h.IsListIter i2 b i ∧ h.IsListIter i3 c i) where
  mem := by simp
  obj := fun i h st m hm => by
    obtain ⟨hz, hTI, ⟨x, y, u, hTO⟩, ⟨o1, e1, _, d1⟩, ⟨o2, e2, _, d2⟩, ⟨o3, e3, _, d3⟩⟩ := st
    simp only [List.mem_cons, List.not_mem_nil, or_false] at hm
    rcases hm with e | e | e | e | e | e
    · subst e; exact ⟨_, hz, fun v q => nomatch q⟩
    · subst e; exact ⟨_, hTI, fun v q => nomatch q⟩
    · subst e; exact ⟨_, hTO, fun v q => nomatch q⟩
    · subst e; exact ⟨o1, e1, fun v q => by rw [d1] at q; cases q⟩
    · subst e; exact ⟨o2, e2, fun v q => by rw [d2] at q; cases q⟩
    · subst e; exact ⟨o3, e3, fun v q => by rw [d3] at q; cases q⟩
  keep := fun i h h2 st k => by
    obtain ⟨hz, hTI, ⟨x, y, u, hTO⟩, g1, g2, g3⟩ := st
    exact ⟨k z (by simp) _ hz, k TI (by simp) _ hTI, ⟨x, y, u, k TO (by simp) _ hTO⟩, g1.at fun o q => k i1 (by simp) o q, g2.at fun o q => k i2 (by simp) o q, g3.at fun o q => k i3 (by simp) o q⟩
  item := by
    intro X q1 q2 q3 hc i pins s σ H E I hf st hg; subst q1 q2 q3
    obtain ⟨hz, hTI, ⟨x0, y0, u0, hTO⟩, g1, g2, g3⟩ := st
    obtain ⟨xs, ys, us, x, y, u, hqa, hqb, hqc, hx, hy, hu⟩ := hg
    obtain ⟨its1, vs1, p1, _⟩ := I.list hqa
    obtain ⟨its2, vs2, p2, _⟩ := I.list hqb
    obtain ⟨its3, vs3, p3, _⟩ := I.list hqc
    obtain ⟨w1, hw1, r1⟩ := vs1.get hx
    obtain ⟨w2, hw2, r2⟩ := vs2.get hy
    obtain ⟨w3, hw3, r3⟩ := vs3.get hu
    have at1 : its1.toArray[i]? = some w1 := by simpa using hw1
    have at2 : its2.toArray[i]? = some w2 := by simpa using hw2
    have at3 : its3.toArray[i]? = some w3 := by simpa using hw3
    have l1 : i < its1.toArray.size := (Array.getElem?_eq_some_iff.mp at1).1
    have l2 : i < its2.toArray.size := (Array.getElem?_eq_some_iff.mp at2).1
    have l3 : i < its3.toArray.size := (Array.getElem?_eq_some_iff.mp at3).1
    have hh := I.ok.hd hc
    have G := GoesN.zip3 (elts := elts) (x1 := kk) (pos := tpos) D (Draws.list (prog := X.prog) (w := X.w) (A := X.A.in1) hh i1 a n1 its1.toArray) (Draws.list (prog := X.prog) (w := X.w) (A := X.A.in1) hh i2 b n2 its2.toArray) (Draws.list (prog := X.prog) (w := X.w) (A := X.A.in1) hh i3 c n3 its3.toArray)
    refine G.goes i s _ _ (by omega) ⟨hz, hTI, ⟨x0, y0, u0, hTO⟩, ⟨g1, p1.isList⟩, ⟨g2, p2.isList⟩, ⟨g3, p3.isList⟩⟩ fun v h2 tk hY st2 hk _ => ?_
    obtain ⟨T, t1, t2, t3, rfl, hn, e1, e2, e3, hT⟩ := hY
    cases Option.some.inj (e1.symm.trans at1)
    cases Option.some.inj (e2.symm.trans at2)
    cases Option.some.inj (e3.symm.trans at3)
    have new : ObjOk X.prog X.w (upd H T (.tup [x, y, u])) h2 T (.tup [x, y, u]) := ⟨by show 3 ≤ sizeLine; decide, [w1, w2, w3], .cons r1 (.cons r2 (.cons r3 .nil)), hT⟩
    have I1 : Inv X pins σ (upd H T (.tup [x, y, u])) { s with heap := h2, toks := tk } := I.turnedNew (ch := [z, TI, TO, i1, i2, i3]) (fun m ob hm q => hk m ob (fun e => hm (by simp only [List.mem_cons, List.not_mem_nil, or_false] at e ⊢; rcases e with e | e | e | e | e <;> simp [e])) q) hf hn new
    refine ⟨.ref T, _, I1, rfl, ⟨T, x, y, u, rfl, I.hok.fresh hn, rfl, fun l hl => by rw [I.list_inj hl hqa]; exact hx, fun l hl => by rw [I.list_inj hl hqb]; exact hy, fun l hl => by rw [I.list_inj hl hqc]; exact hu⟩, ⟨st2.1, st2.2.1, st2.2.2.1, st2.2.2.2.1.1, st2.2.2.2.2.1.1, st2.2.2.2.2.2.1⟩, fun m hm => ?_⟩
    have hm0 := (hf m hm).1
    have live : ∃ o, s.heap.get? m = some o := by
      obtain ⟨o1, f1, _⟩ := g1
      obtain ⟨o2, f2, _⟩ := g2
      obtain ⟨o3, f3, _⟩ := g3
      simp only [List.mem_cons, List.not_mem_nil, or_false] at hm
      rcases hm with e | e | e | e | e | e
      · subst e; exact ⟨_, hz⟩
      · subst e; exact ⟨_, hTI⟩
      · subst e; exact ⟨_, hTO⟩
      · subst e; exact ⟨_, f1⟩
      · subst e; exact ⟨_, f2⟩
      · subst e; exact ⟨_, f3⟩
    obtain ⟨o, ho⟩ := live
    rw [upd_ne (Nat.ne_of_lt (Nat.lt_of_lt_of_le (Heap.lt_size ho) hn))]; exact hm0
  done := by
    intro X q1 q2 q3 hc i pins s σ H E I hf st hg; subst q1 q2 q3
    obtain ⟨hz, hTI, ⟨x0, y0, u0, hTO⟩, g1, g2, g3⟩ := st
    obtain ⟨xs, ys, us, hqa, hqb, hqc, hx, hy, hu⟩ := hg
    obtain ⟨its1, vs1, p1, _⟩ := I.list hqa
    obtain ⟨its2, vs2, p2, _⟩ := I.list hqb
    obtain ⟨its3, vs3, p3, _⟩ := I.list hqc
    have m1 := vs1.length
    have m2 := vs2.length
    have m3 := vs3.length
    have hh := I.ok.hd hc
    have G := GoesN.zip3 (elts := elts) (x1 := kk) (pos := tpos) D (drawsEndL (prog := X.prog) (w := X.w) (A := X.A.in1) hh i1 a its1.toArray i (by simp; omega)) (drawsEndL (prog := X.prog) (w := X.w) (A := X.A.in1) hh i2 b its2.toArray i (by simp; omega)) (drawsEndL (prog := X.prog) (w := X.w) (A := X.A.in1) hh i3 c its3.toArray i (by simp; omega))
    rw [Nat.min_self, Nat.min_self] at G
    exact G.stops s _ _ ⟨hz, hTI, ⟨x0, y0, u0, hTO⟩, ⟨rfl, g1, p1.isList⟩, ⟨rfl, g2, p2.isList⟩, ⟨rfl, g3, p3.isList⟩⟩ fun h2 tk hk _ => inv_ch (ch := [z, TI, TO, i1, i2, i3]) I (fun m o hm q => hk m o (fun e => hm (by simp only [List.mem_cons, List.not_mem_nil, or_false] at e ⊢; rcases e with e | e | e | e | e <;> simp [e])) q) hf
  self := fun _ _ _ _ _ st fin => wpAny_pyIter_zip st.1 fin
def iZip3 (K : PySem.W.Frag) (ta : TA) : TI := fun σ H R => ta σ H fun vs H1 => ∃ a b c xs ys zs, vs = [.ref a, .ref b, .ref c] ∧ SqL K H1 a xs ∧ SqL K H1 b ys ∧ SqL K H1 c zs ∧ R (It3 K a b c) H1
theorem pi_zip3 {X : Cx} {e e2 e3 : Expr} {ta : TA} {p pos tpos : Pos} {elts : List Expr} {kk : Nat} (hg : Gl X "zip") (hm : X.mg "zip" = none) (ha : PA X [e, e2, e3] ta)
    (hs : starEach [e, e2, e3] X.env = (false, eval e X.env) :: starEach [e2, e3] X.env := by rfl) (hpl : (backTo pos (starEach [e2, e3] X.env)).any (·.1) = false := by rfl) :
    PI X (.Tuple elts kk tpos) (.Call (.Name "zip" p) [e, e2, e3] [] pos) (iZip3 X.K ta) := by
  refine ⟨fun pins s σ H R I hi => ?_⟩
  refine Call_ (ld_blt I hg hm PyProof.Rows.boot_zip (PyProof.Rows.callWith_type1 (thn (ha.run pos pins s σ H _ I hi) fun us s1 ⟨vs, H1, I1, r1, q1⟩ => ?_) hs hpl))
  obtain ⟨a, b, c, xs, ys, zs, ex, qa, qb, qc, q⟩ := q1
  subst ex
  cases r1 with
  | cons ra rr =>
    cases rr with
    | cons rb rr =>
      cases rr with
      | cons rc rr =>
        cases rr; cases ra; cases rb; cases rc
        obtain ⟨its1, _, p1, _⟩ := I1.list qa
        obtain ⟨its2, _, p2, _⟩ := I1.list qb
        obtain ⟨its3, _, p3, _⟩ := I1.list qc
        refine zip_begins3 (begins_list a its1.toArray) (begins_list b its2.toArray) (begins_list c its3.toArray) p1.isList p2.isList p3.isList fun h2 hz hTI hTO f1 f2 f3 hsz hk => wpAny_pyIter_zip hz ?_
        have below : ∀ {l : Addr} {its : List Value} {n : Nat}, s1.heap.get? l = some { cls := .type "list", data := .seq its.toArray n } → ∀ m ∈ [l], m < s1.heap.objs.size := fun h m hm => by rw [List.mem_singleton.mp hm]; exact Heap.lt_size h
        refine ⟨s1.heap.objs.size + 5, [s1.heap.objs.size + 5, s1.heap.objs.size + 3, s1.heap.objs.size + 4, s1.heap.objs.size, s1.heap.objs.size + 1, s1.heap.objs.size + 2], _, _, H1, rfl, I1.kept (t' := s1.toks) hk, turn_z3 (zip_sep3 (N := s1.heap.objs.size) (fp1 := [a]) (fp2 := [b]) (fp3 := [c]) ?_ ?_ ?_) ?_ ?_ ?_, ⟨hz, hTI, ⟨_, _, _, hTO⟩, ⟨_, f1, rfl, rfl⟩, ⟨_, f2, rfl, rfl⟩, ⟨_, f3, rfl, rfl⟩⟩, fun m hm => ?_, q⟩
        · exact fun m hm => by rw [List.mem_singleton.mp hm]; exact p1.lt
        · exact fun m hm => by rw [List.mem_singleton.mp hm]; exact p2.lt
        · exact fun m hm => by rw [List.mem_singleton.mp hm]; exact p3.lt
        · exact Nat.ne_of_lt p1.lt
        · exact Nat.ne_of_lt (Nat.lt_of_lt_of_le p2.lt (Nat.le_add_right _ _))
        · exact Nat.ne_of_lt (Nat.lt_of_lt_of_le p3.lt (Nat.le_add_right _ _))
        · have hge : s1.heap.objs.size ≤ m := by
            simp only [List.mem_cons, List.not_mem_nil, or_false] at hm
            rcases hm with e | e | e | e | e | e <;> (rw [e]; first | exact Nat.le_refl _ | exact Nat.le_add_right _ _)
          exact I1.fpOk hge (I1.hok.fresh hge)
theorem ki_zip3 {X : Cx} {K : PySem.W.Frag} {e e2 e3 : Expr} {ta : TA} {p pos tpos : Pos} {elts : List Expr} {kk : Nat} (hg : Gl X "zip") (hm : X.mg "zip" = none) (ha : PA X [e, e2, e3] ta)
    (hs : starEach [e, e2, e3] X.env = (false, eval e X.env) :: starEach [e2, e3] X.env := by rfl) (hpl : (backTo pos (starEach [e2, e3] X.env)).any (·.1) = false := by rfl) (h : X.K = K := by rfl) :
    PI X (.Tuple elts kk tpos) (.Call (.Name "zip" p) [e, e2, e3] [] pos) (iZip3 K ta) := h ▸ pi_zip3 hg hm ha hs hpl
def Y3 (f g k : Nat → Option V) : Nat → Hp → V → Hp → Prop := fun i H v H2 => ∃ T x y z, v = .ref T ∧ H T = none ∧ H2 = upd H T (.tup [x, y, z]) ∧ f i = some x ∧ g i = some y ∧ k i = some z
theorem walk_z3 {K : PySem.W.Frag} {a b c : Addr} {xs ys zs : List V} (h1 : ys.length = xs.length) (h2 : zs.length = xs.length) : Walk (It3 K a b c) xs.length (fun H => SqL K H a xs ∧ SqL K H b ys ∧ SqL K H c zs) (Y3 (fun i => xs[i]?) (fun i => ys[i]?) (fun i => zs[i]?)) := by
  refine ⟨fun i _ hi hs => ⟨xs, ys, zs, xs[i], ys[i]'(by omega), zs[i]'(by omega), hs.1, hs.2.1, hs.2.2, by simp [hi], by simp [show i < ys.length by omega], by simp [show i < zs.length by omega]⟩, fun _ hs => ⟨xs, ys, zs, hs.1, hs.2.1, hs.2.2, by omega, by omega, by omega⟩, fun i H v H2 _ hs y => ?_⟩
  obtain ⟨T, x, y, z, e1, e2, e3, e4, e5, e6⟩ := y
  exact ⟨T, x, y, z, e1, e2, e3, e4 xs hs.1, e5 ys hs.2.1, e6 zs hs.2.2⟩
end Pot

namespace Pot
open PySem PySem.Spec PyProof.Rows L2
open PySem.Calls
open PySem.W (sortingHeap copyHeap sortLe alike alikeAll keyToks keyToksAll dataLt dataKind KatLex SortsAt sortVals dataType EachIs)
/-! ### sorted of rows that are told apart by parts that can be compared -/
/-- up to the first part in which they differ, that one too, two rows are alike -/
def okCmp : List PyData → List PyData → Bool
  | x :: xs, y :: ys => alike x y && (!PyData.eqv x y || okCmp xs ys)
  | [], [] => true
  | _, _ => false
section
variable {prog : Program} {w : World} {A : Around} {s : Shared}
theorem kat_ok {b fin : Bool} {Q : Bool → Shared → Prop} : ∀ (xs ys : List PyData) (i : Nat) (vs ws : List Value) (as bs : List Addr), ReadsAll s.heap vs xs as → ReadsAll s.heap ws ys bs → okCmp xs ys = true → A.units + min (PyData.depthAll xs) (PyData.depthAll ys) < cLine → (b = true → i = 0 → ∀ x r t, xs = x :: r → x ≠ .tuple t) → fin = decide (xs.length < ys.length) →
    Q (PyProof.Rows.lexLt itemOrd (keyToksAll xs) (keyToksAll ys)) s → KatLex prog w A b fin Q (vs.zip ws) i s := by
  intro xs
  induction xs with
  | nil =>
    intro ys i vs ws as bs ra rb ok hu hb hf hq
    have := PySem.W.katLex_alike (prog := prog) (w := w) (A := A) (s := s) (b := b) (fin := fin) (Q := Q) [] ys i vs ws as bs ra rb
    cases ys with
    | nil => exact this rfl hu hb hf hq
    | cons y ys => cases ok
  | cons x xs ih =>
    intro ys i vs ws as bs ra rb ok hu hb hf hq
    cases ys with
    | nil => cases ok
    | cons y ys =>
      obtain ⟨al, nx⟩ := Bool.and_eq_true_iff.mp ok
      have hf2 : fin = decide (xs.length < ys.length) := by rw [hf]; simp only [List.length_cons, Nat.add_lt_add_iff_right]
      cases ra with
      | cons r rs =>
        cases rb with
        | cons r2 rs2 =>
          rw [List.zip_cons_cons]
          refine PySem.W.kat_cons (PySem.W.eqAt_alike x y A s _ _ _ _ r r2 al (SeqAt.room_head hu) prog w _ _ ?_)
          cases ex : PyData.eqv x y with
          | true =>
            rw [PySem.W.dataLt_all_yes al ex] at hq
            rw [ex] at nx
            exact PySem.W.kat_yes (ih ys (i + 1) _ _ _ _ rs rs2 nx (SeqAt.room_tail hu) (fun _ h0 => absurd h0 (Nat.succ_ne_zero i)) hf2 hq)
          | false =>
            rw [PySem.W.dataLt_all_no al ex] at hq
            refine PySem.W.kat_no (PySem.W.oneLt_alike (fun hbi t => ?_) r r2 al (PySem.W.ne_none_of al ex) (SeqAt.room_head hu) hq)
            obtain ⟨b1, b2⟩ := Bool.and_eq_true_iff.mp hbi
            exact hb b1 (by simpa using b2) x xs t rfl
theorem key_of {h : Heap} {ds : List PyData} {v : Value} {d : PyData} {as : List Addr} (hd : d ∈ ds) (r : Reads h v d as) : (dataKind h ds).keyOf v = some (keyToks d) := by
  have ex : ∃ e, e ∈ ds ∧ ∃ bs, Reads h v e bs := ⟨d, hd, as, r⟩
  have eq1 : (dataKind h ds).keyOf v = some (keyToks ex.choose) := dif_pos ex
  obtain ⟨_, bs, r2⟩ := ex.choose_spec
  rw [eq1, (Reads.unique r2 _ _ r).1]
/-- rows that can be sorted: tuples with a first part, the first parts alike, each two comparable -/
structure RowsCmp (ds : List PyData) : Prop where
  form : ∀ d ∈ ds, ∃ x r, d = .tuple (x :: r)
  first : ∀ x r x2 r2, PyData.tuple (x :: r) ∈ ds → PyData.tuple (x2 :: r2) ∈ ds → alike x x2 = true
  cmp : ∀ xs ys, PyData.tuple xs ∈ ds → PyData.tuple ys ∈ ds → okCmp xs ys = true
theorem sorts_rows {vs : List Value} {ds : List PyData} (e : EachIs (fun v d => ∃ as, Reads s.heap v d as) vs ds) (W : RowsCmp ds) (hu : ∀ d, d ∈ ds → A.units + d.depth < cLine) : SortsAt prog w A s (dataKind s.heap ds) vs := by
  refine ⟨fun v hv => ?_, ?_⟩
  · obtain ⟨d, hd, as, r⟩ := e.left v hv
    exact ⟨_, key_of hd r⟩
  · cases hds : ds with
    | nil =>
      rw [hds] at e
      cases e
      exact ⟨general', fun E x y a b Q ha _ _ => (by obtain ⟨d, _, hd, _⟩ := PySem.W.dataKind_inv ha; exact absurd hd (by simp)), fun h2 => absurd h2 (by simp)⟩
    | cons d0 ds0 =>
      rw [← hds]
      have m0 : d0 ∈ ds := by rw [hds]; exact List.mem_cons_self
      obtain ⟨x0, r0, e0⟩ := W.form d0 m0
      have m0 : PyData.tuple (x0 :: r0) ∈ ds := by rw [← e0]; exact m0
      refine ⟨tuples' (dataType x0 != Value.type "tuple"), ?_, fun h2 E Q hq => ?_⟩
      · intro E x y a b Q ha hb hq
        obtain ⟨d, as, hd, ra, rfl⟩ := PySem.W.dataKind_inv ha
        obtain ⟨d2, as2, hd2, rb, rfl⟩ := PySem.W.dataKind_inv hb
        obtain ⟨x1, r1, rfl⟩ := W.form d hd
        obtain ⟨x2, r2, rfl⟩ := W.form d2 hd2
        have room : A.units + min (PyData.tuple (x1 :: r1)).depth (PyData.tuple (x2 :: r2)).depth < cLine := Nat.lt_of_le_of_lt (Nat.add_le_add_left (Nat.min_le_left _ _) _) (hu _ hd)
        have hq2 : Q (dataLt (.tuple (x1 :: r1)) (.tuple (x2 :: r2))) s := hq
        rw [PySem.W.dataLt_tuple] at hq2
        cases ra with
        | @tuple l o us n _ _ h1 h2 h3 h4 =>
          cases rb with
          | @tuple l2 o2 us2 n2 _ _ k1 k2 k3 k4 =>
            have z1 : us.size = (x1 :: r1).length := by simpa using SeqAt.ReadsAll.length _ _ _ h4
            have z2 : us2.size = (x2 :: r2).length := by simpa using SeqAt.ReadsAll.length _ _ _ k4
            refine PySem.W.kat_lt h1 h3 k1 k3 (kat_ok (prog := prog) (w := w) (A := A) (s := s) (x1 :: r1) (x2 :: r2) 0 _ _ _ _ h4 k4 (W.cmp _ _ hd hd2) (by have := SeqAt.room_in room; omega) (fun hb1 _ xx rr t ex => ?_) (by rw [z1, z2]) hq2)
            obtain ⟨rfl, rfl⟩ := List.cons.inj ex
            rw [← PySem.W.dataType_alike (W.first _ _ _ _ hd m0)] at hb1
            exact PySem.W.dataType_tuple hb1 t
      · obtain ⟨fs, t1, t2, t3⟩ := PySem.W.each_katTups e W.form
        refine PySem.W.kat_kind (T := dataType x0) t1 (by omega) (fun f hf => ?_) (beq_self_eq_true _) hq
        obtain ⟨xx, rr, as, m1, m2⟩ := t3 f hf
        rw [← PySem.W.dataType_alike (W.first _ _ _ _ m1 m0)]
        exact PySem.W.looks_reads m2
end
theorem perm_lift {α β : Type} (f : α → β) {out l : List β} (h : out.Perm l) : ∀ L : List α, L.map f = l → ∃ L2 : List α, L2.Perm L ∧ L2.map f = out := by
  induction h with
  | nil => intro L e; exact ⟨L, .refl _, e⟩
  | cons x _ ih =>
    intro L e
    cases L with
    | nil => cases e
    | cons y L =>
      obtain ⟨e1, e2⟩ := List.cons.inj e
      obtain ⟨L2, p2, m2⟩ := ih L e2
      exact ⟨y :: L2, p2.cons y, by rw [List.map_cons, m2, e1]⟩
  | swap x y l =>
    intro L e
    match L, e with
    | a :: b :: L, e =>
      obtain ⟨e1, e2⟩ := List.cons.inj e
      obtain ⟨e2, e3⟩ := List.cons.inj e2
      exact ⟨b :: a :: L, .swap a b L, by rw [List.map_cons, List.map_cons, e1, e2, e3]⟩
  | trans _ _ ih1 ih2 =>
    intro L e
    obtain ⟨L2, p2, m2⟩ := ih2 L e
    obtain ⟨L3, p3, m3⟩ := ih1 L2 m2
    exact ⟨L3, p3.trans p2, m3⟩
section
variable {X : Cx} {K : PySem.W.Frag}
theorem each_reads {pins : List (Addr × Obj)} {σ : L2.St} {H : Hp} {s : Shared} (I : Inv X pins σ H s) : ∀ {xs : List V} {its : List Value} {ds : List PyData}, Vals xs its → DpAll X.K H xs ds → ∃ L : List (Value × V × PyData), L.map (·.1) = its ∧ L.map (·.2.1) = xs ∧ L.map (·.2.2) = ds ∧ ∀ t ∈ L, RelV t.2.1 t.1 ∧ Dp X.K H t.2.1 t.2.2
  | _, _, _, .nil, .nil => ⟨[], rfl, rfl, rfl, fun _ h => (List.not_mem_nil h).elim⟩
  | _, _, _, .cons (a := x) (b := u) r rs, .cons (d := d) p ps => by
    obtain ⟨L, h1, h2, h3, h4⟩ := each_reads I rs ps
    refine ⟨(u, x, d) :: L, by rw [List.map_cons, h1], by rw [List.map_cons, h2], by rw [List.map_cons, h3], fun t ht => ?_⟩
    rcases List.mem_cons.mp ht with e | e
    · rw [e]; exact ⟨r, p⟩
    · exact h4 t e
/-- sorted of a list of rows: a new list of the same ones -/
def rSortedR (K : PySem.W.Frag) : List V → Hp → VK → Prop := fun vs H Q => ∃ (a : Addr) (xs : List V) (ds : List PyData), vs = [V.ref a] ∧ SqL K H a xs ∧ DpAll K H xs ds ∧ RowsCmp ds ∧ (∀ d ∈ ds, d.depth ≤ 60) ∧
  ∀ (zs : List V) (es : List PyData) (p : Addr), DpAll K H zs es → es.Perm ds → H p = none → Q (.ref p) (upd H p (.lst zs))
theorem cr_sortedR (hu : X.A.units + 70 < cLine) : CallR X (.builtin "sorted") (rSortedR X.K) := by
  intro pins s σ H vs0 us0 Q I r h
  obtain ⟨a, xs, ds, rfl, hs, da, W, dep, q⟩ := h
  obtain ⟨its, rv, hl, hz⟩ := I.list hs
  rw [Vals.ref1 r]
  obtain ⟨L, e1, e2, e3, all⟩ := each_reads I rv da
  have er : EachIs (fun v d => ∃ as, Reads s.heap v d as) its ds := by
    rw [← e1, ← e3]
    clear e1 e2 e3
    induction L with
    | nil => exact .nil
    | cons t L ih =>
      have ht := all t List.mem_cons_self
      exact .cons (Dp.reads I _ _ _ ht.2 ht.1) (ih fun x hx => all x (List.mem_cons_of_mem _ hx))
  have ll : its.length = xs.length := by rw [← e1, ← e2, List.length_map, List.length_map]
  have ln : its.length ≤ sizeLine := by rw [ll]; exact hz
  have er' : EachIs (fun v d => ∃ as, Reads (sortingHeap (copyHeap s.heap its) (s.heap.objs.size + 1) its) v d as) its ds := er.mono fun _ _ ⟨as, r⟩ => ⟨as, PyProof.Rows.Reads.keeps (fun _ _ => PySem.W.sorting_copy_old) r⟩
  have S := sorts_rows (prog := X.prog) (w := X.w) (A := X.A.in1.in1) (s := { s with heap := sortingHeap (copyHeap s.heap its) (s.heap.objs.size + 1) its }) er' W (fun d hd => by have := dep d hd; simp only [Around.in1]; omega)
  refine PySem.W.sorted_vals hl.isList S ln ?_
  generalize eo : sortVals _ false its its = out
  have po : out.Perm its := by
    rw [← eo]
    unfold sortVals
    have := (List.mergeSort_perm (its.zip its) (sortLe (dataKind (sortingHeap (copyHeap s.heap its) (s.heap.objs.size + 1) its) ds).toKeyOrd false fun p : Keyed => PySem.W.keyD (dataKind (sortingHeap (copyHeap s.heap its) (s.heap.objs.size + 1) its) ds) p.1)).map Prod.snd
    rw [List.map_snd_zip (Nat.le_refl _)] at this
    exact this
  obtain ⟨L2, p2, m2⟩ := perm_lift (·.1) po L e1
  have rv2 : Vals (L2.map (·.2.1)) out := by
    rw [← m2]
    clear m2
    have hh : ∀ t ∈ L2, RelV t.2.1 t.1 := fun t ht => (all t (p2.mem_iff.mp ht)).1
    clear p2
    induction L2 with
    | nil => exact .nil
    | cons t L2 ih => exact .cons (hh t List.mem_cons_self) (ih fun x hx => hh x (List.mem_cons_of_mem _ hx))
  have dp2 : DpAll X.K H (L2.map (·.2.1)) (L2.map (·.2.2)) := by
    have hh : ∀ t ∈ L2, Dp X.K H t.2.1 t.2.2 := fun t ht => (all t (p2.mem_iff.mp ht)).2
    clear p2 m2 rv2
    induction L2 with
    | nil => exact .nil
    | cons t L2 ih => exact .cons (hh t List.mem_cons_self) (ih fun x hx => hh x (List.mem_cons_of_mem _ hx))
  have pd : (L2.map (·.2.2)).Perm ds := by rw [← e3]; exact p2.map _
  obtain ⟨ep, hat⟩ := PyProof.Rows.sortedAll_at s.heap its out.toArray
  have fr : H (s.heap.objs.size + 1) = none := I.hok.fresh (Nat.le_succ _)
  exact ⟨.ref _, upd H (s.heap.objs.size + 1) (.lst (L2.map (·.2.1))), I.laid (t' := s.toks) (fun _ _ => PyProof.Rows.sortedAll_old) (Nat.le_succ _) ⟨by rw [List.length_map, p2.length_eq, ← List.length_map (f := fun x : Value × V × PyData => x.1), e1]; exact ln, out, ep, rv2, hat⟩, rfl, q _ _ _ dp2 pd fr⟩
theorem kc_sortedR (hu : X.A.units + 70 < cLine) (h : X.K = K := by rfl) : CallR X (.builtin "sorted") (rSortedR K) := h ▸ cr_sortedR hu
end
end Pot

namespace Pot
open PySem PySem.Spec PyProof.Rows L2
/-! ### dicts whose keys are tuples: one written with one pair, the greatest of the values -/
def tDispT (tk tv : TE) : TE := fun σ H Q => ∀ p, H p = none → tk σ (upd H p (.dT [])) fun x H1 => tv σ H1 fun y H2 => ∃ (b : Addr) (k : List Key), x = .ref b ∧ H2 b = some (.tup (k.map kV)) ∧ H2 p = some (.dT []) ∧ Q (.ref p) (upd H2 p (.dT [(k, y)]))
def rValsT : V → List V → Hp → VK → Prop := fun x xs H Q => ∃ (a : Addr) (kvs : List (List Key × V)), x = .ref a ∧ xs = [] ∧ H a = some (.dT kvs) ∧ ∀ p, H p = none → Q (.ref p) (upd H p (viewO "dict_values" p a))
def rMaxT : List V → Hp → VK → Prop := fun xs H Q => ∃ (p a : Addr) (kvs : List (List Key × V)) (ns : List Int), xs = [.ref p] ∧ H p = some (viewO "dict_values" p a) ∧ H a = some (.dT kvs) ∧ kvs.map Prod.snd = ns.map V.int ∧ 0 < ns.length ∧ ∀ m, m ∈ ns → (∀ y, y ∈ ns → y ≤ m) → Q (.int m) H
section
variable {X : Cx}
theorem pe_dispT {k v : Expr} {pos : Pos} {tk tv : TE} (hu : X.A.units + 1 < cLine) (hk : PE X k tk) (hv : PE X v tv) : PE X (.Dict [some k] [v] pos) (tDispT tk tv) := by
  refine ⟨fun pins s σ H Q I q => ?_⟩
  have fresh := I.hok.fresh (Nat.le_refl s.heap.objs.size)
  have J := I.laid (t' := s.toks) (a := s.heap.objs.size) (o := .dT []) (h' := s.heap.push { cls := .type "dict", data := .dict #[] }) (fun _ _ z => Heap.get?_push_of_some _ z) (Nat.le_refl _) (dt_empty s.heap I.big)
  have two : PPs X pos [some k] [v] [(tk, tv)] := pps_cons hk hv pps_nil
  rw [arm_eval_Dict, zip_pairTrees [some k] [v] X.env pos rfl rfl, dictDisplay_pairs _ (by exact List.cons_ne_nil _ _) (by exact Nat.le_of_ble_eq_true rfl)]
  have go := two.run pins _ σ _ (fun ps H2 => match ps with
    | [(x, y)] => ∃ (b : Addr) (k : List Key), x = .ref b ∧ H2 b = some (.tup (k.map kV)) ∧ H2 s.heap.objs.size = some (.dT []) ∧ Q (.ref s.heap.objs.size) (upd H2 s.heap.objs.size (.dT [(k, y)]))
    | _ => False) J (q _ fresh)
  refine wpAny_bind (wpAny_standAt (wpAny_bind (wpAny_subDictH (knd := tupleKind (mixKind X.prog X.w)) (Q := fun d s2 => wpAny (model X.prog X.w) X.A (pure (Value.ref d)) (EP X pins σ Q) X.xe s2) (show X.A.units < cLine by omega) (by exact Nat.le_of_ble_eq_true rfl) (thn go fun ws s2 res => ?_))))
  obtain ⟨ps, H2, I2, rel, z⟩ := res
  cases rel with
  | nil => exact z.elim
  | @cons a0 b0 as bs r0 t =>
    cases t with
    | cons _ _ => exact z.elim
    | nil =>
      obtain ⟨x, y⟩ := a0
      obtain ⟨u, r⟩ := b0
      obtain ⟨r1, r2⟩ := r0
      obtain ⟨b, ks, rfl, hb, hd, z⟩ := z
      obtain rfl : u = Value.ref b := r1
      obtain ⟨small, sys, xs, kt, dd⟩ := dt_of I2.hok hd
      cases kt
      refine ⟨[(ks, b, r)], ⟨rfl, rfl, L2.key_of I2.hok hb, trivial⟩, dd, fun h2 tk dd2 only => wpAny_pure ?_⟩
      obtain ⟨o, es, ep, at_, c1, c2, c3, c4, c5⟩ := dd2
      have J2 := d_write (t' := tk) I2 (by rw [hd]; exact True.intro) only ⟨o, at_⟩ (ob := .dT [(ks, y)]) ⟨by show 1 ≤ sizeLine; decide, sys, _, .cons ⟨rfl, by rw [upd_ne (ne_of hb hd (fun w => nomatch w))]; exact hb, r2⟩ .nil, o, es, ep, at_, c1, c2, c3, c5⟩
      exact ⟨.ref _, _, J2, rfl, z⟩
theorem mt_valuesT : MtR X "dict.values" rValsT := by
  intro pins s σ H x xs v us Q I rx rxs h
  obtain ⟨a, kvs, rfl, rfl, at_, q⟩ := h
  cases rx
  cases rxs
  obtain ⟨_, sys, xs, _, dd⟩ := dt_of I.hok at_
  obtain ⟨o, es, ep, lies, c1, c2, _⟩ := id dd
  refine call_meetsIn PySem.F.slot_dict_values dd.typeIs PySem.F.entry_dict_values (PySem.F.args_dict_values_1 _) (meets_dict_values_raw a sys) ⟨⟨es, ep, o, lies, c1, c2⟩, ?_⟩
  exact ⟨.ref s.heap.objs.size, _, I.laid (t' := s.toks) (fun _ _ z => Heap.get?_push_of_some _ z) (Nat.le_refl _) (viewO_ok (Heap.get?_push_size _ rfl)), rfl, q _ (I.hok.fresh (Nat.le_refl _))⟩
theorem mates {α β : Type} {F : α → β → Prop} : ∀ {l : List α} {m : List β} {i : Nat} {y : β}, Paired F l m → m[i]? = some y → ∃ x, l[i]? = some x ∧ F x y
  | _, _, i, y, .nil, g => by simp at g
  | _, _, 0, y, .cons (a := x) f _, g => ⟨x, rfl, by cases g; exact f⟩
  | _, _, i + 1, y, .cons _ t, g => mates (i := i) t g
theorem cr_maxT (hc : X.calm = true) : CallR X (.builtin "max") rMaxT := by
  intro pins s σ H xs us Q I rx h
  obtain ⟨p, a, kvs, ns, rfl, view, at_, vals, some_, q⟩ := h
  rw [Vals.ref1 rx]
  have hv : s.heap.get? p = some (DSub.viewOb "dict_values" a) := (show ObjOk X.prog X.w H s.heap p (viewO "dict_values" p a) from I.hok p _ view).1
  obtain ⟨_, sys, xs, kt, dd⟩ := dt_of I.hok at_
  obtain ⟨o, es, ep, lies, c1, c2, c3, c4, c5⟩ := id dd
  have n1 : kvs.length = ns.length := by simpa using congrArg List.length vals
  have n2 : xs.length = kvs.length := (Paired.length kt).symm
  have n3 : es.size = ns.length := by rw [size_of_entries c3]; omega
  have val : ∀ (i : Nat) (e : DictEntry), es[i]? = some e → ∃ t, e.val = .int (ns.getD i 0) t := fun i e g => by
    rw [entry_at c3, Option.map_eq_some_iff] at g
    obtain ⟨y, gy, rfl⟩ := g
    obtain ⟨x, gx, f⟩ := mates kt gy
    have g2 : (kvs.map Prod.snd)[i]? = some x.2 := by rw [List.getElem?_map, gx]; rfl
    rw [vals, List.getElem?_map, Option.map_eq_some_iff] at g2
    obtain ⟨n, gn, ex⟩ := g2
    have r := f.2.2
    rw [← ex] at r
    obtain ⟨t, et⟩ := r
    refine ⟨t, ?_⟩
    rw [List.getD_eq_getElem?_getD, gn]
    exact et
  have la : a < s.heap.objs.size := Heap.lt_size lies
  refine call_max_walk (DSub.iter_vals hv lies c2 ?_)
  refine ⟨s.heap.objs.size, [s.heap.objs.size, a], [s.heap.objs.size], es.size, fun i v => ∃ t, v = .int (ns.getD i 0) t, _, fun i j => decide (ns.getD i 0 > ns.getD j 0), rfl, DSub.walksVal (a := a) (show X.A.in1.handled = none from I.ok.hd hc) (Nat.ne_of_lt la) c2 val, ⟨Heap.get?_push_size _ rfl, Heap.get?_push_of_some _ lies⟩, fun b hb => ?_, by omega, CmpOf.ints_gt (fun i => ns.getD i 0) (fun i v z => z), fun v h2 tk is_ keep => ?_⟩
  · show b < (s.heap.push _).objs.size
    rw [Heap.size_push]
    rcases List.mem_cons.mp hb with e | e
    · exact e ▸ Nat.lt_succ_self _
    · exact List.mem_singleton.mp e ▸ Nat.lt_succ_of_lt la
  · obtain ⟨t, rfl⟩ := is_
    obtain ⟨b1, b2⟩ := argBest_gt (fun i => ns.getD i 0) (es.size - 1)
    refine ⟨.int _, H, I.kept (t' := tk) fun b u g => keep b u (fun m => ?_) (Heap.get?_push_of_some _ g), ⟨t, rfl⟩, q _ ?_ fun y hy => ?_⟩
    · rw [List.mem_singleton.mp m] at g
      exact absurd (Heap.lt_size g) (Nat.lt_irrefl _)
    · have lb : argBest (fun i j => decide (ns.getD i 0 > ns.getD j 0)) (es.size - 1) ≤ es.size - 1 := b1
      exact PySem.getD_mem (by omega)
    · obtain ⟨j, lj, e⟩ := List.mem_iff_getElem.mp hy
      have top : ns.getD j 0 ≤ ns.getD (argBest (fun i j => decide (ns.getD i 0 > ns.getD j 0)) (es.size - 1)) 0 := b2 j (by omega)
      have g : ns.getD j 0 = y := by rw [List.getD_eq_getElem?_getD, List.getElem?_eq_getElem lj, ← e]; rfl
      rw [g] at top
      exact top
end
end Pot

/-! own classes: len(x) by an own __len__, x == y and x != y by an own __eq__ -/
namespace OwnR
open PySem PySem.Spec PyProof.Rows PySem.Calls
section
variable {prog : Program} {w : World} {A : Around} {E : Value → Shared → Prop} {s : Shared} {K : PySem.W.Frag} {x C f : Addr} {ox : Obj} {odd : Option Obj} {b tb : Value}
theorem len_own {Q : Value → Shared → Prop} (X : K.In s.heap) (I : PySem.W.InstAt s.heap x ox C odd) (hs : PySem.W.findIn K (.ref C) "__len__" = some (some (.ref f))) (hf : PySem.W.isFn K (.ref f) = true)
    (h : wpAny (model prog w) A.in1 (call (.ref f) [.ref x]) (fun r s₁ => ∃ (n : Int) (t : Tok), r = Value.int n t ∧ 0 ≤ n ∧ n < 2 ^ 63 ∧ Q (.int n s₁.toks) { s₁ with toks := s₁.toks + 1 }) E s) : wpAny (model prog w) A (call (.builtin "len") [.ref x]) Q E s := by
  refine call_function_entry kind_len plain_len entry_len (args_len1 _) ?_
  unfold Builtin.«len»
  refine wpAny_bind (m := oneArg "len" _) (wpAny_pure ?_)
  refine wpAny_bind (m := callSpecial? (.ref x) (Str.ofString "__len__")) (PySem.W.special_fn X I hs (beq_iff_eq.mp hf) (wpAny_mono h (fun r s' hr => ?_) fun _ _ y => y))
  obtain ⟨n, t, rfl, h0, h1, hq⟩ := hr
  refine wpAny_bind (wpAny_holding (wpAny_pure ?_))
  refine wpAny_bind (wpAny_letGo ?_)
  show wpAny _ _ (if n < 0 then _ else _) _ _ _
  rw [if_neg (by omega)]
  show wpAny _ _ (if n ≥ 2 ^ 63 then _ else _) _ _ _
  rw [if_neg (by omega)]
  exact wpAny_bind (wpAny_mkInt (wpAny_pure ⟨_, rfl, hq⟩))
theorem ifBound_ne {M : Model} {args : List Value} {Q : Option Value → Shared → Prop} {od : Option Obj} (X : K.In s.heap) (I : PySem.W.InstAt s.heap x ox C od) (hs : PySem.W.findIn K (.ref C) "__ne__" = some (some (.builtin "object.__ne__")))
    (h : wpAny M A (call (.builtin "object.__ne__") (.ref x :: args)) (fun v => Q (some v)) E s) : wpAny M A (callSpecialIfBound? (.ref x) "__ne__" args) Q E s := by
  simp only [callSpecialIfBound?, bindSpecialIfBound?]
  refine wpAny_holding (wpAny_bind (wpAny_bind (wpAny_bind (I.type.here ((PySem.W.looks_findIn X hs).here ?_)))))
  refine wpAny_bind (wpAny_askSetting (wpAny_ite ?_))
  have ends : wpAny M A (call (.builtin "object.__ne__") ([.ref x] ++ args) >>= fun v => pure (some v)) Q E s := wpAny_bind (wpAny_mono h (fun v s' h' => wpAny_pure h') fun _ _ h' => h')
  split
  · exact wpAny_bind (wpAny_of_eq (F.cmp_object.ne.bind _) (wpAny_pure (by exact ends)))
  · exact wpAny_tryCatch (wpAny_bind (wpAny_of_eq (F.cmp_object.ne.bind _) (wpAny_pure (by exact ends))))
theorem obj_ne {Q : Value → Shared → Prop} {od : Option Obj} {y : Value} (hu : A.in1.units < cLine) (X : K.In s.heap) (I : PySem.W.InstAt s.heap x ox C od) (hm : PySem.W.mroIn K C (.type "object") = some true) (he : PySem.W.findIn K (.ref C) "__eq__" = some (some (.ref f))) (hf : PySem.W.isFn K (.ref f) = true)
    (h : wpAny (model prog w) A.in1 (call (.ref f) [.ref x, y]) (fun v s' => ∃ b, v = .bool b ∧ Q (.bool (!b)) s') E s) : wpAny (model prog w) A (call (.builtin "object.__ne__") [.ref x, y]) Q E s := by
  refine wpAny_call (codeAny_call_builtin F.cmp_object.ne.plain F.cmpEntry_ne (PySem.W.check_slot F.cmpKind_ne F.cmpSplit_ne (I.type.andThen (PySem.W.looks_mroIn X hm)) (F.cmpArgs_ne _ _) ?_))
  unfold Builtin.«object.__ne__»
  refine wpAny_bind (m := slotArgs "__ne__" 1 _) (wpAny_pure ?_)
  refine wpAny_bind (m := cRoomFor _ _) (wpAny_cRoomFor hu ?_)
  refine wpAny_bind (m := callSpecialIfBound? (.ref x) (Str.ofString "__eq__") _) (PySem.W.ifBound_K X I he hf (wpAny_mono h (fun r s' hq => ?_) fun _ _ y => y))
  obtain ⟨b, rfl, q⟩ := hq
  exact wpAny_bind (m := truthy (.bool _)) (wpAny_truthy_bool (wpAny_pure q))
theorem cmp_ne {Q : Value → Shared → Prop} {od : Option Obj} {h₀ : Heap} {L : Addr} {m : Str → Option Value} (hu : A.units + 2 < cLine) (F : Fr h₀ L s.heap m) (X₀ : K.In h₀) (I : PySem.W.InstAt s.heap x ox C od) (hb : PySem.W.Looks (model prog w) s.heap (typeOf b) tb) (hn : PySem.W.notFirst K C tb = true)
    (hm : PySem.W.mroIn K C (.type "object") = some true) (hs : PySem.W.findIn K (.ref C) "__ne__" = some (some (.builtin "object.__ne__"))) (he : PySem.W.findIn K (.ref C) "__eq__" = some (some (.ref f))) (hf : PySem.W.isFn K (.ref f) = true)
    (h : wpAny (model prog w) A.in1 (call (.ref f) [.ref x, b]) (fun v s' => ∃ b, v = .bool b ∧ Q (.bool (!b)) s') E s) : wpAny (model prog w) A (richCompare .NotEq (.ref x) b) Q E s := by
  have X := X₀.keeps F.keep
  have one : wpAny (model prog w) A (tryCompare (.ref x) "__ne__" b) (fun r s' => ∃ v, r = some v ∧ Q v s') E s := by
    unfold tryCompare
    refine wpAny_bind (ifBound_ne X I hs (obj_ne (by show A.units + 1 < cLine; omega) X I hm he hf (wpAny_mono h (fun v s' hv => ?_) fun _ _ e => e)))
    obtain ⟨c, rfl, q⟩ := hv
    exact ⟨c, rfl, wpAny_pure ⟨_, rfl, q⟩⟩
  unfold richCompare
  simp only [oneThing_ref]
  refine wpAny_holding (wpAny_bind (wpAny_cRoomFor (by omega) ?_))
  refine wpAny_bind (I.type.here (wpAny_bind (hb.here ?_)))
  rw [cmpInfo_NotEq]
  dsimp only
  split
  · rename_i q
    have e : PySem.W.subIn K tb (.ref C) = some false := by
      rcases Bool.or_eq_true_iff.mp hn with e | e
      · rw [beq_iff_eq.mp e] at q; simp at q
      · exact beq_iff_eq.mp e
    refine wpAny_bind ((PySem.W.looks_subIn X e).here ?_)
    simp only [Bool.false_eq_true, if_false]
    refine wpAny_bind (wpAny_mono one (fun r s' z => ?_) fun _ _ e => e)
    obtain ⟨v, rfl, hq⟩ := z
    exact wpAny_pure hq
  · refine wpAny_bind (wpAny_pure ?_)
    simp only [Bool.false_eq_true, if_false]
    refine wpAny_bind (wpAny_mono one (fun r s' z => ?_) fun _ _ e => e)
    obtain ⟨v, rfl, hq⟩ := z
    exact wpAny_pure hq
end
end OwnR
namespace L2
open PySem PySem.Spec PyProof.Rows
section
variable {X : Cx} {CX : CXT} {C g : Addr} {n : Nat} {sp : Sp} {E : XK}
/-- len(x), x of the class at C, whose __len__ is at g -/
def rLenI (C : Addr) (sp : Sp) (E : XK) : List V → Hp → VK → Prop := fun xs H Q => ∃ (a dx : Addr) (fs : List (Str × V)), xs = [V.ref a] ∧ H a = some (.ins C dx fs) ∧ sp [.ref a] H (fun z H' => ∃ m : Nat, z = .int (m : Nat) ∧ m < 2 ^ 40 ∧ Q z H') E
theorem call_lenI (hs : PySem.W.findIn X.K (.ref C) "__len__" = some (some (.ref g))) (hf : PySem.W.isFn X.K (.ref g) = true) (F : FnR X.prog X.w X.K X.mg X.base CX n g sp) (hr : Room (n + 1) X.A) (hx : Passes CX X E) : CallR X (.builtin "len") (rLenI C sp E) := by
  intro pins s σ H xs us Q I r h
  obtain ⟨a, dx, fs, rfl, ha, q⟩ := h
  obtain ⟨u, rfl, ru⟩ := r.one
  cases (show u = Value.ref a from ru)
  obtain ⟨mA, J, _⟩ := ins_get I.hok ha
  obtain ⟨od, J, _⟩ := J.look
  have hr2 : Room n X.A.in1 := hr.in1
  refine OwnR.len_own I.kIn J hs hf (wpAny_mono (wpAny_call (SlX.run_at (us := [.ref a]) (ws := [.ref a]) F hr2 I.env0.in1 hx I (.cons rfl .nil) q)) (fun w s' z => ?_) fun _ _ x => x)
  obtain ⟨z', H', I', rz, i, ei, hi, qz⟩ := z
  subst ei
  obtain ⟨t, e⟩ := (show ∃ t, w = Value.int _ t from rz)
  cases e
  exact ⟨_, t, rfl, by omega, by omega, .int _, H', I'.tok _, ⟨_, rfl⟩, qz⟩
/-- x == y, x of the class at C, whose __eq__ is at g; y an instance, not of a class below C -/
def rEqI (K : PySem.W.Frag) (C : Addr) (sp : Sp) (E : XK) : R2 := fun x y H Q => ∃ (a dx : Addr) (fs : List (Str × V)) (b C' dy : Addr) (gs : List (Str × V)), x = .ref a ∧ y = .ref b ∧ H a = some (.ins C dx fs) ∧ H b = some (.ins C' dy gs) ∧ PySem.W.notFirst K C (.ref C') = true ∧ sp [x, y] H (fun z H' => ∃ c, z = .bl c ∧ Q (.bl c) H') E
theorem op_eqI (hs : PySem.W.findIn X.K (.ref C) "__eq__" = some (some (.ref g))) (hf : PySem.W.isFn X.K (.ref g) = true) (F : FnR X.prog X.w X.K X.mg X.base CX n g sp)
    (hr : Room n X.A) (hx : Passes CX X E) : OpR X (compareOp .Eq) (rEqI X.K C sp E) := by
  intro pins s σ H x y v u Q I rx ry h
  obtain ⟨a, dx, fs, b, C', dy, gs, rfl, rfl, ha, hb, hn, q⟩ := h
  cases (show v = Value.ref a from rx)
  cases (show u = Value.ref b from ry)
  obtain ⟨mA, J, _⟩ := ins_get I.hok ha
  obtain ⟨od, J, _⟩ := J.look
  obtain ⟨mB, J', _⟩ := ins_get I.hok hb
  obtain ⟨od', J', _⟩ := J'.look
  obtain ⟨m, hF⟩ := I.fr
  show wpAny (model X.prog X.w) X.A (richCompare .Eq (.ref a) (.ref b)) (EP X pins σ Q) X.xe s
  refine PySem.W.cmp_K (op := .Eq) (tb := .ref C') hr.units0 hF I.ok.mod.kin J J'.type hn hs hf ?_
  refine wpAny_mono (wpAny_call (run_fnR (us := [.ref a, .ref b]) (vs := [.ref a, .ref b]) F hr hx I (.cons rfl (.cons rfl .nil)) q)) (fun w s' z => ?_) fun _ _ x => x
  obtain ⟨z', H', I', rz, c, ec, qz⟩ := z
  subst ec
  exact SlX.cmpback rz ⟨.bl c, H', I', rz, qz⟩
/-- what != asks of a class with an __eq__ alone -/
structure NeK (K : PySem.W.Frag) (C : Addr) : Prop where
  ob : PySem.W.mroIn K C (.type "object") = some true
  ne : PySem.W.findIn K (.ref C) "__ne__" = some (some (.builtin "object.__ne__"))
theorem op_neI (hN : NeK X.K C) (hs : PySem.W.findIn X.K (.ref C) "__eq__" = some (some (.ref g))) (hf : PySem.W.isFn X.K (.ref g) = true) (F : FnR X.prog X.w X.K X.mg X.base CX n g sp)
    (hr : Room (n + 1) X.A) (hu : X.A.units + 2 < cLine) (hx : Passes CX X E) : OpR X (compareOp .NotEq) (rEqI X.K C (fun vs H Q E => sp vs H (fun z H' => ∃ c, z = .bl c ∧ Q (.bl (!c)) H') E) E) := by
  intro pins s σ H x y v u Q I rx ry h
  obtain ⟨a, dx, fs, b, C', dy, gs, rfl, rfl, ha, hb, hn, q⟩ := h
  cases (show v = Value.ref a from rx)
  cases (show u = Value.ref b from ry)
  obtain ⟨mA, J, _⟩ := ins_get I.hok ha
  obtain ⟨od, J, _⟩ := J.look
  obtain ⟨mB, J', _⟩ := ins_get I.hok hb
  obtain ⟨od', J', _⟩ := J'.look
  obtain ⟨m, hF⟩ := I.fr
  show wpAny (model X.prog X.w) X.A (richCompare .NotEq (.ref a) (.ref b)) (EP X pins σ Q) X.xe s
  refine OwnR.cmp_ne (tb := .ref C') hu hF I.ok.mod.kin J J'.type hn hN.ob hN.ne hs hf ?_
  refine wpAny_mono (wpAny_call (SlX.run_at (us := [.ref a, .ref b]) (ws := [.ref a, .ref b]) F hr.in1 I.env0.in1 hx I (.cons rfl (.cons rfl .nil)) q)) (fun w s' z => ?_) fun _ _ x => x
  obtain ⟨z', H', I', rz, c, ec, c2, ec2, qz⟩ := z
  subst ec
  cases (show w = Value.bool c from rz)
  cases ec2
  exact ⟨c, rfl, .bl (!c), H', I', rfl, qz⟩
end
/-- the class at C has a method m of its own, with a promise -/
structure Own (P : Program) (w : World) (K : PySem.W.Frag) (mg : Str → Option Value) (base : Heap) (k : Nat) (C : Addr) (m : Str) (sp : Sp) : Prop where
  ex : ∃ g : Addr, PySem.W.findIn K (.ref C) m = some (some (.ref g)) ∧ PySem.W.isFn K (.ref g) = true ∧ FnR P w K mg base CX0 k g sp
theorem own_of {P : Program} {w : World} {K : PySem.W.Frag} {mg : Str → Option Value} {base : Heap} {k : Nat} {C g : Addr} {m : Str} {sp : Sp} {fd : FuncData} {ps : List Str} (M : Meth K C m g) (F : FnOk P w K mg base CX0 k g fd ps sp) (b : Binds K fd ps []) : Own P w K mg base k C m sp :=
  ⟨g, M.at_, M.fn, by
    have z := F.raw b .nil

    exact z.imp fun vs H Q E h => (by show sp (vs ++ []) H Q E; rw [List.append_nil]; exact h)⟩
section
variable {X : Cx} {k j : Nat} {C : Addr} {sp : Sp}
theorem kc_lenI (c : Own X.prog X.w X.K X.mg X.base k C "__len__" sp) (hr : Room j X.A) (hk : k + 1 ≤ j) : CallR X (.builtin "len") (rLenI C sp E0) := by
  obtain ⟨g, h1, h2, F⟩ := c.ex
  exact call_lenI h1 h2 F (hr.mono hk) pass0
theorem ko_eqI (c : Own X.prog X.w X.K X.mg X.base k C "__eq__" sp) (hr : Room j X.A) (hk : k ≤ j) : OpR X (compareOp .Eq) (rEqI X.K C sp E0) := by
  obtain ⟨g, h1, h2, F⟩ := c.ex
  exact op_eqI h1 h2 F (hr.mono hk) pass0
theorem ko_neI (c : Own X.prog X.w X.K X.mg X.base k C "__eq__" sp) (hN : NeK X.K C) (hr : Room j X.A) (hk : k + 1 ≤ j) (hu : X.A.units + 64 < cLine) : OpR X (compareOp .NotEq) (rEqI X.K C (fun vs H Q E => sp vs H (fun z H' => ∃ c, z = .bl c ∧ Q (.bl (!c)) H') E) E0) := by
  obtain ⟨g, h1, h2, F⟩ := c.ex
  exact op_neI hN h1 h2 F (hr.mono hk) (by omega) pass0
end
/-- the class at C may be made by its name x; its __init__ promises sp; dvs fill up what is left out -/
structure OMak (P : Program) (w : World) (K : PySem.W.Frag) (mg : Str → Option Value) (base : Heap) (k : Nat) (x : Str) (C : Addr) (sp : Sp) (dvs : List V) : Prop where
  parts : ∃ (g : Addr) (fd : FuncData) (ps : List Str) (ds : List Value), Mk K C g ∧ FnOk P w K mg base CX0 k g fd ps sp ∧ mg x = some (.ref C) ∧ Binds K fd ps ds ∧ Vals dvs ds
/-- a method m of the class at C may be called -/
structure OMet (P : Program) (w : World) (K : PySem.W.Frag) (mg : Str → Option Value) (base : Heap) (k : Nat) (C : Addr) (m : Str) (sp : Sp) (dvs : List V) : Prop where
  parts : ∃ (g : Addr) (fd : FuncData) (ps : List Str) (ds : List Value), Cls K C ∧ Meth K C m g ∧ FnOk P w K mg base CX0 k g fd ps sp ∧ Binds K fd ps ds ∧ Vals dvs ds
section
variable {X : Cx} {k j : Nat} {C : Addr} {x m : Str} {sp : Sp} {dvs : List V} {p pos apos : Pos} {a e o : Expr} {es : List Expr} {ta : TE} {t : TA}
theorem pe_omk (c : OMak X.prog X.w X.K X.mg X.base k x C sp dvs) (room : Room j X.A) (le : k + 1 ≤ j) (gl : Gl X x) (args : PA X (a :: es) t) (nodb : (x == ("__debug__" : Str)) = false := by decide)
    (star : starEach (a :: es) X.env = (false, eval a X.env) :: starEach es X.env := by rfl) (plain : (backTo pos (starEach es X.env)).any (·.1) = false := by rfl) : PE X (.Call (.Name x p) (a :: es) [] pos) (tMake C sp dvs E0 t) := by
  obtain ⟨g, fd, ps, ds, M, F, hm, b, v⟩ := c.parts
  exact pe_make M F (room.mono le) gl hm b v pass0 args nodb star plain
theorem pe_omt {pl : Sem Bool} (c : OMet X.prog X.w X.K X.mg X.base k C m sp dvs) (room : Room j X.A) (le : k ≤ j) (ho : PE X o ta) (args : PA X (a :: es) t)
    (star : starEach (a :: es) X.env = (false, eval a X.env) :: starEach es X.env := by rfl) (plain : (backTo pos (starEach es X.env)).any (·.1) = false := by rfl)
    (way : eval (.Call (.Attribute o m apos) (a :: es) [] pos) X.env = (do let ov ← eval o X.env; standAt apos.atName; let (g, first) ← holding [ov] (getMethod ov m pl); callWith pos g first (backTo pos (starEach (a :: es) X.env)) (backToKw pos (keywordEach [] X.env))) := by rfl) :
    PE X (.Call (.Attribute o m apos) (a :: es) [] pos) (tMeth C m sp dvs E0 ta t) := by
  obtain ⟨g, fd, ps, ds, hc, hm, F, b, v⟩ := c.parts
  exact pe_meth (pl := pl) ho hc hm F (room.mono le) b v pass0 args star plain way
theorem pe_omt0 {pl : Sem Bool} (c : OMet X.prog X.w X.K X.mg X.base k C m sp dvs) (room : Room j X.A) (le : k ≤ j) (ho : PE X o ta)
    (way : eval (.Call (.Attribute o m apos) [] [] pos) X.env = (do let ov ← eval o X.env; standAt apos.atName; let (g, first) ← holding [ov] (getMethod ov m pl); callWith pos g first (backTo pos (starEach [] X.env)) (backToKw pos (keywordEach [] X.env))) := by rfl) :
    PE X (.Call (.Attribute o m apos) [] [] pos) (tMeth C m sp dvs E0 ta tNil) := by
  obtain ⟨g, fd, ps, ds, hc, hm, F, b, v⟩ := c.parts
  exact pe_meth0 (pl := pl) ho hc hm F (room.mono le) b v pass0 way
theorem ke_fld {K : PySem.W.Frag} {f : Str} (ho : PE X o ta) (hb : attributeBase o f X.env (eval o X.env) = eval o X.env := by rfl) (h : X.K = K := by rfl) : PE X (.Attribute o f pos) (tFld K ta f) := h ▸ pe_fld ho hb
end
end L2

namespace Pot
open PySem PySem.Spec PyProof.Rows L2
open PySem.W (sortingHeap copyHeap sortLe alike alikeAll dataLt dataLe EachIs AllAlike Sortable)
section
variable {X : Cx} {K : PySem.W.Frag}
/-! ### two data of one form told apart by their order -/
theorem op_ltD (hu : X.A.units + 70 < cLine) : OpR X (compareOp .Lt) (fun x y H Q => ∃ da db, Dp X.K H x da ∧ Dp X.K H y db ∧ alike da db = true ∧ da ≠ .none ∧ da.depth ≤ 60 ∧ Q (.bl (dataLt da db)) H) := by
  intro pins s σ H x y v u Q I rx ry h
  obtain ⟨da, db, d1, d2, al, nn, dep, q⟩ := h
  obtain ⟨as, r1⟩ := Dp.reads I _ _ _ d1 rx
  obtain ⟨bs, r2⟩ := Dp.reads I _ _ _ d2 ry
  exact PySem.W.lt_data r1 r2 al nn (Nat.lt_of_le_of_lt (Nat.add_le_add_left (Nat.min_le_left _ _) _) (by omega)) ⟨.bl _, H, I, rfl, q⟩
theorem ko_ltD (hu : X.A.units + 70 < cLine) (h : X.K = K := by rfl) : OpR X (compareOp .Lt) (fun x y H Q => ∃ da db, Dp K H x da ∧ Dp K H y db ∧ alike da db = true ∧ da ≠ .none ∧ da.depth ≤ 60 ∧ Q (.bl (dataLt da db)) H) := h ▸ op_ltD hu
/-! ### sorted of rows, told by what they stand for -/
def rSortedE {β : Type} (K : PySem.W.Frag) (enc : β → PyData) : List V → Hp → VK → Prop := fun vs H Q => ∃ (a : Addr) (xs : List V) (bs : List β), vs = [V.ref a] ∧ SqL K H a xs ∧ DpAll K H xs (bs.map enc) ∧
  ∀ (zs : List V) (p : Addr), DpAll K H zs ((bs.mergeSort (dataLe false enc)).map enc) → H p = none → Q (.ref p) (upd H p (.lst zs))
theorem each_dp {β : Type} {enc : β → PyData} {pins : List (Addr × Obj)} {σ : L2.St} {H : Hp} {s : Shared} (I : Inv X pins σ H s) : ∀ {bs : List β} {xs : List V} {its : List Value}, Vals xs its → DpAll X.K H xs (bs.map enc) →
    EachIs (fun v b => ∃ x, RelV x v ∧ Dp X.K H x (enc b)) its bs ∧ EachIs (fun v b => ∃ as, Reads s.heap v (enc b) as) its bs
  | [], _, _, r, d => by
    cases d
    cases r
    exact ⟨.nil, .nil⟩
  | b :: bs, _, _, r, d => by
    cases d with
    | cons p ps =>
      cases r with
      | cons q qs =>
        obtain ⟨e1, e2⟩ := each_dp I qs ps
        exact ⟨.cons ⟨_, q, p⟩ e1, .cons (Dp.reads I _ _ _ p q) e2⟩
theorem dp_each {β : Type} {enc : β → PyData} {H : Hp} : ∀ {bs : List β} {its : List Value}, EachIs (fun v b => ∃ x, RelV x v ∧ Dp K H x (enc b)) its bs → ∃ xs, Vals xs its ∧ DpAll K H xs (bs.map enc)
  | _, _, .nil => ⟨[], .nil, .nil⟩
  | _, _, .cons ⟨x, r, d⟩ e => by
    obtain ⟨xs, rs, ds⟩ := dp_each e
    exact ⟨x :: xs, .cons r rs, .cons d ds⟩
theorem cr_sortedE {β : Type} {enc : β → PyData} (hu : X.A.units + 70 < cLine) (al : ∀ b b', alike (enc b) (enc b') = true) (tp : ∀ b, ∃ x r, enc b = .tuple (x :: r)) (dep : ∀ b, (enc b).depth ≤ 60) : CallR X (.builtin "sorted") (rSortedE X.K enc) := by
  intro pins s σ H vs0 us0 Q I r h
  obtain ⟨a, xs, bs, rfl, hs, da, q⟩ := h
  obtain ⟨its, rv, hl, hz⟩ := I.list hs
  rw [Vals.ref1 r]
  obtain ⟨e, er⟩ := each_dp I rv da
  have ln : bs.length ≤ sizeLine := by rw [← e.length, ← rv.length]; exact hz
  refine PySem.W.sorted_data hl.isList e er (AllAlike.of al) (Sortable.tuples tp) ln (fun b _ => by have := dep b; omega) fun out lo eo => ?_
  obtain ⟨zs, rz, dz⟩ := dp_each eo
  obtain ⟨ep, hat⟩ := PyProof.Rows.sortedAll_at s.heap its out.toArray
  exact ⟨.ref _, upd H (s.heap.objs.size + 1) (.lst zs), I.laid (t' := s.toks) (fun _ _ => PyProof.Rows.sortedAll_old) (Nat.le_succ _) ⟨by rw [rz.length, lo]; exact ln, out, ep, rz, hat⟩, rfl, q _ _ dz (I.hok.fresh (Nat.le_succ _))⟩
theorem kc_sortedE {β : Type} {enc : β → PyData} (hu : X.A.units + 70 < cLine) (al : ∀ b b', alike (enc b) (enc b') = true) (tp : ∀ b, ∃ x r, enc b = .tuple (x :: r)) (dep : ∀ b, (enc b).depth ≤ 60) (h : X.K = K := by rfl) : CallR X (.builtin "sorted") (rSortedE K enc) := h ▸ cr_sortedE hu al tp dep
/-! ### a[i] op= e of a list -/
def rGetL (K : PySem.W.Frag) : V → V → Hp → VK → Prop := fun x y H Q => ∃ (a : Addr) (xs : List V) (i : Nat) (v : V), x = .ref a ∧ y = .int (i : Int) ∧ SqL K H a xs ∧ xs[i]? = some v ∧ Q v H
theorem get_list : PGet X (rGetL X.K) := by
  intro pins s σ H x y ov iv Q I rx ry h
  obtain ⟨a, xs, i, v, rfl, rfl, hs, g, q⟩ := h
  cases rx
  obtain ⟨t, rfl⟩ := ry
  obtain ⟨its, r, pl, hz⟩ := I.list hs
  obtain ⟨u, eu, ru⟩ := r.get g
  have hi := (List.getElem?_eq_some_iff.mp g).1
  have := line63
  exact wpAny_getItem_list pl.isList (by omega) (by omega) (by simpa using eu) ⟨v, H, I, ru, q⟩
theorem kget_list (h : X.K = K := by rfl) : PGet X (rGetL K) := h ▸ get_list
end
end Pot

set_option maxHeartbeats 3900000
/-! own: exceptions whose __init__ says super().__init__(..), over any built-in base -/
namespace RSup
open PySem PySem.W PySem.Calls PyProof.Rows Builtin Builtin.ObjectAttr
section
variable {prog : Program} {w : World} {A : Around} {E : Value → Shared → Prop} {R : Result → Shared → Prop} {hp : Heap} {g : Array GenState} {d : Drawn} {t : Nat} {os : OsState} {B : String} {bmB : List Value}
theorem taker_none {K : Frag} {C : Addr} {name : Str} (h : findIn K (.ref C) name = some none) : takerIn K C name = some none := by
  unfold takerIn
  rw [h]; rfl
/-- the first field of an exception -/
theorem osa_first {K : Frag} {namew : Str} {tkw : Tok} {vw : Value} {xw C : Addr} {fvw : Array Value} {cdw : ClassData} (SF : StoreFacts B bmB "object.__setattr__" "object")
    (X : K.In heap) (stands : heap.get? xw = some { cls := .ref C, data := .fields fvw }) (isClass : clsIn K C = some cdw) (over : excOver K C bmB = true) (hasDict_ : cdw.hasDict = true) (unfound : findIn K (.ref C) namew = some none)
    (go : ∀ h'w tk'w dxw, (∀ bw ow, bw ≠ xw → heap.get? bw = some ow → h'w.get? bw = some ow) → heap.objs.size ≤ dxw → dxw ≠ xw → h'w.get? xw = some { cls := .ref C, dict := some dxw, data := .fields fvw } →
      h'w.Ns1 dxw (fun yw => if yw = namew then some vw else none) → R (.ok (.ret .none)) ⟨h'w, gw, dw, tk'w, osw⟩) :
    codeAny (model prog w) A (.call (.builtin "object.__setattr__") ⟨[.ref xw, .str namew tkw, vw], []⟩) R ⟨heap, gw, dw, tw, osw⟩ := by
  have I : InstAt heap xw { cls := .ref C, data := .fields fvw } C none := ⟨stands, rfl, rfl, trivial⟩
  have apart : xw ≠ heap.objs.size := Nat.ne_of_lt (Heap.lt_size stands)
  have looks : Looks (model prog w) heap (classData C) cdw := looks_clsIn X isClass
  refine osa_openX SF X I over (taker_none unfound) fun bbw => ?_
  show wpAny _ _ (storeInOwnDict (.ref xw) (.ref C) (.str namew tkw) namew vw bbw) _ _ _
  obtain ⟨nmw, bsw, mrow, nsw, qnw, hdw, snw, sbw, abw, colw, delw⟩ := cdw
  dsimp only at hasDict_
  subst hasDict_
  unfold storeInOwnDict
  unfold ownDictForStores
  repeat (first | with_reducible refine HandSPX.store_in_new ?_ ?_ | with_reducible refine wpAny_loadPart_at stands ?_ | with_reducible refine looks.at ?_ | wp_step)
  · exact ⟨_, #[], _, (Heap.get?_update_ne _ _ _ _ apart.symm).trans (Heap.get?_push_at rfl rfl), rfl, fun ew hew => absurd hew (by simp), fun _ => rfl⟩
  · intro h'w tk'w hn'w hsw
    have hx₁ : (heap.push { cls := .type "dict", data := .dict #[] }).get? xw = some { cls := .ref C, data := .fields fvw } := Heap.get?_push_of_some _ stands
    refine go h'w tk'w heap.objs.size (fun bw ow hbw how => ?_) (Nat.le_refl _) apart.symm ?_ hn'w
    · exact (hsw.2 bw (Nat.ne_of_lt (Heap.lt_size how))).trans ((Heap.get?_update_ne _ _ _ _ hbw).trans (Heap.get?_push_of_some _ how))
    · exact (hsw.2 xw apart).trans (Heap.get?_update_self _ hx₁ rfl)
/-- a further one -/
theorem osa_more {K : Frag} {namew : Str} {tkw : Tok} {vw : Value} {xw C dxw : Addr} {fvw : Array Value} {cdw : ClassData} {m0w : Str → Option Value} {nlw : List Str} (SF : StoreFacts B bmB "object.__setattr__" "object")
    (X : K.In heap) (stands : heap.get? xw = some { cls := .ref C, dict := some dxw, data := .fields fvw }) (keeps_ : heap.Ns1 dxw m0w) (hww : Within m0w nlw) (hzw : nlw.length ≤ 1000) (isClass : clsIn K C = some cdw) (over : excOver K C bmB = true) (hasDict_ : cdw.hasDict = true)
    (unfound : findIn K (.ref C) namew = some none)
    (go : ∀ h'w tk'w, (∀ bw ow, bw ≠ dxw → heap.get? bw = some ow → h'w.get? bw = some ow) → h'w.Ns1 dxw (fun yw => if yw = namew then some vw else m0w yw) → R (.ok (.ret .none)) ⟨h'w, gw, dw, tk'w, osw⟩) :
    codeAny (model prog w) A (.call (.builtin "object.__setattr__") ⟨[.ref xw, .str namew tkw, vw], []⟩) R ⟨heap, gw, dw, tw, osw⟩ := by
  obtain ⟨oDw, esDw, epDw, hoDw, hdDw, _⟩ := keeps_.count hww
  have I : InstAt heap xw { cls := .ref C, dict := some dxw, data := .fields fvw } C (some oDw) := ⟨stands, rfl, rfl, hoDw⟩
  have looks : Looks (model prog w) heap (classData C) cdw := looks_clsIn X isClass
  refine osa_openX SF X I over (taker_none unfound) fun bbw => ?_
  show wpAny _ _ (storeInOwnDict (.ref xw) (.ref C) (.str namew tkw) namew vw bbw) _ _ _
  obtain ⟨nmw, bsw, mrow, nsw, qnw, hdw, snw, sbw, abw, colw, delw⟩ := cdw
  dsimp only at hasDict_
  subst hasDict_
  unfold storeInOwnDict
  unfold ownDictForStores
  repeat (first | with_reducible refine OEX.store_in_old keeps_ hww hzw ?_ | with_reducible refine wpAny_loadPart_at stands ?_ | with_reducible refine looks.at ?_ | wp_step)
  intro h'w tk'w hn'w hsw
  exact go h'w tk'w (fun bw ow hbw how => (hsw.2 bw hbw).trans how) hn'w
end
end RSup
namespace RSup
open PySem PySem.Spec PyProof.Rows L2
/-- the class at C, over the built-in base with that newId and that mro -/
structure OexB (K : PySem.W.Frag) (C : Addr) (newId : String) (bmB : List Value) : Prop where
  cls : ∃ nm q N bs bm sn sub ab col dd k0 k1 k2 k3 k5, K.lookup C = some (excClassObj nm q C N bs bm true sn sub ab col dd k0 k1 k2 k3 k5 newId) ∧ PySem.W.excTail bmB bm = true
  sets : PySem.W.findIn K (.ref C) ("__setattr__" : Str) = some (some (Value.builtin "object.__setattr__"))
  excs : PySem.W.subIn K (.ref C) (Value.type "BaseException") = some true
  kind : PySem.W.typeIn K (.ref C) = some (Value.type "type")
  kept : PySem.W.keepIn K (Value.ref C) = true
theorem OexB.over {K : PySem.W.Frag} {C : Addr} {newId : String} {bmB : List Value} (T : OexB K C newId bmB) : PySem.W.excOver K C bmB = true := by
  obtain ⟨_, _, _, _, bm, _, _, _, _, _, _, _, _, _, _, hC, hbm⟩ := T.cls
  unfold PySem.W.excOver PySem.W.clsIn
  rw [hC]
  show (C == C && PySem.W.excTail bmB bm) = true
  rw [hbm, beq_self_eq_true]; rfl
theorem OexB.init {K : PySem.W.Frag} {C : Addr} {newId : String} {bmB : List Value} (T : OexB K C newId bmB) : PySem.W.excInitIn K C bmB newId = true := by
  obtain ⟨_, _, _, _, bm, _, _, _, _, _, _, _, _, _, _, hC, hbm⟩ := T.cls
  unfold PySem.W.excInitIn
  rw [hC]
  show (C == C && newId == newId && !false && PySem.W.excTail bmB bm) = true
  rw [hbm, beq_self_eq_true, beq_self_eq_true]; rfl
section
variable {X : Cx} {pins : List (Addr × Obj)} {σ : L2.St} {H : Hp} {s : Shared} {a C dx : Addr} {f : Str} {y : V} {u : Value} {fs : List (Str × V)} {Q : Unit → Shared → Prop} {E : Value → Shared → Prop} {A : Around} {B newId initId : String} {bmB : List Value}
/-- the first field of one that is being made -/
theorem ost_first (SF : StoreFacts B bmB "object.__setattr__" "object") (T : OexB X.K C newId bmB) (I : Inv X pins σ H s) (ew : H a = some (exo a C none)) (hnow : PySem.W.findIn X.K (.ref C) f = some none) (ryw : L2.RelV y u)
    (hw : ∀ dxw s', H dxw = none → dxw ≠ a → Inv X pins σ (upd (upd H dxw (exd dxw [(f, y)])) a (exo a C (some dxw))) s' → Q () s') : wpAny (model X.prog X.w) A (setAttr (.ref a) f u) Q E s := by
  obtain ⟨nmw, qw, N, bsw, bmw, snw, subw, abw, colw, ddw, k0w, k1w, k2w, k3w, k5w, hCw, hbmw⟩ := T.cls
  have hclw : PySem.W.clsIn X.K C = some { name := nmw, bases := bsw, mro := .ref C :: bmw, ns := N, qualname := qw, hasDict := true, slotNames := snw, subclasses := subw, abstract := abw, collection := colw, hasDel := false } := by unfold PySem.W.clsIn; rw [hCw] <;> rfl
  obtain ⟨t1w, how⟩ := exo_at I.hok ew
  obtain ⟨heap, gw, dw, tw, osw⟩ := s
  refine PySem.W.set_plain I.kIn (ox := { cls := .ref C, dict := none, data := .fields #[.ref t1w, .none, .none, .none, .bool false, .none] }) (od := none) ⟨how, rfl, rfl, trivial⟩ T.sets ?_
  refine osa_first SF I.kIn how hclw T.over rfl hnow (fun h'w tk'w dxw kw dnw dnew stands hnw => ?_)
  have hndw : H dxw = none := I.hok.fresh dnw
  have ndw : ∀ {bw : Addr} {ow : Obj}, heap.get? bw = some ow → bw ≠ dxw := fun {bw ow} qw => Nat.ne_of_lt (Nat.lt_of_lt_of_le (Heap.lt_size qw) dnw)
  have naw : ∀ {bw : Addr}, H bw = none → bw ≠ a := fun {bw} nw zw => by
    rw [zw, ew] at nw
    cases nw
  have Un1 : Un X.fs [] H (upd (upd H dxw (exd dxw [(f, y)])) a (exo a C (some dxw))) heap h'w := {
    keep := fun bw ow qw nw _ _ => kw bw ow (naw nw) qw
    slot := fun bw ow qw nw _ _ => ⟨ow.slots, kw bw ow (naw nw) qw⟩
    free := fun bw ow qw nw _ => by rw [upd_ne (naw nw), upd_ne (ndw qw)]; exact nw
    there := fun bw ow qw _ => by
      by_cases hb : bw = a
      · exact ⟨_, by rw [hb]; exact stands⟩
      · exact ⟨ow, kw bw ow hb qw⟩
    tups := fun bw xsw qw => by rw [upd_ne (at_ne ew qw exo_tup), upd_ne (ne_of_none qw hndw)]; exact qw
    frzs := fun bw ow vw qw => by rw [upd_ne (at_ne ew qw exo_frz), upd_ne (ne_of_none qw hndw)]; exact qw
    tbls := fun bw psw qw => ⟨#[], by rw [upd_ne (at_ne ew qw exo_tbl), upd_ne (ne_of_none qw hndw), qw]; simp⟩ }
  refine hw dxw _ hndw dnew (I.un (t' := tk'w) Un1 fun bw ow qw => ?_)
  by_cases hb : bw = a
  · subst hb
    rw [upd_same] at qw
    cases qw
    exact exo_ok stands
  · rw [upd_ne hb] at qw
    by_cases hdw : bw = dxw
    · subst hdw
      rw [upd_same] at qw
      cases qw
      exact exd_ok hnw (relO_put (fs := []) ryw fun gw => True.intro)
    · rw [upd_ne hdw] at qw
      exact (I.hok bw ow qw).stay (fun cw vw hcw zw => kw cw vw (by
          rcases hcw with hcw | hcw
          · rw [hcw]
            exact hb
          · exact at_ne ew hcw exo_own) zw)
        (fun cw hcw => by rw [upd_ne (at_ne ew hcw exo_own), upd_ne (ne_of_none hcw hndw)]; exact hcw) (fun cw xsw hcw => by rw [upd_ne (at_ne ew hcw exo_tup), upd_ne (ne_of_none hcw hndw)]; exact hcw)
/-- a further field -/
theorem ost_more (SF : StoreFacts B bmB "object.__setattr__" "object") (T : OexB X.K C newId bmB) (I : Inv X pins σ H s) (ew : H a = some (exo a C (some dxw))) (edw : H dxw = some (exd dxw fsw)) (hlw : fsw.length ≤ 900) (hnow : PySem.W.findIn X.K (.ref C) f = some none) (ryw : L2.RelV y u)
    (hw : ∀ s', Inv X pins σ (upd H dxw (exd dxw ((f, y) :: fsw))) s' → Q () s') : wpAny (model X.prog X.w) A (setAttr (.ref a) f u) Q E s := by
  obtain ⟨nmw, qw, N, bsw, bmw, snw, subw, abw, colw, ddw, k0w, k1w, k2w, k3w, k5w, hCw, hbmw⟩ := T.cls
  have hclw : PySem.W.clsIn X.K C = some { name := nmw, bases := bsw, mro := .ref C :: bmw, ns := N, qualname := qw, hasDict := true, slotNames := snw, subclasses := subw, abstract := abw, collection := colw, hasDel := false } := by unfold PySem.W.clsIn; rw [hCw] <;> rfl
  obtain ⟨t1w, how⟩ := exo_at I.hok ew
  obtain ⟨mAw, keeps_, relw⟩ := exd_at I.hok edw
  have hww := within_of relw
  obtain ⟨heap, gw, dw, tw, osw⟩ := s
  obtain ⟨oDw, _, _, hoDw, _, _⟩ := keeps_.count hww
  refine PySem.W.set_plain I.kIn (ox := { cls := .ref C, dict := some dxw, data := .fields #[.ref t1w, .none, .none, .none, .bool false, .none] }) (od := some oDw) ⟨how, rfl, rfl, hoDw⟩ T.sets ?_
  refine osa_more SF I.kIn how keeps_ hww (by rw [List.length_map]; omega) hclw T.over rfl hnow (fun h'w tk'w kw hnw => ?_)
  have hdw : ∃ ow, h'w.get? dxw = some ow := by
    obtain ⟨ow, _, _, e'w, _⟩ := hnw
    exact ⟨ow, e'w⟩
  exact hw _ (I.write (t' := tk'w) (x := dxw) (e := dxw) (o := exd dxw ((f, y) :: fsw)) (by rw [edw]; exact True.intro) (.inl rfl) kw hdw (exd_ok hnw (relO_put ryw relw)))
end
/-- self.f = e -/
def tOstB (K : PySem.W.Frag) (newId : String) (bmB : List Value) (f : Str) (to te : TE) : TS := fun D σ H => te σ H fun y H1 => to σ H1 fun x H2 => ∃ a C : Addr, x = .ref a ∧ OexB K C newId bmB ∧ PySem.W.findIn K (.ref C) f = some none ∧
  ((H2 a = some (exo a C none) ∧ ∀ d, H2 d = none → d ≠ a → D.nx σ (upd (upd H2 d (exd d [(f, y)])) a (exo a C (some d)))) ∨
    ∃ (d : Addr) (rs : List (Str × V)), H2 a = some (exo a C (some d)) ∧ H2 d = some (exd d rs) ∧ rs.length ≤ 900 ∧ D.nx σ (upd H2 d (exd d ((f, y) :: rs))))
section
variable {X : Cx} {o e : Expr} {to te : TE} {f : Str} {p' pos : Pos} {B newId : String} {bmB : List Value}
theorem ps_ostB (SF : StoreFacts B bmB "object.__setattr__" "object") (how : PE X o to) (hew : PE X e te) (hsw : swapsWith e (some (.Attribute o f p')) pos.line X.env = pure false := by rfl) : PS X (.Assign [.Attribute o f p'] e pos) (tOstB X.K newId bmB f to te) := by
  refine ⟨fun pins sw σ H D I hw => ?_⟩
  refine plainObj_wpAny_Assign_Attribute (thn (hew.run pins sw σ H _ I hw) fun vw s1w ⟨yw, H1, I1, r1w, q1w⟩ => thn (how.run pins s1w σ H1 _ I1 q1w) fun uw s2w ⟨xw, H2, I2, r2w, aw, C, exw, T, hnow, qw⟩ => ?_) hsw
  subst exw
  obtain rfl : uw = Value.ref aw := r2w
  rcases qw with ⟨ea, qw⟩ | ⟨dxw, fs, ea, ed, hl, qw⟩
  · exact ost_first SF T I2 ea hnow r1w fun dxw s'w nw new J => ⟨σ, _, J, qw dxw nw new⟩
  · exact ost_more SF T I2 ea ed hl hnow r1w fun s'w J => ⟨σ, _, J, qw⟩
end
/-! ### super().__init__(..) -/
section
variable {X : Cx} {pins : List (Addr × Obj)} {σ : L2.St} {H : Hp} {s : Shared} {a C u : Addr} {E : Value → Shared → Prop} {A : Around} {B newId i : String} {bmB : List Value}
/-- the bound __init__ called: nothing of it is told -/
theorem sup_call {usw : List Value} {Q : Value → Shared → Prop} (FB : ExcBaseFacts B newId i bmB) (T : OexB X.K C newId bmB) (I : Inv X ((u, PySem.W.kxs_mw i a) :: pins) σ H sw) (ew : H a = some (exo a C none)) (hlw : usw.length ≤ sizeLine) (hw : ∀ s', Inv X pins σ H s' → Q .none s') :
    wpAny (model X.prog X.w) A (call (.ref u) usw) Q E sw := by
  obtain ⟨nmw, qw, N, bsw, bmw, snw, subw, abw, colw, ddw, k0w, k1w, k2w, k3w, k5w, hCw, hbmw⟩ := T.cls
  obtain ⟨t1w, how⟩ := exo_at I.hok ew
  have huw := (I.pin (u, PySem.W.kxs_mw i a) (List.mem_append_right _ List.mem_cons_self)).1
  have I0 : Inv X pins σ H sw := I.pins_of fun pw heap => I.pin pw (List.mem_append_right _ (List.mem_cons_of_mem _ heap))
  have finw : ∀ h'w, (∀ b ow, b ≠ a → sw.heap.get? b = some ow → h'w.get? b = some ow) → (∃ t2w : Addr, h'w.get? a = some ({ cls := .ref C, dict := none, data := .fields #[.ref t2w, .none, .none, .none, .bool false, .none] } : Obj)) → Q .none { sw with heap := h'w } := fun h'w kw ⟨t2w, stands⟩ => by
    have J := I0.write (t' := sw.toks) (x := a) (e := a) (o := exo a C none) (h' := h'w) (by rw [ew]; exact True.intro) (.inl rfl) kw ⟨_, stands⟩ (exo_ok stands)
    have euw : upd H a (exo a C none) = H := by
      funext b
      by_cases hb : b = a
      · rw [hb, upd_same, ew]
      · rw [upd_ne hb]
    rw [euw] at J
    exact hw _ J
  have hCsw := I.kIn _ _ hCw
  obtain ⟨hasDict_, gw, dw, tkw, osw⟩ := sw
  refine wpAny_call ?_
  refine codeAny_of_tree ?_
  show wpAny _ A.in1 (callAny (.ref u) ⟨usw, []⟩) _ _ _
  simp only [callAny]
  refine wpAny_bind (wpAny_load huw ?_)
  simp only [PySem.W.kxs_mw, show (Value.type "method-wrapper" == Value.type "method" || Value.type "method-wrapper" == Value.type "builtin_function_or_method" || Value.type "method-wrapper" == Value.type "method-wrapper") = true by decide, if_true]
  refine (PySem.W.KFB.if_so (by decide +kernel) ?_)
  refine wpAny_bind (PySem.W.check_bound_init FB.toExcCallFacts hCsw how rfl ?_)
  refine wpAny_bind (wpAny_pure (wpAny_pure ⟨plainId_quiet FB.init.plain _, codeAny_builtin FB.initEntry ?_⟩))
  exact PySem.W.exc_init_tree (cls := .ref C) (t0 := t1w) (dv := none) (c2 := .none) (c3 := .none) (b4 := .bool false) how hlw fun h'w kw e'w _ => finw h'w kw ⟨_, e'w⟩
/-- what super() finds, of a def in the class at C -/
structure SupK (X : Cx) (C : Addr) (i : String) (B : String) (fd : FuncData) (ar : Arg) : Prop where
  kf : PySem.W.KxsFacts B i
  sup : PySem.W.ks_superIn X.K C C "__init__" = some (some (.builtin i))
  isB : PySem.W.subIn X.K (.ref C) (.type B) = some true
  self : PySem.W.mroIn X.K C (.ref C) = some true
  any : PySem.W.nsIn X.K cStatics "thirdparty.any" = some none
  mg : X.mg "super" = none
  fn : ∃ (f : Addr) (oc : Value) (od : Option Addr) (osl : Array (Option Value)), X.env.func = some f ∧ X.K.lookup f = some ⟨oc, od, .func fd, osl⟩
  first : (fd.params.posonlyargs ++ fd.params.args).head? = some ar
  code : ∃ (cda : Addr) (ccl : Value) (cdd : Option Addr) (vs : Array Value) (ccs : Array (Option Value)) (file : Str) (tf : Tok), X.env.code = .ref cda ∧ X.K.lookup cda = some ⟨ccl, cdd, .fields vs, ccs⟩ ∧ vs[2]? = some (.str file tf) ∧ ((X.prog.main.file : Str) == file) = true
  top : (X.prog.main.scope.names.lookup ("super" : Str)).isSome = false
  cell : ∃ (cc : Addr) (cl : Value) (cld : Option Addr) (csl : Array (Option Value)), X.env.cells.lookup ("__class__" : Str) = some cc ∧ X.K.lookup cc = some ⟨cl, cld, .cell (some (.ref C)), csl⟩
  ks : X.env.kindOf "super" = some .globalImplicit
  kc : X.env.kindOf "__class__" = some .free
  ka : X.env.kindOf ar.arg = some .local
  at0 : X.N[0]? = some ar.arg
  vis : Vis X.env.scope ar.arg
theorem sup_base {fdw : FuncData} {arw : Arg} {body : List Stmt} {p0w p1w : Pos} {whole : Sem Value} {Q : Value → Shared → Prop} (S : SupK X C i B fdw arw) (T : OexB X.K C newId bmB) (I : Inv X pins σ H sw) (hwσ : σ[0]? = some (some (.ref aw))) (ew : H aw = some (exo aw C none))
    (hw : ∀ sow h'w, h'w.get? sow = some (PySem.W.ks_superObj C aw C) → H sow = none → Inv X pins σ H { sw with heap := h'w } → Q (.ref sow) { sw with heap := h'w }) :
    PySem.wpAt (model X.prog X.w) X.A (.func body X.env) (attributeBase (.Call (.Name "super" p0w) [] [] p1w) "__init__" X.env whole) Q E sw := by
  obtain ⟨fw, ocw, odw, oslw, hfuw, hfw⟩ := S.fn
  obtain ⟨cdaw, cclw, cddw, vsw, ccsw, filew, tfw, hcow, hcodew, hvsw, hfilew⟩ := S.code
  obtain ⟨ccw, clw, cldw, cslw, hccw, hcellw⟩ := S.cell
  obtain ⟨t1w, how⟩ := exo_at I.hok ew
  obtain ⟨mw, keeps_, locw⟩ := I.loc
  obtain ⟨nmw, qw, N, bsw, bmw, snw, subw, abw, colw, ddw, k0w, k1w, k2w, k3w, k5w, hCw, hbmw⟩ := T.cls
  obtain ⟨v0w, rvw, lkw⟩ := locw 0 arw.arg (.ref aw) S.at0 hwσ S.vis
  have hvw : mw arw.arg = some (.ref aw) := by
    cases rvw
    rcases lkw with ⟨_, over⟩ | ⟨hk, _⟩
    · exact over
    · rw [S.ka] at hk
      rcases hk with zw | zw <;> cases zw
  have XK := I.kIn
  refine ks_wpAt_super_base (env := X.env) S.ks S.kc (by decide) hfuw (XK _ _ hfw) rfl S.first hcow (XK _ _ hcodew) rfl hvsw hfilew S.top ?_
  obtain ⟨mbw, b1w, b2w⟩ := I.mod.blt
  refine PySem.W.ks_loadName_global I.ok.kind S.ks (Calls.loadGlobal_builtin (by rw [I.ok.glob]; exact I.mod.glob.keeps I.bk) S.mg (by rw [I.ok.blt]; exact b1w.keeps I.bk) ((b2w _ (by decide)).trans (by decide +kernel : bootBuiltins "super" = some (.type "super"))) ⟨rfl, ?_⟩)
  refine wpAny_loadName_free I.ok.kind S.kc hccw ⟨_, XK _ _ hcellw, rfl⟩ ?_
  refine wpAny_loadName_local I.ok.kind S.ka keeps_ hvw ?_
  refine ks_wpAny_isType_cls (XK _ _ hCw) rfl ⟨rfl, ?_⟩
  obtain ⟨hasDict_, gw, dw, tkw, osw⟩ := sw
  refine ks_wpAny_call_super (XK _ _ hCw) rfl how rfl (fun cw zw => by cases zw) (PySem.W.looks_mroIn XK S.self) (fun h'w e'w kw => ?_)
  exact hw _ _ e'w (I.hok.fresh (Nat.le_refl _)) (I.kept (t' := tkw) kw)
theorem sup_row {fdw : FuncData} {arw : Arg} {body : List Stmt} {p0w p1w apos pos spos : Pos} {arg : Expr} {es : List Expr} {taw : TA} {plw : Sem Bool} {Qn : Hp → Prop} (FB : ExcBaseFacts B newId i bmB) (S : SupK X C i B fdw arw) (T : OexB X.K C newId bmB) (I : Inv X pins σ H sw) (hwσ : σ[0]? = some (some (.ref aw))) (ew : H aw = some (exo aw C none))
    (unfound : PA X (arg :: es) taw) (go : taw σ H fun vsw H1 => vsw.length ≤ 1000 ∧ H1 aw = some (exo aw C none) ∧ Qn H1)
    (hcw : eval (.Call (.Attribute (.Call (.Name "super" p0w) [] [] p1w) "__init__" apos) (arg :: es) [] pos) X.env = (do
      let ov ← attributeBase (.Call (.Name "super" p0w) [] [] p1w) "__init__" X.env (eval (.Call (.Name "super" p0w) [] [] p1w) X.env)
      standAt apos.atName
      let (fw, first) ← holding [ov] (getMethod ov "__init__" plw)
      callWith pos fw first (backTo pos (starEach (arg :: es) X.env)) []) := by rfl)
    (hew : starEach (arg :: es) X.env = (false, eval arg X.env) :: starEach es X.env := by rfl) (hplw : (backTo pos (starEach es X.env)).any (·.1) = false := by rfl)
    (hsw : swapsWith (.Call (.Attribute (.Call (.Name "super" p0w) [] [] p1w) "__init__" apos) (arg :: es) [] pos) none spos.line X.env = pure false := by rfl) :
    PySem.wpAt (model X.prog X.w) X.A (.func body X.env) (exec (.Expr (.Call (.Attribute (.Call (.Name "super" p0w) [] [] p1w) "__init__" apos) (arg :: es) [] pos) spos) X.env) (fun fw s'w => fw = .next ∧ ∃ H', Inv X pins σ H' s'w ∧ Qn H') X.xe sw := by
  refine ks_wpAt_Expr_any (ks_wpAt_MethodCall (pl := plw) (sup_base S T I hwσ ew fun sow h'w hsow nsow I1 => ?_) hcw) I.quiet hsw
  obtain ⟨nmw, qw, N, bsw, bmw, snw, subw, abw, colw, ddw, k0w, k1w, k2w, k3w, k5w, hCw, hbmw⟩ := T.cls
  obtain ⟨t1w, how⟩ := exo_at I1.hok ew
  have XK := I1.kIn
  have hclw : PySem.W.clsIn X.K C = some { name := nmw, bases := bsw, mro := .ref C :: bmw, ns := N, qualname := qw, hasDict := true, slotNames := snw, subclasses := subw, abstract := abw, collection := colw, hasDel := false } := by unfold PySem.W.clsIn; rw [hCw] <;> rfl
  have over := S.sup
  unfold PySem.W.ks_superIn at over
  rw [hclw] at over
  have IA : PySem.W.InstAt h'w aw { cls := .ref C, dict := none, data := .fields #[.ref t1w, .none, .none, .none, .bool false, .none] } C none := ⟨how, rfl, rfl, trivial⟩
  have hIw : PySem.W.Looks (model X.prog X.w) h'w (isInstance (.ref aw) (.type B)) true := IA.type.andThen (PySem.W.looks_subIn XK S.isB)
  have hxCw : aw ≠ C := PySem.W.ks_ne XK IA hclw
  obtain ⟨hasDict_, gw, dw, tkw, osw⟩ := sw
  refine PySem.W.kxs_getMethod S.kf hsow (PySem.W.looks_opaque XK S.any) (l₀ := .ref C :: bmw) (fun A Q E sw kw qw => wpAny_bind ((PySem.W.looks_clsIn XK hclw) A _ E sw kw (wpAny_pure qw))) rfl XK over hIw hxCw (by decide) ?_
  have huw : (h'w.push (PySem.W.kxs_mw i aw)).get? h'w.objs.size = some (PySem.W.kxs_mw i aw) := Heap.get?_push_size _ rfl
  have fuw := I1.fpOk (b := h'w.objs.size) (Nat.le_refl _) (I1.hok.fresh (Nat.le_refl _))
  have I2 : Inv X pins σ H ⟨h'w.push (PySem.W.kxs_mw i aw), gw, dw, tkw + 1, osw⟩ := I1.kept (t' := tkw + 1) fun bw ow zw => Heap.get?_push_of_some _ zw
  have I3 : Inv X ((h'w.objs.size, PySem.W.kxs_mw i aw) :: pins) σ H ⟨h'w.push (PySem.W.kxs_mw i aw), gw, dw, tkw + 1, osw⟩ := I2.pins_of fun pw heap => by
    rcases List.mem_cons.mp heap with rfl | heap
    · exact ⟨huw, fuw.1, fuw.2.1, fuw.2.2.1, fun vw zw => by cases zw⟩
    · exact I2.pin pw (List.mem_append_right _ heap)
  show wpAny _ _ (callWith pos (.ref h'w.objs.size) [] (backTo pos (starEach (arg :: es) X.env)) []) _ _ _
  rw [hew]
  refine PySem.W.kxs_callWith (i := i) (x := aw) (by show (false || (backTo pos (starEach es X.env)).any (·.1)) = false; rw [hplw]; rfl) ?_
  refine Calls.evalArgs_plain ?_
  have hrw := unfound.run pos ((h'w.objs.size, PySem.W.kxs_mw i aw) :: pins) _ σ H _ I3 go
  rw [hew] at hrw
  refine thn hrw fun usw s1w ⟨vsw, H1, J, rvw, hlw, e1w, qnw⟩ => ⟨(J.pin (h'w.objs.size, PySem.W.kxs_mw i aw) (List.mem_append_right _ List.mem_cons_self)).1, ?_⟩
  refine sup_call FB T J e1w ?_ fun s'w J' => ⟨rfl, H1, J', qnw⟩
  show usw.length ≤ sizeLine
  rw [← Paired.length rvw, sizeLine_eq]
  omega
end
/-! ### a def whose only free name is __class__ -/
def cxS (CX : CXT) (P : Program) (w : World) (K : PySem.W.Frag) (mg : Str → Option Value) (base : Heap) (N : List Str) (qual : Str) (scope : Scope) (f cda cc : Addr) (A : Around) (outer : List Env) (s : Shared) (H : Hp) (E : XK) : Cx where
  prog := P
  w := w
  K := K
  mg := mg
  base := base
  A := A.deeper (PySem.W.ksEnv qual scope s.heap.objs.size f (.ref cda) cc)
  N := N
  s_0 := s
  H_0 := H
  env := PySem.W.ksEnv qual scope s.heap.objs.size f (.ref cda) cc
  outer := outer
  stack := PySem.W.ksEnv qual scope s.heap.objs.size f (.ref cda) cc :: outer
  ex := []
  calm := true
  fn := fun _ => false
  pn := []
  xe := fun e s' => wpAny (model P w) (A.deeper (PySem.W.ksEnv qual scope s.heap.objs.size f (.ref cda) cc)) (leaving (PySem.W.ksEnv qual scope s.heap.objs.size f (.ref cda) cc) e) (fun _ s'' => CX outer H s E e s'') (fun e' s'' => CX outer H s E e' s'') s'
structure ScopeS (N ps : List Str) (sc : Scope) : Prop where
  kind : sc.kind = .function
  co : sc.isCoroutine = false
  gen : sc.isGenerator = false
  nd : N.Nodup
  pre : N.take ps.length = ps
  par : ∀ p ∈ ps, sc.names.lookup p = some NameKind.local
  nocell : ∀ n ∈ sc.names, n.2 ≠ NameKind.cell
  free : ∀ n ∈ sc.names, n.2 = NameKind.free → n.1 = ("__class__" : Str)
theorem lookup_nd {β : Type} {k : Str} {v : β} : ∀ {l : List (Str × β)}, (l.map (·.1)).Nodup → (k, v) ∈ l → l.lookup k = some v
  | [], _, h => (List.not_mem_nil h).elim
  | (k', v') :: l, nd, h => by
    obtain ⟨out, nd2⟩ := List.nodup_cons.mp nd
    rw [List.lookup_cons]
    rcases List.mem_cons.mp h with here | e
    · cases here
      rw [beq_self_eq_true]
    · have ne : (k == k') = false := by
        rw [beq_eq_false_iff_ne]
        intro z
        subst z
        exact out (List.mem_map.mpr ⟨_, e, rfl⟩)
      rw [ne]
      exact lookup_nd nd2 e
theorem inv_startS {CX : CXT} {P : Program} {ww : World} {K : PySem.W.Frag} {mg : Str → Option Value} {base : Heap} {N psw : List Str} {qual : Str} {scope : Scope} {fw cdaw ccw C : Addr} {A : Around} {outerw : List Env} {sw : Shared} {H : Hp} {E : XK} {usw : List Value} {vsw : List V} {h1w : Heap} {tkw : Nat} {clw : Value} {cldw : Option Addr} {cslw : Array (Option Value)}
    (S : ScopeS N psw scope) (hdw : A.handled = none) (e0w : Env0 P ww K mg base A outerw sw H) (hlw : vsw.length = psw.length) (rw : Vals vsw usw) (hccw : K.lookup ccw = some ⟨clw, cldw, .cell (some (.ref C)), cslw⟩)
    (nsw : h1w.Ns sw.heap.objs.size (fun xw => (psw.zip usw).reverse.lookup xw)) (hkw : ∀ bw ow, sw.heap.get? bw = some ow → h1w.get? bw = some ow) :
    Inv (cxS CX P ww K mg base N qual scope fw cdaw ccw A outerw sw H E) [] (start N vsw) H { sw with heap := h1w, toks := tkw } := by
  have hplw : psw.length ≤ N.length := by have := congrArg List.length S.pre; rw [List.length_take] at this; omega
  have noAw : ∀ bw : Addr, bw ∉ (cxS CX P ww K mg base N qual scope fw cdaw ccw A outerw sw H E).ex := fun bw zw => absurd (show bw ∈ ([] : List Addr) from zw) (by simp)
  have hcbw := e0w.mod.kin _ _ hccw
  have hcsw := e0w.bs _ _ hcbw
  have cell1w : ∀ {xw : Str} {cw : Addr}, (cxS CX P ww K mg base N qual scope fw cdaw ccw A outerw sw H E).env.cells.lookup xw = some cw → xw = ("__class__" : Str) ∧ cw = ccw := fun {xw cw} hw => by
    have hw : ([(("__class__" : Str), ccw)] : List (Str × Addr)).lookup xw = some cw := hw
    rw [List.lookup_cons] at hw
    cases ew : xw == ("__class__" : Str) with
    | true => rw [ew] at hw; exact ⟨beq_iff_eq.mp ew, (Option.some.inj hw).symm⟩
    | false => rw [ew] at hw; cases hw
  refine ⟨⟨e0w.mod, S.kind, rfl, rfl, Nat.le_refl _, fun yw zw cw h1w h2w => ?_, fun yw hyw => ?_, fun yw cw zw hw => ?_, fun _ => hdw, Around.frames_deeper e0w.frames, .inr ⟨rfl, rfl⟩, fun bw zw => absurd zw (noAw bw), e0w.bs, e0w.bsz, fun bw _ _ => noAw bw, fun bw zw => absurd zw (noAw bw), e0w.funs, e0w.frf⟩,
    rfl, e0w.bare, Un.kept hkw, ⟨_, nsw, fun iw yw vw h1w h2w h3w => ?_⟩, fun yw cw hw => ?_, e0w.hok.fresh (Nat.le_refl _), fun yw cw hw => ?_, fun pw heap => absurd (show pw ∈ ([] : List (Addr × Obj)) from heap) (by simp), e0w.hok.kept hkw, ?_⟩
  · rw [(cell1w h1w).1, (cell1w h2w).1]
  · have hyw : scope.names.lookup yw = some .cell ∨ scope.names.lookup yw = some .free := hyw
    rcases hyw with hyw | hyw
    · exact absurd rfl (S.nocell _ (PySem.mem_of_lookup hyw))
    · rw [show yw = ("__class__" : Str) from S.free _ (PySem.mem_of_lookup hyw) rfl]
      exact ⟨ccw, show ([(("__class__" : Str), ccw)] : List (Str × Addr)).lookup ("__class__" : Str) = some ccw by rw [List.lookup_cons, beq_self_eq_true]⟩
  · cases zw
  · have hiw : iw < vsw.length := by
      unfold L2.start at h2w
      by_cases hiw : iw < vsw.length
      · exact hiw
      · rw [List.getElem?_append_right (by simpa using hiw)] at h2w
        rw [List.getElem?_replicate] at h2w
        split at h2w <;> cases h2w
    have unfound : vsw[iw]? = some vw := by
      unfold L2.start at h2w
      rw [List.getElem?_append_left (by simpa using hiw), List.getElem?_map] at h2w
      cases ew : vsw[iw]? with
      | none => rw [ew] at h2w; cases h2w
      | some a => rw [ew] at h2w; cases h2w; rfl
    obtain ⟨uw, huw, rvw⟩ := rw.get unfound
    have heap : psw[iw]? = some yw := by
      rw [← S.pre, List.getElem?_take_of_lt (by omega)]; exact h1w
    have ndPw : psw.Nodup := by rw [← S.pre]; exact S.nd.sublist (List.take_sublist _ _)
    have lvw := Paired.length rw
    refine ⟨uw, rvw, .inl ⟨S.par yw (List.mem_of_getElem? heap), ?_⟩⟩
    refine lookup_nd ?_ (List.mem_reverse.mpr (List.mem_of_getElem? (i := iw) ?_))
    · rw [List.map_reverse, List.map_fst_zip (by omega)]
      exact (List.reverse_perm psw).nodup_iff.mpr ndPw
    · exact (List.getElem?_zip_eq_some (z := (yw, uw))).mpr ⟨heap, huw⟩
  · rw [(cell1w hw).2]
    exact ⟨_, _, hkw _ _ hcsw.1, rfl⟩
  · rw [(cell1w hw).2]
    exact hcsw.2
  · unfold L2.start
    show _ = N.length
    rw [List.length_append, List.length_replicate, List.length_map]
    omega
/-- a def whose first row is super().__init__(..) -/
theorem fn_sup {CX : CXT} {P : Program} {ww : World} {K : PySem.W.Frag} {mg : Str → Option Value} {base : Heap} {kw : Nat} {fw cdaw ccw C : Addr} {name qual : Str} {params : Arguments} {body : List Stmt} {scope : Scope} {kVw docw pmw ctw ocw : Value} {anw odw : Option Addr} {oslw : Array (Option Value)} {N psw : List Str} {sp : Sp} {clw : Value} {cldw : Option Addr} {cslw : Array (Option Value)}
    (lkw : K.lookup fw = some ⟨ocw, odw, .func (PySem.W.ksFn name qual params body scope .none kVw docw pmw anw (.ref cdaw) ctw ccw), oslw⟩) (isClass : PySem.W.codeIn K (.ref cdaw) qual = true) (hccw : K.lookup ccw = some ⟨clw, cldw, .cell (some (.ref C)), cslw⟩) (S : ScopeS N psw scope)
    (many : ∀ vsw H Q E, sp vsw H Q E → vsw.length = psw.length)
    (run : ∀ (A : Around) (outerw : List Env) (sw : Shared) (H : Hp) (vsw : List V) (Q : VK) (E : XK), Room kw (A.deeper (PySem.W.ksEnv qual scope sw.heap.objs.size fw (.ref cdaw) ccw)) → sp vsw H Q E →
      ∀ s1, Inv (cxS CX P ww K mg base N qual scope fw cdaw ccw A outerw sw H E) [] (L2.start N vsw) H s1 →
        PySem.wpAt (model P ww) (A.deeper (PySem.W.ksEnv qual scope sw.heap.objs.size fw (.ref cdaw) ccw)) (.func body (PySem.W.ksEnv qual scope sw.heap.objs.size fw (.ref cdaw) ccw)) (execs body (PySem.W.ksEnv qual scope sw.heap.objs.size fw (.ref cdaw) ccw))
          (SP (cxS CX P ww K mg base N qual scope fw cdaw ccw A outerw sw H E) [] { nx := fun _ H' => Q .non H', rt := Q }) (cxS CX P ww K mg base N qual scope fw cdaw ccw A outerw sw H E).xe s1) :
    FnOk P ww K mg base CX (kw + 1) fw (PySem.W.ksFn name qual params body scope .none kVw docw pmw anw (.ref cdaw) ctw ccw) psw sp := by
  refine ⟨many, fun A outerw sw H argsw usw vsw Q E hrw e0w hbw rw hspw => ?_⟩
  have hlw := many _ _ _ _ hspw
  have KX : K.In sw.heap := e0w.mod.kin.keeps fun bw ow ew => (e0w.bs bw ow ew).1
  have limw : sw.heap.NoLimit := e0w.mod.nolimit.keeps fun bw ow ew => (e0w.bs bw ow ew).1
  refine ks_codeAny_call_defAt (fd := PySem.W.ksFn name qual params body scope .none kVw docw pmw anw (.ref cdaw) ctw ccw) (body := body) (binds := psw.zip usw) hrw.depth (KX _ _ lkw) rfl limw (PySem.W.codeRec_of KX isClass) rfl hbw S.nocell (fun ⟨nw, vw⟩ hyw => S.par nw (List.of_mem_zip hyw).1) (fun h1w nsw hkw => ?_) S.co S.gen S.kind
  have I := inv_startS (CX := CX) (P := P) (ww := ww) (mg := mg) (qual := qual) (fw := fw) (cdaw := cdaw) (E := E) (tkw := sw.toks + (psw.zip usw).length) S hrw.hd e0w hlw rw hccw nsw hkw
  refine ks_wpAt_mono (run A outerw sw H vsw Q E (hrw.deeper _) hspw _ I) (fun flw s'w hsw => ?_) fun ew s'w hsw => hsw
  have finw : ∀ {σ' : L2.St} {H' : Hp} {vw : V} {uw : Value}, Inv (cxS CX P ww K mg base N qual scope fw cdaw ccw A outerw sw H E) [] σ' H' s'w → L2.RelV vw uw → Q vw H' → CE outerw P ww H sw Q uw s'w :=
    fun {σ' H' vw uw} J rvw qw => ⟨vw, H', J.os, J.bare, J.base, J.hok, rvw, qw⟩
  cases flw with
  | ret uw =>
    obtain ⟨vw, σ', H', J, rvw, qw⟩ := hsw
    exact finw J rvw qw
  | next =>
    obtain ⟨σ', H', J, qw⟩ := hsw
    exact finw (vw := V.non) (uw := Value.none) J rfl qw
  | brk =>
    obtain ⟨_, _, _, qw⟩ := hsw
    exact False.elim qw
  | cont =>
    obtain ⟨_, _, _, qw⟩ := hsw
    exact False.elim qw
/-- a def of a class that has super() in it, as it stands behind the top -/
structure FunS (P : Program) (K : PySem.W.Frag) (x qual : Str) (st : Stmt) (f C : Addr) (fd : FuncData) : Prop where
  ex : ∃ (cda cc : Addr) (oc : Value) (od : Option Addr) (kV doc pm : Value) (an : Option Addr) (ct : Value) (osl : Array (Option Value)) (cl : Value) (cld : Option Addr) (csl : Array (Option Value)) (ccl : Value) (cdd : Option Addr) (ws : Array Value) (ccs : Array (Option Value)) (file : Str) (tf : Tok),
    fd = PySem.W.ksFn x qual (defArgs st) (defBody st) (defScope st) .none kV doc pm an (.ref cda) ct cc ∧ K.lookup f = some ⟨oc, od, .func fd, osl⟩ ∧ PySem.W.codeIn K (.ref cda) qual = true ∧ K.lookup cc = some ⟨cl, cld, .cell (some (.ref C)), csl⟩ ∧
    K.lookup cda = some ⟨ccl, cdd, .fields ws, ccs⟩ ∧ ws[2]? = some (.str file tf) ∧ ((P.main.file : Str) == file) = true
/-- what of the class super() wants -/
structure SupC (P : Program) (K : PySem.W.Frag) (mg : Str → Option Value) (C : Addr) (i B : String) : Prop where
  kf : PySem.W.KxsFacts B i
  sup : PySem.W.ks_superIn K C C "__init__" = some (some (.builtin i))
  isB : PySem.W.subIn K (.ref C) (.type B) = some true
  self : PySem.W.mroIn K C (.ref C) = some true
  any : PySem.W.nsIn K cStatics "thirdparty.any" = some none
  mg : mg "super" = none
  top : (P.main.scope.names.lookup ("super" : Str)).isSome = false
theorem fn_supr {CX : CXT} {P : Program} {w : World} {K : PySem.W.Frag} {mg : Str → Option Value} {base : Heap} {k : Nat} {f C : Addr} {x qual : Str} {st : Stmt} {fd : FuncData} {N ps : List Str} {sp : Sp} {B newId i : String} {bmB : List Value} {ar : Arg} {p0 p1 apos pos spos : Pos} {arg : Expr} {es : List Expr} {rest : List Stmt}
    (F : FunS P K x qual st f C fd) (FB : ExcBaseFacts B newId i bmB) (T : OexB K C newId bmB) (U : SupC P K mg C i B) (S : ScopeS N ps (defScope st))
    (hb : defBody st = .Expr (.Call (.Attribute (.Call (.Name "super" p0) [] [] p1) "__init__" apos) (arg :: es) [] pos) spos :: rest)
    (hp : ((defArgs st).posonlyargs ++ (defArgs st).args).head? = some ar) (hks : (defScope st).names.lookup ("super" : Str) = some .globalImplicit) (hkc : (defScope st).names.lookup ("__class__" : Str) = some .free) (hka : (defScope st).names.lookup ar.arg = some .local) (h0 : N[0]? = some ar.arg)
    (many : ∀ vs H Q E, sp vs H Q E → vs.length = ps.length)
    (run : ∀ (cda cc : Addr) (A : Around) (outer : List Env) (s : Shared) (H : Hp) (vs : List V) (Q : VK) (E : XK), Room k (A.deeper (PySem.W.ksEnv qual (defScope st) s.heap.objs.size f (.ref cda) cc)) → sp vs H Q E →
      ∃ (a : Addr) (ta : TA) (tr : TS), (L2.start N vs)[0]? = some (some (.ref a)) ∧ H a = some (exo a C none) ∧ PA (cxS CX P w K mg base N qual (defScope st) f cda cc A outer s H E) (arg :: es) ta ∧ PSs (cxS CX P w K mg base N qual (defScope st) f cda cc A outer s H E) rest tr ∧
        ta (L2.start N vs) H fun ws H1 => ws.length ≤ 1000 ∧ H1 a = some (exo a C none) ∧ tr { nx := fun _ H' => Q .non H', rt := Q } (L2.start N vs) H1)
    (hc : ∀ env, ∃ pl : Sem Bool, eval (.Call (.Attribute (.Call (.Name "super" p0) [] [] p1) "__init__" apos) (arg :: es) [] pos) env = (do
      let ov ← attributeBase (.Call (.Name "super" p0) [] [] p1) "__init__" env (eval (.Call (.Name "super" p0) [] [] p1) env)
      standAt apos.atName
      let (m, first) ← holding [ov] (getMethod ov "__init__" pl)
      callWith pos m first (backTo pos (starEach (arg :: es) env)) []) := by intro _; exact ⟨_, rfl⟩)
    (he : ∀ env, starEach (arg :: es) env = (false, eval arg env) :: starEach es env := by intro _; rfl) (hpl : ∀ env, (backTo pos (starEach es env)).any (·.1) = false := by intro _; rfl) :
    FnOk P w K mg base CX (k + 1) f fd ps sp := by
  obtain ⟨cda, cc, oc, od, kV, doc, pm, an, ct, osl, cl, cld, csl, ccl, cdd, ws, ccs, file, tf, rfl, lk, hcd, hcc, hcode, hws, hfile⟩ := F.ex
  refine fn_sup lk hcd hcc S many fun A outer s H vs Q E hr hsp s1 I => ?_
  obtain ⟨a, ta, tr, hσ, e, ha, hrest, hq⟩ := run cda cc A outer s H vs Q E hr hsp
  rw [hb]
  obtain ⟨pl, hc⟩ := hc (cxS CX P w K mg base N qual (defScope st) f cda cc A outer s H E).env
  refine ks_wpAt_execs_cons (ks_wpAt_mono (sup_row (X := cxS CX P w K mg base N qual (defScope st) f cda cc A outer s H E) (arw := ar) (Qn := fun H1 => tr { nx := fun _ H' => Q .non H', rt := Q } (L2.start N vs) H1) FB
    { kf := U.kf, sup := U.sup, isB := U.isB, self := U.self, any := U.any, mg := U.mg, fn := ⟨f, oc, od, osl, rfl, lk⟩, first := hp, code := ⟨cda, ccl, cdd, ws, ccs, file, tf, rfl, hcode, hws, hfile⟩, top := U.top, cell := ⟨cc, cl, cld, csl, rfl, hcc⟩, ks := hks, kc := hkc, ka := hka, at0 := h0, vis := .inl hka }
    T I hσ e ha hq hc (he _) (hpl _) rfl) (fun fl s' hs => ?_) fun _ _ z => z)
  obtain ⟨rfl, H', J, q⟩ := hs
  exact PySem.wpAt_of_wpAny (hrest.run [] s' _ H' _ J q)
section
variable {X : Cx} {e : Expr} {es : List Expr} {ta : TA} {p pos : Pos}
theorem pmk_oexB {CX : CXT} {xw : Str} {C fIw : Addr} {kw : Nat} {fdw : FuncData} {psw : List Str} {sp : Sp} {dsw : List Value} {dvsw : List V} {B newIdw initIdw : String} {bmBw : List Value} (FB : ExcBaseFacts B newIdw initIdw bmBw) (T : OexB X.K C newIdw bmBw) (iCw : PySem.W.findIn X.K (.ref C) "__init__" = some (some (.ref fIw))) (tIw : PySem.W.typeIn X.K (.ref fIw) = some (.type "function"))
    (F1 : FnOk X.prog X.w X.K X.mg X.base CX kw fIw fdw psw sp) (hrw : Room (kw + 1) X.A) (hbw : Binds X.K fdw psw dsw) (hdw : Vals dvsw dsw) (stands : Passes CX X (fun _ _ _ => False)) (hgw : Gl X xw) (over : X.mg xw = some (.ref C)) (unfound : PA X (ew :: es) ta)
    (hdbw : (xw == ("__debug__" : Str)) = false := by decide) (hew : starEach (ew :: es) X.env = (false, eval ew X.env) :: starEach es X.env := by rfl) (hplw : (backTo pos (starEach es X.env)).any (·.1) = false := by rfl) :
    PMk X (.Call (.Name xw p) (ew :: es) [] pos) (tMkO C sp dvsw ta) := by
  intro pins s σ H Q I h
  obtain ⟨nmw, qw, N, bsw, bmw, snw, subw, abw, colw, ddw, k0w, k1w, k2w, k3w, k5w, hCw, hbmw⟩ := T.cls
  refine wpAny_Call_Name_kw (ld_glob I hgw over ?_ hdbw)
  refine PySem.W.callWith_K (h₀ := X.base) I.ok.mod.kin T.kept (thn (unfound.run pos pins s σ H _ I h) fun usw s1w ⟨vsw, H1, I1, r1w, hzw, q1w⟩ => ⟨I1.kIn, ?_⟩) hew hplw
  show wpAny _ _ (call (.ref C) usw) _ _ _
  obtain ⟨heap, gw, drw, tkw, osw⟩ := s1w
  have hszw : heap.objs.size ≤ heap.objs.size + 1 := Nat.le_succ _
  have hnw : H1 (heap.objs.size + 1) = none := I1.hok.fresh hszw
  have go := q1w (heap.objs.size + 1) hnw
  have kkw : ∀ bw ow, heap.get? bw = some ow → ((heap.push (PySem.W.kdv_tup usw)).push (PySem.HandSPX.excO C heap.objs.size)).get? bw = some ow := fun bw ow ew => Heap.get?_push_of_some _ (Heap.get?_push_of_some _ ew)
  have hgetw : ((heap.push (PySem.W.kdv_tup usw)).push (PySem.HandSPX.excO C heap.objs.size)).get? (heap.objs.size + 1) = some (PySem.HandSPX.excO C heap.objs.size) := by heap_get
  have I2 : Inv X pins σ (upd H1 (heap.objs.size + 1) (exo (heap.objs.size + 1) C none)) ⟨(heap.push (PySem.W.kdv_tup usw)).push (PySem.HandSPX.excO C heap.objs.size), gw, drw, tkw, osw⟩ :=
    I1.laid (t' := tkw) (a := heap.objs.size + 1) (o := exo (heap.objs.size + 1) C none) (h' := (heap.push (PySem.W.kdv_tup usw)).push (PySem.HandSPX.excO C heap.objs.size)) kkw hszw (exo_ok hgetw)
  have r2w : Vals (V.ref (heap.objs.size + 1) :: (vsw ++ dvsw)) (Value.ref (heap.objs.size + 1) :: (usw ++ dsw)) := .cons rfl (r1w.append hdw)
  have hlw : (Value.ref (heap.objs.size + 1) :: usw ++ dsw).length = psw.length := by
    have ew := r2w.length
    rw [F1.len _ _ _ _ go] at ew
    exact ew.symm
  have husw : usw.length ≤ sizeLine := by
    rw [← Paired.length r1w, sizeLine_eq]
    omega
  refine wpAny_call (PySem.HandSPX.call_own FB (fun Y => PySem.W.excTail_contains Y bmw hbmw) (I1.kIn _ _ hCw) (PySem.W.looks_findIn I1.kIn iCw) (fun selfw => PySem.W.bind_fn I1.kIn selfw tIw) husw
    (codeAny_mono (F1.run _ X.stack _ _ ⟨Value.ref (heap.objs.size + 1) :: usw, []⟩ (Value.ref (heap.objs.size + 1) :: (usw ++ dsw)) _ _ (fun _ _ _ => False) (hrw.make C usw []) (I2.env0.make C usw []) (hbw _ (Value.ref (heap.objs.size + 1) :: usw) I2.kIn hlw) r2w go) fun rw s'w hq'w => ?_))
  cases rw with
  | error er => exact stands pins σ _ _ er s'w I2 hq'w
  | ok fl =>
    cases fl with
    | ret u =>
      obtain ⟨vw, H2, os2w, bare2w, un2w, hok2w, rvw, evw, dw, fsw, eaw, edw, hd1w, q2w⟩ := hq'w
      subst evw
      obtain ⟨h2w, g2w, d2w, t2w, os'w⟩ := s'w
      exact ⟨rvw, mk_end (raises_own T.excs T.kind) I1 hszw kkw un2w hok2w os2w bare2w eaw edw hd1w q2w⟩
    | next => exact False.elim hq'w
    | brk => exact False.elim hq'w
    | cont => exact False.elim hq'w
end
end RSup

/-! An exception that stays in a variable behind its except suite. -/
namespace Pot
open PySem PySem.Spec PyProof.Rows L2
/-- an exception of the class cls that was caught and is kept, at a -/
def CauO (cls : Value) (d : Option Addr) (a : Addr) : HO := .ext fun h => ∃ (oe : Obj) (vs : Array Value), h.get? a = some oe ∧ Zc cls d oe ∧ oe.data = .fields vs
section
variable {X : Cx} {pins : List (Addr × Obj)} {σ : L2.St} {H : Hp} {s : Shared}
/-- an object that is in hand, and that wasn't there at the entry, is tracked from now on -/
theorem keepIt {a : Addr} {oe : Obj} {vs : Array Value} {cls : Value} {d : Option Addr} (I : Inv X pins σ H s) (e : s.heap.get? a = some oe) (hz : Zc cls d oe) (hd : oe.data = .fields vs) (na : H a = none)
    (nL : a ≠ X.env.locals) (n0 : X.s_0.heap.get? a = none) (np : ∀ p ∈ X.pn ++ pins, p.1 ≠ a) : Inv X pins σ (upd H a (CauO cls d a)) s := by
  have ne0 : ∀ b o, X.s_0.heap.get? b = some o → b ≠ a := fun b o q z => by rw [z, n0] at q; cases q
  have neS : ∀ b o, H b = some o → b ≠ a := fun b o q z => by rw [z, na] at q; cases q
  refine ⟨I.ok, I.os, I.bare, ⟨I.base.keep, I.base.slot, fun b o q n hb => ?_, I.base.there, fun b xs q => ?_, fun b o u q => ?_, fun b ps q => ?_⟩, I.loc, I.cell, ?_, fun x c q => ?_, fun p hp => ?_, fun b u q => ?_, I.len⟩
  · rw [upd_ne (ne0 b o q)]; exact I.base.free b o q n hb
  · have z := I.base.tups b xs q
    rw [upd_ne (neS b _ z)]; exact z
  · have z := I.base.frzs b o u q
    rw [upd_ne (neS b _ z)]; exact z
  · obtain ⟨m, z⟩ := I.base.tbls b ps q
    exact ⟨m, by rw [upd_ne (neS b _ z)]; exact z⟩
  · rw [upd_ne (Ne.symm nL)]; exact I.free
  · have nc : c ≠ a := fun z => by
      obtain ⟨v, o, ho, hc⟩ := I.cell x c q
      rw [z, e] at ho
      cases ho
      rw [hd] at hc
      cases hc
    rw [upd_ne nc]; exact I.freeC x c q
  · obtain ⟨p1, p2, p3⟩ := I.pin p hp
    exact ⟨p1, by rw [upd_ne (np p hp)]; exact p2, p3⟩
  · by_cases hb : b = a
    · subst hb
      rw [upd_same] at q
      cases q
      exact ⟨⟨oe, vs, e, hz, hd⟩, ⟨oe, e⟩, fun _ _ ⟨o, v, z, r⟩ k => ⟨o, v, k o z, r⟩⟩
    · rw [upd_ne hb] at q
      exact (I.hok b u q).stay (fun c v _ z => z) (fun c z => by rw [upd_ne (neS c _ z)]; exact z) fun c xs z => by rw [upd_ne (neS c _ z)]; exact z
end
/-- what 'except x as n: m = n' wishes of an exception of the body: slot i is n's, and what it's bound to is kept -/
def wKeep (K : PySem.W.Frag) (c : Value) (i : Nat) (ts : Addr → TS) (D : Ends) : WX := fun cls d σ H =>
  PySem.W.exmOne K cls c = some true ∧ ∀ a, H a = none → ts a { nx := fun σ' H' => D.nx (σ'.set i none) (upd H' a (CauO cls d a)), rt := fun _ _ => False, bk := fun _ _ => False, ct := fun _ _ => False } (σ.set i (some (.ref a))) H
section
variable {X : Cx} {x n : Str} {c : Value} {i : Nat} {body suite : List Stmt} {b₀ : Stmt} {np pos pos' : Pos} {tb : WX → TS} {ts : Addr → TS}
theorem ps_try_keep (hx : X.ex = []) (hs : X.stack = X.env :: X.outer) (hf : X.env.frame = some X.env.locals) (hN : X.N.Nodup) (hi : X.N[i]? = some n) (hln : X.env.kindOf n = some .local) (hc : Names X x c)
    (hb : ∀ (W : WX) (pn : List (Addr × Obj)) (xe : Value → Shared → Prop), Takes (X.tr pn xe) W → PassesOwn (model X.prog X.w) X.A X.env xe → PSs (X.tr pn xe) body (tb W))
    (hsu : ∀ (a : Addr) (pn : List (Addr × Obj)), PSs (X.suite a pn) (b₀ :: suite) (ts a)) :
    PS X (.Try body [.ExceptHandler (some (.Name x np)) (some n) (b₀ :: suite) pos'] [] [] pos) (fun D σ H => tb (wKeep X.K c i ts D) D σ H) := by
  refine ⟨fun pins s σ H D I h => ?_⟩
  have ok := I.ok
  have hfr : X.A.frames = some (X.env :: X.outer) := by rw [ok.frames, hs]
  refine wpAny_Try_except (wpAny_mono ((hb (wKeep X.K c i ts D) (X.pn ++ pins) _ (fun u s' xx => ?_) PassesOwn.looking).run [] s σ H D (I.toTry _) h) (fun f s1 hsp => ?_) (fun e s1 he => he))
  · obtain ⟨a, B, sI, pins', σ', H', cls, d, rfl, J', nb, up, sky, na, os, ag, hb1, hyes⟩ := xx
    have J : Inv X pins σ' H' sI := J'.ofTry ok
    rw [show X.stack = X.env :: X.outer from hs] at sky
    refine Sky.land Zc.steady hfr hf sky fun h3 fl3 up3 => ?_
    have J3 : Inv X pins σ' H' { s' with heap := h3 } := J.landed nb fl3.1 (up.trans up3) os ag
    obtain ⟨oe3, vs3, he3, hz3, hd3⟩ := fl3.there
    have nfr : a ∉ frs (X.env :: X.outer) := fun hm => by
      obtain ⟨_, o', e', hnf⟩ := fl3.2.2.1.mem hm
      rw [he3] at e'; cases e'
      exact hnf _ hd3
    have nL : a ≠ X.env.locals := fun z => nfr (List.mem_filterMap.mpr ⟨X.env, List.mem_cons_self, by rw [hf, z]⟩)
    have nF : a ∉ X.fs := fun hm => by
      obtain ⟨e, he, q⟩ := List.mem_filterMap.mp hm
      exact nfr (List.mem_filterMap.mpr ⟨e, List.mem_cons_of_mem _ he, q⟩)
    have nI : sI.heap.get? a = none := by
      cases q : sI.heap.get? a with
      | none => rfl
      | some o =>
        have z := nb a o q (by rw [hs]; exact nfr)
        rw [fl3.2.1] at z; cases z
    have n0 : X.s_0.heap.get? a = none := by
      cases q : X.s_0.heap.get? a with
      | none => rfl
      | some o =>
        obtain ⟨o', z⟩ := J.base.there a o q (by rw [hx]; exact fun z => nomatch z)
        rw [nI] at z; cases z
    have npin : ∀ p ∈ X.pn ++ pins, p.1 ≠ a := fun p hp z => by
      have q := (J.pin p hp).1
      rw [z, nI] at q; cases q
    have S3 := J3.suite he3 hd3 na nL nF
    refine wpAny_handleBy_cons (codeAny_handlers_test ?_) (by intro q; cases q)
    have LM := PySem.W.exm_one (M := model X.prog X.w) (J3.kIn) (fun A Q E s k q => wpAny_typeOf_ref (k _ _ he3) (by rw [hz3.1]; exact q)) hb1
    have test : ∀ {Q : Value → Shared → Prop} {E : Value → Shared → Prop}, Q c { s' with heap := h3 } → wpAny (model X.prog X.w) (X.A.mark (some (.ref a))) (eval (.Name x np) X.env) Q E { s' with heap := h3 } := fun {Q E} q => by
      obtain ⟨hg, hdbg, hm | ⟨hm, hv, hnn⟩⟩ := hc
      · exact ld_glob (X := X.suite a ((a, oe3) :: (X.pn ++ pins))) S3 hg hm q hdbg
      · exact ld_blt (X := X.suite a ((a, oe3) :: (X.pn ++ pins))) S3 hg hm hv q hnn hdbg
    refine test (LM.here (codeAny_handlers_suite_as (HandSPX.lands_againZ fl3 fun h4 fl4 up4 => ?_)))
    have J4 : Inv X pins σ' H' { s' with heap := h4 } := J.landed nb fl4.1 ((up.trans up3).trans up4) os ag
    obtain ⟨oe4, vs4, he4, hz4, hd4⟩ := fl4.there
    refine store_ok (X := X.suite a ((a, oe4) :: (X.pn ++ pins))) (v := .ref a) (J4.suite he4 hd4 na nL nF) hN hi (.inl hln) rfl (fun s5 S5 => ?_) (.inr hln)
    refine wpAny_mono ((hsu a ((a, oe4) :: (X.pn ++ pins))).run [] s5 _ H' _ S5 (hyes a na)) (fun f s6 hsp => ?_) (fun _ _ z => False.elim z)
    cases f with
    | next =>
      obtain ⟨σ6, H6, S6, q6⟩ := hsp
      obtain ⟨g1, g2, _⟩ := S6.pin (a, oe4) (List.mem_append.mpr (.inl List.mem_cons_self))
      exact gone_ok (keepIt (S6.unsuite ok) g1 hz4 hd4 g2 nL n0 npin) hN hi hln fun s7 J7 => ⟨_, _, J7, q6⟩
    | brk => obtain ⟨_, _, _, z⟩ := hsp; exact z.elim
    | cont => obtain ⟨_, _, _, z⟩ := hsp; exact z.elim
    | ret u => obtain ⟨_, _, _, _, _, z⟩ := hsp; exact z.elim
  · cases f with
    | next =>
      obtain ⟨σ', H', J', q⟩ := hsp
      exact wpAny_execs_nil ⟨σ', H', J'.ofTry ok, q⟩
    | brk =>
      obtain ⟨σ', H', J', q⟩ := hsp
      exact ⟨σ', H', J'.ofTry ok, q⟩
    | cont =>
      obtain ⟨σ', H', J', q⟩ := hsp
      exact ⟨σ', H', J'.ofTry ok, q⟩
    | ret u =>
      obtain ⟨v, σ', H', J', r, q⟩ := hsp
      exact ⟨v, σ', H', J'.ofTry ok, r, q⟩
end
/-- isinstance(e, c), isinstance(e, (c1, ..)) of a kept exception without a dict -/
def rIsK (K : PySem.W.Frag) : List V → Hp → VK → Prop := fun xs H Q => ∃ (a D : Addr) (c : V) (u : Value) (b : Bool), xs = [.ref a, c] ∧ H a = some (CauO (.ref D) none a) ∧ ExcC K D ∧ ClsV c u ∧ PySem.W.kitOne K (.ref D) u = some b ∧ Q (.bl b) H
def rIsKT (K : PySem.W.Frag) : List V → Hp → VK → Prop := fun xs H Q => ∃ (a D tp : Addr) (cs : List V) (us : List Value) (b : Bool), xs = [.ref a, .ref tp] ∧ H a = some (CauO (.ref D) none a) ∧ ExcC K D ∧ H tp = some (.tup cs) ∧ Paired ClsV cs us ∧ PySem.W.kitAny K (.ref D) us = some b ∧ Q (.bl b) H
theorem cau_inst {X : Cx} {pins : List (Addr × Obj)} {σ : L2.St} {H : Hp} {s : Shared} {a D : Addr} (I : Inv X pins σ H s) (h : H a = some (CauO (.ref D) none a)) : ∃ oe, PySem.W.InstAt s.heap a oe D none := by
  obtain ⟨⟨oe, vs, hget, hz, hv⟩, _, _⟩ := (show ObjOk X.prog X.w H s.heap a (CauO (.ref D) none a) from I.hok a _ h)
  obtain ⟨oc, od, oda, osl⟩ := oe
  obtain ⟨h1, h2⟩ := hz
  dsimp only at h1 h2 hv
  subst h1 h2 hv
  exact ⟨_, hget, rfl, rfl, trivial⟩
theorem kc_isK {X : Cx} {K : PySem.W.Frag} (hK : X.K = K := by rfl) : CallR X (.builtin "isinstance") (rIsK K) := by
  subst hK
  intro pins s σ H xs us Q I r h
  obtain ⟨a, D, c, u, b, rfl, hA, C, k, e, q⟩ := h
  obtain ⟨u1, u2, rfl, r1, r2⟩ := vals2 r
  have e2 := k.eq r2
  subst e2
  cases (show u1 = Value.ref a from r1)
  obtain ⟨oe, J⟩ := cau_inst I hA
  exact PySem.W.kia_one (PySem.W.handS_kitx_exc C.hg C.hk C.hs C.hd C.ha C.hn C.ht C.hm) I.kIn J e (fun z => nomatch z) fun tk => ⟨.bl b, H, I.tok tk, rfl, q⟩
theorem kc_isKT {X : Cx} {K : PySem.W.Frag} (hK : X.K = K := by rfl) : CallR X (.builtin "isinstance") (rIsKT K) := by
  subst hK
  intro pins s σ H xs us Q I r h
  obtain ⟨a, D, tp, cs, ws, b, rfl, hA, C, hT, k, e, q⟩ := h
  obtain ⟨u1, u2, rfl, r1, r2⟩ := vals2 r
  cases (show u2 = Value.ref tp from r2)
  cases (show u1 = Value.ref a from r1)
  obtain ⟨oe, J⟩ := cau_inst I hA
  obtain ⟨_, its, rv, o, h1, h2, n, h3⟩ := (show ObjOk X.prog X.w H s.heap tp (.tup cs) from I.hok tp _ hT)
  have e3 := ClsV.all k rv
  subst e3
  obtain ⟨oc, od, dt, sl⟩ := o
  simp only at h2 h3
  subst h2 h3
  exact PySem.W.kia_tup (PySem.W.handS_kitx_exc C.hg C.hk C.hs C.hd C.ha C.hn C.ht C.hm) I.kIn J h1 e (fun z => nomatch z) fun tk => ⟨.bl b, H, I.tok tk, rfl, q⟩
end Pot

/-! A kept exception that has a dict of its own: its class asked about, its fields read. -/
namespace Pot
open PySem PySem.Spec PyProof.Rows L2
section
variable {X : Cx} {pins : List (Addr × Obj)} {σ : L2.St} {H : Hp} {s : Shared} {a C dx : Addr} {fs : List (Str × V)}
theorem cauD_inst (I : Inv X pins σ H s) (h : H a = some (CauO (.ref C) (some dx) a)) (hd : H dx = some (.xd fs)) : ∃ oe od, PySem.W.InstAt s.heap a oe C (some od) ∧ s.heap.get? dx = some od := by
  obtain ⟨⟨oe, vs, hget, hz, hv⟩, _, _⟩ := (show ObjOk X.prog X.w H s.heap a (CauO (.ref C) (some dx) a) from I.hok a _ h)
  obtain ⟨mA, hns, hr⟩ := (show ObjOk X.prog X.w H s.heap dx (.xd fs) from I.hok dx _ hd)
  obtain ⟨od, ho, hl⟩ := lookIn_ns hns
  exact ⟨oe, od, ⟨hget, hz.1, by unfold PySem.W.notCls; rw [hv] <;> rfl, by rw [hz.2]; exact ho⟩, ho⟩
theorem exc_kit {K : PySem.W.Frag} {oe : Obj} {od : Option Obj} (E : ExcC K C) : PySem.W.KitX K (.ref a) (.ref C) (fun h => PySem.W.InstAt h a oe C od) := by
  obtain ⟨cd, hc, _⟩ := PySem.W.any_some E.hd
  exact PySem.W.kitx_exc (by rw [hc]; rfl) E.hg E.hk E.hs E.ha E.hn E.ht E.hm
end
/-- isinstance(e, c), isinstance(e, (c1, ..)) of a kept exception with a dict -/
def rIsD (K : PySem.W.Frag) : List V → Hp → VK → Prop := fun xs H Q => ∃ (a D dx : Addr) (fs : List (Str × V)) (c : V) (u : Value) (b : Bool), xs = [.ref a, c] ∧ H a = some (CauO (.ref D) (some dx) a) ∧ H dx = some (.xd fs) ∧ ExcC K D ∧ ClsV c u ∧ PySem.W.kitOne K (.ref D) u = some b ∧ Q (.bl b) H
def rIsDT (K : PySem.W.Frag) : List V → Hp → VK → Prop := fun xs H Q => ∃ (a D dx tp : Addr) (fs : List (Str × V)) (cs : List V) (us : List Value) (b : Bool), xs = [.ref a, .ref tp] ∧ H a = some (CauO (.ref D) (some dx) a) ∧ H dx = some (.xd fs) ∧ ExcC K D ∧ H tp = some (.tup cs) ∧ Paired ClsV cs us ∧ PySem.W.kitAny K (.ref D) us = some b ∧ Q (.bl b) H
theorem kc_isD {X : Cx} {K : PySem.W.Frag} (hK : X.K = K := by rfl) : CallR X (.builtin "isinstance") (rIsD K) := by
  subst hK
  intro pins s σ H xs us Q I r h
  obtain ⟨a, D, dx, fs, c, u, b, rfl, hA, hd, C, k, e, q⟩ := h
  obtain ⟨u1, u2, rfl, r1, r2⟩ := vals2 r
  have e2 := k.eq r2
  subst e2
  cases (show u1 = Value.ref a from r1)
  obtain ⟨oe, od, J, _⟩ := cauD_inst I hA hd
  exact PySem.W.kia_one (exc_kit C) I.kIn J e (fun z => nomatch z) fun tk => ⟨.bl b, H, I.tok tk, rfl, q⟩
theorem kc_isDT {X : Cx} {K : PySem.W.Frag} (hK : X.K = K := by rfl) : CallR X (.builtin "isinstance") (rIsDT K) := by
  subst hK
  intro pins s σ H xs us Q I r h
  obtain ⟨a, D, dx, tp, fs, cs, ws, b, rfl, hA, hd, C, hT, k, e, q⟩ := h
  obtain ⟨u1, u2, rfl, r1, r2⟩ := vals2 r
  cases (show u2 = Value.ref tp from r2)
  cases (show u1 = Value.ref a from r1)
  obtain ⟨oe, od, J, _⟩ := cauD_inst I hA hd
  obtain ⟨_, its, rv, o, h1, h2, n, h3⟩ := (show ObjOk X.prog X.w H s.heap tp (.tup cs) from I.hok tp _ hT)
  have e3 := ClsV.all k rv
  subst e3
  obtain ⟨oc, odd, dt, sl⟩ := o
  simp only at h2 h3
  subst h2 h3
  exact PySem.W.kia_tup (exc_kit C) I.kIn J h1 e (fun z => nomatch z) fun tk => ⟨.bl b, H, I.tok tk, rfl, q⟩
/-- e.f, e a kept exception of the class at C -/
def tKf (C : Addr) (f : Str) (te : TE) : TE := fun σ H Q => te σ H fun x H1 => ∃ (a dd : Addr) (fs : List (Str × V)) (v : V), x = .ref a ∧ H1 a = some (CauO (.ref C) (some dd) a) ∧ H1 dd = some (.xd fs) ∧ fs.lookup f = some v ∧ Q v H1
theorem pe_kf {X : Cx} {C : Addr} {e : Expr} {te : TE} {pos : Pos} {n : Str} (T : XfC X.K C) (hno : PySem.W.findIn X.K (.ref C) n = some none) (he : PE X e te) (hb : attributeBase e n X.env (eval e X.env) = eval e X.env := by rfl) :
    PE X (.Attribute e n pos) (tKf C n te) := by
  refine ⟨fun pins s σ H Q I h => attr_of hb (thn (he.run pins s σ H _ I h) fun u s1 hh => ?_)⟩
  obtain ⟨x, H1, I1, rx, a, dd, fs, v, ex, hA, hd, l, q⟩ := hh
  subst ex
  cases (show u = Value.ref a from rx)
  obtain ⟨⟨oe, vs, hget, hz, hv⟩, _, _⟩ := (show ObjOk X.prog X.w H1 s1.heap a (CauO (.ref C) (some dd) a) from I1.hok a _ hA)
  obtain ⟨mA, hns, hr⟩ := (show ObjOk X.prog X.w H1 s1.heap dd (.xd fs) from I1.hok dd _ hd)
  obtain ⟨od, ho, hl⟩ := lookIn_ns hns
  obtain ⟨w, hw, rw'⟩ := RelO.some_of (v := v) (o := mA n) (l ▸ hr n)
  have J : PySem.W.InstAt s1.heap a oe C (some od) := ⟨hget, hz.1, by unfold PySem.W.notCls; rw [hv] <;> rfl, by rw [hz.2]; exact ho⟩
  refine HandSPX.exc_get I1.kIn J T.ga T.gg T.exC (PySem.W.findObj_own T.hdC hno rfl ?_) (handed_of rw') ⟨v, H1, I1.tok _, rw', q⟩
  rw [hl, hw]
end Pot

namespace Pot
open PySem PySem.Spec PyProof.Rows L2
/-! ### the least and the greatest of a list of numbers -/
section
variable {X : Cx} {K : PySem.W.Frag}
theorem kc_min (hc : X.calm = true := by rfl) (h : X.K = K := by rfl) : CallR X (.builtin "min") (rMin K) := h ▸ cr_min hc
theorem kc_max (hc : X.calm = true := by rfl) (h : X.K = K := by rfl) : CallR X (.builtin "max") (rMax K) := h ▸ cr_max hc
end
end Pot

/-! a method that may raise, what is raised being wished for at the caller's slots -/
namespace L2
open PySem PySem.Spec PyProof.Rows
/-- a method m of the class at C that may raise -/
structure OMetX (P : Program) (w : World) (K : PySem.W.Frag) (mg : Str → Option Value) (base : Heap) (k : Nat) (C : Addr) (m : Str) (sp : Sp) (dvs : List V) : Prop where
  parts : ∃ (g : Addr) (fd : FuncData) (ps : List Str) (ds : List Value), Cls K C ∧ Meth K C m g ∧ FnOk P w K mg base (L2.CX P w) k g fd ps sp ∧ Binds K fd ps ds ∧ Vals dvs ds
def tMethX (C : Addr) (m : Str) (sp : Sp) (dvs : List V) (E : L2.St → XK) (ta : TE) (t : TA) : TE := fun σ H Q => ta σ H fun x H1 => ∃ a dx fs, x = .ref a ∧ H1 a = some (.ins C dx fs) ∧ fs.lookup m = none ∧
  t σ H1 fun vs H2 => sp (x :: (vs ++ dvs)) H2 Q (E σ)
section
variable {X : Cx} {W : WX} {k j : Nat} {C : Addr} {m : Str} {sp : Sp} {dvs : List V} {p pos apos : Pos} {a o : Expr} {es : List Expr} {ta : TE} {t : TA}
theorem pe_omx {pl : Sem Bool} (c : OMetX X.prog X.w X.K X.mg X.base k C m sp dvs) (room : Room j X.A) (le : k ≤ j) (tk : Takes X W) (ho : PE X o ta) (args : PA X (a :: es) t)
    (star : starEach (a :: es) X.env = (false, eval a X.env) :: starEach es X.env := by rfl) (plain : (backTo pos (starEach es X.env)).any (·.1) = false := by rfl)
    (way : eval (.Call (.Attribute o m apos) (a :: es) [] pos) X.env = (do let ov ← eval o X.env; standAt apos.atName; let (g, first) ← holding [ov] (getMethod ov m pl); callWith pos g first (backTo pos (starEach (a :: es) X.env)) (backToKw pos (keywordEach [] X.env))) := by rfl) :
    PE X (.Call (.Attribute o m apos) (a :: es) [] pos) (tMethX C m sp dvs (WE W) ta t) := by
  obtain ⟨g, fd, ps, ds, hc, hm, F, b, v⟩ := c.parts
  refine ⟨fun pins s σ H Q I h => ?_⟩
  refine PySem.W.methodCall_KW (pl := pl) (thn (ho.run pins s σ H _ I h) fun u s1 ⟨x, H1, I1, rx, y, dx, fs, ex, ea, l, q⟩ => ?_) way
  subst ex
  obtain rfl : u = Value.ref y := rx
  refine getmeth_ok I1 ea hc hm l ?_
  refine PySem.W.callWith_K (first := [.ref y]) (h₀ := X.base) I.ok.mod.kin hm.kp (thn (args.run pos pins s1 σ H1 _ I1 q) fun us s2 ⟨vs, H2, I2, r, q2⟩ => ⟨I2.kIn, ?_⟩) star plain
  exact run_fnSD (us := .ref y :: us) (vs := .ref y :: vs) F (room.mono le) b v (passAt tk σ) I2 (.cons rfl r) q2
end
end L2

/-! a dict comprehension over what is walked -/
namespace L2
open PySem PySem.Spec PyProof.Rows
theorem dc_it {J : It} {many : Nat} {Gd : Hp → Prop} {Yd : Nat → Hp → V → Hp → Prop} (wk : Walk J many Gd Yd) {tgt : TG} {tst : TT} {kx vx : TE} {own : List Nat} {σ0 : L2.St} {Hs : Hp} {nw : Addr} {Fin : Hp → Prop}
    (Iv : Nat → Hp → Prop) (begin_ : Iv 0 (upd Hs nw (.dK []))) (keeps_ : ∀ j Hj, j ≤ many → Iv j Hj → Gd Hj)
    (turn : ∀ j y Hj Hk, j < many → Iv j Hj → Yd j Hj y Hk → tgt y (wipe σ0 own) Hk fun σt Ht => wipe σt own = wipe σ0 own ∧ tst σt Ht fun yes Hb =>
      if yes = true then kx σt Hb fun ky Hc => vx σt Hc fun vl Hd => ∃ kv k, ky = kV k ∧ Hd nw = some (.dK kv) ∧ kv.length < sizeLine ∧ Iv (j + 1) (upd Hd nw (.dK (putK kv k vl))) else Iv (j + 1) Hb) (end_ : ∀ He, Iv many He → Fin He) :
    ∃ W : Nat → Nat → Hp → Prop, (∃ c, W 0 c (upd Hs nw (.dK []))) ∧ ∀ j c Hj, W j c Hj →
      (J.stop j Hj ∧ Fin Hj) ∨ (J.go j Hj ∧ ∃ More : Hp → Prop, (∀ Hm, More Hm → ∃ c', c' < c ∧ W (j + 1) c' Hm) ∧ ∀ y Hk, J.yld j Hj y Hk → tgt y (wipe σ0 own) Hk fun σt Ht => wipe σt own = wipe σ0 own ∧ tst σt Ht fun yes Hb =>
        if yes = true then kx σt Hb fun ky Hc => vx σt Hc fun vl Hd => ∃ kv k, ky = kV k ∧ Hd nw = some (.dK kv) ∧ kv.length < sizeLine ∧ More (upd Hd nw (.dK (putK kv k vl))) else More Hb) := by
  refine ⟨fun j c Hj => c + j = many ∧ Iv j Hj, ⟨many, Nat.add_zero _, begin_⟩, ?_⟩
  rintro j c Hj ⟨ec, iv⟩
  have gd := keeps_ j Hj (by omega) iv
  rcases Nat.lt_or_ge j many with less | over
  · exact .inr ⟨wk.goes j Hj less gd, Iv (j + 1), fun Hm im => ⟨c - 1, by omega, by omega, im⟩, fun y Hk yk => turn j y Hj Hk less iv (wk.yields j Hj y Hk less gd yk)⟩
  · obtain rfl : j = many := by omega
    exact .inl ⟨wk.stops Hj gd, end_ Hj iv⟩
end L2

namespace Pot
open PySem PySem.Spec PyProof.Rows L2
/-! ### words of letters -/
/-- at most n letters a to z -/
def Wd (n : Nat) (z : Str) : Prop := z.length ≤ n ∧ ∀ c ∈ z.cps.toList, 97 ≤ c ∧ c ≤ 122
theorem Wd.mono {n m : Nat} {z : Str} (h : Wd n z) (k : n ≤ m) : Wd m z := ⟨Nat.le_trans h.1 k, h.2⟩
theorem wd_add {n m : Nat} {a b : Str} (h : Wd n a) (k : Wd m b) : Wd (n + m) (a ++ b) := by
  refine ⟨by rw [strLen_append]; exact Nat.add_le_add h.1 k.1, fun c hc => ?_⟩
  have e : (a ++ b).cps.toList = a.cps.toList ++ b.cps.toList := by
    show (a.cps ++ b.cps).toList = _
    simp
  rw [e] at hc
  exact (List.mem_append.mp hc).elim (h.2 c) (k.2 c)
def az : List Nat := [97, 98, 99, 100, 101, 102, 103, 104, 105, 106, 107, 108, 109, 110, 111, 112, 113, 114, 115, 116, 117, 118, 119, 120, 121, 122]
theorem az_cps : (Str.ofString "abcdefghijklmnopqrstuvwxyz").cps.toList = az := by decide +kernel
theorem az_at : ∀ k : Nat, k < 26 → atI az ((k : Nat) : Int) = some (97 + k) := by unfold az; decide
theorem az_ix {i : Int} (h0 : 0 ≤ i) (h1 : i < 26) : atI (Str.ofString "abcdefghijklmnopqrstuvwxyz").cps.toList i = some (97 + i.toNat) := by
  rw [az_cps]
  have h := az_at i.toNat (by omega)
  rw [show ((i.toNat : Nat) : Int) = i by omega] at h
  exact h
theorem wd_sign {c : Nat} (h0 : 97 ≤ c) (h1 : c ≤ 122) : Wd 1 ⟨#[c]⟩ := ⟨Nat.le_refl _, fun d hd => by
  have e : d = c := by simpa using hd
  subst e; exact ⟨h0, h1⟩⟩
theorem wd_letter {i : Int} (h0 : 0 ≤ i) (h1 : i < 26) : Wd 1 ⟨#[97 + i.toNat]⟩ := wd_sign (by omega) (by omega)
theorem wd_nil : Wd 0 Str.empty := ⟨Nat.le_refl _, fun c hc => by have : c ∈ ([] : List Nat) := hc; simp at this⟩
theorem wd_join : ∀ {ys : List Str}, (∀ y ∈ ys, Wd 1 y) → Wd ys.length (Str.join Str.empty ys)
  | [], _ => wd_nil
  | [x], h => h x List.mem_cons_self
  | x :: y :: r, h => by
    have ih := wd_join (ys := y :: r) fun z hz => h z (List.mem_cons_of_mem _ hz)
    show Wd _ (x ++ Str.empty ++ Str.join Str.empty (y :: r))
    have h1 := wd_add (wd_add (h x List.mem_cons_self) wd_nil) ih
    exact h1.mono (by simp only [List.length_cons]; omega)
theorem cut_mem {z : Str} {lo hi : Option Int} {c : Nat} (h : c ∈ (cutS z lo hi).cps.toList) : c ∈ z.cps.toList := by
  unfold cutS at h
  have h2 : c ∈ (z.cps.toList.drop (HT.sIx z.length 0 lo)).take (HT.sIx z.length z.length hi - HT.sIx z.length 0 lo) := by simpa using h
  exact List.mem_of_mem_drop (List.mem_of_mem_take h2)
theorem cut_len (z : Str) (lo hi : Option Int) : (cutS z lo hi).length ≤ HT.sIx z.length z.length hi - HT.sIx z.length 0 lo := by
  unfold cutS
  show (List.toArray _).size ≤ _
  rw [List.size_toArray]
  exact List.length_take_le ..
theorem wd_head {n k : Nat} {z : Str} (h : Wd n z) : Wd k (cutS z none (some (k : Int))) := by
  refine ⟨Nat.le_trans (cut_len z none (some (k : Int))) ?_, fun c hc => h.2 c (cut_mem hc)⟩
  rw [HT.sIx_nat]
  omega
theorem wd_tail {n k : Nat} {z : Str} (h : Wd n z) : Wd (z.length - k) (cutS z (some (k : Int)) none) := by
  refine ⟨Nat.le_trans (cut_len z (some (k : Int)) none) ?_, fun c hc => h.2 c (cut_mem hc)⟩
  rw [HT.sIx_nat, HT.sIx_none]
  omega
theorem wd_cut {n : Nat} {z : Str} {lo hi : Option Int} (h : Wd n z) : Wd n (cutS z lo hi) := by
  refine ⟨Nat.le_trans (cut_len z lo hi) ?_, fun c hc => h.2 c (cut_mem hc)⟩
  have := HT.sIx_le z.length z.length (Nat.le_refl _) hi
  have := h.1
  omega
theorem wd_small {n : Nat} {z : Str} (h : Wd n z) (k : n ≤ 1000) : z.length ≤ sizeLine := Nat.le_trans h.1 (Nat.le_trans k (by decide))
theorem wd_codes {n : Nat} {z : Str} (h : Wd n z) : ∀ x ∈ z.cps.toList, x < 1114112 := fun x hx => by have := (h.2 x hx).2; omega
section
variable {K : PySem.W.Frag}
theorem kp_seq {d c l : Addr} {H H' : Hp} {xs : List V} (k : Kp d c H H') (n1 : l ≠ d) (n2 : l ≠ c) (h : SqL K H l xs) : SqL K H' l xs := by
  rcases h with (h | ⟨o, h⟩) | h
  · exact .inl (.inl (k _ _ n1 n2 h))
  · exact .inl (.inr ⟨o, k _ _ n1 n2 h⟩)
  · exact .inr h
end
end Pot

namespace Pot
open PySem PySem.Spec PyProof.Rows L2
/-! ### a text twice -/
section
variable {X : Cx}
theorem mul2_len (z : Str) : (Txt.mul z 2).length ≤ 2 * z.length ∧ ∀ c ∈ (Txt.mul z 2).cps.toList, c ∈ z.cps.toList := by
  unfold Txt.mul
  rw [if_neg (show ¬ (2 : Int) < 1 by decide)]
  split
  · exact ⟨by omega, fun c h => h⟩
  · constructor
    · show Array.size _ ≤ _
      simp [List.replicate]
      show z.cps.size + z.cps.size ≤ 2 * z.cps.size
      omega
    · intro c h
      simp [List.replicate] at h
      simpa using h
def rTwice : R2 := fun x y H Q => ∃ z : Str, x = .str z ∧ y = .int 2 ∧ z.length ≤ 100000 ∧ ∀ u : Str, u.length ≤ 2 * z.length → (∀ c ∈ u.cps.toList, c ∈ z.cps.toList) → Q (.str u) H
theorem op_twice : OpR X (binaryOp .Mult) rTwice := by
  intro pins sh sg H xv yv v1 u1 Q I r1 r2 h
  obtain ⟨z, rfl, rfl, hz, q⟩ := h
  obtain ⟨tk1, rfl⟩ := r1
  obtain ⟨tk2, rfl⟩ := r2
  have m2 := mul2_len z
  refine SB.mul ⟨by decide, fun _ _ hh => ?_, fun _ _ => ?_⟩ (fun tt kk => ⟨.str (Txt.mul z 2), H, I.tok _, ⟨_, rfl⟩, q _ m2.1 m2.2⟩)
  · have : ((2 : Int) ^ 63 - 1) / 2 = 4611686018427387903 := by decide
    omega
  · have e : (2 : Int).toNat = 2 := rfl
    rw [e]
    show decide _ = false
    refine decide_eq_false ?_
    have := sizeLine_eq
    omega
end
end Pot

namespace Pot
open PySem PySem.Spec PyProof.Rows L2
/-- sorted of a dict with whole numbers as keys -/
def rSortedDI : List V → Hp → VK → Prop := fun xs H Q => ∃ (a : Addr) (kvs : List (Key × V)) (ks : List Int), xs = [.ref a] ∧ Rd H a (.dK kvs) ∧ kvs.map (·.1) = ks.map Sum.inl ∧ ks.length < 64 ∧
    ∀ (ys : List Int) (p : Addr), ys.Perm ks → ys.Pairwise (· ≤ ·) → H p = none → Q (.ref p) (upd H p (.lst (ys.map V.int)))
theorem kc_sortedDI {X : Cx} (hc : X.calm = true := by rfl) : CallR X (.builtin "sorted") rSortedDI := call_sortedDI hc
end Pot

/-! == of two dicts with data as values, whatever the order of their keys -/
namespace L2
open PySem PySem.Spec PyProof.Rows
/-- whether all entries of ks are in ls -/
inductive DHits (K : PySem.W.Frag) (H : Hp) (ls : List (Key × V)) : List (Key × V) → Bool → Prop
  | nil : DHits K H ls [] true
  | miss {k : Key} {v : V} {r : List (Key × V)} : valV ls k = none → DHits K H ls ((k, v) :: r) false
  | hit {k : Key} {v y : V} {d e : PyData} {r : List (Key × V)} {b : Bool} : valV ls k = some y → Dp K H v d → Dp K H y e → SeqAt.shaped d = true → SeqAt.shaped e = true → DHits K H ls r b → DHits K H ls ((k, v) :: r) (PyData.eqv d e && b)
def rEqDD (K : PySem.W.Frag) : R2 := fun x y H Q => ∃ a b ks ls r, x = .ref a ∧ y = .ref b ∧ H a = some (.dK ks) ∧ H b = some (.dK ls) ∧ (ks.length = ls.length → DHits K H ls ks r) ∧ Q (.bl (ks.length == ls.length && r)) H
section
variable {X : Cx}
theorem dhits_ok {pins : List (Addr × Obj)} {σ : L2.St} {H : Hp} {s : Shared} {A : Around} (I : Inv X pins σ H s) {ls : List (Key × V)} {vb : List (Key × Value)} (rb : KV ls vb) (hu : A.in1.units + 64 < cLine) {ks : List (Key × V)} {va : List (Key × Value)} (ra : KV ks va) :
    ∀ {r : Bool}, DHits X.K H ls ks r → PySem.W.KeqHits A.in1 s vb va r := by
  unfold KV at ra
  induction ra with
  | nil => intro r h; cases h; exact .nil
  | @cons p q ps qs h t ih =>
    intro r hp
    obtain ⟨h1, h2⟩ := h
    obtain ⟨k, v⟩ := q
    obtain ⟨k1, v1⟩ := p
    have h1' : k1 = k := h1
    subst h1'
    cases hp with
    | miss hn =>
      refine .miss ?_
      have rr := rb.val k1
      rw [hn] at rr
      cases e : valueAt vb k1 with
      | none => rfl
      | some y => rw [e] at rr; have := rr.isSome_eq; cases this
    | hit hy d1 d2 s1 s2 hr =>
      have rr := rb.val k1
      rw [hy] at rr
      obtain ⟨y', ey, ry⟩ := rr.some_of
      obtain ⟨as, r1⟩ := Dp.reads I _ _ _ d1 h2
      obtain ⟨bs, r2⟩ := Dp.reads I _ _ _ d2 ry
      exact .hit ey (PySem.W.keq_at r1 r2 s1 s2 hu) (ih hr)
theorem op_eq_dictD (hu : X.A.units + 66 < cLine) : OpR X (compareOp .Eq) (rEqDD X.K) := by
  intro pins s σ H x y v u Q I rx ry h
  obtain ⟨a, b, ks, ls, r, rfl, rfl, ea, eb, hp, q⟩ := h
  obtain rfl : v = Value.ref a := rx
  obtain rfl : u = Value.ref b := ry
  obtain ⟨_, ya, va, ra, da⟩ := (show ObjOk X.prog X.w H s.heap a (.dK ks) from I.hok a _ ea)
  obtain ⟨_, yb, vb, rb, db⟩ := (show ObjOk X.prog X.w H s.heap b (.dK ls) from I.hok b _ eb)
  have l1 : va.length = ks.length := ra.length.symm
  have l2 : vb.length = ls.length := rb.length.symm
  refine PySem.W.keq_eq (knd := mixKind X.prog X.w) (r := r) ya yb da db (by omega) (fun e => dhits_ok I rb (by show X.A.units + 1 + 64 < cLine; omega) ra (hp (by rw [← l1, ← l2]; exact e))) (fin_bl I q (by rw [l1, l2]))
end
end L2

/-! == and != of an own object and what is of a built-in kind -/
namespace L2
open PySem PySem.Spec PyProof.Rows
/-- the kind of a value -/
def KdV (K : PySem.W.Frag) (T : String) (x : V) (H : Hp) : Prop := match x with
  | .non => T = "NoneType"
  | .bl _ => T = "bool"
  | .str _ => T = "str"
  | .int _ => T = "int"
  | .ref p => (T = "list" ∧ ∃ xs, SqL K H p xs) ∨ (T = "tuple" ∧ ∃ xs, SqT K H p xs)
  | _ => False
theorem looks_ty {M : Model} {s : Shared} {v : Value} {T : String} (h : s.TypeIs v T) : PySem.W.Looks M s.heap (typeOf v) (.type T) := by
  cases v with
  | ref a =>
    obtain ⟨o, e, c⟩ := h
    rw [← c]
    exact (PySem.W.Looks.ld e).andThen .now
  | _ => exact PySem.W.Looks.of_pure h
theorem kdV_is {X : Cx} {pins : List (Addr × Obj)} {σ : St} {H : Hp} {s : Shared} {T : String} {x : V} {v : Value} (I : Inv X pins σ H s) (r : RelV x v) (ty : KdV X.K T x H) : s.TypeIs v T := by
  cases x with
  | non =>
    cases r
    cases (show T = "NoneType" from ty)
    rfl
  | bl b =>
    cases r
    cases (show T = "bool" from ty)
    rfl
  | str z =>
    obtain ⟨t, rfl⟩ := r
    cases (show T = "str" from ty)
    exact typeIs_str s z t
  | int i =>
    obtain ⟨t, rfl⟩ := r
    cases (show T = "int" from ty)
    exact typeIs_int s i t
  | ref p =>
    cases r
    rcases ty with ⟨rfl, xs, hq⟩ | ⟨rfl, xs, hq⟩
    · obtain ⟨its, _, pl, _⟩ := I.list hq
      exact pl.isList.typeIs
    · obtain ⟨its, _, pl, _⟩ := I.tuple hq
      first | exact pl.typeIs | exact pl.isTuple.typeIs | exact (by obtain ⟨o, n, e, c, _⟩ := pl; exact ⟨o, e, c⟩) | exact (by obtain ⟨o, e, c, _⟩ := pl; exact ⟨o, e, c⟩)
  | _ => exact False.elim ty
section
variable {X : Cx} {CX : CXT} {C g : Addr} {n : Nat} {sp : Sp} {E : XK}
/-- x == y, x of the class at C, whose __eq__ is at g; y of a built-in kind T -/
def rEqB (K : PySem.W.Frag) (C : Addr) (sp : Sp) (E : XK) : R2 := fun x y H Q => ∃ (a dx : Addr) (fs : List (Str × V)) (T : String), x = .ref a ∧ H a = some (.ins C dx fs) ∧ KdV K T y H ∧ PySem.W.notFirst K C (.type T) = true ∧ sp [x, y] H (fun z H' => ∃ c, z = .bl c ∧ Q (.bl c) H') E
theorem op_eqB (hs : PySem.W.findIn X.K (.ref C) "__eq__" = some (some (.ref g))) (hf : PySem.W.isFn X.K (.ref g) = true) (F : FnR X.prog X.w X.K X.mg X.base CX n g sp)
    (hr : Room n X.A) (hx : Passes CX X E) : OpR X (compareOp .Eq) (rEqB X.K C sp E) := by
  intro pins s σ H x y v u Q I rx ry h
  obtain ⟨a, dx, fs, T, rfl, ha, hk, hn, q⟩ := h
  cases (show v = Value.ref a from rx)
  obtain ⟨mA, J, _⟩ := ins_get I.hok ha
  obtain ⟨od, J, _⟩ := J.look
  obtain ⟨m, hF⟩ := I.fr
  show wpAny (model X.prog X.w) X.A (richCompare .Eq (.ref a) u) (EP X pins σ Q) X.xe s
  refine PySem.W.cmp_K (op := .Eq) (tb := .type T) hr.units0 hF I.ok.mod.kin J (looks_ty (kdV_is I ry hk)) hn hs hf ?_
  refine wpAny_mono (wpAny_call (run_fnR (us := [.ref a, u]) (vs := [.ref a, y]) F hr hx I (.cons rfl (.cons ry .nil)) q)) (fun w s' z => ?_) fun _ _ x => x
  obtain ⟨z', H', I', rz, c, ec, qz⟩ := z
  subst ec
  exact SlX.cmpback rz ⟨.bl c, H', I', rz, qz⟩
theorem op_neB (hN : NeK X.K C) (hs : PySem.W.findIn X.K (.ref C) "__eq__" = some (some (.ref g))) (hf : PySem.W.isFn X.K (.ref g) = true) (F : FnR X.prog X.w X.K X.mg X.base CX n g sp)
    (hr : Room (n + 1) X.A) (hu : X.A.units + 2 < cLine) (hx : Passes CX X E) : OpR X (compareOp .NotEq) (rEqB X.K C (fun vs H Q E => sp vs H (fun z H' => ∃ c, z = .bl c ∧ Q (.bl (!c)) H') E) E) := by
  intro pins s σ H x y v u Q I rx ry h
  obtain ⟨a, dx, fs, T, rfl, ha, hk, hn, q⟩ := h
  cases (show v = Value.ref a from rx)
  obtain ⟨mA, J, _⟩ := ins_get I.hok ha
  obtain ⟨od, J, _⟩ := J.look
  obtain ⟨m, hF⟩ := I.fr
  show wpAny (model X.prog X.w) X.A (richCompare .NotEq (.ref a) u) (EP X pins σ Q) X.xe s
  refine OwnR.cmp_ne (tb := .type T) hu hF I.ok.mod.kin J (looks_ty (kdV_is I ry hk)) hn hN.ob hN.ne hs hf ?_
  refine wpAny_mono (wpAny_call (SlX.run_at (us := [.ref a, u]) (ws := [.ref a, y]) F hr.in1 I.env0.in1 hx I (.cons rfl (.cons ry .nil)) q)) (fun w s' z => ?_) fun _ _ x => x
  obtain ⟨z', H', I', rz, c, ec, c2, ec2, qz⟩ := z
  subst ec
  cases (show w = Value.bool c from rz)
  cases ec2
  exact ⟨c, rfl, .bl (!c), H', I', rfl, qz⟩
theorem ko_eqB (c : Own X.prog X.w X.K X.mg X.base k C "__eq__" sp) (hr : Room j X.A) (hk : k ≤ j) : OpR X (compareOp .Eq) (rEqB X.K C sp E0) := by
  obtain ⟨g, h1, h2, F⟩ := c.ex
  exact op_eqB h1 h2 F (hr.mono hk) pass0
theorem ko_neB (c : Own X.prog X.w X.K X.mg X.base k C "__eq__" sp) (hN : NeK X.K C) (hr : Room j X.A) (hk : k + 1 ≤ j) (hu : X.A.units + 64 < cLine) : OpR X (compareOp .NotEq) (rEqB X.K C (fun vs H Q E => sp vs H (fun z H' => ∃ c, z = .bl c ∧ Q (.bl (!c)) H') E) E0) := by
  obtain ⟨g, h1, h2, F⟩ := c.ex
  exact op_neB hN h1 h2 F (hr.mono hk) (by omega) pass0
end
end L2
namespace L2
open PySem PySem.Spec PyProof.Rows
/-- isinstance of anything whose class is told, and an own class -/
def rIsT (K : PySem.W.Frag) (C : Addr) : List V → Hp → VK → Prop := fun xs H Q => ∃ (x : V) (t : Value) (b : Bool), xs = [x, .ref C] ∧ TyOf K H x t ∧ PySem.W.kitOne K t (.ref C) = some b ∧ Q (.bl b) H
theorem kc_isT {X : Cx} {C : Addr} : CallR X (.builtin "isinstance") (rIsT X.K C) := by
  intro pins s σ H xs us Q I r h
  obtain ⟨x, t, b, rfl, ty, e, q⟩ := h
  obtain ⟨u, w', rfl, ru, rw'⟩ := vals2 r
  cases rw'
  exact isinst_ok I ru ty e fun tk => ⟨.bl b, H, I.tok _, rfl, q⟩
end L2

namespace Pot
open PySem PySem.Spec PyProof.Rows L2 HT
/-! ### a tuple turned, t[::-1] -/
theorem sliceApplied_rev {prog : Program} {w : World} {A : Around} {E : Value → Shared → Prop} {s : Shared} {sl : Addr} {vs : Value} {n : Nat} {Q : Int × Int × Nat → Shared → Prop} (hs : s.heap.IsSliceOf sl .none .none vs) (ps : IsPart vs (some (-1)))
    (h : Q ((n : Int) - 1, -1, n) s) : wpAny (model prog w) A (Builtin.Slice.sliceApplied (.ref sl) (pure (n : Int))) Q E s := by
  obtain ⟨os, hos, hcs, hds⟩ := id hs
  unfold Builtin.Slice.sliceApplied Builtin.Slice.sliceFields
  refine wpAny_bind (wpAny_bind (wpAny_field hos hds (x := .none) rfl (wpAny_bind (wpAny_field hos hds (x := .none) rfl (wpAny_bind (wpAny_field hos hds (x := vs) rfl (wpAny_pure ?_)))))))
  refine wpAny_bind (slicePart_ ps ?_)
  show wpAny _ _ (if ((-1 : Int) == 0) = true then _ else _) _ _ s
  rw [if_neg (by decide)]
  refine wpAny_bind (slicePart_ .none (wpAny_bind (slicePart_ .none (wpAny_bind (wpAny_pure ?_)))))
  show wpAny _ _ (pure ((n : Int) - 1, (-1 : Int), Builtin.Slice.slicePlaces ((n : Int) - 1) (-1) (-1))) _ _ s
  have e : Builtin.Slice.slicePlaces ((n : Int) - 1) (-1) (-1) = n := by
    unfold Builtin.Slice.slicePlaces
    rw [if_neg (by decide)]
    by_cases z : (n : Int) - 1 > -1
    · rw [if_pos z]
      show (((n : Int) - 1 - -1 - 1) / 1 + 1).toNat = n
      rw [Int.ediv_one]
      omega
    · rw [if_neg z]
      have : n = 0 := by omega
      subst this; rfl
  rw [e]
  exact wpAny_pure h
theorem fm_congr {α β : Type} {f g : α → Option β} : ∀ {l : List α}, (∀ x ∈ l, f x = g x) → l.filterMap f = l.filterMap g
  | [], _ => rfl
  | x :: l, h => by
    rw [List.filterMap_cons, List.filterMap_cons, h x List.mem_cons_self, fm_congr fun y hy => h y (List.mem_cons_of_mem x hy)]
theorem pick_rev (xs : Array Value) : ((List.range xs.size).filterMap fun (k : Nat) => xs[((xs.size : Int) - 1 + (k : Int) * (-1)).toNat]?).toArray = xs.toList.reverse.toArray := by
  have := PySem.W.krv_pick xs
  rw [← this]
  unfold slicePick
  rw [PySem.W.krv_bounds]
  show _ = ((sliceRange ((xs.size : Int) - 1) (-1) (-1)).filterMap (xs[·]?)).toArray
  rw [PySem.W.krv_sliceRange, List.filterMap_map]
  congr 1
  refine fm_congr fun k hk => ?_
  have := List.mem_range.mp hk
  show xs[((xs.size : Int) - 1 + (k : Int) * (-1)).toNat]? = xs[xs.size - 1 - k]?
  rw [show ((xs.size : Int) - 1 + (k : Int) * (-1)).toNat = xs.size - 1 - k by omega]
theorem getItem_tuple_rev {prog : Program} {w : World} {A : Around} {E : Value → Shared → Prop} {s : Shared} {t sl : Addr} {items : Array Value} {vs : Value} {Q : Value → Shared → Prop} (ht : IsTup s.heap t items) (hs : s.heap.IsSliceOf sl .none .none vs) (ps : IsPart vs (some (-1)))
    (h : Q (.ref s.heap.objs.size) { s with heap := s.heap.push { cls := .type "tuple", data := .seq items.toList.reverse.toArray } })
    (hsz : items.size ≤ sizeLine) : wpAny (model prog w) A (getItem (.ref t) (.ref sl)) Q E s := by
  have htake : sizeOk (.seq items.toList.reverse.toArray) := by
    show items.toList.reverse.toArray.size ≤ sizeLine
    rw [List.size_toArray, List.length_reverse, Array.length_toList]
    exact hsz
  obtain ⟨os, hos, hcs, hds⟩ := id hs
  have hTs : s.TypeIs (.ref sl) "slice" := ⟨os, hos, hcs⟩
  unfold getItem
  try with_reducible refine wpAny_holding ?_
  first | refine wpAny_bind (wpAny_pure ?_) | skip
  refine wpAny_bind (wpAny_sequenceKey ht.typeIs (by decide) ?_)
  refine wpAny_bind (wpAny_callSpecial?_slot (name := Str.ofString "__getitem__") ht.typeIs PyProof.Rows.slot_tuple_getitem
    (wpAny_call_entry PyProof.Rows.slot_tuple_getitem ht.typeIs entry_tuple_getitem ?_ (args_tuple_getitem _ _)))
  show wpAny _ _ (Builtin.Tuple.tupleItemsOf (.ref t) >>= _) _ _ s
  refine wpAny_bind (tupleItemsOf_ ht ?_)
  refine wpAny_bind (wpAny_typeOf hTs ?_)
  rw [if_pos (by decide)]
  refine wpAny_bind (sliceApplied_rev hs ps ?_)
  have hno : ¬ ((((items.size : Int) - 1) == 0 && (-1 : Int) == 1 && items.size == items.size) = true) := by
    intro q
    rw [Bool.and_eq_true, Bool.and_eq_true] at q
    have := q.1.2
    revert this; decide
  show wpAny _ _ (if (((items.size : Int) - 1) == 0 && (-1 : Int) == 1 && items.size == items.size) = true then _ else _) _ _ s
  rw [if_neg hno, pick_rev]
  first
    | exact wpAny_bind (m := Builtin.Tuple.tupleExact _) (wpAny_newObj_type (wpAny_pure ⟨_, rfl, wpAny_pure h⟩) htake)
    | exact wpAny_bind (m := Builtin.Tuple.tupleExact _) (wpAny_newObj_type (wpAny_bind (wpAny_pure (wpAny_pure ⟨_, rfl, wpAny_pure h⟩))) htake)
    | exact wpAny_bind (wpAny_bind (m := Builtin.Tuple.tupleExact _) (wpAny_newObj_type (wpAny_pure (wpAny_pure ⟨_, rfl, wpAny_pure h⟩)) htake))
    | exact wpAny_bind (wpAny_bind (m := Builtin.Tuple.tupleExact _) (wpAny_newObj_type (wpAny_pure ⟨_, rfl, wpAny_pure h⟩) htake))
def tRevT (K : PySem.W.Frag) (te : TE) : TE := fun σ H Q => te σ H fun x H1 => ∃ a xs, x = .ref a ∧ SqT K H1 a xs ∧ ∀ p, H1 p = none → Q (.ref p) (upd H1 p (.tup xs.reverse))
theorem pe_revT0 {X : Cx} {e : Expr} {te : TE} {k : Nat} {p1 p2 p3 pos : Pos} (he : PE X e te) : PE X (.Subscript e (.Slice none none (some (.UnaryOp .USub (.Constant (.int 1) k p1) p2)) p3) pos) (tRevT X.K te) := by
  refine ⟨fun pins s σ H Q I h => ?_⟩
  refine Subscript_ (thn (he.run pins s σ H _ I h) fun v s1 ⟨x, H1, I1, r1, q1⟩ => ?_)
  obtain ⟨a, xs, ex, hx, q⟩ := q1
  subst ex
  cases r1
  have hst : PO X (some (.UnaryOp .USub (.Constant (.int 1) k p1) p2)) (tPart (tUn (rU fun i => .int (-i)) (tC (.int 1)))) := po_some (pe_un un_neg pe_int)
  refine wpAny_Slice (thn (po_none.run pins s1 σ H1 (fun o H2 => o = none ∧ H2 = H1) I1 ⟨rfl, rfl⟩) fun vl s2 ⟨l, H2, I2, pl, el, e2⟩ => ?_)
  subst el e2
  refine thn (po_none.run pins s2 σ H2 (fun o H3 => o = none ∧ H3 = H2) I2 ⟨rfl, rfl⟩) fun vu s3 ⟨u, H3, I3, pu, eu, e3⟩ => ?_
  subst eu e3
  refine thn (hst.run pins s3 σ H3 (fun o H4 => o = some (-1) ∧ H4 = H3) I3 ⟨1, rfl, -1, rfl, rfl, rfl⟩) fun vs s4 ⟨o, H4, I4, ps, eo, e4⟩ => ?_
  subst eo e4
  cases pl
  cases pu
  have I5 : Inv X pins σ H4 { s4 with heap := s4.heap.push { cls := .type "slice", data := .fields #[.none, .none, vs] } } := I4.kept (t' := s4.toks) fun b ob q => Heap.get?_push_of_some _ q
  obtain ⟨its, r, ht, hz⟩ := I5.tuple hx
  have hlen := r.length
  show wpAny (model X.prog X.w) X.A (subscriptTail e (.Slice none none (some (.UnaryOp .USub (.Constant (.int 1) k p1) p2)) p3) (.ref a) (.ref s4.heap.objs.size)) (EP X pins σ Q) X.xe { s4 with heap := s4.heap.push { cls := .type "slice", data := .fields #[.none, .none, vs] } }
  refine tail_any (ops := [.ref a, .ref s4.heap.objs.size]) ht.typeIs (PyProof.Rows.slot_tuple_getitem.lookup) ?_ (by with_unfolding_all rfl)
  refine getItem_tuple_rev ht (Heap.IsSliceOf.new _ .none .none vs) ps ?_ (by rw [List.size_toArray]; omega)
  refine ⟨.ref _, _, I5.laid (t' := s4.toks) (o := .tup xs.reverse) (fun b ob q => Heap.get?_push_of_some _ q) (Nat.le_refl _) ?_, rfl, q _ (I5.hok.fresh (Nat.le_refl _))⟩
  exact ⟨by rw [List.length_reverse]; exact hz, _, r.reverse, IsTup.new _ _⟩
theorem pe_revT {X : Cx} {K : PySem.W.Frag} {e : Expr} {te : TE} {k : Nat} {p1 p2 p3 pos : Pos} (he : PE X e te) (h : X.K = K := by rfl) : PE X (.Subscript e (.Slice none none (some (.UnaryOp .USub (.Constant (.int 1) k p1) p2)) p3) pos) (tRevT K te) := h ▸ pe_revT0 he
end Pot

namespace Pot
open PySem PySem.Spec PyProof.Rows L2 HT
/-! ### every second one of a tuple of three, t[::2] -/
theorem sliceApplied_two {prog : Program} {w : World} {A : Around} {E : Value → Shared → Prop} {s : Shared} {sl : Addr} {vs : Value} {Q : Int × Int × Nat → Shared → Prop} (hs : s.heap.IsSliceOf sl .none .none vs) (ps : IsPart vs (some 2))
    (h : Q ((0 : Int), 2, 2) s) : wpAny (model prog w) A (Builtin.Slice.sliceApplied (.ref sl) (pure (3 : Int))) Q E s := by
  obtain ⟨os, hos, hcs, hds⟩ := id hs
  unfold Builtin.Slice.sliceApplied Builtin.Slice.sliceFields
  refine wpAny_bind (wpAny_bind (wpAny_field hos hds (x := .none) rfl (wpAny_bind (wpAny_field hos hds (x := .none) rfl (wpAny_bind (wpAny_field hos hds (x := vs) rfl (wpAny_pure ?_)))))))
  refine wpAny_bind (slicePart_ ps ?_)
  show wpAny _ _ (if ((2 : Int) == 0) = true then _ else _) _ _ s
  rw [if_neg (by decide)]
  refine wpAny_bind (slicePart_ .none (wpAny_bind (slicePart_ .none (wpAny_bind (wpAny_pure ?_)))))
  show wpAny _ _ (pure ((0 : Int), (2 : Int), Builtin.Slice.slicePlaces (0 : Int) 3 2)) _ _ s
  have e : Builtin.Slice.slicePlaces (0 : Int) 3 2 = 2 := by decide
  rw [e]
  exact wpAny_pure h
theorem getItem_tuple_two {prog : Program} {w : World} {A : Around} {E : Value → Shared → Prop} {s : Shared} {t sl : Addr} {x y z : Value} {vs : Value} {Q : Value → Shared → Prop} (ht : IsTup s.heap t #[x, y, z]) (hs : s.heap.IsSliceOf sl .none .none vs) (ps : IsPart vs (some 2))
    (h : Q (.ref s.heap.objs.size) { s with heap := s.heap.push { cls := .type "tuple", data := .seq #[x, z] } }) : wpAny (model prog w) A (getItem (.ref t) (.ref sl)) Q E s := by
  have htake : sizeOk (.seq #[x, z]) := by
    show 2 ≤ sizeLine
    decide
  obtain ⟨os, hos, hcs, hds⟩ := id hs
  have hTs : s.TypeIs (.ref sl) "slice" := ⟨os, hos, hcs⟩
  unfold getItem
  try with_reducible refine wpAny_holding ?_
  first | refine wpAny_bind (wpAny_pure ?_) | skip
  refine wpAny_bind (wpAny_sequenceKey ht.typeIs (by decide) ?_)
  refine wpAny_bind (wpAny_callSpecial?_slot (name := Str.ofString "__getitem__") ht.typeIs PyProof.Rows.slot_tuple_getitem
    (wpAny_call_entry PyProof.Rows.slot_tuple_getitem ht.typeIs entry_tuple_getitem ?_ (args_tuple_getitem _ _)))
  show wpAny _ _ (Builtin.Tuple.tupleItemsOf (.ref t) >>= _) _ _ s
  refine wpAny_bind (tupleItemsOf_ ht ?_)
  refine wpAny_bind (wpAny_typeOf hTs ?_)
  rw [if_pos (by decide)]
  refine wpAny_bind (sliceApplied_two hs ps ?_)
  show wpAny _ _ (if (((0 : Int)) == 0 && (2 : Int) == 1 && 2 == 3) = true then _ else _) _ _ s
  rw [if_neg (by decide)]
  have e : ((List.range 2).filterMap fun (k : Nat) => (#[x, y, z] : Array Value)[((0 : Int) + (k : Int) * 2).toNat]?).toArray = #[x, z] := rfl
  rw [e]
  first
    | exact wpAny_bind (m := Builtin.Tuple.tupleExact _) (wpAny_newObj_type (wpAny_pure ⟨_, rfl, wpAny_pure h⟩) htake)
    | exact wpAny_bind (m := Builtin.Tuple.tupleExact _) (wpAny_newObj_type (wpAny_bind (wpAny_pure (wpAny_pure ⟨_, rfl, wpAny_pure h⟩))) htake)
    | exact wpAny_bind (wpAny_bind (m := Builtin.Tuple.tupleExact _) (wpAny_newObj_type (wpAny_pure (wpAny_pure ⟨_, rfl, wpAny_pure h⟩)) htake))
    | exact wpAny_bind (wpAny_bind (m := Builtin.Tuple.tupleExact _) (wpAny_newObj_type (wpAny_pure ⟨_, rfl, wpAny_pure h⟩) htake))
theorem vals3T {x y z : V} {us : List Value} (r : Vals [x, y, z] us) : ∃ a b c, us = [a, b, c] ∧ RelV x a ∧ RelV z c := by
  cases r with
  | cons rx r =>
    cases r with
    | cons ry r =>
      cases r with
      | cons rz r =>
        cases r
        exact ⟨_, _, _, rfl, rx, rz⟩
def tTwoT (K : PySem.W.Frag) (te : TE) : TE := fun σ H Q => te σ H fun v H1 => ∃ a x y z, v = .ref a ∧ SqT K H1 a [x, y, z] ∧ ∀ p, H1 p = none → Q (.ref p) (upd H1 p (.tup [x, z]))
theorem pe_twoT0 {X : Cx} {e : Expr} {te : TE} {k : Nat} {p1 p3 pos : Pos} (he : PE X e te) : PE X (.Subscript e (.Slice none none (some (.Constant (.int 2) k p1)) p3) pos) (tTwoT X.K te) := by
  refine ⟨fun pins s σ H Q I h => ?_⟩
  refine Subscript_ (thn (he.run pins s σ H _ I h) fun v s1 ⟨v1, H1, I1, r1, q1⟩ => ?_)
  obtain ⟨a, x, y, z, ex, hx, q⟩ := q1
  subst ex
  cases r1
  have hst : PO X (some (.Constant (.int 2) k p1)) (tPart (tC (.int 2))) := po_some pe_int
  refine wpAny_Slice (thn (po_none.run pins s1 σ H1 (fun o H2 => o = none ∧ H2 = H1) I1 ⟨rfl, rfl⟩) fun vl s2 ⟨l, H2, I2, pl, el, e2⟩ => ?_)
  subst el e2
  refine thn (po_none.run pins s2 σ H2 (fun o H3 => o = none ∧ H3 = H2) I2 ⟨rfl, rfl⟩) fun vu s3 ⟨u, H3, I3, pu, eu, e3⟩ => ?_
  subst eu e3
  refine thn (hst.run pins s3 σ H3 (fun o H4 => o = some 2 ∧ H4 = H3) I3 ⟨2, rfl, rfl, rfl⟩) fun vs s4 ⟨o, H4, I4, ps, eo, e4⟩ => ?_
  subst eo e4
  cases pl
  cases pu
  have I5 : Inv X pins σ H4 { s4 with heap := s4.heap.push { cls := .type "slice", data := .fields #[.none, .none, vs] } } := I4.kept (t' := s4.toks) fun b ob q => Heap.get?_push_of_some _ q
  obtain ⟨its, r, ht, hz⟩ := I5.tuple hx
  obtain ⟨x', y', z', rfl, rx, rz⟩ := vals3T r
  show wpAny (model X.prog X.w) X.A (subscriptTail e (.Slice none none (some (.Constant (.int 2) k p1)) p3) (.ref a) (.ref s4.heap.objs.size)) (EP X pins σ Q) X.xe { s4 with heap := s4.heap.push { cls := .type "slice", data := .fields #[.none, .none, vs] } }
  refine tail_any (ops := [.ref a, .ref s4.heap.objs.size]) ht.typeIs (PyProof.Rows.slot_tuple_getitem.lookup) ?_ (by with_unfolding_all rfl)
  refine getItem_tuple_two ht (Heap.IsSliceOf.new _ .none .none vs) ps ?_
  refine ⟨.ref _, _, I5.laid (t' := s4.toks) (o := .tup [x, z]) (fun b ob q => Heap.get?_push_of_some _ q) (Nat.le_refl _) ?_, rfl, q _ (I5.hok.fresh (Nat.le_refl _))⟩
  exact ⟨by show 2 ≤ sizeLine; decide, _, .cons rx (.cons rz .nil), IsTup.new _ _⟩
theorem pe_twoT {X : Cx} {K : PySem.W.Frag} {e : Expr} {te : TE} {k : Nat} {p1 p3 pos : Pos} (he : PE X e te) (h : X.K = K := by rfl) : PE X (.Subscript e (.Slice none none (some (.Constant (.int 2) k p1)) p3) pos) (tTwoT K te) := h ▸ pe_twoT0 he
end Pot

namespace Pot
open PySem PySem.Spec PyProof.Rows L2
def topS (i : Nat) : Stmt := PySem.Challenge.pw_potround_k53_tunnels_again_and_shared.main.body.getD i (.Pass ⟨0, 0, 0, 0⟩)
section
variable {P : Program} {w : World} {K : PySem.W.Frag} {mg : Str → Option Value} {base : Heap}
abbrev s__law_take : Stmt := topS 13
def n__law_take : List Str := ["_law_state", "_law_many", "_law_digit", "_law_low", "_law_high", "_law_turn", "_law_once", "_law_twice"]
theorem sc__law_take : FnScope n__law_take ["_law_state", "_law_many"] (defScope s__law_take) := ⟨rfl, rfl, rfl, by decide +kernel, rfl, by decide +kernel, by decide +kernel⟩
/-! ### _law_take -/
def spTake : Sp := fun vs H Q _ => ∃ (b : Addr) (m : Int) (n : Nat), vs = [.ref b, .int m] ∧ 0 < m ∧ m < 1073741824 ∧ Bq H b n ∧ n < 2 ^ 40 ∧
  ∀ H' r, 0 ≤ r → r < m → Bq H' b (n + 1) → Sm [b] H H' → Q (.int r) H'
theorem ok_take {f : Addr} {fd : FuncData} {k : Nat} (F : Fun K "_law_take" "_law_take" s__law_take f fd) (T : Txt mg) :
    FnOk P w K mg base CX0 (k + 1) f fd ["_law_state", "_law_many"] spTake := by
  refine F.ok sc__law_take (fun vs H Q E h => ?_) (fun cdv A outer s H vs Q E hr h => ?_)
  · obtain ⟨b, m, n, rfl, _⟩ := h
    rfl
  · obtain ⟨b, m, n, rfl, hm0, hm1, ⟨x, y, z, B, z0, zn⟩, hn, q⟩ := h
    have nd := sc__law_take.nd
    refine ⟨_, (pss_cons (ps_if (pt_cmpR op_gt (pe_ix (kx_list (K := K)) (pv 0) pe_int (fun _ _ => rfl)) pe_int (nomark _))
          (pss_cons (ps_asg (pe_callB call_divmod (by rfl) T.divmod (by decide +kernel) (pa_cons (pe_ix (kx_list (K := K)) (pv 0) pe_int (fun _ _ => rfl)) (pa_cons (pv 1) pa_nil))) (kg_tup (K := K) (n := 2) (pgs_cons (pg_sub (pv 0) pe_int set_list) (pgs_cons (pg_name (i := 2) nd rfl (.inl rfl)) pgs_nil))))
          (pss_one (ps_ret (pv 2))))
          pss_nil)
      (pss_cons (ps_asg (pe_op op_add (pe_ix (kx_list (K := K)) (pv 0) pe_int (fun _ _ => rfl)) pe_int) (pg_sub (pv 0) pe_int set_list))
      (pss_cons (ps_par3 (i := 3) (j := 4) (l := 5) rfl nd rfl rfl rfl (by decide) (by decide) (by decide) rfl rfl rfl (pa_cons (pe_op op_mod (pe_ix (kx_list (K := K)) (pv 0) pe_int (fun _ _ => rfl)) pe_int) (pa_cons (pe_op op_fdivW (pe_ix (kx_list (K := K)) (pv 0) pe_int (fun _ _ => rfl)) pe_int) (pa_cons (pe_ix (kx_list (K := K)) (pv 0) pe_int (fun _ _ => rfl)) pa_nil))) rfl)
      (pss_cons (ps_set (i := 6) nd rfl (.inl rfl) (pe_op op_mod (pe_op op_mul (pe_op op_add (pe_op op_add (pv 3) (pe_op op_mul (pe_op op_mul (pv 5) (pv 5)) pe_int)) pe_int) pe_int) pe_int))
      (pss_cons (ps_set (i := 7) nd rfl (.inl rfl) (pe_op op_mod (pe_op op_add (pe_op op_add (pe_op op_mul (pv 6) (pe_op op_add (pe_op op_mod (pv 6) pe_int) pe_int)) (pv 4)) (pv 5)) pe_int))
      (pss_one (ps_ret (pe_op op_mod (pe_op op_fdiv (pe_op op_mod (pe_op op_add (pe_op op_mul (pv 7) pe_int) (pv 6)) pe_int) pe_int) (pv 1))))))))), ?_⟩
    refine ⟨_, rfl, b, _, 0, .int x, rfl, rfl, SqL.of B, rfl, _, _, rfl, rfl, _, rfl, ite2 (fun hb => ?_) (fun hb => ?_)⟩
    · refine ⟨_, rfl, b, _, 0, .int x, rfl, rfl, SqL.of B, rfl, _, rfl, _, _, rfl, ⟨hm0, hm1⟩, fun p np => ?_⟩
      have nb : b ≠ p := ne_of_none B np
      have B1 : upd H p (.tup [.int (x / m), .int (x % m)]) b = some (.lst [.int x, .int y, .int z]) := by rw [upd_ne nb]; exact B
      refine ⟨p, _, rfl, .inl (.inl upd_same), rfl, _, _, rfl, _, rfl, b, _, 0, 0, rfl, rfl, B1, rfl, ?_⟩
      refine ⟨_, _, rfl, rfl, _, rfl, ?_⟩
      exact q _ _ (Int.emod_nonneg _ (by omega)) (Int.emod_lt_of_pos _ hm0) ⟨_, _, _, upd_same, z0, by omega⟩ ((sm_put np).trans (sm_wr List.mem_cons_self))
    · refine ⟨_, rfl, b, _, 2, .int z, rfl, rfl, SqL.of B, rfl, _, _, rfl, rfl, _, rfl, b, _, 2, 2, rfl, rfl, B, rfl, ?_⟩
      have B2 : upd H b (.lst [.int x, .int y, .int (z + 1)]) b = some (.lst [.int x, .int y, .int (z + 1)]) := upd_same
      have s2 : Sm [b] H (upd H b (.lst [.int x, .int y, .int (z + 1)])) := sm_wr List.mem_cons_self
      show tSeq _ _ _ _ (upd H b (.lst [.int x, .int y, .int (z + 1)]))
      generalize upd H b (.lst [.int x, .int y, .int (z + 1)]) = H2 at B2 s2 ⊢
      have t2 : z + 1 < 2 ^ 41 := by omega
      refine ⟨_, rfl, b, _, 1, .int y, rfl, rfl, SqL.of B2, rfl, _, _, rfl, rfl, (by show (0 : Int) < 2147483629; decide), ?_⟩
      refine ⟨_, rfl, b, _, 1, .int y, rfl, rfl, SqL.of B2, rfl, _, _, rfl, rfl, CDivW.of (by decide) (by decide), ?_⟩
      refine ⟨_, rfl, b, _, 2, .int (z + 1), rfl, rfl, SqL.of B2, rfl, _, _, _, rfl, ?_⟩
      refine ⟨_, rfl, _, rfl, _, rfl, _, _, rfl, rfl, .inl ⟨by omega, by omega⟩, _, _, rfl, rfl, .inr ⟨by decide, by decide⟩, _, _, rfl, rfl, _, _, rfl, rfl, _, _, rfl, rfl, .inr ⟨by decide, by decide⟩, _, _, rfl, rfl, (by show (0 : Int) < 2147483647; decide), ?_⟩
      refine ⟨_, rfl, _, rfl, _, _, rfl, rfl, (by show (0 : Int) < 30011; decide), _, _, rfl, rfl, _, _, rfl, rfl, cmul_mod _ _ (by decide) (by decide), _, rfl, _, _, rfl, rfl, _, rfl, _, _, rfl, rfl, _, _, rfl, rfl, (by show (0 : Int) < 2147483587; decide), ?_⟩
      refine ⟨_, rfl, _, _, rfl, rfl, .inr ⟨by decide, by decide⟩, _, rfl, _, _, rfl, rfl, _, _, rfl, rfl, (by show (0 : Int) < 2147483629; decide), _, _, rfl, rfl, ⟨by decide, by decide⟩, _, rfl, _, _, rfl, rfl, hm0, ?_⟩
      exact q _ _ (Int.emod_nonneg _ (by omega)) (Int.emod_lt_of_pos _ hm0) ⟨_, _, _, B2, by omega, by omega⟩ s2

abbrev s__law_begin : Stmt := topS 12
def n__law_begin : List Str := ["_law_script", "_law_k", "_law_cell"]
theorem sc__law_begin : FnScope n__law_begin ["_law_script", "_law_k"] (defScope s__law_begin) := ⟨rfl, rfl, rfl, by decide +kernel, rfl, by decide +kernel, by decide +kernel⟩
/-! ### _law_begin -/
def spBegin (K : PySem.W.Frag) : Sp := fun vs H Q _ => ∃ (a : Addr) (ns : List Int) (k : Nat), vs = [.ref a, .int (k : Nat)] ∧ SqL K H a (ns.map V.int) ∧ k ≤ 63 ∧ ∀ H' b, Same H H' → Bq H' b 0 → H b = none → Q (.ref b) H'
theorem ok_begin {f : Addr} {fd : FuncData} {k : Nat} (F : Fun K "_law_begin" "_law_begin" s__law_begin f fd) (T : Txt mg) : FnOk P w K mg base CX0 (k + 1) f fd ["_law_script", "_law_k"] (spBegin K) := by
  refine F.ok sc__law_begin (fun vs H Q E h => ?_) (fun cdv A outer s H vs Q E hr h => ?_)
  · obtain ⟨a, ns, k, rfl, _⟩ := h
    rfl
  · obtain ⟨a, ns, k, rfl, hS, h63, q⟩ := h
    have nd := sc__law_begin.nd
    refine ⟨_, (pss_cons (ps_set (i := 2) nd rfl (.inl rfl) (pe_ifExp (pt_cmpR op_lt (pv 1) (pe_callB (kc_len (K := K)) (by rfl) T.len PySem.boot_len (pa_cons (pv 0) pa_nil)) (nomark _)) (pe_ix (kx_list (K := K)) (pv 0) (pv 1) (fun _ _ => rfl)) pe_int))
      (pss_one (ps_ret (pe_lst (pa_cons (pe_op op_mul (pe_callB call_abs (by rfl) T.abs (by decide +kernel) (pa_cons (pv 2) pa_nil)) (pe_callTy call_int1 (by rfl) T.int (by decide +kernel) (pa_cons (pe_cmpR op_ge (pe_callB call_abs (by rfl) T.abs (by decide +kernel) (pa_cons (pv 2) pa_nil)) (pe_op op_pow pe_int pe_int) (nomark _)) pa_nil))) (pa_cons (pe_op op_add (pe_op op_add (pe_op op_mod (pe_callB call_abs (by rfl) T.abs (by decide +kernel) (pa_cons (pv 2) pa_nil)) (pe_op op_pow pe_int pe_int)) (pe_op op_mul pe_int (pv 1))) (pe_callTy call_int1 (by rfl) T.int (by decide +kernel) (pa_cons (pe_cmpR op_lt (pv 2) pe_int (nomark _)) pa_nil))) (pa_cons pe_int pa_nil))))))), ?_⟩
    refine ⟨_, rfl, _, rfl, _, _, rfl, .inl ⟨_, hS, rfl⟩, _, _, rfl, rfl, _, rfl, ite2 (fun hb => ?_) (fun hb => ?_)⟩
    · have hk : k < ns.length := by have := of_decide_eq_true hb; rw [List.length_map] at this; omega
      refine ⟨_, rfl, _, rfl, a, _, _, _, rfl, rfl, hS, atI_nat (by rw [List.getElem?_map, List.getElem?_eq_getElem hk]; rfl), ?_⟩
      refine ⟨_, rfl, _, rfl, _, rfl, _, rfl, _, _, rfl, rfl, ⟨by decide, by decide, by decide⟩, _, _, rfl, rfl, .inr ⟨_, rfl, _, _, rfl, rfl, .inr (b01 _), ?_⟩⟩
      refine ⟨_, rfl, _, rfl, _, _, rfl, rfl, ⟨by decide, by decide, by decide⟩, _, _, rfl, rfl, (by show (0 : Int) < 10 ^ 40; decide), _, rfl, _, _, rfl, rfl, .inl ⟨by decide, by decide⟩, _, _, rfl, rfl, _, rfl, _, _, rfl, rfl, .inr ⟨_, rfl, _, _, rfl, rfl, (by show 3 ≤ sizeLine; decide), fun p np => ?_⟩⟩
      exact q _ _ (same_upd np) ⟨_, _, _, upd_same, Int.le_refl _, Int.le_refl _⟩ np
    · skip
      refine ⟨_, rfl, _, rfl, _, rfl, _, rfl, _, _, rfl, rfl, ⟨by decide, by decide, by decide⟩, _, _, rfl, rfl, .inr ⟨_, rfl, _, _, rfl, rfl, .inr (b01 _), ?_⟩⟩
      refine ⟨_, rfl, _, rfl, _, _, rfl, rfl, ⟨by decide, by decide, by decide⟩, _, _, rfl, rfl, (by show (0 : Int) < 10 ^ 40; decide), _, rfl, _, _, rfl, rfl, .inl ⟨by decide, by decide⟩, _, _, rfl, rfl, _, rfl, _, _, rfl, rfl, .inr ⟨_, rfl, _, _, rfl, rfl, (by show 3 ≤ sizeLine; decide), fun p np => ?_⟩⟩
      exact q _ _ (same_upd np) ⟨_, _, _, upd_same, Int.le_refl _, Int.le_refl _⟩ np

end
end Pot

namespace Pot
open PySem PySem.Spec PyProof.Rows L2
section
variable {P : Program} {w : World} {K : PySem.W.Frag} {mg : Str → Option Value} {base : Heap}
abbrev s__law_same : Stmt := topS 14
def n__law_same : List Str := ["_law_found", "_law_due", "_law_one", "_law_other"]
theorem sc__law_same : FnScope n__law_same ["_law_found", "_law_due"] (defScope s__law_same) := ⟨rfl, rfl, rfl, by decide +kernel, rfl, by decide +kernel, by decide +kernel⟩
/-! ### _law_same: two of one and the same make are told to be so -/
def spSame (K : PySem.W.Frag) (k : Nat) : Sp := fun vs H Q _ => ∃ (x y : V) (d : PyData) (m : Nat), vs = [x, y] ∧ Dp K H x d ∧ Dp K H y d ∧ d.depth < k ∧ widAll.wid d ≤ 1000 ∧ gd m d ∧ ∀ H', Same H H' → Q (.bl true) H'
theorem ok_same {f : Addr} {fd : FuncData} (F : Fun K "_law_same" "_law_same" s__law_same f fd) (T : Txt mg) (bF : Binds K fd ["_law_found", "_law_due"] []) (gF : mg "_law_same" = some (.ref f)) :
    ∀ k : Nat, FnOk P w K mg base CX0 (k + 1) f fd ["_law_found", "_law_due"] (spSame K k) := by
  intro k
  induction k with
  | zero =>
    refine F.ok sc__law_same (fun vs H Q E h => ?_) (fun cdv A outer s H vs Q E hr h => ?_)
    · obtain ⟨x, y, d, m, rfl, _⟩ := h
      rfl
    · obtain ⟨x, y, d, m, rfl, hx, hy, hd, hw, hg, q⟩ := h
      exact absurd hd (Nat.not_lt_zero _)
  | succ k G =>
    refine F.ok sc__law_same (fun vs H Q E h => ?_) (fun cdv A outer s H vs Q E hr h => ?_)
    · obtain ⟨x, y, d, m, rfl, _⟩ := h
      rfl
    · obtain ⟨x, y, d, m, rfl, hx, hy, hd, hw, hg, q⟩ := h
      have nd := sc__law_same.nd
      have hu64 := hr.units
      refine ⟨_, (pss_cons (ps_if (pt_val (pe_callB (kc_isiT (K := K)) (by rfl) T.isinstance (by decide +kernel) (pa_cons (pv 1) (pa_cons (pe_tup (pa_cons (pe_bltn (v := .ty "list") (by rfl) T.list (by decide +kernel) rfl) (pa_cons (pe_bltn (v := .ty "tuple") (by rfl) T.tuple (by decide +kernel) rfl) pa_nil))) pa_nil))))
          (pss_cons (ps_if ((pw_or (pt_cmpR op_ne (pe_callB (kc_isi (K := K)) (by rfl) T.isinstance (by decide +kernel) (pa_cons (pv 0) (pa_cons (pe_bltn (v := .ty "list") (by rfl) T.list (by decide +kernel) rfl) pa_nil))) (pe_callB (kc_isi (K := K)) (by rfl) T.isinstance (by decide +kernel) (pa_cons (pv 1) (pa_cons (pe_bltn (v := .ty "list") (by rfl) T.list (by decide +kernel) rfl) pa_nil))) (nomark _)) (pw_or1 (pt_cmpR op_ne (pe_callB (kc_isi (K := K)) (by rfl) T.isinstance (by decide +kernel) (pa_cons (pv 0) (pa_cons (pe_bltn (v := .ty "tuple") (by rfl) T.tuple (by decide +kernel) rfl) pa_nil))) (pe_callB (kc_isi (K := K)) (by rfl) T.isinstance (by decide +kernel) (pa_cons (pv 1) (pa_cons (pe_bltn (v := .ty "tuple") (by rfl) T.tuple (by decide +kernel) rfl) pa_nil))) (nomark _))))).pt
              pss_never
              pss_nil)
          (pss_one (ps_ret (pe_and (pe_cmpR op_eq (pe_callB (kc_len (K := K)) (by rfl) T.len PySem.boot_len (pa_cons (pv 0) pa_nil)) (pe_callB (kc_len (K := K)) (by rfl) T.len PySem.boot_len (pa_cons (pv 1) pa_nil)) (nomark _)) (pe_one (pe_callB (kc_all (K := K)) (by rfl) T.all (by decide +kernel) (pa_cons (pe_lc (own := [("_law_one", 2), ("_law_other", 3)]) rfl nd (ki_zip (K := K) (by rfl) T.zip (pa_cons (pv 0) (pa_cons (pv 1) pa_nil))) (blkOk_by (N := n__law_same) (sc := defScope s__law_same) (by decide +kernel)) (fun _ _ _ _ _ => (kg_tup (K := K) (n := 2) (pgs_cons (pg_name (i := 2) nd rfl (.inl rfl)) (pgs_cons (pg_name (i := 3) nd rfl (.inl rfl)) pgs_nil)))) (fun _ _ _ _ _ => pts_nil) (fun _ _ _ _ _ => (pe_call G hr (by rfl) gF F.kp bF .nil pass0 (pa_cons (pv 2) (pa_cons (pv 3) pa_nil))))) pa_nil)))))))
          pss_nil)
      (pss_cons (ps_if ((pw_or (pt_cmpR op_isN (pv 1) pe_non (nomark _)) (pw_or1 (pt_val (pe_callB (kc_isi (K := K)) (by rfl) T.isinstance (by decide +kernel) (pa_cons (pv 1) (pa_cons (pe_bltn (v := .ty "str") (by rfl) T.str (by decide +kernel) rfl) pa_nil))))))).pt
          (pss_one (ps_ret (pe_and (pe_cmpR (ko_eq (K := K) hu64) (pv 0) (pv 1) (nomark _)) (pe_one (pe_cmpR op_eq (pe_callB (kc_isi (K := K)) (by rfl) T.isinstance (by decide +kernel) (pa_cons (pv 0) (pa_cons (pe_bltn (v := .ty "str") (by rfl) T.str (by decide +kernel) rfl) pa_nil))) (pe_callB (kc_isi (K := K)) (by rfl) T.isinstance (by decide +kernel) (pa_cons (pv 1) (pa_cons (pe_bltn (v := .ty "str") (by rfl) T.str (by decide +kernel) rfl) pa_nil))) (nomark _))))))
          pss_nil)
      (pss_one (ps_ret (pe_and (pe_callB (kc_isi (K := K)) (by rfl) T.isinstance (by decide +kernel) (pa_cons (pv 0) (pa_cons (pe_bltn (v := .ty "int") (by rfl) T.int (by decide +kernel) rfl) pa_nil))) (pe_and (pe_cmpR op_eq (pe_callB (kc_isi (K := K)) (by rfl) T.isinstance (by decide +kernel) (pa_cons (pv 0) (pa_cons (pe_bltn (v := .ty "bool") (by rfl) T.bool (by decide +kernel) rfl) pa_nil))) (pe_callB (kc_isi (K := K)) (by rfl) T.isinstance (by decide +kernel) (pa_cons (pv 1) (pa_cons (pe_bltn (v := .ty "bool") (by rfl) T.bool (by decide +kernel) rfl) pa_nil))) (nomark _)) (pe_one (pe_cmpR (ko_eq (K := K) hu64) (pv 0) (pv 1) (nomark _))))))))), ?_⟩
      refine ⟨_, rfl, (by show 2 ≤ sizeLine; decide), fun t ht => ?_⟩
      have sm1 : Same H (upd H t (.tup [.ty "list", .ty "tuple"])) := same_upd ht
      have hx1 := dp_same sm1 hx
      have hy1 := dp_same sm1 hy
      have ht1 : (upd H t (.tup [.ty "list", .ty "tuple"])) t = some (.tup [.ty "list", .ty "tuple"]) := upd_same
      generalize upd H t (.tup [.ty "list", .ty "tuple"]) = H1 at sm1 hx1 hy1 ht1 ⊢
      refine ⟨_, t, _, _, _, _, rfl, ht1, .cons (.ty _) (.cons (.ty _) .nil), tyx_dp hy1, kit_lt hy1, _, rfl, ?_⟩
      have hx2 := hx1
      have hy2 := hy1
      cases hy1 with
      | non =>
        cases hx1
        refine iteF ?_
        refine ⟨_, rfl, rfl, _, rfl, iteT ?_⟩
        refine ⟨_, rfl, _, rfl, _, _, hx2, hy2, rfl, rfl, _, rfl, ?_⟩
        refine iteT ⟨_, rfl, _, .ty _, _, _, isStrD _, rfl, .ty _, tyx_dp hx2, kit_str hx2, _, rfl, _, .ty _, _, _, isStrD _, rfl, .ty _, tyx_dp hy2, kit_str hy2, rfl, ?_⟩
        rw [decide_eq_true rfl]
        exact q _ sm1
      | str z =>
        cases hx1
        have hsh := gd_shaped hg (by show 0 ≤ 64; decide)
        refine iteF ?_
        refine ⟨_, rfl, rfl, _, rfl, iteF ⟨_, rfl, _, .ty _, _, _, isStrD _, rfl, .ty _, tyx_dp hy2, kit_str hy2, _, rfl, iteT ?_⟩⟩
        refine ⟨_, rfl, _, rfl, _, _, hx2, hy2, hsh, hsh, _, rfl, ?_⟩
        have e : PyData.eqv (.str z) (.str z) = true := by simp [PyData.eqv]
        rw [e]
        refine iteT ⟨_, rfl, _, .ty _, _, _, isStrD _, rfl, .ty _, tyx_dp hx2, kit_str hx2, _, rfl, _, .ty _, _, _, isStrD _, rfl, .ty _, tyx_dp hy2, kit_str hy2, rfl, ?_⟩
        rw [decide_eq_true rfl]
        exact q _ sm1
      | bl b =>
        cases hx1
        refine iteF ?_
        refine ⟨_, rfl, rfl, _, rfl, iteF ⟨_, rfl, _, .ty _, _, _, isStrD _, rfl, .ty _, tyx_dp hy2, kit_str hy2, _, rfl, iteF ?_⟩⟩
        refine ⟨_, rfl, _, .ty _, _, _, isIntD _, rfl, .ty _, tyx_dp hx2, kit_int hx2, _, rfl, iteT ⟨_, rfl, _, .ty _, _, _, isBoolD _, rfl, .ty _, tyx_dp hx2, kit_bool hx2, _, rfl, _, .ty _, _, _, isBoolD _, rfl, .ty _, tyx_dp hy2, kit_bool hy2, rfl, _, rfl, iteT ?_⟩⟩
        refine ⟨_, rfl, _, rfl, _, _, hx2, hy2, rfl, rfl, ?_⟩
        have e : PyData.eqv (.bool b) (.bool b) = true := by cases b <;> rfl
        rw [e]
        exact q _ sm1
      | int i =>
        cases hx1
        refine iteF ?_
        refine ⟨_, rfl, rfl, _, rfl, iteF ⟨_, rfl, _, .ty _, _, _, isStrD _, rfl, .ty _, tyx_dp hy2, kit_str hy2, _, rfl, iteF ?_⟩⟩
        refine ⟨_, rfl, _, .ty _, _, _, isIntD _, rfl, .ty _, tyx_dp hx2, kit_int hx2, _, rfl, iteT ⟨_, rfl, _, .ty _, _, _, isBoolD _, rfl, .ty _, tyx_dp hx2, kit_bool hx2, _, rfl, _, .ty _, _, _, isBoolD _, rfl, .ty _, tyx_dp hy2, kit_bool hy2, rfl, _, rfl, iteT ?_⟩⟩
        refine ⟨_, rfl, _, rfl, _, _, hx2, hy2, rfl, rfl, ?_⟩
        have e : PyData.eqv (.int i) (.int i) = true := by show (i == i) = true; exact beq_self_eq_true i
        rw [e]
        exact q _ sm1
      | @lst b ys ds hl ha =>
        cases hx1 with
        | @lst a xs _ hl' ha' =>
        have e1 : xs.length = ys.length := (dpAll_len ha').trans (dpAll_len ha).symm
        refine iteT ?_
        refine ⟨_, rfl, _, .ty _, _, _, isListD _, rfl, .ty _, tyx_dp hx2, kit_list hx2, _, rfl, _, .ty _, _, _, isListD _, rfl, .ty _, tyx_dp hy2, kit_list hy2, rfl, _, rfl, iteF ?_⟩
        refine ⟨_, rfl, _, .ty _, _, _, isTupD _, rfl, .ty _, tyx_dp hx2, kit_tup hx2, _, rfl, _, .ty _, _, _, isTupD _, rfl, .ty _, tyx_dp hy2, kit_tup hy2, rfl, _, rfl, iteF ?_⟩
        refine ⟨_, rfl, _, xs.length, rfl, .inl ⟨xs, hl', rfl⟩, _, rfl, _, ys.length, rfl, .inl ⟨ys, hl, rfl⟩, rfl, _, rfl, ?_⟩
        rw [e1]
        refine ite2 (fun _ => ?_) (fun h => absurd (decide_eq_true rfl) h)
        refine ⟨_, rfl, _, rfl, a, b, xs, ys, rfl, .inl ⟨hl', hl, fun D hD => ?_⟩⟩
        refine lc_it (walk_zip (xs := xs) (ys := ys) (n := ys.length) (by rw [e1, Nat.min_self])) (fun i H2 => Same H1 H2 ∧ H1 D = none ∧ H2 D = some (.lst ((List.replicate i true).map V.bl))) ⟨same_upd hD, hD, upd_same⟩ (fun i H2 _ h => ⟨h.1.seq hl', h.1.seq hl⟩) ?_ ?_
        · skip
          rintro i v H2 H3 hi ⟨sm, nD, hL⟩ ⟨u, x1, y1, rfl, hu, rfl, gx, gy⟩
          have sm3 : Same H1 (upd H2 u (.tup [x1, y1])) := same_put sm (sm.free hu)
          obtain ⟨d1, g1, p1⟩ := dpAll_at ha' gx
          obtain ⟨d2, g2, p2⟩ := dpAll_at ha gy
          have ed : d1 = d2 := Option.some.inj (g1.symm.trans g2)
          subst ed
          refine ⟨u, _, rfl, .inl (.inl upd_same), rfl, _, _, rfl, _, _, rfl, rfl, rfl, tYes_at ?_⟩
          rw [if_pos rfl]
          refine ⟨_, rfl, _, rfl, x1, y1, d1, m, rfl, dp_same sm3 p1, dp_same sm3 p2, ?_, ?_, gdAll_iff.mp hg d1 (List.mem_of_getElem? g1), fun H4 s4 => ?_⟩
          · have h1 := depth_at g1
            have h2 : PyData.depthAll ds + 1 < k + 1 := hd
            omega
          · exact Nat.le_trans (wid_at g1) (Nat.le_trans (Nat.le_max_right _ _) hw)
          · have nuD : D ≠ u := ne_of_none hL hu
            refine ⟨_, s4 _ _ (by rw [upd_ne nuD]; exact hL), ?_, same_put (sm3.trans s4) nD, nD, ?_⟩
            · rw [List.length_map, List.length_replicate]
              exact Nat.lt_of_lt_of_le (dpAll_len ha ▸ hi) (Nat.le_trans (Nat.le_trans (Nat.le_max_left _ _) hw) (by decide))
            · rw [upd_same, List.replicate_succ', List.map_append]
              rfl
        · skip
          rintro H2 ⟨sm, nD, hL⟩
          refine ⟨D, _, rfl, SqL.of hL, ?_⟩
          have e : (List.replicate ys.length true).all id = true := by simp
          rw [e]
          exact q _ (sm1.trans sm)
      | @tup b ys ds hl ha =>
        cases hx1 with
        | @tup a xs _ hl' ha' =>
        have e1 : xs.length = ys.length := (dpAll_len ha').trans (dpAll_len ha).symm
        refine iteT ?_
        refine ⟨_, rfl, _, .ty _, _, _, isListD _, rfl, .ty _, tyx_dp hx2, kit_list hx2, _, rfl, _, .ty _, _, _, isListD _, rfl, .ty _, tyx_dp hy2, kit_list hy2, rfl, _, rfl, iteF ?_⟩
        refine ⟨_, rfl, _, .ty _, _, _, isTupD _, rfl, .ty _, tyx_dp hx2, kit_tup hx2, _, rfl, _, .ty _, _, _, isTupD _, rfl, .ty _, tyx_dp hy2, kit_tup hy2, rfl, _, rfl, iteF ?_⟩
        refine ⟨_, rfl, _, xs.length, rfl, .inr ⟨xs, hl', rfl⟩, _, rfl, _, ys.length, rfl, .inr ⟨ys, hl, rfl⟩, rfl, _, rfl, ?_⟩
        rw [e1]
        refine ite2 (fun _ => ?_) (fun h => absurd (decide_eq_true rfl) h)
        refine ⟨_, rfl, _, rfl, a, b, xs, ys, rfl, .inr ⟨hl', hl, fun D hD => ?_⟩⟩
        refine lc_it (walk_zipT (xs := xs) (ys := ys) (n := ys.length) (by rw [e1, Nat.min_self])) (fun i H2 => Same H1 H2 ∧ H1 D = none ∧ H2 D = some (.lst ((List.replicate i true).map V.bl))) ⟨same_upd hD, hD, upd_same⟩ (fun i H2 _ h => ⟨same_tup h.1 hl', same_tup h.1 hl⟩) ?_ ?_
        · skip
          rintro i v H2 H3 hi ⟨sm, nD, hL⟩ ⟨u, x1, y1, rfl, hu, rfl, gx, gy⟩
          have sm3 : Same H1 (upd H2 u (.tup [x1, y1])) := same_put sm (sm.free hu)
          obtain ⟨d1, g1, p1⟩ := dpAll_at ha' gx
          obtain ⟨d2, g2, p2⟩ := dpAll_at ha gy
          have ed : d1 = d2 := Option.some.inj (g1.symm.trans g2)
          subst ed
          refine ⟨u, _, rfl, .inl (.inl upd_same), rfl, _, _, rfl, _, _, rfl, rfl, rfl, tYes_at ?_⟩
          rw [if_pos rfl]
          refine ⟨_, rfl, _, rfl, x1, y1, d1, m, rfl, dp_same sm3 p1, dp_same sm3 p2, ?_, ?_, gdAll_iff.mp hg d1 (List.mem_of_getElem? g1), fun H4 s4 => ?_⟩
          · have h1 := depth_at g1
            have h2 : PyData.depthAll ds + 1 < k + 1 := hd
            omega
          · exact Nat.le_trans (wid_at g1) (Nat.le_trans (Nat.le_max_right _ _) hw)
          · have nuD : D ≠ u := ne_of_none hL hu
            refine ⟨_, s4 _ _ (by rw [upd_ne nuD]; exact hL), ?_, same_put (sm3.trans s4) nD, nD, ?_⟩
            · rw [List.length_map, List.length_replicate]
              exact Nat.lt_of_lt_of_le (dpAll_len ha ▸ hi) (Nat.le_trans (Nat.le_trans (Nat.le_max_left _ _) hw) (by decide))
            · rw [upd_same, List.replicate_succ', List.map_append]
              rfl
        · skip
          rintro H2 ⟨sm, nD, hL⟩
          refine ⟨D, _, rfl, SqL.of hL, ?_⟩
          have e : (List.replicate ys.length true).all id = true := by simp
          rw [e]
          exact q _ (sm1.trans sm)

end
end Pot

namespace Pot
open PySem PySem.Spec PyProof.Rows L2
section
variable {P : Program} {w : World} {K : PySem.W.Frag} {mg : Str → Option Value} {base : Heap}
/-! ### Full -/
abbrev s_Full : Stmt := inClass (topS 6) 0
def veTail : List Value := [.type "ValueError", .type "Exception", .type "BaseException", .type "object"]
structure FlK (P : Program) (K : PySem.W.Frag) (mg : Str → Option Value) (C fI : Addr) : Prop where
  gl : mg "Full" = some (.ref C)
  ex : RSup.OexB K C "ValueError.__new__" veTail
  sup : RSup.SupC P K mg C "ValueError.__init__" "ValueError"
  ini : PySem.W.findIn K (.ref C) "__init__" = some (some (.ref fI))
  tyI : PySem.W.typeIn K (.ref fI) = some (.type "function")
  sl : PySem.W.findIn K (.ref C) "slots" = some none
theorem scFL : RSup.ScopeS ["self", "slots"] ["self", "slots"] (defScope s_Full) := ⟨rfl, rfl, rfl, by decide +kernel, rfl, by decide +kernel, by decide +kernel, by decide +kernel⟩
def spFL (C : Addr) : Sp := fun vs H Q _ => ∃ (a : Addr) (z : Int), vs = [.ref a, .int z] ∧ z.natAbs ≤ 2000000 ∧ H a = some (exo a C none) ∧
  ∀ d, H d = none → d ≠ a → Q .non (upd (upd H d (exd d [("slots", .int z)])) a (exo a C (some d)))
theorem ok_fl {CX : CXT} {f C fI : Addr} {fd : FuncData} {k : Nat} (F : RSup.FunS P K "__init__" "Full.__init__" s_Full f C fd) (N : FlK P K mg C fI) : FnOk P w K mg base CX (k + 1) f fd ["self", "slots"] (spFL C) := by
  refine RSup.fn_supr F PySem.F.excBase_ValueError N.ex N.sup scFL rfl rfl rfl rfl rfl rfl (fun vs H Q E h => ?_) (fun cda cc A outer s H vs Q E hr h => ?_)
  · obtain ⟨a, z, rfl, _⟩ := h
    rfl
  · obtain ⟨a, z, rfl, hz, ha, q⟩ := h
    refine ⟨a, _, _, rfl, ha, pa_cons (pe_joined (.cons pe_str (.cons (pe_fmt (pv 1)) (.cons pe_str .nil)))) pa_nil, pss_one (RSup.ps_ostB (newId := "ValueError.__new__") PySem.F.store_ValueError (pv 0) (pv 1)), ?_⟩
    have l1 : (Str.ofString "none of ").length = 8 := by decide +kernel
    have l2 : (Str.ofString " slots is free").length = 14 := by decide +kernel
    have l0 : Str.empty.length = 0 := rfl
    have lz := PyProof.Rows.int_text_len_1921 (log_small' hz)
    refine ⟨_, rfl, (by rw [Str.length_append, l0, l1, sizeLine_eq]; omega), _, rfl, .inr ⟨z, rfl, log_small' hz, _, rfl, ?_, _, rfl, ?_, ?_⟩⟩
    · rw [Str.length_append, Str.length_append, l0, l1, sizeLine_eq]
      omega
    · rw [Str.length_append, Str.length_append, Str.length_append, l0, l1, l2, sizeLine_eq]
      omega
    refine ⟨(by show 1 ≤ 1000; decide), ha, ?_⟩
    exact ⟨_, rfl, _, rfl, a, C, rfl, N.ex, N.sl, .inl ⟨ha, fun d nd ne => q d nd ne⟩⟩
/-- Full may be made -/
def FlR (P : Program) (w : World) (K : PySem.W.Frag) (mg : Str → Option Value) (base : Heap) (k : Nat) (C : Addr) : Prop :=
  ∃ (fI : Addr) (fd : FuncData), FlK P K mg C fI ∧ FnOk P w K mg base CX0 k fI fd ["self", "slots"] (spFL C) ∧ Binds K fd ["self", "slots"] []
theorem pmk_fl {X : Cx} {k j : Nat} {C : Addr} {e : Expr} {es : List Expr} {ta : TA} {p pos : Pos} (c : FlR X.prog X.w X.K X.mg X.base k C) (room : Room (j + 1) X.A) (le : k ≤ j) (glob : Gl X "Full") (args : PA X (e :: es) ta)
    (plain : starEach (e :: es) X.env = (false, eval e X.env) :: starEach es X.env := by rfl) (none_ : (backTo pos (starEach es X.env)).any (·.1) = false := by rfl) :
    L2.PMk X (.Call (.Name "Full" p) (e :: es) [] pos) (tMkO C (spFL C) [] ta) := by
  obtain ⟨fI, fd, N, G, b⟩ := c
  exact RSup.pmk_oexB PySem.F.excBase_ValueError N.ex N.ini N.tyI (G.mono le) room b .nil pass0 glob N.gl args (by decide) plain none_

/-! ### NoSuch -/
abbrev s_NoSuch : Stmt := inClass (topS 8) 0
def leTail : List Value := [.type "LookupError", .type "Exception", .type "BaseException", .type "object"]
/-- what stands of NoSuch at C, its __init__ at fI -/
structure NsK (P : Program) (K : PySem.W.Frag) (mg : Str → Option Value) (C fI : Addr) : Prop where
  gl : mg "NoSuch" = some (.ref C)
  ex : RSup.OexB K C "LookupError.__new__" leTail
  sup : RSup.SupC P K mg C "LookupError.__init__" "LookupError"
  ini : PySem.W.findIn K (.ref C) "__init__" = some (some (.ref fI))
  tyI : PySem.W.typeIn K (.ref fI) = some (.type "function")
  wh : PySem.W.findIn K (.ref C) "what" = some none
  na : PySem.W.findIn K (.ref C) "name" = some none
theorem scNS : RSup.ScopeS ["self", "what", "name"] ["self", "what", "name"] (defScope s_NoSuch) := ⟨rfl, rfl, rfl, by decide +kernel, rfl, by decide +kernel, by decide +kernel, by decide +kernel⟩
def spNS (C : Addr) : Sp := fun vs H Q _ => ∃ (a : Addr) (z : Str) (y : V), vs = [.ref a, .str z, y] ∧ z.length ≤ 1000 ∧ H a = some (exo a C none) ∧
  ∀ d, H d = none → d ≠ a → Q .non (upd (upd (upd H d (exd d [("what", .str z)])) a (exo a C (some d))) d (exd d [("name", y), ("what", .str z)]))
theorem ok_ns {CX : CXT} {f C fI : Addr} {fd : FuncData} {k : Nat} (F : RSup.FunS P K "__init__" "NoSuch.__init__" s_NoSuch f C fd) (N : NsK P K mg C fI) : FnOk P w K mg base CX (k + 1) f fd ["self", "what", "name"] (spNS C) := by
  refine RSup.fn_supr F PySem.F.excBase_LookupError N.ex N.sup scNS rfl rfl rfl rfl rfl rfl (fun vs H Q E h => ?_) (fun cda cc A outer s H vs Q E hr h => ?_)
  · obtain ⟨a, z, y, rfl, _⟩ := h
    rfl
  · obtain ⟨a, z, y, rfl, hz, ha, q⟩ := h
    refine ⟨a, _, _, rfl, ha, pa_cons (pe_joined (.cons pe_str (.cons (pe_fmt (pv 1)) .nil))) pa_nil, pss_cons (RSup.ps_ostB (newId := "LookupError.__new__") PySem.F.store_LookupError (pv 0) (pv 1)) (pss_one (RSup.ps_ostB (newId := "LookupError.__new__") PySem.F.store_LookupError (pv 0) (pv 2))), ?_⟩
    have l8 : (Str.empty ++ Str.ofString "no such ").length = 8 := by decide +kernel
    refine ⟨_, rfl, (by rw [l8]; decide), _, rfl, .inl ⟨z, rfl, Nat.le_trans hz (by decide), _, rfl, ?_, ?_⟩⟩
    · rw [Str.length_append, l8, sizeLine_eq]
      omega
    refine ⟨(by show 1 ≤ 1000; decide), ha, ?_⟩
    refine ⟨_, rfl, _, rfl, a, C, rfl, N.ex, N.wh, .inl ⟨ha, fun d nd ne => ?_⟩⟩
    exact ⟨_, rfl, _, rfl, a, C, rfl, N.ex, N.na, .inr ⟨d, _, upd_same, (upd_ne ne).trans upd_same, (by show 1 ≤ 900; decide), q d nd ne⟩⟩
/-- a def that may raise, called by its name -/
def ClX (P : Program) (w : World) (K : PySem.W.Frag) (mg : Str → Option Value) (base : Heap) (k : Nat) (x : Str) (sp : Sp) : Prop :=
  ∃ (f : Addr) (fd : FuncData) (ps : List Str), FnOk P w K mg base (L2.CX P w) k f fd ps sp ∧ mg x = some (.ref f) ∧ PySem.W.keepIn K (.ref f) = true ∧ Binds K fd ps []
theorem pe_clX {X : Cx} {W : WX} {k j : Nat} {x : Str} {sp : Sp} {e : Expr} {es : List Expr} {t : TA} {p pos : Pos} (c : ClX X.prog X.w X.K X.mg X.base k x sp) (room : Room j X.A) (le : k ≤ j) (glob : Gl X x) (tk : Takes X W) (args : PA X (e :: es) t)
    (dbg : (x == ("__debug__" : Str)) = false := by decide) (plain : starEach (e :: es) X.env = (false, eval e X.env) :: starEach es X.env := by rfl) (none_ : (backTo pos (starEach es X.env)).any (·.1) = false := by rfl) :
    PE X (.Call (.Name x p) (e :: es) [] pos) (tCallS sp (WE W) t) := by
  obtain ⟨f, fd, ps, G, at_, kp, b⟩ := c
  exact pe_callS G (room.mono le) glob at_ kp b (fun σ => passAt tk σ) args dbg plain none_
/-- NoSuch may be made -/
def NsR (P : Program) (w : World) (K : PySem.W.Frag) (mg : Str → Option Value) (base : Heap) (k : Nat) (C : Addr) : Prop :=
  ∃ (fI : Addr) (fd : FuncData), NsK P K mg C fI ∧ FnOk P w K mg base CX0 k fI fd ["self", "what", "name"] (spNS C) ∧ Binds K fd ["self", "what", "name"] []
theorem pmk_ns {X : Cx} {k j : Nat} {C : Addr} {e : Expr} {es : List Expr} {ta : TA} {p pos : Pos} (c : NsR X.prog X.w X.K X.mg X.base k C) (room : Room (j + 1) X.A) (le : k ≤ j) (glob : Gl X "NoSuch") (args : PA X (e :: es) ta)
    (plain : starEach (e :: es) X.env = (false, eval e X.env) :: starEach es X.env := by rfl) (none_ : (backTo pos (starEach es X.env)).any (·.1) = false := by rfl) :
    PMk X (.Call (.Name "NoSuch" p) (e :: es) [] pos) (tMkO C (spNS C) [] ta) := by
  obtain ⟨fI, fd, N, G, b⟩ := c
  exact RSup.pmk_oexB PySem.F.excBase_LookupError N.ex N.ini N.tyI (G.mono le) room b .nil pass0 glob N.gl args (by decide) plain none_

end
end Pot

namespace Pot
open PySem PySem.Spec PyProof.Rows L2
section
variable {P : Program} {w : World} {K : PySem.W.Frag} {mg : Str → Option Value} {base : Heap}
/-! ### a method with values that may be left out -/
abbrev FunVQ (K : PySem.W.Frag) (x qual : Str) (st : Stmt) (dvs : List V) (f : Addr) (fd : FuncData) : Prop := FunD K x qual (defArgs st) (defBody st) (defScope st) dvs [] f fd
theorem okQ {x qual : Str} {st : Stmt} {dvs : List V} {f : Addr} {fd : FuncData} {N ps : List Str} {k : Nat} {sp : Sp} (F : FunVQ K x qual st dvs f fd) (S : FnScope N ps (defScope st)) (len : ∀ vs H Q E, sp vs H Q E → vs.length = ps.length)
    (bd : ∀ (cdv : Value) (A : Around) (outer : List Env) (s : Shared) (H : Hp) (vs : List V) (Q : VK) (E : XK), Room k (A.deeper (envOfC qual (defScope st) s.heap.objs.size f cdv)) → sp vs H Q E → ∃ t, PSs (cxOf CX0 P w K mg base N qual (defScope st) f cdv A outer s H E).nox (defBody st) t ∧ t { nx := fun _ H' => Q .non H', rt := Q } (start N vs) H) : FnOk P w K mg base CX0 (k + 1) f fd ps sp :=
  FunD.ok F S len fun cdv A outer s H vs Q E hr h => by
    obtain ⟨t, ht, hq⟩ := bd cdv A outer s H vs Q E hr h
    exact ⟨t, ht.nox, hq⟩
/-! ### what lies in a tunnel: slot, name, hour out, and where its pair stands -/
abbrev En := Nat × Str × Int × Addr
def enK (es : List En) : List (Key × V) := es.map fun e => (.inl ((e.1 : Nat) : Int), .ref e.2.2.2)
def EnOk (H : Hp) (es : List En) : Prop := ∀ e ∈ es, H e.2.2.2 = some (.tup [.str e.2.1, .int e.2.2.1])
theorem EnOk.sm {H H' : Hp} {S : List Addr} {es : List En} (h : EnOk H es) (s : Sm S H H') (nt : ∀ x ∈ S, ∀ us, H x ≠ some (.tup us)) : EnOk H' es := fun e he => sm_at s (fun z => nt _ z _ (h e he)) (h e he)
theorem EnOk.same {H H' : Hp} {es : List En} (h : EnOk H es) (s : Same H H') : EnOk H' es := fun e he => s _ _ (h e he)
def slotsF (es : List En) : List Nat := es.map (·.1)
theorem enK_len (es : List En) : (enK es).length = es.length := by unfold enK; rw [List.length_map]
theorem enK_keys (es : List En) (j : Nat) : (Sum.inl ((j : Nat) : Int) : Key) ∈ (enK es).map (·.1) ↔ j ∈ slotsF es := by
  unfold enK slotsF
  rw [List.map_map]
  constructor
  · intro h
    obtain ⟨e, he, h2⟩ := List.mem_map.mp h
    have : ((e.1 : Nat) : Int) = ((j : Nat) : Int) := Sum.inl.inj h2
    exact List.mem_map.mpr ⟨e, he, by omega⟩
  · intro h
    obtain ⟨e, he, h2⟩ := List.mem_map.mp h
    exact List.mem_map.mpr ⟨e, he, by show Sum.inl ((e.1 : Nat) : Int) = _; rw [show e.1 = j from h2]⟩
theorem val_has : ∀ (es : List En) (j : Nat), (valV (enK es) (.inl ((j : Nat) : Int))).isSome = decide (j ∈ slotsF es)
  | [], _ => rfl
  | e :: es, j => by
    by_cases c : e.1 = j
    · have : valV (enK (e :: es)) (.inl ((j : Nat) : Int)) = some (.ref e.2.2.2) := valV_pos (by show Sum.inl ((e.1 : Nat) : Int) = _; rw [c])
      rw [this]
      exact (decide_eq_true (by unfold slotsF; rw [List.map_cons, c]; exact List.mem_cons_self)).symm
    · have : valV (enK (e :: es)) (.inl ((j : Nat) : Int)) = valV (enK es) (.inl ((j : Nat) : Int)) := valV_neg (by intro z; exact c (by have := Sum.inl.inj z; omega))
      rw [this, val_has es j]
      have : (j ∈ slotsF (e :: es)) = (j ∈ slotsF es) := by
        unfold slotsF
        rw [List.map_cons, List.mem_cons]
        exact propext ⟨fun h => h.resolve_left fun z => c z.symm, .inr⟩
      simp only [this]
theorem val_at : ∀ {es : List En} {e : En}, (slotsF es).Nodup → e ∈ es → valV (enK es) (.inl ((e.1 : Nat) : Int)) = some (.ref e.2.2.2)
  | [], e, _, h => (List.not_mem_nil h).elim
  | x :: es, e, nd, h => by
    unfold slotsF at nd
    rw [List.map_cons, List.nodup_cons] at nd
    rcases List.mem_cons.mp h with rfl | h
    · exact valV_pos rfl
    · have ne : x.1 ≠ e.1 := fun z => nd.1 (z ▸ List.mem_map.mpr ⟨e, h, rfl⟩)
      have : valV (enK (x :: es)) (.inl ((e.1 : Nat) : Int)) = valV (enK es) (.inl ((e.1 : Nat) : Int)) := valV_neg (by intro z; exact ne (by have := Sum.inl.inj z; omega))
      rw [this]
      exact val_at nd.2 h
theorem put_en {es : List En} {j : Nat} {z : Str} {o : Int} {t : Addr} (h : j ∉ slotsF es) : putK (enK es) (.inl ((j : Nat) : Int)) (.ref t) = enK (es ++ [(j, z, o, t)]) := by
  have e : ((enK es).any fun kv => decide (kv.1 = .inl ((j : Nat) : Int))) = false := by rw [valV_any, val_has, decide_eq_false h]
  unfold putK
  rw [e, if_neg (by decide)]
  unfold enK
  rw [List.map_append]; rfl
theorem nodup_leG {α : Type} [DecidableEq α] : ∀ {l ts : List α}, l.Nodup → (∀ x ∈ l, x ∈ ts) → l.length ≤ ts.length
  | [], _, _, _ => Nat.zero_le _
  | x :: l, ts, nd, h => by
    have hx := h x List.mem_cons_self
    obtain ⟨n1, n2⟩ := List.nodup_cons.mp nd
    have h1 : l.length ≤ (ts.erase x).length := nodup_leG n2 fun y hy => by
      have ne : y ≠ x := fun e => n1 (e ▸ hy)
      exact (List.mem_erase_of_ne ne).mpr (h y (List.mem_cons_of_mem x hy))
    have h2 := List.length_erase_of_mem hx
    have h3 := List.length_pos_of_mem hx
    rw [List.length_cons]
    omega
/-- the least that isn't one of these -/
def mexF (ts : List Nat) : Nat := ((List.range (ts.length + 1)).find? fun k => decide (k ∉ ts)).getD 0
theorem mex_is {ts : List Nat} : mexF ts ∉ ts ∧ (∀ j, j < mexF ts → j ∈ ts) ∧ mexF ts ≤ ts.length := by
  unfold mexF
  cases e : (List.range (ts.length + 1)).find? fun k => decide (k ∉ ts) with
  | none =>
    have h := List.find?_eq_none.mp e
    have := nodup_leG (l := List.range (ts.length + 1)) (ts := ts) List.nodup_range fun x hx => by
      have := h x hx
      simpa using this
    rw [List.length_range] at this
    omega
  | some k =>
    obtain ⟨h1, as, bs, h2, h3⟩ := List.find?_eq_some_iff_append.mp e
    have hk : k ∈ List.range (ts.length + 1) := by rw [h2]; simp
    have hk := List.mem_range.mp hk
    refine ⟨by simpa using h1, fun j hj => ?_, by show k ≤ _; omega⟩
    have hj : j < k := hj
    have jr : j ∈ as ++ k :: bs := by rw [← h2]; exact List.mem_range.mpr (by omega)
    rcases List.mem_append.mp jr with h | h
    · have := h3 j h
      simpa using this
    · have pw : (as ++ k :: bs).Pairwise (· < ·) := by rw [← h2]; exact List.pairwise_lt_range
      obtain ⟨_, p2, _⟩ := List.pairwise_append.mp pw
      rcases List.mem_cons.mp h with h | h
      · omega
      · have := (List.pairwise_cons.mp p2).1 j h
        omega
theorem mex_uniq {ts : List Nat} {x : Nat} (h1 : x ∉ ts) (h2 : ∀ j, j < x → j ∈ ts) : x = mexF ts := by
  obtain ⟨m1, m2, _⟩ := mex_is (ts := ts)
  rcases Nat.lt_trichotomy x (mexF ts) with h | h | h
  · exact absurd (m2 x h) h1
  · exact h
  · exact absurd (h2 _ h) m1
theorem mex_congr {ts us : List Nat} (h : ∀ x, x ∈ ts ↔ x ∈ us) : mexF ts = mexF us := by
  obtain ⟨m1, m2, _⟩ := mex_is (ts := ts)
  exact mex_uniq (fun z => m1 ((h _).mpr z)) fun j hj => (h j).mp (m2 j hj)

abbrev s_least_free : Stmt := topS 1
def n_least_free : List Str := ["taken", "slot"]
theorem sc_least_free : FnScope n_least_free ["taken"] (defScope s_least_free) := ⟨rfl, rfl, rfl, by decide +kernel, rfl, by decide +kernel, by decide +kernel⟩
def spFree : Sp := fun vs H Q _ => ∃ (a : Addr) (es : List En), vs = [.ref a] ∧ H a = some (.dK (enK es)) ∧ es.length ≤ 1000 ∧ Q (.int (mexF (slotsF es) : Nat)) H
theorem ok_free {f : Addr} {fd : FuncData} {k : Nat} (F : Fun K "least_free" "least_free" s_least_free f fd) (T : Txt mg) : FnOk P w K mg base CX0 (k + 1) f fd ["taken"] spFree := by
  refine F.ok sc_least_free (fun vs H Q E h => ?_) (fun cdv A outer s H vs Q E hr h => ?_)
  · obtain ⟨a, es, rfl, _⟩ := h
    rfl
  · obtain ⟨a, es, rfl, ha, l, q⟩ := h
    have nd := sc_least_free.nd
    have hu := hu_of hr
    obtain ⟨m1, m2, m3⟩ := mex_is (ts := slotsF es)
    refine ⟨_, (pss_cons (ps_set (i := 1) nd rfl (.inl rfl) pe_int)
      (pss_cons (ps_while PassesOwn.never (pt_cmp (pc_din hu (pv 1) (pv 0)))
          (pss_one (ps_aug (i := 1) nd rfl (.inl rfl) pe_int ip_add)))
      (pss_one (ps_ret (pv 1))))), ?_⟩
    refine ⟨fun m σ H1 => ∃ j : Nat, σ = [some (.ref a), some (.int (j : Nat))] ∧ H1 = H ∧ j ≤ mexF (slotsF es) ∧ m = mexF (slotsF es) - j, ⟨_, 0, rfl, rfl, Nat.zero_le _, rfl⟩, ?_⟩
    rintro m σ H1 ⟨j, rfl, rfl, hj, rfl⟩
    refine ⟨_, rfl, _, rfl, a, _, rfl, .k (k := .inl ((j : Nat) : Int)) ha, _, rfl, ?_⟩
    rw [val_has]
    by_cases hm : j ∈ slotsF es
    · rw [decide_eq_true hm]
      have ne : j ≠ mexF (slotsF es) := fun e => m1 (e ▸ hm)
      refine iteT ⟨fun σ H2 => σ = [some (.ref a), some (.int ((j + 1 : Nat)))] ∧ H2 = H1, fun σ' H' h => ⟨_, ?_, j + 1, h.1, h.2, by omega, rfl⟩, ?_⟩
      · omega
      · exact ⟨_, rfl, _, _, rfl, rfl, rfl, rfl⟩
    · rw [decide_eq_false hm]
      have e : j = mexF (slotsF es) := by
        rcases Nat.lt_or_ge j (mexF (slotsF es)) with h | h
        · exact absurd (m2 j h) hm
        · omega
      subst e
      exact iteF ⟨_, rfl, q⟩
/-! ### Tunnel -/
structure TnK (K : PySem.W.Frag) (mg : Str → Option Value) (C : Addr) : Prop where
  cl : Cls K C
  sl : NoAttr K C "slots"
  hr : NoAttr K C "hour"
  he : NoAttr K C "held"
  gl : mg "Tunnel" = some (.ref C)
def tnF (hd : Addr) (hr sl : Int) : List (Str × V) := [("slots", .int sl), ("hour", .int hr), ("held", .ref hd)]
theorem tn_made (hd : Addr) (hr sl : Int) : putF "held" (.ref hd) (putF "hour" (.int hr) (putF "slots" (.int sl) [])) = tnF hd hr sl := by
  have a : ¬ (("slots" : Str) = "hour") := by decide +kernel
  have b : ¬ (("slots" : Str) = "held") := by decide +kernel
  have c : ¬ (("hour" : Str) = "held") := by decide +kernel
  simp only [putF, if_neg a, if_neg b, if_neg c]
  rfl
theorem tn_hour (hd : Addr) (hr sl x : Int) : putF "hour" (.int x) (tnF hd hr sl) = tnF hd x sl := by
  have a : ¬ (("slots" : Str) = "hour") := by decide +kernel
  simp only [tnF, putF, if_neg a, if_true]
theorem tn_held (hd hd' : Addr) (hr sl : Int) : putF "held" (.ref hd') (tnF hd hr sl) = tnF hd' hr sl := by
  have b : ¬ (("slots" : Str) = "held") := by decide +kernel
  have c : ¬ (("hour" : Str) = "held") := by decide +kernel
  simp only [tnF, putF, if_neg b, if_neg c, if_true]
theorem tf_sl (hd : Addr) (hr sl : Int) : (tnF hd hr sl).lookup ("slots" : Str) = some (.int sl) := rfl
theorem tf_hr (hd : Addr) (hr sl : Int) : (tnF hd hr sl).lookup ("hour" : Str) = some (.int hr) := by
  have a : (("hour" : Str) == ("slots" : Str)) = false := by decide +kernel
  unfold tnF
  rw [List.lookup_cons, a]
  rfl
theorem tf_he (hd : Addr) (hr sl : Int) : (tnF hd hr sl).lookup ("held" : Str) = some (.ref hd) := by
  have a : (("held" : Str) == ("slots" : Str)) = false := by decide +kernel
  have b : (("held" : Str) == ("hour" : Str)) = false := by decide +kernel
  unfold tnF
  rw [List.lookup_cons, a, List.lookup_cons, b]
  rfl
/-- at p stands a tunnel, its dict at hd -/
structure TnAt (C : Addr) (H : Hp) (p hd : Addr) (hr sl : Int) (es : List En) : Prop where
  ob : ∃ dx, H p = some (.ins C dx (tnF hd hr sl))
  di : H hd = some (.dK (enK es))
  en : EnOk H es
  nd : (slotsF es).Nodup
  lt : ∀ e ∈ es, ((e.1 : Nat) : Int) < sl
theorem TnAt.same {C : Addr} {H H' : Hp} {p hd : Addr} {hr sl : Int} {es : List En} (h : TnAt C H p hd hr sl es) (s : Same H H') : TnAt C H' p hd hr sl es := by
  obtain ⟨⟨dx, a⟩, b, c, d, e⟩ := h
  exact ⟨⟨dx, s _ _ a⟩, s _ _ b, c.same s, d, e⟩
def spTnI (C : Addr) : Sp := fun vs H Q _ => ∃ (H0 : Hp) (p dx : Addr) (sl hr : Int), vs = [.ref p, .int sl, .int hr] ∧ Same H0 H ∧ H0 p = none ∧ H p = some (.ins C dx []) ∧ ∀ (H' : Hp) (hd : Addr), Same H0 H' → H0 hd = none → hd ≠ p → TnAt C H' p hd hr sl [] → Q .non H'
abbrev s_ni : Stmt := inClass (topS 10) 0
def n_ni : List Str := ["self", "slots", "hour"]
theorem sc_ni : FnScope n_ni ["self", "slots", "hour"] (defScope s_ni) := ⟨rfl, rfl, rfl, by decide +kernel, rfl, by decide +kernel, by decide +kernel⟩
theorem ok_ni {C f : Addr} {fd : FuncData} {k : Nat} (F : FunVQ K "__init__" "Tunnel.__init__" s_ni [.int 0] f fd) (N : TnK K mg C) : FnOk P w K mg base CX0 (k + 1) f fd ["self", "slots", "hour"] (spTnI C) := by
  refine okQ F sc_ni (fun vs H Q E h => ?_) (fun cdv A outer s H vs Q E hr h => ?_)
  · obtain ⟨H0, p, dx, sl, hr, rfl, _⟩ := h
    rfl
  · obtain ⟨H0, p, dx, sl, ho, rfl, s0, p0, hp, q⟩ := h
    have nd := sc_ni.nd
    refine ⟨_, (pss_cons (ps_fld (pv 0) (pv 1) rfl)
      (pss_cons (ps_fld (pv 0) (pv 2) rfl)
      (pss_one (ps_fld (pv 0) pe_dnewK rfl)))), ?_⟩
    refine ⟨_, rfl, _, rfl, p, C, dx, [], rfl, hp, N.cl, N.sl, (by show 0 < 1000; decide), ?_⟩
    refine ⟨_, rfl, _, rfl, p, C, dx, _, rfl, upd_same, N.cl, N.hr, (by show 1 < 1000; decide), ?_⟩
    rw [upd_upd]
    intro hd nhd
    have hdp : hd ≠ p := fun e => by rw [e, upd_same] at nhd; cases nhd
    have nH : H hd = none := by rw [upd_ne hdp] at nhd; exact nhd
    refine ⟨_, rfl, p, C, dx, _, rfl, (upd_ne hdp.symm).trans upd_same, N.cl, N.he, (by show 2 < 1000; decide), ?_⟩
    rw [tn_made]
    refine q _ hd ?_ (s0.free nH) hdp ⟨⟨dx, upd_same⟩, by rw [upd_ne hdp]; exact upd_same, fun _ h => (List.not_mem_nil h).elim, List.nodup_nil, fun _ h => (List.not_mem_nil h).elim⟩
    exact same_put (same_put (same_put s0 p0) (s0.free nH)) p0
def flX (sl : Int) : HO := .xd [("slots", .int sl)]
def spTnE (K : PySem.W.Frag) (C CF : Addr) : Sp := fun vs H Q E => ∃ (p hd : Addr) (hr sl : Int) (es : List En) (z : Str) (co : Int), vs = [.ref p, .str z, .int co] ∧ TnAt C H p hd hr sl es ∧ es.length ≤ 1000 ∧ sl.natAbs ≤ 2000000 ∧
  (((mexF (slotsF es) : Nat) : Int) < sl → ∀ (H' : Hp) (t : Addr), Sm [hd] H H' → H t = none → TnAt C H' p hd hr sl (es ++ [(mexF (slotsF es), z, hr + co, t)]) → Q (.int (mexF (slotsF es) : Nat)) H') ∧
  (sl ≤ ((mexF (slotsF es) : Nat) : Int) → ∀ (d : Addr) (H' : Hp), Same H H' → H d = none → H' d = some (flX sl) → E (.ref CF) (some d) H')
abbrev s_ne : Stmt := inClass (topS 10) 1
def n_ne : List Str := ["self", "name", "cool", "slot"]
theorem sc_ne : FnScope n_ne ["self", "name", "cool"] (defScope s_ne) := ⟨rfl, rfl, rfl, by decide +kernel, rfl, by decide +kernel, by decide +kernel⟩
theorem ok_ne {C CF f : Addr} {fd : FuncData} {k : Nat} (F : FunVQ K "enter" "Tunnel.enter" s_ne [.int 8] f fd) (N : TnK K mg C) (c_Full : FlR P w K mg base 1 CF) (c_least_free : Cl P w K mg base (k + 1) "least_free" spFree) : FnOk P w K mg base (L2.CX P w) (k + 3) f fd ["self", "name", "cool"] (spTnE K C CF) := by
  refine FunD.ok F sc_ne (fun vs H Q E h => ?_) (fun cdv A outer s H vs Q E hr h => ?_)
  · obtain ⟨p, hd, hr, sl, es, z, co, rfl, _⟩ := h
    rfl
  · obtain ⟨p, hd, ho, sl, es, z, co, rfl, M, l, b, q, qe⟩ := h
    have nd := sc_ne.nd
    have hu := hu_of hr
    obtain ⟨dx, hp⟩ := M.ob
    refine ⟨_, (pss_cons (ps_set (i := 3) nd rfl (.inl rfl) (pe_cl c_least_free hr (by omega) (by rfl) (pa_cons (ke_fld (K := K) (pv 0)) pa_nil)))
      (pss_cons (ps_if (pt_cmpR op_ge (pv 3) (ke_fld (K := K) (pv 0)) (nomark _))
          (pss_one (ps_raise rfl (takes_of rfl rfl rfl rfl) (pmk_fl (j := 1) c_Full (hr.mono (by omega)) (by omega) (by rfl) (pa_cons (ke_fld (K := K) (pv 0)) pa_nil))))
          pss_nil)
      (pss_cons (ps_dput hu (ke_fld (K := K) (pv 0)) (pv 3) (pe_tup (pa_cons (pv 1) (pa_cons (pe_op op_add (ke_fld (K := K) (pv 0)) (pv 2)) pa_nil))) rfl)
      (pss_one (ps_ret (pv 3)))))), ?_⟩
    refine ⟨_, rfl, p, C, dx, _, _, rfl, hp, N.cl, N.he, tf_he _ _ _, hd, es, rfl, M.di, l, ?_⟩
    refine ⟨_, rfl, _, rfl, p, C, dx, _, _, rfl, hp, N.cl, N.sl, tf_sl _ _ _, _, _, rfl, rfl, _, rfl, ?_⟩
    by_cases c : sl ≤ ((mexF (slotsF es) : Nat) : Int)
    · rw [decide_eq_true c]
      refine iteT ?_
      refine ⟨_, rfl, p, C, dx, _, _, rfl, hp, N.cl, N.sl, tf_sl _ _ _, (by show 1 ≤ 1000; decide), fun a na => ⟨a, sl, rfl, b, upd_same, fun d nd ne => ?_⟩⟩
      have nd : H d = none := by rw [upd_ne ne] at nd; exact nd
      refine ⟨rfl, d, _, upd_same, (upd_ne ne).trans upd_same, nd, ?_⟩
      refine qe c d _ (fun y o ey => ?_) nd upd_same
      have ya : y ≠ a := ne_of_none ey na
      have yd : y ≠ d := ne_of_none ey nd
      rw [upd_ne yd, del_ne ya, upd_ne ya, upd_ne yd, upd_ne ya]
      exact ey
    · rw [decide_eq_false c]
      refine iteF ?_
      refine ⟨_, rfl, _, rfl, p, C, dx, _, _, rfl, hp, N.cl, N.hr, tf_hr _ _ _, _, rfl, _, _, rfl, rfl, (by show 2 ≤ sizeLine; decide), fun t nt => ?_⟩
      have s1 := same_upd (o := .tup [V.str z, .int (ho + co)]) nt
      have M1 := M.same s1
      have ht : upd H t (.tup [V.str z, .int (ho + co)]) t = some (.tup [V.str z, .int (ho + co)]) := upd_same
      generalize upd H t (.tup [V.str z, .int (ho + co)]) = H1 at s1 M1 ht ⊢
      obtain ⟨dx1, hp1⟩ := M1.ob
      have thd : t ≠ hd := fun e => by rw [e, M1.di] at ht; cases ht
      have php : p ≠ hd := fun e => by rw [e, M1.di] at hp1; cases hp1
      refine ⟨_, rfl, p, C, dx1, _, _, rfl, hp1, N.cl, N.he, tf_he _ _ _, _, rfl, hd, _, rfl, DPut.k (k := .inl ((mexF (slotsF es) : Nat) : Int)) M1.di (by rw [enK_len, sizeLine_eq]; omega), ?_⟩
      rw [put_en (z := z) (o := ho + co) mex_is.1]
      refine ⟨_, rfl, q (by omega) _ t ((sm_of s1).trans (sm_wr (by simp))) nt ⟨⟨dx1, by rw [upd_ne php]; exact hp1⟩, upd_same, fun e he => ?_, ?_, fun e he => ?_⟩⟩
      · rcases List.mem_append.mp he with h | h
        · exact (M1.en.sm (S := [hd]) (sm_wr (by simp)) (fun x hx us e2 => by rw [List.mem_singleton.mp hx, M1.di] at e2; cases e2)) e h
        · rw [List.mem_singleton.mp h]
          exact (upd_ne thd).trans ht
      · unfold slotsF
        rw [List.map_append]
        refine List.nodup_append.mpr ⟨M1.nd, by simp, fun a ha b hb => ?_⟩
        rw [List.mem_singleton.mp hb]
        intro k; exact mex_is.1 (k ▸ ha)
      · rcases List.mem_append.mp he with h | h
        · exact M1.lt e h
        · rw [List.mem_singleton.mp h]; show ((mexF (slotsF es) : Nat) : Int) < sl; omega
def inD (e : En) (ho : Int) : PyData := .tuple [.int e.1, .str e.2.1, .int (e.2.2.1 - ho)]
def goD (e : En) : PyData := .tuple [.int e.2.2.1, .int e.1, .str e.2.1]
theorem go_al (a b : En) : PySem.W.alike (goD a) (goD b) = true := by
  unfold goD
  simp [PySem.W.alike, PySem.W.alikeAll]
theorem go_tp (a : En) : ∃ x r, goD a = .tuple (x :: r) := ⟨_, _, rfl⟩
theorem go_dep (a : En) : (goD a).depth ≤ 60 := by show max 0 (max 0 (max 0 0)) + 1 ≤ 60; decide
def spTnN (C : Addr) : Sp := fun vs H Q _ => ∃ (p hd : Addr) (hr sl : Int) (es : List En), vs = [.ref p] ∧ TnAt C H p hd hr sl es ∧ Q (.int hr) H
abbrev s_nw : Stmt := inClass (topS 10) 4
def n_nw : List Str := ["self"]
theorem sc_nw : FnScope n_nw ["self"] (defScope s_nw) := ⟨rfl, rfl, rfl, by decide +kernel, rfl, by decide +kernel, by decide +kernel⟩
theorem ok_nn {C f : Addr} {fd : FuncData} {k : Nat} (F : Fun K "now" "Tunnel.now" s_nw f fd) (N : TnK K mg C) : FnOk P w K mg base CX0 (k + 1) f fd ["self"] (spTnN C) := by
  refine F.ok sc_nw (fun vs H Q E h => ?_) (fun cdv A outer s H vs Q E hr h => ?_)
  · obtain ⟨p, hd, ho, sl, es, rfl, _⟩ := h
    rfl
  · obtain ⟨p, hd, ho, sl, es, rfl, M, q⟩ := h
    have nd := sc_nw.nd
    obtain ⟨dx, hp⟩ := M.ob
    refine ⟨_, (pss_one (ps_ret (ke_fld (K := K) (pv 0)))), ?_⟩
    exact ⟨_, rfl, p, C, dx, _, _, rfl, hp, N.cl, N.hr, tf_hr _ _ _, q⟩
def spTnL (C : Addr) : Sp := fun vs H Q _ => ∃ (p hd : Addr) (hr sl : Int) (es : List En), vs = [.ref p] ∧ TnAt C H p hd hr sl es ∧ Q (.int (es.length : Nat)) H
abbrev s_nl : Stmt := inClass (topS 10) 6
def n_nl : List Str := ["self"]
theorem sc_nl : FnScope n_nl ["self"] (defScope s_nl) := ⟨rfl, rfl, rfl, by decide +kernel, rfl, by decide +kernel, by decide +kernel⟩
theorem ok_nl {C f : Addr} {fd : FuncData} {k : Nat} (F : Fun K "__len__" "Tunnel.__len__" s_nl f fd) (T : Txt mg) (N : TnK K mg C) : FnOk P w K mg base CX0 (k + 1) f fd ["self"] (spTnL C) := by
  refine F.ok sc_nl (fun vs H Q E h => ?_) (fun cdv A outer s H vs Q E hr h => ?_)
  · obtain ⟨p, hd, ho, sl, es, rfl, _⟩ := h
    rfl
  · obtain ⟨p, hd, ho, sl, es, rfl, M, q⟩ := h
    have nd := sc_nl.nd
    obtain ⟨dx, hp⟩ := M.ob
    refine ⟨_, (pss_one (ps_ret (pe_callB call_lenD (by rfl) T.len PySem.boot_len (pa_cons (ke_fld (K := K) (pv 0)) pa_nil)))), ?_⟩
    exact ⟨_, rfl, p, C, dx, _, _, rfl, hp, N.cl, N.he, tf_he _ _ _, hd, _, rfl, M.di, by rw [enK_len]; exact q⟩
def outs (es : List En) (h : Int) : List En := es.filter fun e => decide (e.2.2.1 ≤ h)
def stay (es : List En) (h : Int) : List En := es.filter fun e => decide (h < e.2.2.1)
def spTnT (K : PySem.W.Frag) (C : Addr) : Sp := fun vs H Q _ => ∃ (p hd : Addr) (hr sl m : Int) (es : List En), vs = [.ref p, .int m] ∧ TnAt C H p hd hr sl es ∧ es.length ≤ 1000 ∧
  ∀ (H' : Hp) (hd' R : Addr) (us : List V), Sm [p] H H' → H hd' = none → TnAt C H' p hd' (hr + m) sl (stay es (hr + m)) → H R = none → H' R = some (.lst us) → DpAll K (off H' [p, R]) us (((outs es (hr + m)).mergeSort (PySem.W.dataLe false goD)).map goD) → Q (.ref R) H'
abbrev s_nt : Stmt := inClass (topS 10) 2
def n_nt : List Str := ["self", "many", "gone", "slot", "name", "out", "piece"]
theorem sc_nt : FnScope n_nt ["self", "many"] (defScope s_nt) := ⟨rfl, rfl, rfl, by decide +kernel, rfl, by decide +kernel, by decide +kernel⟩
set_option maxHeartbeats 1000000 in
theorem ok_nt {C f : Addr} {fd : FuncData} {k : Nat} (F : FunVQ K "tick" "Tunnel.tick" s_nt [.int 1] f fd) (T : Txt mg) (N : TnK K mg C) : FnOk P w K mg base CX0 (k + 1) f fd ["self", "many"] (spTnT K C) := by
  refine okQ F sc_nt (fun vs H Q E h => ?_) (fun cdv A outer s H vs Q E hr h => ?_)
  · obtain ⟨p, hd, ho, sl, m, es, rfl, _⟩ := h
    rfl
  · obtain ⟨p, hd, ho, sl, m, es, rfl, M, l, q⟩ := h
    have nd := sc_nt.nd
    have hu := hu_of hr
    have hu70 : (A.deeper (envOfC (Str.ofString "Tunnel.tick") (defScope s_nt) s.heap.objs.size f cdv)).units + 70 < cLine := by have := hr.un; omega
    /- 0 self, 1 many, 2 gone, 3 slot, 4 name, 5 out, 6 piece -/
    refine ⟨_, (pss_cons (ps_fldaug (pv 0) (pv 1) ip_add)
      (pss_cons (ps_lock (ps_setLc (i := 2) (own := [("slot", 3), ("name", 4), ("out", 5)]) rfl nd rfl rfl (sw_true rfl rfl rfl (by decide +kernel)) (pi_items (ke_fld (K := K) (pv 0))) (blkOk_by (N := n_nt) (sc := defScope s_nt) (by decide +kernel)) (fun _ _ _ _ _ => (kg_tup (K := K) (n := 2) (pgs_cons (pg_name (i := 3) nd rfl (.inl rfl)) (pgs_cons (kg_tup (K := K) (n := 2) (pgs_cons (pg_name (i := 4) nd rfl (.inl rfl)) (pgs_cons (pg_name (i := 5) nd rfl (.inl rfl)) pgs_nil))) pgs_nil)))) (fun _ _ _ _ _ => (pts_one (pt_cmpR op_le (pv 5) (ke_fld (K := K) (pv 0)) (nomark _)))) (fun _ _ _ _ _ => (pe_tup (pa_cons (pv 5) (pa_cons (pv 3) (pa_cons (pv 4) pa_nil)))))))
      (pss_cons (ps_lock (ps_fld (pv 0) (pe_dc rfl (own := [("slot", 3), ("piece", 6)]) nd (pi_items (ke_fld (K := K) (pv 0))) (blkOk_by (N := n_nt) (sc := defScope s_nt) (by decide +kernel)) (fun _ _ _ _ _ => (kg_tup (K := K) (n := 2) (pgs_cons (pg_name (i := 3) nd rfl (.inl rfl)) (pgs_cons (pg_name (i := 6) nd rfl (.inl rfl)) pgs_nil)))) (fun _ _ _ _ _ => (pts_one (pt_cmpR op_gt (pe_ix (kx_tup (K := K)) (pv 6) pe_int (fun _ _ => rfl)) (ke_fld (K := K) (pv 0)) (nomark _)))) (fun _ _ _ _ _ => (pv 3)) (fun _ _ _ _ _ => (pv 6))) rfl))
      (pss_one (ps_ret (pe_callB (kc_sortedE (K := K) (enc := goD) hu70 go_al go_tp go_dep) (by rfl) T.sorted (by decide +kernel) (pa_cons (pv 2) pa_nil))))))), ?_⟩
    obtain ⟨dx, hp⟩ := M.ob
    have php : p ≠ hd := fun e => by rw [e, M.di] at hp; cases hp
    refine ⟨_, rfl, p, C, dx, _, _, rfl, hp, N.cl, N.hr, tf_hr _ _ _, _, rfl, _, _, rfl, rfl, dx, _, hp, (by show 3 < 1000; decide), ?_⟩
    rw [tn_hour]
    obtain ⟨h2, eh2⟩ : ∃ h2, h2 = ho + m := ⟨_, rfl⟩
    rw [← eh2] at q
    rw [show ((fun i j : Int => i + j) ho m) = h2 from eh2.symm]
    have sp : Sm [p] H (upd H p (.ins C dx (tnF hd h2 sl))) := sm_wr (by simp)
    have hd1 : upd H p (.ins C dx (tnF hd h2 sl)) hd = some (.dK (enK es)) := (upd_ne php.symm).trans M.di
    have en1 : EnOk (upd H p (.ins C dx (tnF hd h2 sl))) es := M.en.sm (S := [p]) sp fun x hx us e => by rw [List.mem_singleton.mp hx, hp] at e; cases e
    have hp1 : upd H p (.ins C dx (tnF hd h2 sl)) p = some (.ins C dx (tnF hd h2 sl)) := upd_same
    generalize upd H p (.ins C dx (tnF hd h2 sl)) = H1 at sp hd1 en1 hp1 ⊢
    -- those that come out
    refine ⟨hd, _, hd1, trivial, fun od => ?_⟩
    have sF : Sm [p, hd] H (upd H1 hd (.frz od (.dK (enK es)))) := (sm_mono (fun x hx => by rw [List.mem_singleton.mp hx]; simp) sp).trans (sm_wr (by simp))
    have hpF : upd H1 hd (.frz od (.dK (enK es))) p = _ := (upd_ne php).trans hp1
    have hdF : upd H1 hd (.frz od (.dK (enK es))) hd = some (.frz od (.dK (enK es))) := upd_same
    have enF : EnOk (upd H1 hd (.frz od (.dK (enK es)))) es := en1.sm (S := [hd]) (sm_wr (by simp)) fun x hx us e => by rw [List.mem_singleton.mp hx, hd1] at e; cases e
    have bk : ∀ {Hx : Hp}, Same (upd H1 hd (.frz od (.dK (enK es)))) Hx → Same H1 (upd Hx hd (.dK (enK es))) := fun {Hx} s b o e => by
      by_cases c : b = hd
      · rw [c, upd_same]; rw [c, hd1] at e; exact e
      · rw [upd_ne c]; exact s _ _ (by rw [upd_ne c]; exact e)
    generalize upd H1 hd (.frz od (.dK (enK es))) = HF at sF hpF hdF enF bk ⊢
    refine ⟨_, rfl, p, C, dx, _, _, rfl, hpF, N.cl, N.he, tf_he _ _ _, hd, od, _, rfl, hdF, fun R nR => ?_⟩
    refine lc_it (walk_items (kvs := enK es)) (fun j Hx => Same HF Hx ∧ ∃ us, Hx R = some (.lst us) ∧ us.length ≤ j ∧ DpAll K (off Hx [R]) us ((outs (es.take j) h2).map goD)) ⟨same_upd nR, [], upd_same, Nat.le_refl _, .nil⟩ (fun j Hx _ h => h.1 _ _ hdF) ?_ ?_
    · rintro j y Ha Hb hj ⟨sx, us, hR, lu, du⟩ ⟨u, x1, x2, rfl, nu, rfl, g1, g2⟩
      rw [enK_len] at hj
      have gl := List.getElem?_eq_getElem hj
      have gk : (enK es)[j]? = some (.inl ((es[j].1 : Nat) : Int), V.ref es[j].2.2.2) := by unfold enK; rw [List.getElem?_map, gl]; rfl
      replace g1 : ((enK es)[j]?.map fun kv => kV kv.1) = some x1 := g1
      replace g2 : ((enK es)[j]?.map Prod.snd) = some x2 := g2
      rw [gk] at g1 g2
      cases Option.some.inj g1
      cases Option.some.inj g2
      have he := enF es[j] (List.getElem_mem hj)
      generalize es[j] = e0 at gl gk he
      have su := same_upd (o := .tup [V.int ((e0.1 : Nat) : Int), V.ref e0.2.2.2]) nu
      have lvR : Live [R] Ha := fun x hx e => by rw [List.mem_singleton.mp hx, hR] at e; cases e
      have du := dpAll_same (sm_put (S := [R]) (o := .tup [V.int ((e0.1 : Nat) : Int), V.ref e0.2.2.2]) nu) du
      have hu1 : upd Ha u (.tup [V.int ((e0.1 : Nat) : Int), V.ref e0.2.2.2]) u = some (.tup [V.int ((e0.1 : Nat) : Int), V.ref e0.2.2.2]) := upd_same
      have sx := sx.trans su
      have hR := su _ _ hR
      show gTup K 2 _ (V.ref u) _ (upd Ha u (.tup [V.int ((e0.1 : Nat) : Int), V.ref e0.2.2.2])) _
      generalize upd Ha u (.tup [V.int ((e0.1 : Nat) : Int), V.ref e0.2.2.2]) = Hb at du hu1 sx hR ⊢
      have he := sx _ _ he
      have hpb := sx _ _ hpF
      have eo : outs (es.take (j + 1)) h2 = outs (es.take j) h2 ++ (if e0.2.2.1 ≤ h2 then [e0] else []) := by
        unfold outs
        rw [List.take_add_one, gl, List.filter_append]
        show _ ++ List.filter _ [e0] = _
        by_cases c : e0.2.2.1 ≤ h2
        · rw [if_pos c, List.filter_cons_of_pos (p := fun e : En => decide (e.2.2.1 ≤ h2)) (decide_eq_true c)]; rfl
        · rw [if_neg c, List.filter_cons_of_neg (p := fun e : En => decide (e.2.2.1 ≤ h2)) (fun z => c (of_decide_eq_true z))]; rfl
      refine ⟨u, _, rfl, .inl (.inl hu1), rfl, _, _, rfl, _, _, rfl, e0.2.2.2, _, rfl, .inl (.inl he), rfl, _, _, rfl, _, _, rfl, rfl, rfl, rfl, _, rfl, _, rfl, p, C, dx, _, _, rfl, hpb, N.cl, N.hr, tf_hr _ _ _, _, _, rfl, rfl, _, rfl, ite2 (fun c => ?_) (fun c => ?_)⟩
      · have c : e0.2.2.1 ≤ h2 := of_decide_eq_true c
        refine ⟨_, rfl, _, rfl, _, rfl, (by show 3 ≤ sizeLine; decide), fun t nt => ?_⟩
        have lvR : Live [R] Hb := fun x hx e => by rw [List.mem_singleton.mp hx, hR] at e; cases e
        have ft := off_new (o := .tup [V.int e0.2.2.1, .int ((e0.1 : Nat) : Int), .str e0.2.1]) lvR nt
        have du := dpAll_same (sm_put (S := [R]) (o := .tup [V.int e0.2.2.1, .int ((e0.1 : Nat) : Int), .str e0.2.1]) nt) du
        have sx := sx.trans (same_upd (o := .tup [V.int e0.2.2.1, .int ((e0.1 : Nat) : Int), .str e0.2.1]) nt)
        have hR := same_upd (o := .tup [V.int e0.2.2.1, .int ((e0.1 : Nat) : Int), .str e0.2.1]) nt _ _ hR
        generalize upd Hb t (.tup [V.int e0.2.2.1, .int ((e0.1 : Nat) : Int), .str e0.2.1]) = Hc at ft du sx hR ⊢
        refine ⟨us, hR, by rw [sizeLine_eq]; omega, same_put sx nR, us ++ [.ref t], upd_same, by rw [List.length_append]; show _ + 1 ≤ _; omega, ?_⟩
        rw [eo, if_pos c, List.map_append]
        exact dpAll_same (sm_wr (by simp)) (dpAll_app' du (.cons (.tup (.inl (.inl ft)) (.cons (.int _) (.cons (.int _) (.cons (.str _) .nil)))) .nil))
      · have c : ¬ e0.2.2.1 ≤ h2 := fun z => c (decide_eq_true z)
        refine ⟨sx, us, hR, by omega, ?_⟩
        rw [eo, if_neg c, List.append_nil]
        exact du
    rintro H2 ⟨s2, us, hR, lu, du⟩
    rw [enK_len, List.take_of_length_le (Nat.le_refl _)] at du
    rw [enK_len] at lu
    refine ⟨s2 _ _ hdF, ?_⟩
    have s3 := bk s2
    have hdR : R ≠ hd := (ne_of_none hdF nR).symm
    have hR : upd H2 hd (.dK (enK es)) R = some (.lst us) := (upd_ne hdR).trans hR
    have du : DpAll K (off (upd H2 hd (.dK (enK es))) [R]) us ((outs es h2).map goD) := by
      have hF2 := s2 _ _ hdF
      refine dpAll_go (fun a vs h => ?_) (noL_map (f := goD) (fun _ => ⟨trivial, trivial, trivial, trivial⟩) _) du
      have ne : ∀ z, off H2 [R] a = some z → z ≠ .frz od (.dK (enK es)) → off (upd H2 hd (.dK (enK es))) [R] a = some z := fun z e n => by
        have n1 := off_mem e
        rw [off_out n1] at e ⊢
        rw [upd_ne fun x => by rw [x, hF2] at e; exact n (Option.some.inj e).symm]
        exact e
      rcases h with (h | ⟨o2, h⟩) | h
      · exact .inl (.inl (ne _ h fun z => by cases z))
      · exact .inl (.inr ⟨o2, ne _ h fun z => by cases z⟩)
      · exact .inr h
    have nR1 : H1 R = none := by
      have : ∀ o, H1 R = some o → False := fun o e => by
        have h9 := bk (Same.refl HF) R o e
        rw [upd_ne hdR, nR] at h9
        cases h9
      cases e : H1 R with
      | none => rfl
      | some o => exact (this o e).elim
    have nR0 : H R = none := by
      cases e : H R with
      | none => rfl
      | some o =>
        have rp : R ≠ p := fun z => by rw [z, hp1] at nR1; cases nR1
        have := sm1_at sp rp e
        rw [nR1] at this; cases this
    generalize upd H2 hd (.dK (enK es)) = H3 at s3 hR du ⊢
    clear sF hpF hdF enF bk s2 nR
    have hd3 := s3 _ _ hd1
    have hp3 := s3 _ _ hp1
    have en3 := en1.same s3
    -- those that stay
    refine ⟨hd, _, hd3, trivial, fun od => ?_⟩
    have hpF : upd H3 hd (.frz od (.dK (enK es))) p = _ := (upd_ne php).trans hp3
    have hdF : upd H3 hd (.frz od (.dK (enK es))) hd = some (.frz od (.dK (enK es))) := upd_same
    have hRF : upd H3 hd (.frz od (.dK (enK es))) R = _ := (upd_ne hdR).trans hR
    have enF : EnOk (upd H3 hd (.frz od (.dK (enK es)))) es := en3.sm (S := [hd]) (sm_wr (by simp)) fun x hx us e => by rw [List.mem_singleton.mp hx, hd3] at e; cases e
    have bk : ∀ {Hx : Hp}, Same (upd H3 hd (.frz od (.dK (enK es)))) Hx → Same H3 (upd Hx hd (.dK (enK es))) := fun {Hx} s b o e => by
      by_cases c : b = hd
      · rw [c, upd_same]; rw [c, hd3] at e; exact e
      · rw [upd_ne c]; exact s _ _ (by rw [upd_ne c]; exact e)
    generalize upd H3 hd (.frz od (.dK (enK es))) = HF at hpF hdF hRF enF bk ⊢
    refine ⟨_, rfl, p, C, dx, _, _, rfl, hpF, N.cl, N.he, tf_he _ _ _, hd, od, _, rfl, hdF, fun D nD => ?_⟩
    refine dc_it (walk_items (kvs := enK es)) (fun j Hx => Same HF Hx ∧ Hx D = some (.dK (enK (stay (es.take j) h2)))) ⟨same_upd nD, upd_same⟩ (fun j Hx _ h => h.1 _ _ hdF) ?_ ?_
    · rintro j y Ha Hb hj ⟨sx, hD⟩ ⟨u, x1, x2, rfl, nu, rfl, g1, g2⟩
      rw [enK_len] at hj
      have gl := List.getElem?_eq_getElem hj
      have gk : (enK es)[j]? = some (.inl ((es[j].1 : Nat) : Int), V.ref es[j].2.2.2) := by unfold enK; rw [List.getElem?_map, gl]; rfl
      replace g1 : ((enK es)[j]?.map fun kv => kV kv.1) = some x1 := g1
      replace g2 : ((enK es)[j]?.map Prod.snd) = some x2 := g2
      rw [gk] at g1 g2
      cases Option.some.inj g1
      cases Option.some.inj g2
      have he := enF es[j] (List.getElem_mem hj)
      have nk : es[j].1 ∉ slotsF (stay (es.take j) h2) := fun z => by
        obtain ⟨e, me, ee⟩ := List.mem_map.mp z
        have me := (List.mem_filter.mp me).1
        obtain ⟨i, hi, ei⟩ := List.getElem_of_mem me
        rw [List.getElem_take] at ei
        have hij : i < j := by rw [List.length_take] at hi; omega
        have := (List.pairwise_iff_getElem.mp M.nd) i j (by unfold slotsF; rw [List.length_map]; omega) (by unfold slotsF; rw [List.length_map]; omega) hij
        unfold slotsF at this
        rw [List.getElem_map, List.getElem_map] at this
        exact this (by rw [ei]; exact ee)
      generalize es[j] = e0 at gl gk he nk
      have su := same_upd (o := .tup [V.int ((e0.1 : Nat) : Int), V.ref e0.2.2.2]) nu
      have hu1 : upd Ha u (.tup [V.int ((e0.1 : Nat) : Int), V.ref e0.2.2.2]) u = some (.tup [V.int ((e0.1 : Nat) : Int), V.ref e0.2.2.2]) := upd_same
      have sx := sx.trans su
      have hD := su _ _ hD
      show gTup K 2 _ (V.ref u) _ (upd Ha u (.tup [V.int ((e0.1 : Nat) : Int), V.ref e0.2.2.2])) _
      generalize upd Ha u (.tup [V.int ((e0.1 : Nat) : Int), V.ref e0.2.2.2]) = Hb at hu1 sx hD ⊢
      have he := sx _ _ he
      have hpb := sx _ _ hpF
      have eo : stay (es.take (j + 1)) h2 = stay (es.take j) h2 ++ (if h2 < e0.2.2.1 then [e0] else []) := by
        unfold stay
        rw [List.take_add_one, gl, List.filter_append]
        show _ ++ List.filter _ [e0] = _
        by_cases c : h2 < e0.2.2.1
        · rw [if_pos c, List.filter_cons_of_pos (p := fun e : En => decide (h2 < e.2.2.1)) (decide_eq_true c)]; rfl
        · rw [if_neg c, List.filter_cons_of_neg (p := fun e : En => decide (h2 < e.2.2.1)) (fun z => c (of_decide_eq_true z))]; rfl
      refine ⟨u, _, rfl, .inl (.inl hu1), rfl, _, _, rfl, _, _, rfl, rfl, rfl, _, rfl, e0.2.2.2, _, 1, _, rfl, rfl, .inl (.inl he), rfl, _, rfl, p, C, dx, _, _, rfl, hpb, N.cl, N.hr, tf_hr _ _ _, _, _, rfl, rfl, _, rfl, ite2 (fun c => ?_) (fun c => ?_)⟩
      · have c : h2 < e0.2.2.1 := of_decide_eq_true c
        refine ⟨_, rfl, _, rfl, _, .inl ((e0.1 : Nat) : Int), rfl, hD, by rw [enK_len, sizeLine_eq]; unfold stay; have := List.length_filter_le (fun e : En => decide (h2 < e.2.2.1)) (es.take j); rw [List.length_take] at this; omega, same_put sx nD, ?_⟩
        rw [eo, if_pos c, upd_same, put_en (z := e0.2.1) (o := e0.2.2.1) nk]
      · have c : ¬ h2 < e0.2.2.1 := fun z => c (decide_eq_true z)
        refine ⟨sx, ?_⟩
        rw [eo, if_neg c, List.append_nil]
        exact hD
    rintro H4 ⟨s4, hD⟩
    rw [enK_len, List.take_of_length_le (Nat.le_refl _)] at hD
    refine ⟨_, rfl, p, C, dx, _, rfl, s4 _ _ hpF, N.cl, N.he, (by show 3 < 1000; decide), ⟨(upd_ne php.symm).trans (s4 _ _ hdF), ?_⟩⟩
    rw [tn_held]
    have Dp_ : D ≠ p := (ne_of_none hpF nD).symm
    have Dh : D ≠ hd := (ne_of_none hdF nD).symm
    have s5 : Sm [p] H3 (upd (upd H4 p (.ins C dx (tnF D h2 sl))) hd (.dK (enK es))) := fun x o e => by
      have n := off_mem e
      have xp : x ≠ p := fun z => n (by rw [z]; simp)
      rw [off_out n] at e ⊢
      have := bk s4 x o e
      by_cases c : x = hd
      · rw [c, upd_same]; rw [c, upd_same] at this; exact this
      · rw [upd_ne c] at this ⊢
        rw [upd_ne xp]; exact this
    have hp5 : upd (upd H4 p (.ins C dx (tnF D h2 sl))) hd (.dK (enK es)) p = some (.ins C dx (tnF D h2 sl)) := (upd_ne php).trans upd_same
    have hD5 : upd (upd H4 p (.ins C dx (tnF D h2 sl))) hd (.dK (enK es)) D = some (.dK (enK (stay es h2))) := (upd_ne Dh).trans ((upd_ne Dp_).trans hD)
    generalize upd (upd H4 p (.ins C dx (tnF D h2 sl))) hd (.dK (enK es)) = H5 at s5 hp5 hD5 ⊢
    have nD1 : H3 D = none := by
      have : ∀ o, H3 D = some o → False := fun o e => by
        have h9 := bk (Same.refl HF) D o e
        rw [upd_ne Dh, nD] at h9
        cases h9
      cases e : H3 D with
      | none => rfl
      | some o => exact (this o e).elim
    have s15 : Sm [p] H H5 := (sp.trans (sm_of s3)).trans s5
    have nD0 : H D = none := by
      cases e : H D with
      | none => rfl
      | some o =>
        have := sm1_at (sp.trans (sm_of s3)) Dp_ e
        rw [nD1] at this; cases this
    have rp : R ≠ p := fun z => by rw [z, hp1] at nR1; cases nR1
    have hR5 := sm1_at s5 rp hR
    have go1 : ∀ (a : Addr) (vs : List V), SqT K (off H3 [R]) a vs → SqT K H5 a vs := fun a vs h => by
      have ne : ∀ z, off H3 [R] a = some z → (∀ fs, z ≠ .ins C dx fs) → H5 a = some z := fun z e n => by
        have e := at_off e
        exact sm1_at s5 (fun x => by rw [x, hp3] at e; exact n _ (Option.some.inj e).symm) e
      rcases h with (h | ⟨o2, h⟩) | h
      · exact .inl (.inl (ne _ h fun _ z => by cases z))
      · exact .inl (.inr ⟨o2, ne _ h fun _ z => by cases z⟩)
      · exact .inr h
    have du5 := dpAll_go go1 (noL_map (f := goD) (fun _ => ⟨trivial, trivial, trivial, trivial⟩) _) du
    refine ⟨_, rfl, R, us, outs es h2, rfl, SqL.of hR5, du5, fun zs p2 dz np2 => ?_⟩
    have sz := same_upd (o := .lst zs) np2
    have p2p : p2 ≠ p := fun e => by rw [e, hp5] at np2; cases np2
    have en5 : EnOk H5 es := en3.sm (S := [p]) s5 fun x hx us e => by rw [List.mem_singleton.mp hx, hp3] at e; cases e
    refine q _ D p2 zs (s15.trans (sm_of sz)) nD0 ⟨⟨dx, sz _ _ hp5⟩, sz _ _ hD5, fun e he => sz _ _ (en5 e (List.mem_filter.mp he).1), ?_, fun e he => M.lt e (List.mem_filter.mp he).1⟩ ?_ upd_same ?_
    · exact M.nd.sublist ((List.filter_sublist (l := es)).map _)
    · cases e : H p2 with
      | none => rfl
      | some o =>
        have := sm1_at s15 p2p e
        rw [np2] at this; cases this
    · refine dpAll_go (fun a vs h => ?_) (noL_map (f := goD) (fun _ => ⟨trivial, trivial, trivial, trivial⟩) _) dz
      have ne : ∀ z, H5 a = some z → (∀ fs, z ≠ .ins C dx fs) → off (upd H5 p2 (.lst zs)) [p, p2] a = some z := fun z e n => by
        have a1 : a ≠ p := fun x => by rw [x, hp5] at e; exact n _ (Option.some.inj e).symm
        have a2 : a ≠ p2 := ne_of_none e np2
        rw [off_out (by simp [a1, a2]), upd_ne a2]
        exact e
      rcases h with (h | ⟨o2, h⟩) | h
      · exact .inl (.inl (ne _ h fun _ z => by cases z))
      · exact .inl (.inr ⟨o2, ne _ h fun _ z => by cases z⟩)
      · exact .inr h

end
end Pot

namespace Pot
open PySem PySem.Spec PyProof.Rows L2
section
variable {P : Program} {w : World} {K : PySem.W.Frag} {mg : Str → Option Value} {base : Heap}
theorem thaw {H2 : Hp} {hd : Addr} {od : Obj} {kv : List (Key × V)} {S : List Addr} {us : List V} {ds : List PyData} (hF : H2 hd = some (.frz od (.dK kv))) (nl : noLAll ds) (du : DpAll K (off H2 S) us ds) : DpAll K (off (upd H2 hd (.dK kv)) S) us ds := by
  refine dpAll_go (fun a vs h => ?_) nl du
  have ne : ∀ z, off H2 S a = some z → z ≠ .frz od (.dK kv) → off (upd H2 hd (.dK kv)) S a = some z := fun z e n => by
    have n1 := off_mem e
    rw [off_out n1] at e ⊢
    rw [upd_ne fun x => by rw [x, hF] at e; exact n (Option.some.inj e).symm]
    exact e
  rcases h with (h | ⟨o2, h⟩) | h
  · exact .inl (.inl (ne _ h fun z => by cases z))
  · exact .inl (.inr ⟨o2, ne _ h fun z => by cases z⟩)
  · exact .inr h
theorem off_no {H : Hp} : Same H (off H []) := fun x o e => by rw [off_out (by simp)]; exact e
/-- a dict locked -/
theorem lock_facts {H : Hp} {p hd C dx : Addr} {hr sl : Int} {es : List En} {od : Obj} (hp : H p = some (.ins C dx (tnF hd hr sl))) (di : H hd = some (.dK (enK es))) (en : EnOk H es) :
    upd H hd (.frz od (.dK (enK es))) p = some (.ins C dx (tnF hd hr sl)) ∧ upd H hd (.frz od (.dK (enK es))) hd = some (.frz od (.dK (enK es))) ∧ EnOk (upd H hd (.frz od (.dK (enK es)))) es ∧ ∀ {Hx : Hp}, Same (upd H hd (.frz od (.dK (enK es)))) Hx → Same H (upd Hx hd (.dK (enK es))) := by
  have php : p ≠ hd := fun e => by rw [e, di] at hp; cases hp
  refine ⟨(upd_ne php).trans hp, upd_same, en.sm (S := [hd]) (sm_wr (by simp)) (fun x hx us e => by rw [List.mem_singleton.mp hx, di] at e; cases e), fun {Hx} s b o e => ?_⟩
  by_cases c : b = hd
  · rw [c, upd_same]; rw [c, di] at e; exact e
  · rw [upd_ne c]; exact s _ _ (by rw [upd_ne c]; exact e)
theorem en_at {es : List En} {j : Nat} {x1 x2 : V} (hj : j < es.length) (g1 : ((enK es)[j]?.map fun kv => kV kv.1) = some x1) (g2 : ((enK es)[j]?.map Prod.snd) = some x2) : ∃ e, es[j]? = some e ∧ e ∈ es ∧ x1 = .int ((e.1 : Nat) : Int) ∧ x2 = .ref e.2.2.2 := by
  have gl := List.getElem?_eq_getElem hj
  have gk : (enK es)[j]? = some (.inl ((es[j].1 : Nat) : Int), V.ref es[j].2.2.2) := by unfold enK; rw [List.getElem?_map, gl]; rfl
  rw [gk] at g1 g2
  exact ⟨es[j], gl, List.getElem_mem hj, (Option.some.inj g1).symm, (Option.some.inj g2).symm⟩
theorem in_al (ho : Int) (a b : En) : PySem.W.alike (inD a ho) (inD b ho) = true := by
  unfold inD
  simp [PySem.W.alike, PySem.W.alikeAll]
theorem in_tp (ho : Int) (a : En) : ∃ x r, inD a ho = .tuple (x :: r) := ⟨_, _, rfl⟩
theorem in_dep (ho : Int) (a : En) : (inD a ho).depth ≤ 60 := by show max 0 (max 0 (max 0 0)) + 1 ≤ 60; decide
def spTnS (K : PySem.W.Frag) (C : Addr) : Sp := fun vs H Q _ => ∃ (p hd : Addr) (hr sl : Int) (es : List En), vs = [.ref p] ∧ TnAt C H p hd hr sl es ∧ es.length ≤ 1000 ∧
  ∀ (H' : Hp) (R : Addr) (us : List V), Same H H' → H R = none → H' R = some (.lst us) → DpAll K (off H' [R]) us ((es.mergeSort (PySem.W.dataLe false fun e => inD e hr)).map fun e => inD e hr) → Q (.ref R) H'
abbrev s_ns : Stmt := inClass (topS 10) 3
def n_ns : List Str := ["self", "slot", "name", "out"]
theorem sc_ns : FnScope n_ns ["self"] (defScope s_ns) := ⟨rfl, rfl, rfl, by decide +kernel, rfl, by decide +kernel, by decide +kernel⟩
set_option maxHeartbeats 1000000 in
theorem ok_nsd {C f : Addr} {fd : FuncData} {k : Nat} (F : Fun K "inside" "Tunnel.inside" s_ns f fd) (T : Txt mg) (N : TnK K mg C) : FnOk P w K mg base CX0 (k + 1) f fd ["self"] (spTnS K C) := by
  refine F.ok sc_ns (fun vs H Q E h => ?_) (fun cdv A outer s H vs Q E hr h => ?_)
  · obtain ⟨p, hd, ho, sl, es, rfl, _⟩ := h
    rfl
  · obtain ⟨p, hd, ho, sl, es, rfl, M, l, q⟩ := h
    have nd := sc_ns.nd
    have hu := hu_of hr
    have hu70 : (A.deeper (envOfC (Str.ofString "Tunnel.inside") (defScope s_ns) s.heap.objs.size f cdv)).units + 70 < cLine := by have := hr.un; omega
    /- 0 self, 1 slot, 2 name, 3 out -/
    refine ⟨_, (pss_one (ps_ret (pe_callB (kc_sortedE (K := K) (enc := (fun e => inD e ho)) hu70 (in_al ho) (in_tp ho) (in_dep ho)) (by rfl) T.sorted (by decide +kernel) (pa_cons (pe_lock (pe_lc (own := [("slot", 1), ("name", 2), ("out", 3)]) rfl nd (pi_items (ke_fld (K := K) (pv 0))) (blkOk_by (N := n_ns) (sc := defScope s_ns) (by decide +kernel)) (fun _ _ _ _ _ => (kg_tup (K := K) (n := 2) (pgs_cons (pg_name (i := 1) nd rfl (.inl rfl)) (pgs_cons (kg_tup (K := K) (n := 2) (pgs_cons (pg_name (i := 2) nd rfl (.inl rfl)) (pgs_cons (pg_name (i := 3) nd rfl (.inl rfl)) pgs_nil))) pgs_nil)))) (fun _ _ _ _ _ => pts_nil) (fun _ _ _ _ _ => (pe_tup (pa_cons (pv 1) (pa_cons (pv 2) (pa_cons (pe_op op_sub (pv 3) (ke_fld (K := K) (pv 0))) pa_nil))))))) pa_nil)))), ?_⟩
    obtain ⟨dx, hp⟩ := M.ob
    have php : p ≠ hd := fun e => by rw [e, M.di] at hp; cases hp
    refine ⟨hd, _, M.di, trivial, fun od => ?_⟩
    obtain ⟨hpF, hdF, enF, bk⟩ := lock_facts (od := od) hp M.di M.en
    have nH : ∀ {R : Addr}, upd H hd (.frz od (.dK (enK es))) R = none → R ≠ hd ∧ H R = none := fun {R} n => by
      have h1 : R ≠ hd := fun z => by rw [z, upd_same] at n; cases n
      rw [upd_ne h1] at n
      exact ⟨h1, n⟩
    generalize upd H hd (.frz od (.dK (enK es))) = HF at hpF hdF enF bk nH ⊢
    refine ⟨_, rfl, p, C, dx, _, _, rfl, hpF, N.cl, N.he, tf_he _ _ _, hd, od, _, rfl, hdF, fun R nR => ?_⟩
    obtain ⟨Rh, nR0⟩ := nH nR
    refine lc_it (walk_items (kvs := enK es)) (fun j Hx => Same HF Hx ∧ ∃ us, Hx R = some (.lst us) ∧ us.length ≤ j ∧ DpAll K (off Hx [R]) us ((es.take j).map fun e => inD e ho)) ⟨same_upd nR, [], upd_same, Nat.le_refl _, .nil⟩ (fun j Hx _ h => h.1 _ _ hdF) ?_ ?_
    · rintro j y Ha Hb hj ⟨sx, us, hR, lu, du⟩ ⟨u, x1, x2, rfl, nu, rfl, g1, g2⟩
      rw [enK_len] at hj
      obtain ⟨e0, gl, me, rfl, rfl⟩ := en_at hj g1 g2
      have he := enF e0 me
      have su := same_upd (o := .tup [V.int ((e0.1 : Nat) : Int), V.ref e0.2.2.2]) nu
      have du := dpAll_same (sm_put (S := [R]) (o := .tup [V.int ((e0.1 : Nat) : Int), V.ref e0.2.2.2]) nu) du
      have hu1 : upd Ha u (.tup [V.int ((e0.1 : Nat) : Int), V.ref e0.2.2.2]) u = some (.tup [V.int ((e0.1 : Nat) : Int), V.ref e0.2.2.2]) := upd_same
      have sx := sx.trans su
      have hR := su _ _ hR
      generalize upd Ha u (.tup [V.int ((e0.1 : Nat) : Int), V.ref e0.2.2.2]) = Hb at du hu1 sx hR ⊢
      have he := sx _ _ he
      have hpb := sx _ _ hpF
      refine ⟨u, _, rfl, .inl (.inl hu1), rfl, _, _, rfl, _, _, rfl, e0.2.2.2, _, rfl, .inl (.inl he), rfl, _, _, rfl, _, _, rfl, rfl, rfl, rfl, tYes_at ?_⟩
      rw [if_pos rfl]
      refine ⟨_, rfl, _, rfl, _, rfl, _, rfl, p, C, dx, _, _, rfl, hpb, N.cl, N.hr, tf_hr _ _ _, _, _, rfl, rfl, (by show 3 ≤ sizeLine; decide), fun t nt => ?_⟩
      have lvR : Live [R] Hb := fun x hx e => by rw [List.mem_singleton.mp hx, hR] at e; cases e
      have ft := off_new (o := .tup [.int ((e0.1 : Nat) : Int), .str e0.2.1, .int (e0.2.2.1 - ho)]) lvR nt
      have du := dpAll_same (sm_put (S := [R]) (o := .tup [.int ((e0.1 : Nat) : Int), .str e0.2.1, .int (e0.2.2.1 - ho)]) nt) du
      have sx := sx.trans (same_upd (o := .tup [.int ((e0.1 : Nat) : Int), .str e0.2.1, .int (e0.2.2.1 - ho)]) nt)
      have hR := same_upd (o := .tup [.int ((e0.1 : Nat) : Int), .str e0.2.1, .int (e0.2.2.1 - ho)]) nt _ _ hR
      generalize upd Hb t (.tup [.int ((e0.1 : Nat) : Int), .str e0.2.1, .int (e0.2.2.1 - ho)]) = Hc at ft du sx hR ⊢
      refine ⟨us, hR, by rw [sizeLine_eq]; omega, same_put sx nR, us ++ [.ref t], upd_same, by rw [List.length_append]; show _ + 1 ≤ _; omega, ?_⟩
      rw [List.take_add_one, gl, List.map_append]
      exact dpAll_same (sm_wr (by simp)) (dpAll_app' du (.cons (.tup (.inl (.inl ft)) (.cons (.int _) (.cons (.str _) (.cons (.int _) .nil)))) .nil))
    rintro H2 ⟨s2, us, hR, lu, du⟩
    rw [enK_len, List.take_of_length_le (Nat.le_refl _)] at du
    refine ⟨s2 _ _ hdF, ?_⟩
    have s3 := bk s2
    have du := thaw (s2 _ _ hdF) (noL_map (f := fun e : En => inD e ho) (fun _ => ⟨trivial, trivial, trivial, trivial⟩) _) du
    have hR : upd H2 hd (.dK (enK es)) R = some (.lst us) := (upd_ne Rh).trans hR
    generalize upd H2 hd (.dK (enK es)) = H3 at s3 hR du ⊢
    refine ⟨R, us, es, rfl, SqL.of hR, dpAll_same off_sub du, fun zs p2 dz np2 => ?_⟩
    refine q _ p2 zs (s3.trans (same_upd np2)) (s3.free np2) upd_same ?_
    rw [off_fresh np2]
    exact dpAll_same off_no dz
def nmF (es : List En) (z : Str) : List Nat := (es.filter fun e => decide (e.2.1 = z)).map (·.1)
def spTnF (K : PySem.W.Frag) (C CS : Addr) : Sp := fun vs H Q E => ∃ (p hd : Addr) (hr sl : Int) (es : List En) (z : Str), vs = [.ref p, .str z] ∧ TnAt C H p hd hr sl es ∧ es.length ≤ 60 ∧
  (nmF es z ≠ [] → ∀ (H' : Hp) (R : Addr) (ns : List Int), Same H H' → H R = none → H' R = some (.lst (ns.map V.int)) → ns.Perm ((nmF es z).map fun j : Nat => (j : Int)) → ns.Pairwise (· ≤ ·) → Q (.ref R) H') ∧
  (nmF es z = [] → ∀ (d : Addr) (H' : Hp), Same H H' → H d = none → H' d = some (.xd [("name", .str z), ("what", .str "piece")]) → E (.ref CS) (some d) H')
abbrev s_nf : Stmt := inClass (topS 10) 5
def n_nf : List Str := ["self", "name", "slots", "slot", "own", "out"]
theorem sc_nf : FnScope n_nf ["self", "name"] (defScope s_nf) := ⟨rfl, rfl, rfl, by decide +kernel, rfl, by decide +kernel, by decide +kernel⟩
set_option maxHeartbeats 1000000 in
theorem ok_nf {C CS f : Addr} {fd : FuncData} {k : Nat} (F : Fun K "slot_of" "Tunnel.slot_of" s_nf f fd) (T : Txt mg) (N : TnK K mg C) (c_NoSuch : NsR P w K mg base 1 CS) : FnOk P w K mg base (L2.CX P w) (k + 3) f fd ["self", "name"] (spTnF K C CS) := by
  refine F.okX sc_nf (fun vs H Q E h => ?_) (fun cdv A outer s H vs Q E hr h => ?_)
  · obtain ⟨p, hd, ho, sl, es, z, rfl, _⟩ := h
    rfl
  · obtain ⟨p, hd, ho, sl, es, z, rfl, M, l, q, qe⟩ := h
    have nd := sc_nf.nd
    have hu := hu_of hr
    have hu70 : (A.deeper (envOfC (Str.ofString "Tunnel.slot_of") (defScope s_nf) s.heap.objs.size f cdv)).units + 70 < cLine := by have := hr.un; omega
    /- 0 self, 1 name, 2 slots, 3 slot, 4 own, 5 out -/
    refine ⟨_, (pss_cons (ps_set (i := 2) nd rfl (.inl rfl) (pe_callB (kc_sorted (K := K)) (by rfl) T.sorted (by decide +kernel) (pa_cons (pe_lock (pe_lc (own := [("slot", 3), ("own", 4), ("out", 5)]) rfl nd (pi_items (ke_fld (K := K) (pv 0))) (blkOk_by (N := n_nf) (sc := defScope s_nf) (by decide +kernel)) (fun _ _ _ _ _ => (kg_tup (K := K) (n := 2) (pgs_cons (pg_name (i := 3) nd rfl (.inl rfl)) (pgs_cons (kg_tup (K := K) (n := 2) (pgs_cons (pg_name (i := 4) nd rfl (.inl rfl)) (pgs_cons (pg_name (i := 5) nd rfl (.inl rfl)) pgs_nil))) pgs_nil)))) (fun _ _ _ _ _ => (pts_one (pt_cmpR op_eq (pv 4) (pv 1) (nomark _)))) (fun _ _ _ _ _ => (pv 3)))) pa_nil)))
      (pss_cons (ps_if (pt_not (kt_truth (K := K) (pv 2)))
          (pss_one (ps_raise rfl (takes_of rfl rfl rfl rfl) (pmk_ns (j := 1) c_NoSuch (hr.mono (by omega)) (by omega) (by rfl) (pa_cons pe_str (pa_cons (pv 1) pa_nil)))))
          pss_nil)
      (pss_one (ps_ret (pv 2))))), ?_⟩
    obtain ⟨dx, hp⟩ := M.ob
    have php : p ≠ hd := fun e => by rw [e, M.di] at hp; cases hp
    refine ⟨hd, _, M.di, trivial, fun od => ?_⟩
    obtain ⟨hpF, hdF, enF, bk⟩ := lock_facts (od := od) hp M.di M.en
    have nH : ∀ {R : Addr}, upd H hd (.frz od (.dK (enK es))) R = none → R ≠ hd ∧ H R = none := fun {R} n => by
      have h1 : R ≠ hd := fun z => by rw [z, upd_same] at n; cases n
      rw [upd_ne h1] at n
      exact ⟨h1, n⟩
    generalize upd H hd (.frz od (.dK (enK es))) = HF at hpF hdF enF bk nH ⊢
    refine ⟨_, rfl, p, C, dx, _, _, rfl, hpF, N.cl, N.he, tf_he _ _ _, hd, od, _, rfl, hdF, fun R nR => ?_⟩
    obtain ⟨Rh, nR0⟩ := nH nR
    have ef : ∀ j, (es.take j).length ≤ 60 := fun j => by rw [List.length_take]; omega
    refine lc_it (walk_items (kvs := enK es)) (fun j Hx => Same HF Hx ∧ Hx R = some (.lst (((nmF (es.take j) z).map fun j : Nat => (j : Int)).map V.int))) ⟨same_upd nR, upd_same⟩ (fun j Hx _ h => h.1 _ _ hdF) ?_ ?_
    · rintro j y Ha Hb hj ⟨sx, hR⟩ ⟨u, x1, x2, rfl, nu, rfl, g1, g2⟩
      rw [enK_len] at hj
      obtain ⟨e0, gl, me, rfl, rfl⟩ := en_at hj g1 g2
      have he := enF e0 me
      have su := same_upd (o := .tup [V.int ((e0.1 : Nat) : Int), V.ref e0.2.2.2]) nu
      have hu1 : upd Ha u (.tup [V.int ((e0.1 : Nat) : Int), V.ref e0.2.2.2]) u = some (.tup [V.int ((e0.1 : Nat) : Int), V.ref e0.2.2.2]) := upd_same
      have sx := sx.trans su
      have hR := su _ _ hR
      generalize upd Ha u (.tup [V.int ((e0.1 : Nat) : Int), V.ref e0.2.2.2]) = Hb at hu1 sx hR ⊢
      have he := sx _ _ he
      have en : nmF (es.take (j + 1)) z = nmF (es.take j) z ++ (if e0.2.1 = z then [e0.1] else []) := by
        unfold nmF
        rw [List.take_add_one, gl, List.filter_append, List.map_append]
        show _ ++ List.map _ (List.filter _ [e0]) = _
        by_cases c : e0.2.1 = z
        · rw [if_pos c, List.filter_cons_of_pos (p := fun e : En => decide (e.2.1 = z)) (decide_eq_true c)]; rfl
        · rw [if_neg c, List.filter_cons_of_neg (p := fun e : En => decide (e.2.1 = z)) (fun q => c (of_decide_eq_true q))]; rfl
      have ln : (nmF (es.take j) z).length ≤ 60 := by
        unfold nmF
        rw [List.length_map]
        exact Nat.le_trans (List.length_filter_le _ _) (ef j)
      refine ⟨u, _, rfl, .inl (.inl hu1), rfl, _, _, rfl, _, _, rfl, e0.2.2.2, _, rfl, .inl (.inl he), rfl, _, _, rfl, _, _, rfl, rfl, rfl, rfl, _, rfl, _, rfl, rfl, _, rfl, ?_⟩
      rw [decS]
      refine ite2 (fun c => ?_) (fun c => ?_)
      · have c : e0.2.1 = z := of_decide_eq_true c
        refine ⟨_, rfl, _, hR, by rw [List.length_map, List.length_map, sizeLine_eq]; omega, same_put sx nR, ?_⟩
        rw [en, if_pos c, List.map_append, List.map_append]
        exact upd_same
      · have c : ¬ e0.2.1 = z := fun q => c (decide_eq_true q)
        refine ⟨sx, ?_⟩
        rw [en, if_neg c, List.append_nil]
        exact hR
    rintro H2 ⟨s2, hR⟩
    rw [enK_len, List.take_of_length_le (Nat.le_refl _)] at hR
    refine ⟨s2 _ _ hdF, ?_⟩
    have s3 := bk s2
    have hR : upd H2 hd (.dK (enK es)) R = _ := (upd_ne Rh).trans hR
    generalize upd H2 hd (.dK (enK es)) = H3 at s3 hR ⊢
    have ln : ((nmF es z).map fun j : Nat => (j : Int)).length < 64 := by
      unfold nmF
      rw [List.length_map, List.length_map]
      have := List.length_filter_le (fun e : En => decide (e.2.1 = z)) es
      omega
    refine ⟨R, _, rfl, SqL.of hR, ln, fun ns p2 pm so np2 => ?_⟩
    simp only [gName, List.set]
    have s4 := s3.trans (same_upd (o := .lst (ns.map V.int)) np2)
    have h2 : upd H3 p2 (.lst (ns.map V.int)) p2 = some (.lst (ns.map V.int)) := upd_same
    have np0 := s3.free np2
    generalize upd H3 p2 (.lst (ns.map V.int)) = H4 at s4 h2 ⊢
    by_cases c : nmF es z = []
    · have e0 : ns = [] := by
        have := pm.length_eq
        rw [c] at this
        exact List.eq_nil_of_length_eq_zero this
      rw [e0] at h2
      refine ⟨_, rfl, false, .inl ⟨_, SqL.of h2, rfl⟩, ?_⟩
      refine iteT ?_
      refine ⟨_, rfl, (by show 2 ≤ 1000; decide), fun a na => ⟨a, Str.ofString "piece", .str z, rfl, (by decide +kernel), upd_same, fun d nd ne => ?_⟩⟩
      have nd : H4 d = none := by rw [upd_ne ne] at nd; exact nd
      refine ⟨rfl, d, _, (upd_ne (Ne.symm ne)).trans upd_same, upd_same, nd, ?_⟩
      refine qe c d _ (s4.trans fun y o ey => ?_) (s4.free nd) upd_same
      have ya : y ≠ a := ne_of_none ey na
      have yd : y ≠ d := ne_of_none ey nd
      rw [upd_ne yd, del_ne ya, upd_ne yd, upd_ne ya, upd_ne yd, upd_ne ya]
      exact ey
    · have e0 : ns ≠ [] := fun e0 => by
        have := pm.length_eq
        rw [e0, List.length_map] at this
        exact c (List.eq_nil_of_length_eq_zero this.symm)
      obtain ⟨n0, nr, en0⟩ := List.exists_cons_of_ne_nil e0
      refine ⟨_, rfl, true, ?_, ?_⟩
      · exact .inl ⟨_, SqL.of h2, by rw [en0]; rfl⟩
      refine iteF ⟨_, rfl, q c _ p2 ns s4 np0 h2 pm so⟩

end
end Pot

namespace Pot
open PySem PySem.Spec PyProof.Rows L2
section
variable {P : Program} {w : World} {K : PySem.W.Frag} {mg : Str → Option Value} {base : Heap}
abbrev s__law_names : Stmt := topS 15
def n__law_names : List Str := ["_law_state", "_law_many", "_law_letters", "_law_first", "_law_way", "_law_stem", "_law_k"]
theorem sc__law_names : FnScope n__law_names ["_law_state", "_law_many"] (defScope s__law_names) := ⟨rfl, rfl, rfl, by decide +kernel, rfl, by decide +kernel, by decide +kernel⟩
/-- names that are drawn -/
def Nw (z : Str) : Prop := Wd 60 z
def spNames : Sp := fun vs H Q _ => ∃ (b : Addr) (n m : Nat), vs = [.ref b, .int (m : Nat)] ∧ Bq H b n ∧ n + 100 < 2 ^ 40 ∧ m ≤ 12 ∧
  ∀ (H' : Hp) (L : Addr) (ys : List Str), Bq H' b (n + 12) → Sm [b] H H' → H L = none → H' L = some (.lst (ys.map V.str)) → ys.length = m → (∀ y ∈ ys, Nw y) → Q (.ref L) H'
theorem ok_names {f : Addr} {fd : FuncData} {k : Nat} (F : Fun K "_law_names" "_law_names" s__law_names f fd) (T : Txt mg) (c__law_take : Cl P w K mg base (k + 1) "_law_take" spTake) : FnOk P w K mg base CX0 (k + 2) f fd ["_law_state", "_law_many"] spNames := by
  refine F.ok sc__law_names (fun vs H Q E h => ?_) (fun cdv A outer s H vs Q E hr h => ?_)
  · obtain ⟨b, n, m, rfl, _⟩ := h
    rfl
  · obtain ⟨b, n, m, rfl, B, hn, m12, q⟩ := h
    have nd := sc__law_names.nd
    /- 0 _law_state, 1 _law_many, 2 _law_letters, 3 _law_first, 4 _law_way, 5 _law_stem, 6 _law_k -/
    refine ⟨_, (pss_cons (ps_asg (pe_tup (pa_cons pe_str (pa_cons (pe_cl c__law_take hr (by omega) (by rfl) (pa_cons (pv 0) (pa_cons pe_int pa_nil))) (pa_cons (pe_cl c__law_take hr (by omega) (by rfl) (pa_cons (pv 0) (pa_cons pe_int pa_nil))) pa_nil)))) (kg_tup (K := K) (n := 3) (pgs_cons (pg_name (i := 2) nd rfl (.inr rfl)) (pgs_cons (pg_name (i := 3) nd rfl (.inr rfl)) (pgs_cons (pg_name (i := 4) nd rfl (.inl rfl)) pgs_nil)))))
      (pss_cons (ps_set (i := 5) nd rfl (.inr rfl) (ke_join (K := K) pe_str (pe_lc (own := [("_law_k", 6)]) rfl nd (pi_range1 (by rfl) T.range (pa_cons (pe_cl c__law_take hr (by omega) (by rfl) (pa_cons (pv 0) (pa_cons pe_int pa_nil))) pa_nil)) (blkOk_by (N := n__law_names) (sc := defScope s__law_names) (by decide +kernel)) (fun _ _ _ _ _ => (pg_name (i := 6) nd rfl (.inl rfl))) (fun _ _ _ _ _ => pts_nil) (fun _ _ _ _ _ => (pe_ix ix_str (pv 2) (pe_cl c__law_take hr (by omega) (by rfl) (pa_cons (pv 0) (pa_cons pe_int pa_nil))) (fun _ _ => rfl))))))
      (pss_cons (ps_if (pt_cmpR op_eq (pv 4) pe_int (nomark _))
          (pss_one (ps_ret (pe_lc (own := [("_law_k", 6)]) rfl nd (pi_range1 (by rfl) T.range (pa_cons (pv 1) pa_nil)) (blkOk_by (N := n__law_names) (sc := defScope s__law_names) (by decide +kernel)) (fun _ _ _ _ _ => (pg_name (i := 6) nd rfl (.inl rfl))) (fun _ _ _ _ _ => pts_nil) (fun _ _ _ _ _ => (pe_slice sl_str (pe_op op_add_str (pv 5) (pe_op op_twice (pv 2) pe_int)) po_none (po_some (pe_op op_add pe_int (pv 6))))))))
          pss_nil)
      (pss_one (ps_ret (pe_lc (own := [("_law_k", 6)]) rfl nd (pi_range1 (by rfl) T.range (pa_cons (pv 1) pa_nil)) (blkOk_by (N := n__law_names) (sc := defScope s__law_names) (by decide +kernel)) (fun _ _ _ _ _ => (pg_name (i := 6) nd rfl (.inl rfl))) (fun _ _ _ _ _ => pts_nil) (fun _ _ _ _ _ => (pe_op op_add_str (pv 5) (pe_ix ix_str (pv 2) (pe_op op_mod (pe_op op_add (pv 3) (pe_op op_mul pe_int (pv 6))) pe_int) (fun _ _ => rfl)))))))))), ?_⟩
    refine ⟨_, rfl, b, 26, n, rfl, (by decide), (by decide), B, by omega, fun H1 r1 r10 r11 B1 s1 => ?_⟩
    refine ⟨_, rfl, b, 2, _, rfl, (by decide), (by decide), B1, by omega, fun H2 r2 r20 r21 B2 s2 => ⟨(by show 3 ≤ sizeLine; decide), fun t nt => ?_⟩⟩
    refine ⟨t, _, rfl, .inl (.inl upd_same), rfl, _, _, rfl, _, _, rfl, _, _, rfl, rfl, ?_⟩
    have s12 := (s1.trans s2).trans (sm_of (S := [b]) (same_upd (o := .tup [.str "abcdefghijklmnopqrstuvwxyz", .int r1, .int r2]) nt))
    have B3 := B2.put (o := .tup [.str "abcdefghijklmnopqrstuvwxyz", .int r1, .int r2]) nt
    show tSeq _ _ _ _ (upd H2 t (.tup [.str "abcdefghijklmnopqrstuvwxyz", .int r1, .int r2]))
    generalize upd H2 t (.tup [.str "abcdefghijklmnopqrstuvwxyz", .int r1, .int r2]) = H3 at s12 B3 ⊢
    refine ⟨⟨_, rfl⟩, _, rfl, b, 8, _, rfl, (by decide), (by decide), B3, by omega, fun H4 sn s0 s1 B4 s4 => ⟨_, rfl, (by omega), (by omega), fun D nD => ?_⟩⟩
    have Db := B4.ne nD
    refine lc_it walk_range (fun i H5 => Bq H5 b (n + 3 + i) ∧ Sm [b] H4 H5 ∧ ∃ ys : List Str, H5 D = some (.lst (ys.map V.str)) ∧ ys.length = i ∧ ∀ y ∈ ys, Wd 1 y) ⟨(B4.put nD).mono (by omega), sm_put nD, [], upd_same, rfl, fun _ h => (List.not_mem_nil h).elim⟩ (fun _ _ _ _ => trivial) ?_ ?_
    · rintro i x H6 H5 hi ⟨B5, s5, ys, hL, hy, hw⟩ ⟨rfl, rfl⟩
      refine ⟨rfl, tYes_at ?_⟩
      rw [if_pos rfl]
      refine ⟨_, rfl, _, rfl, b, 26, _, rfl, (by decide), (by decide), B5, by omega, fun H7 r r0 r1 B7 s7 => ?_⟩
      refine ⟨_, r, 97 + r.toNat, rfl, rfl, (by decide +kernel), az_ix r0 r1, _, sm1_at s7 Db hL, ?_, (B7.wr Db).mono (by omega), smp (s5.trans s7) nD, ys ++ [⟨#[97 + r.toNat]⟩], ?_, ?_, ?_⟩
      · rw [List.length_map, hy]; exact Nat.lt_of_lt_of_le (show i < 8 by omega) (by decide)
      · rw [upd_same, List.map_append]; rfl
      · rw [List.length_append, hy]; rfl
      · intro y h
        rcases List.mem_append.mp h with h | h
        · exact hw y h
        · rw [List.mem_singleton.mp h]; exact wd_letter r0 r1
    rintro H5 ⟨B5, s5, ys, hD, hy, hw⟩
    have hy7 : ys.length ≤ 7 := by omega
    refine ⟨_, D, ys, rfl, rfl, .inl (SqL.of hD), ?_, ?_⟩
    · have h : ∀ {l : List Str}, (∀ y ∈ l, Wd 1 y) → (l.map (·.length)).sum ≤ l.length := by
        intro l
        induction l with
        | nil => intro _; exact Nat.le_refl _
        | cons a r ih =>
          intro h
          have h1 := (h a List.mem_cons_self).1
          have h2 := ih fun y hy => h y (List.mem_cons_of_mem _ hy)
          simp only [List.map_cons, List.sum_cons, List.length_cons]
          omega
      have := h hw
      show _ + ys.length * 0 ≤ _
      omega
    have hst : Wd 7 (Txt.join (Str.ofString "") ys) := by rw [TL.join_eq]; exact (wd_join hw).mono hy7
    have B6 := B5.mono (show _ ≤ n + 12 by omega)
    have s6 := (s12.trans s4).trans s5
    generalize Txt.join (Str.ofString "") ys = stem at hst ⊢
    simp only [gName, List.set]
    have az : Wd 26 "abcdefghijklmnopqrstuvwxyz" := ⟨by decide +kernel, by decide +kernel⟩
    refine ⟨_, rfl, rfl, _, rfl, ite2 (fun _ => ?_) (fun _ => ?_)⟩
    · refine ⟨_, rfl, _, rfl, (by omega), (by omega), fun R nR => ?_⟩
      refine lc_it walk_range (fun i Hx => Same H5 Hx ∧ ∃ zs : List Str, Hx R = some (.lst (zs.map V.str)) ∧ zs.length = i ∧ ∀ y ∈ zs, Nw y) ⟨same_upd nR, [], upd_same, rfl, fun _ h => (List.not_mem_nil h).elim⟩ (fun _ _ _ _ => trivial) ?_ ?_
      · rintro i x Hy Hx hi ⟨sx, zs, hR, lz, nz⟩ ⟨rfl, rfl⟩
        have hi2 : i < m := by omega
        refine ⟨rfl, tYes_at ?_⟩
        rw [if_pos rfl]
        have fin : ∀ z : Str, Nw z → ∃ acc, Hx R = some (.lst acc) ∧ acc.length < sizeLine ∧ (Same H5 (upd Hx R (.lst (acc ++ [.str z]))) ∧ ∃ zs : List Str, upd Hx R (.lst (acc ++ [.str z])) R = some (.lst (zs.map V.str)) ∧ zs.length = i + 1 ∧ ∀ y ∈ zs, Nw y) := fun z nz2 => by
          refine ⟨_, hR, by rw [List.length_map, lz, sizeLine_eq]; omega, same_put sx nR, zs ++ [z], by rw [upd_same, List.map_append]; rfl, by rw [List.length_append, lz]; rfl, fun y h => ?_⟩
          rcases List.mem_append.mp h with h | h
          · exact nz y h
          · rw [List.mem_singleton.mp h]; exact nz2
        refine ⟨_, rfl, _, rfl, _, rfl, rfl, (by show 26 ≤ 100000; decide), fun u lu cu => ⟨_, _, rfl, rfl, (by have := hst.1; have : u.length ≤ 2 * 26 := lu; rw [sizeLine_eq]; omega), ?_⟩⟩
        have wu : Wd 52 u := ⟨lu, fun c hc => az.2 c (cu c hc)⟩
        have wsu : Wd 59 (stem ++ u) := wd_add hst wu
        refine ⟨_, rfl, _, _, rfl, rfl, _, rfl, _, rfl, (by have := wsu.1; rw [sizeLine_eq]; omega), ?_⟩
        exact fin _ ((wd_cut wsu).mono (by decide))
      rintro Hx ⟨sx, zs, hR, lz, nz⟩
      have lz2 : zs.length = m := by omega
      exact q _ R zs (B6.same sx) (s6.trans (sm_of sx)) (sm_free s6 B6.bx nR) hR lz2 nz
    · refine ⟨_, rfl, _, rfl, (by omega), (by omega), fun R nR => ?_⟩
      refine lc_it walk_range (fun i Hx => Same H5 Hx ∧ ∃ zs : List Str, Hx R = some (.lst (zs.map V.str)) ∧ zs.length = i ∧ ∀ y ∈ zs, Nw y) ⟨same_upd nR, [], upd_same, rfl, fun _ h => (List.not_mem_nil h).elim⟩ (fun _ _ _ _ => trivial) ?_ ?_
      · rintro i x Hy Hx hi ⟨sx, zs, hR, lz, nz⟩ ⟨rfl, rfl⟩
        have hi2 : i < m := by omega
        refine ⟨rfl, tYes_at ?_⟩
        rw [if_pos rfl]
        have fin : ∀ z : Str, Nw z → ∃ acc, Hx R = some (.lst acc) ∧ acc.length < sizeLine ∧ (Same H5 (upd Hx R (.lst (acc ++ [.str z]))) ∧ ∃ zs : List Str, upd Hx R (.lst (acc ++ [.str z])) R = some (.lst (zs.map V.str)) ∧ zs.length = i + 1 ∧ ∀ y ∈ zs, Nw y) := fun z nz2 => by
          refine ⟨_, hR, by rw [List.length_map, lz, sizeLine_eq]; omega, same_put sx nR, zs ++ [z], by rw [upd_same, List.map_append]; rfl, by rw [List.length_append, lz]; rfl, fun y h => ?_⟩
          rcases List.mem_append.mp h with h | h
          · exact nz y h
          · rw [List.mem_singleton.mp h]; exact nz2
        have x0 : 0 ≤ (r1 + 7 * (0 + (i : Int))) % 26 := by omega
        have x1 : (r1 + 7 * (0 + (i : Int))) % 26 < 26 := by omega
        refine ⟨_, rfl, _, rfl, _, rfl, _, rfl, _, _, rfl, rfl, .inl ⟨by decide, by decide⟩, _, _, rfl, rfl, _, _, rfl, rfl, (by show (0 : Int) < 26; decide), _, _, _, rfl, rfl, (by decide +kernel), az_ix x0 x1, _, _, rfl, rfl, (by have := hst.1; rw [sizeLine_eq]; show _ + 1 ≤ _; omega), ?_⟩
        exact fin _ ((wd_add hst (wd_letter x0 x1)).mono (by decide))
      rintro Hx ⟨sx, zs, hR, lz, nz⟩
      have lz2 : zs.length = m := by omega
      exact q _ R zs (B6.same sx) (s6.trans (sm_of sx)) (sm_free s6 B6.bx nR) hR lz2 nz

end
end Pot

namespace Pot
open PySem PySem.Spec PyProof.Rows L2
section
variable {P : Program} {w : World} {K : PySem.W.Frag} {mg : Str → Option Value} {base : Heap}
/-! ### the law's own tunnel -/
def owF (ld : Addr) (hr sl : Int) : List (Key × V) := [(.inr "slots", .int sl), (.inr "now", .int hr), (.inr "lying", .ref ld)]
structure OwAt (H : Hp) (o ld : Addr) (hr sl : Int) (es : List En) : Prop where
  ob : H o = some (.dK (owF ld hr sl))
  di : H ld = some (.dK (enK es))
  ne : o ≠ ld
  en : EnOk H es
  nd : (slotsF es).Nodup
  lt : ∀ e ∈ es, ((e.1 : Nat) : Int) < sl
theorem OwAt.same {H H' : Hp} {o ld : Addr} {hr sl : Int} {es : List En} (h : OwAt H o ld hr sl es) (s : Same H H') : OwAt H' o ld hr sl es := ⟨s _ _ h.ob, s _ _ h.di, h.ne, h.en.same s, h.nd, h.lt⟩
theorem ow_sl (ld : Addr) (hr sl : Int) : valV (owF ld hr sl) (.inr "slots") = some (.int sl) := by
  exact valV_pos rfl
theorem ow_now (ld : Addr) (hr sl : Int) : valV (owF ld hr sl) (.inr "now") = some (.int hr) := by
  unfold owF
  rw [valV_neg (by intro z; exact absurd (Sum.inr.inj z) (by decide +kernel))]
  exact valV_pos rfl
theorem ow_ly (ld : Addr) (hr sl : Int) : valV (owF ld hr sl) (.inr "lying") = some (.ref ld) := by
  unfold owF
  rw [valV_neg (by intro z; exact absurd (Sum.inr.inj z) (by decide +kernel)), valV_neg (by intro z; exact absurd (Sum.inr.inj z) (by decide +kernel))]
  exact valV_pos rfl
theorem ow_put (ld : Addr) (hr sl x : Int) : putK (owF ld hr sl) (.inr "now") (.int x) = owF ld x sl := by
  have a : ¬ ((Sum.inr ("slots" : Str) : Key) = .inr "now") := by intro z; exact absurd (Sum.inr.inj z) (by decide +kernel)
  have b : ¬ ((Sum.inr ("lying" : Str) : Key) = .inr "now") := by intro z; exact absurd (Sum.inr.inj z) (by decide +kernel)
  unfold putK owF
  simp [a, b]
theorem OwAt.gS {H : Hp} {o ld : Addr} {hr sl : Int} {es : List En} (h : OwAt H o ld hr sl es) : DGet H o (.str "slots") (some (.int sl)) := by rw [← ow_sl ld hr sl]; exact .k (k := .inr "slots") h.ob
theorem OwAt.gN {H : Hp} {o ld : Addr} {hr sl : Int} {es : List En} (h : OwAt H o ld hr sl es) : DGet H o (.str "now") (some (.int hr)) := by rw [← ow_now ld hr sl]; exact .k (k := .inr "now") h.ob
theorem OwAt.gL {H : Hp} {o ld : Addr} {hr sl : Int} {es : List En} (h : OwAt H o ld hr sl es) : DGet H o (.str "lying") (some (.ref ld)) := by rw [← ow_ly ld hr sl]; exact .k (k := .inr "lying") h.ob
theorem free_head {es : List En} {sl : Nat} (h : mexF (slotsF es) < sl) : ∃ r, ((List.range sl).filter fun j => decide (j ∉ slotsF es)) = mexF (slotsF es) :: r := by
  obtain ⟨m1, m2, _⟩ := mex_is (ts := slotsF es)
  obtain ⟨n, en⟩ : ∃ n, sl = mexF (slotsF es) + (n + 1) := ⟨sl - mexF (slotsF es) - 1, by omega⟩
  have e : List.range sl = List.range (mexF (slotsF es)) ++ (mexF (slotsF es) :: (((List.range n).map Nat.succ).map (mexF (slotsF es) + ·))) := by
    rw [en, List.range_add, List.range_succ_eq_map, List.map_cons, Nat.add_zero]
  rw [e, List.filter_append]
  have z : ((List.range (mexF (slotsF es))).filter fun j => decide (j ∉ slotsF es)) = [] := by
    rw [List.filter_eq_nil_iff]
    intro j hj
    have := m2 j (List.mem_range.mp hj)
    simp [this]
  rw [z, List.nil_append, List.filter_cons_of_pos (by simp [m1])]
  exact ⟨_, rfl⟩
theorem free_none {es : List En} {sl : Nat} (h : sl ≤ mexF (slotsF es)) : ((List.range sl).filter fun j => decide (j ∉ slotsF es)) = [] := by
  obtain ⟨m1, m2, _⟩ := mex_is (ts := slotsF es)
  rw [List.filter_eq_nil_iff]
  intro j hj
  have := m2 j (by have := List.mem_range.mp hj; omega)
  simp [this]
abbrev s__law_enter : Stmt := topS 16
def n__law_enter : List Str := ["_law_own", "_law_name", "_law_cool", "_law_free", "_law_slot"]
theorem sc__law_enter : FnScope n__law_enter ["_law_own", "_law_name", "_law_cool"] (defScope s__law_enter) := ⟨rfl, rfl, rfl, by decide +kernel, rfl, by decide +kernel, by decide +kernel⟩
def spLE (K : PySem.W.Frag) : Sp := fun vs H Q _ => ∃ (o ld : Addr) (hr : Int) (sl : Nat) (es : List En) (z : Str) (co : Int), vs = [.ref o, .str z, .int co] ∧ OwAt H o ld hr sl es ∧ es.length ≤ 60 ∧ sl ≤ 60 ∧
  (mexF (slotsF es) < sl → ∀ (H' : Hp) (t : Addr), Sm [ld] H H' → H t = none → OwAt H' o ld hr sl (es ++ [(mexF (slotsF es), z, hr + co, t)]) → Q (.int (mexF (slotsF es) : Nat)) H') ∧
  (sl ≤ mexF (slotsF es) → ∀ H', Same H H' → Q .non H')
set_option maxHeartbeats 1000000 in
theorem ok_lenter {f : Addr} {fd : FuncData} {k : Nat} (F : Fun K "_law_enter" "_law_enter" s__law_enter f fd) (T : Txt mg) : FnOk P w K mg base CX0 (k + 1) f fd ["_law_own", "_law_name", "_law_cool"] (spLE K) := by
  refine F.ok sc__law_enter (fun vs H Q E h => ?_) (fun cdv A outer s H vs Q E hr h => ?_)
  · obtain ⟨o, ld, hr, sl, es, z, co, rfl, _⟩ := h
    rfl
  · obtain ⟨o, ld, ho, sl, es, z, co, rfl, M, l, l60, q, q2⟩ := h
    have nd := sc__law_enter.nd
    have hu := hu_of hr
    have hu64 := hr.units
    /- 0 _law_own, 1 _law_name, 2 _law_cool, 3 _law_free, 4 _law_slot -/
    refine ⟨_, (pss_cons (ps_setLc (i := 3) (own := [("_law_slot", 4)]) rfl nd rfl rfl (sw_true rfl rfl rfl (by decide +kernel)) (pi_range1 (by rfl) T.range (pa_cons (pe_dget hu (pv 0) pe_str (fun _ _ => rfl)) pa_nil)) (blkOk_by (N := n__law_enter) (sc := defScope s__law_enter) (by decide +kernel)) (fun _ _ _ _ _ => (pg_name (i := 4) nd rfl (.inl rfl))) (fun _ _ _ _ _ => (pts_one (pt_cmp (pc_dnotin hu (pv 4) (pe_dget hu (pv 0) pe_str (fun _ _ => rfl)))))) (fun _ _ _ _ _ => (pv 4)))
      (pss_cons (ps_if (pt_cmpR (ko_eq (K := K) hu64) (pv 3) (pe_lst pa_nil) (nomark _))
          (pss_one (ps_ret pe_non))
          pss_nil)
      (pss_cons (ps_dput hu (pe_dget hu (pv 0) pe_str (fun _ _ => rfl)) (pe_ix (kx_list (K := K)) (pv 3) pe_int (fun _ _ => rfl)) (pe_tup (pa_cons (pv 1) (pa_cons (pe_op op_add (pe_dget hu (pv 0) pe_str (fun _ _ => rfl)) (pv 2)) pa_nil))) rfl)
      (pss_one (ps_ret (pe_ix (kx_list (K := K)) (pv 3) pe_int (fun _ _ => rfl))))))), ?_⟩
    refine ⟨_, rfl, o, _, rfl, M.gS, _, rfl, by omega, by omega, fun D nD => ?_⟩
    refine lc_it walk_range (PvL H D fun i => (((List.range i).filter fun j => decide (j ∉ slotsF es)).map fun j : Nat => (j : Int)).map V.int) (pv_start nD rfl) (fun _ _ _ _ => trivial) ?_ ?_
    · rintro i y Hb Ha hi pv ⟨rfl, rfl⟩
      have M1 := M.same pv.1
      have hi2 : i < sl := by omega
      have ei : (0 : Int) + ((i : Nat) : Int) = ((i : Nat) : Int) := Int.zero_add _
      show gName 4 (V.int (0 + ((i : Nat) : Int))) _ _ _
      rw [ei]
      refine ⟨rfl, _, rfl, _, rfl, o, _, rfl, M1.gL, ld, _, rfl, .k (k := .inl ((i : Nat) : Int)) M1.di, _, rfl, ?_⟩
      rw [val_has]
      have es1 : ((List.range (i + 1)).filter fun j => decide (j ∉ slotsF es)) = ((List.range i).filter fun j => decide (j ∉ slotsF es)) ++ (if i ∉ slotsF es then [i] else []) := by
        rw [List.range_succ, List.filter_append]
        by_cases c : i ∉ slotsF es
        · rw [if_pos c, List.filter_cons_of_pos (by simp [c])]; rfl
        · rw [if_neg c, List.filter_cons_of_neg (by simp [c])]; rfl
      have ln : ((List.range i).filter fun j => decide (j ∉ slotsF es)).length ≤ i := by
        have := List.length_filter_le (fun j => decide (j ∉ slotsF es)) (List.range i)
        rw [List.length_range] at this
        exact this
      by_cases c : i ∈ slotsF es
      · rw [decide_eq_true c]
        refine iteF ?_
        exact pv_skip pv (Same.refl _) (by rw [es1, if_neg (by simp [c]), List.append_nil])
      · rw [decide_eq_false c]
        refine iteT ⟨_, rfl, ?_⟩
        exact pv_put nD pv (Same.refl _) (by rw [es1, if_pos c, List.map_append, List.map_append]; rfl) (by rw [List.length_map, List.length_map, sizeLine_eq]; omega)
    intro H1 pv
    obtain ⟨s1, hD⟩ := pv_end pv rfl
    rw [Int.toNat_natCast] at hD
    have M := M.same s1
    simp only [gName, List.set]
    have shp : ∀ ns : List Int, SeqAt.shaped (.list (ns.map PyData.int)) = true := fun ns => PySem.W.ke_shaped_ints ns
    refine ⟨_, rfl, Nat.zero_le _, fun e ne => ?_⟩
    have s2 := same_upd (o := .lst []) ne
    have he : upd H1 e (.lst []) e = some (.lst []) := upd_same
    have hD := s2 _ _ hD
    have M := M.same s2
    have s3 := s1.trans s2
    generalize upd H1 e (.lst []) = H2 at he hD M s3 ⊢
    refine ⟨_, _, .lst (SqL.of hD) (dp_ints _), .lst (SqL.of he) .nil, shp _, rfl, _, rfl, ?_⟩
    rcases Nat.lt_or_ge (mexF (slotsF es)) sl with c | c
    · obtain ⟨r, er⟩ := free_head c
      rw [er] at hD ⊢
      refine iteF ?_
      have gA : atI (((mexF (slotsF es) :: r).map fun j : Nat => (j : Int)).map V.int) 0 = some (.int ((mexF (slotsF es) : Nat) : Int)) := atI_nat (j := 0) rfl
      refine ⟨_, rfl, _, rfl, o, _, rfl, M.gN, _, rfl, _, _, rfl, rfl, (by show 2 ≤ sizeLine; decide), fun t nt => ?_⟩
      have s4 := same_upd (o := .tup [V.str z, .int (ho + co)]) nt
      have M1 := M.same s4
      have hD := s4 _ _ hD
      have ht : upd H2 t (.tup [V.str z, .int (ho + co)]) t = some (.tup [V.str z, .int (ho + co)]) := upd_same
      have nt0 := s3.free nt
      have s5 := s3.trans s4
      generalize upd H2 t (.tup [V.str z, .int (ho + co)]) = H3 at s5 M1 hD ht ⊢
      have thd : t ≠ ld := fun e => by rw [e, M1.di] at ht; cases ht
      have Dld : D ≠ ld := fun e => by rw [e, M1.di] at hD; cases hD
      refine ⟨_, rfl, o, _, rfl, M1.gL, _, rfl, D, _, 0, _, rfl, rfl, SqL.of hD, gA, ld, _, rfl, DPut.k (k := .inl ((mexF (slotsF es) : Nat) : Int)) M1.di (by rw [enK_len, sizeLine_eq]; omega), ?_⟩
      rw [put_en (z := z) (o := ho + co) mex_is.1]
      refine ⟨_, rfl, D, _, 0, _, rfl, rfl, SqL.of ((upd_ne Dld).trans hD), gA, q c _ t ((sm_of s5).trans (sm_wr (by simp))) nt0 ⟨(upd_ne M1.ne).trans M1.ob, upd_same, M1.ne, fun e he => ?_, ?_, fun e he => ?_⟩⟩
      · rcases List.mem_append.mp he with h | h
        · exact (M1.en.sm (S := [ld]) (sm_wr (by simp)) (fun x hx us e2 => by rw [List.mem_singleton.mp hx, M1.di] at e2; cases e2)) e h
        · rw [List.mem_singleton.mp h]
          exact (upd_ne thd).trans ht
      · unfold slotsF
        rw [List.map_append]
        refine List.nodup_append.mpr ⟨M1.nd, by simp, fun a ha b hb => ?_⟩
        rw [List.mem_singleton.mp hb]
        intro k; exact mex_is.1 (k ▸ ha)
      · rcases List.mem_append.mp he with h | h
        · exact M1.lt e h
        · rw [List.mem_singleton.mp h]; show ((mexF (slotsF es) : Nat) : Int) < (sl : Int); omega
    · rw [free_none c]
      exact iteT (q2 c _ s3)

end
end Pot

namespace Pot
open PySem PySem.Spec PyProof.Rows L2
section
variable {P : Program} {w : World} {K : PySem.W.Frag} {mg : Str → Option Value} {base : Heap}
theorem drop_en {A B : List En} {e0 : En} (nd : (slotsF (A ++ e0 :: B)).Nodup) : dropK (enK (A ++ e0 :: B)) (.inl ((e0.1 : Nat) : Int)) = enK (A ++ B) := by
  unfold slotsF at nd
  rw [List.map_append, List.map_cons, List.nodup_append] at nd
  obtain ⟨_, n2, n3⟩ := nd
  have n2 := (List.nodup_cons.mp n2).1
  unfold dropK enK
  rw [List.filter_map, List.filter_append, List.filter_cons_of_neg (by simp), List.filter_eq_self.mpr, List.filter_eq_self.mpr]
  · intro e he
    have : e.1 ≠ e0.1 := fun z => n2 (z ▸ List.mem_map.mpr ⟨e, he, rfl⟩)
    exact decide_eq_true fun z => this (by have := Sum.inl.inj z; omega)
  · intro e he
    have : e.1 ≠ e0.1 := fun z => n3 _ (List.mem_map.mpr ⟨e, he, rfl⟩) _ List.mem_cons_self z
    exact decide_eq_true fun z => this (by have := Sum.inl.inj z; omega)
abbrev s__law_tick : Stmt := topS 17
def n__law_tick : List Str := ["_law_own", "_law_many", "_law_gone", "_law_slot", "_law_name", "_law_out"]
theorem sc__law_tick : FnScope n__law_tick ["_law_own", "_law_many"] (defScope s__law_tick) := ⟨rfl, rfl, rfl, by decide +kernel, rfl, by decide +kernel, by decide +kernel⟩
def spLT (K : PySem.W.Frag) : Sp := fun vs H Q _ => ∃ (o ld : Addr) (hr sl m : Int) (es : List En), vs = [.ref o, .int m] ∧ OwAt H o ld hr sl es ∧ es.length ≤ 60 ∧
  ∀ (H' : Hp) (R : Addr) (us : List V), Sm [o, ld] H H' → OwAt H' o ld (hr + m) sl (stay es (hr + m)) → H R = none → H' R = some (.lst us) → DpAll K (off H' [o, ld, R]) us (((outs es (hr + m)).mergeSort (PySem.W.dataLe false goD)).map goD) → Q (.ref R) H'
set_option maxHeartbeats 1000000 in
theorem ok_ltick {f : Addr} {fd : FuncData} {k : Nat} (F : Fun K "_law_tick" "_law_tick" s__law_tick f fd) (T : Txt mg) : FnOk P w K mg base CX0 (k + 1) f fd ["_law_own", "_law_many"] (spLT K) := by
  refine F.ok sc__law_tick (fun vs H Q E h => ?_) (fun cdv A outer s H vs Q E hr h => ?_)
  · obtain ⟨o, ld, hr, sl, m, es, rfl, _⟩ := h
    rfl
  · obtain ⟨o, ld, ho, sl, m, es, rfl, M, l, q⟩ := h
    have nd := sc__law_tick.nd
    have hu := hu_of hr
    have hu70 : (A.deeper (envOfC (Str.ofString "_law_tick") (defScope s__law_tick) s.heap.objs.size f cdv)).units + 70 < cLine := by have := hr.un; omega
    /- 0 _law_own, 1 _law_many, 2 _law_gone, 3 _law_slot, 4 _law_name, 5 _law_out -/
    refine ⟨_, (pss_cons (ps_asg (pe_tup (pa_cons (pe_op op_add (pe_dget hu (pv 0) pe_str (fun _ _ => rfl)) (pv 1)) (pa_cons (pe_lst pa_nil) pa_nil))) (kg_tup (K := K) (n := 2) (pgs_cons (pg_sub (pv 0) pe_str (set_dict hu)) (pgs_cons (pg_name (i := 2) nd rfl (.inl rfl)) pgs_nil))))
      (pss_cons (ps_for PassesOwn.never rfl (ki_list (K := K) (LiI.pe_listItems rfl (pe_dget hu (pv 0) pe_str (fun _ _ => rfl)) (by rfl) T.list (by rfl))) (kg_tup (K := K) (n := 2) (pgs_cons (pg_name (i := 3) nd rfl (.inl rfl)) (pgs_cons (kg_tup (K := K) (n := 2) (pgs_cons (pg_name (i := 4) nd rfl (.inl rfl)) (pgs_cons (pg_name (i := 5) nd rfl (.inl rfl)) pgs_nil))) pgs_nil)))
          (pss_one (ps_if (pt_cmpR op_le (pv 5) (pe_dget hu (pv 0) pe_str (fun _ _ => rfl)) (nomark _))
              (pss_cons (ps_expr (pe_bm PySem.F.plainAttrs_list PySem.F.slot_list_append PySem.F.type_list_append mt_append (pv 2) (pa_cons (pe_tup (pa_cons (pv 5) (pa_cons (pv 3) (pa_cons (pv 4) pa_nil)))) pa_nil)))
              (pss_one (ps_expr (pe_dpop1 (pe_dget hu (pv 0) pe_str (fun _ _ => rfl)) (pv 3) ⟨rfl, rfl, rfl, rfl⟩))))
              pss_nil)))
      (pss_one (ps_ret (pe_callB (kc_sortedE (K := K) (enc := goD) hu70 go_al go_tp go_dep) (by rfl) T.sorted (by decide +kernel) (pa_cons (pv 2) pa_nil)))))), ?_⟩
    refine ⟨_, rfl, o, _, rfl, M.gN, _, rfl, _, _, rfl, rfl, Nat.zero_le _, fun G nG => ⟨(by show 2 ≤ sizeLine; decide), fun t nt => ?_⟩⟩
    have ML := M.same (same_upd (o := .lst []) nG)
    have s1 := same_upd (o := .lst []) nG
    have hG : upd H G (.lst []) G = some (.lst []) := upd_same
    generalize upd H G (.lst []) = H1 at ML s1 hG nt ⊢
    have s2 := s1.trans (same_upd (o := .tup [.int (ho + m), .ref G]) nt)
    have M2 := ML.same (same_upd (o := .tup [.int (ho + m), .ref G]) nt)
    have hG := same_upd (o := .tup [.int (ho + m), .ref G]) nt _ _ hG
    have ht : upd H1 t (.tup [.int (ho + m), .ref G]) t = some (.tup [.int (ho + m), .ref G]) := upd_same
    generalize upd H1 t (.tup [.int (ho + m), .ref G]) = H2 at s2 M2 hG ht ⊢
    have Go : G ≠ o := fun e => by rw [e, M2.ob] at hG; cases hG
    have Gl : G ≠ ld := fun e => by rw [e, M2.di] at hG; cases hG
    refine ⟨t, _, rfl, .inl (.inl ht), rfl, _, _, rfl, _, rfl, o, _, rfl, DPut.k (k := .inr "now") M2.ob (by show 3 < sizeLine; decide), _, _, rfl, rfl, ?_⟩
    rw [ow_put]
    obtain ⟨h2, eh2⟩ : ∃ h2, h2 = ho + m := ⟨_, rfl⟩
    rw [← eh2] at q ⊢
    have so : Sm [o] H2 (upd H2 o (.dK (owF ld h2 sl))) := sm_wr (by simp)
    have ho3 : upd H2 o (.dK (owF ld h2 sl)) o = some (.dK (owF ld h2 sl)) := upd_same
    have en3 : EnOk (upd H2 o (.dK (owF ld h2 sl))) es := M2.en.sm (S := [o]) so fun x hx us e => by rw [List.mem_singleton.mp hx, M2.ob] at e; cases e
    have hd3 : upd H2 o (.dK (owF ld h2 sl)) ld = some (.dK (enK es)) := (upd_ne M2.ne.symm).trans M2.di
    have hG3 : upd H2 o (.dK (owF ld h2 sl)) G = some (.lst []) := (upd_ne Go).trans hG
    have sa : Sm [o] H (upd H2 o (.dK (owF ld h2 sl))) := (sm_of s2).trans so
    generalize upd H2 o (.dK (owF ld h2 sl)) = H3 at so ho3 en3 hd3 hG3 sa ⊢
    have M3 : OwAt H3 o ld h2 sl es := ⟨ho3, hd3, M2.ne, en3, M2.nd, M2.lt⟩
    refine ⟨_, rfl, o, _, rfl, M3.gL, ld, _, rfl, M3.di, fun H4 p ts s4 np nts pts hp pr => ?_⟩
    have s4 : Same H3 H4 := s4
    have M4 := M3.same s4
    have hG4 := s4 _ _ hG3
    have lts : ts.length = es.length := by rw [Paired.length pr, enK_len]
    have pld : p ≠ ld := fun e => by rw [e, M3.di] at np; cases np
    have pG : p ≠ G := fun e => by rw [e, hG3] at np; cases np
    refine ⟨p, rfl, ⟨_, SqL.of hp⟩, ?_⟩
    refine for_it (walk_list (xs := ts.map V.ref)) (fun j σ Hx => ∃ v3 v4 v5 us, σ = [some (.ref o), some (.int m), some (.ref G), v3, v4, v5] ∧ Sm [ld, G] H4 Hx ∧ Hx ld = some (.dK (enK (stay (es.take j) h2 ++ es.drop j))) ∧ Hx G = some (.lst us) ∧ us.length ≤ j ∧ DpAll K (off Hx [o, ld, G]) us ((outs (es.take j) h2).map goD)) ⟨_, _, _, [], rfl, sm_of (Same.refl H4), M4.di, hG4, Nat.le_refl _, .nil⟩ (fun j σ Hx _ h => by
        obtain ⟨_, _, _, _, _, s, _⟩ := h
        exact (SqL.of (sm_at s (by simp [pld, pG]) hp) : SqL K Hx p _)) ?_ ?_
    · rintro j y σ _ Hx hj ⟨v3, v4, v5, us, rfl, s, hdx, hGx, lu, du⟩ ⟨rfl, gj⟩
      rw [List.length_map, lts] at hj
      rw [List.getElem?_map] at gj
      obtain ⟨u, gu, rfl⟩ := Option.map_eq_some_iff.mp gj
      obtain ⟨y, gy, hu4⟩ := paired_get pr gu
      have gl := List.getElem?_eq_getElem hj
      have gk : (enK es)[j]? = some (.inl ((es[j].1 : Nat) : Int), V.ref es[j].2.2.2) := by unfold enK; rw [List.getElem?_map, gl]; rfl
      rw [gk] at gy
      cases Option.some.inj gy
      have he := M4.en es[j] (List.getElem_mem hj)
      have dj : es.drop j = es[j] :: es.drop (j + 1) := List.drop_eq_getElem_cons hj
      have ndj : (slotsF (stay (es.take j) h2 ++ es.drop j)).Nodup := by
        have : (stay (es.take j) h2 ++ es.drop j).Sublist es := by
          have h := (List.filter_sublist (l := es.take j) (p := fun e => decide (h2 < e.2.2.1))).append (List.Sublist.refl (es.drop j))
          rw [List.take_append_drop] at h
          exact h
        exact M4.nd.sublist (this.map _)
      have lj : (stay (es.take j) h2 ++ es.drop j).length ≤ 60 := by
        rw [List.length_append, List.length_drop]
        unfold stay
        have := List.length_filter_le (fun e : En => decide (h2 < e.2.2.1)) (es.take j)
        rw [List.length_take] at this
        omega
      generalize es[j] = e0 at gl gk he dj hu4
      rw [dj] at hdx ndj
      have eo : outs (es.take (j + 1)) h2 = outs (es.take j) h2 ++ (if e0.2.2.1 ≤ h2 then [e0] else []) := by
        unfold outs
        rw [List.take_add_one, gl, List.filter_append]
        show _ ++ List.filter _ [e0] = _
        by_cases c : e0.2.2.1 ≤ h2
        · rw [if_pos c, List.filter_cons_of_pos (p := fun e : En => decide (e.2.2.1 ≤ h2)) (decide_eq_true c)]; rfl
        · rw [if_neg c, List.filter_cons_of_neg (p := fun e : En => decide (e.2.2.1 ≤ h2)) (fun z => c (of_decide_eq_true z))]; rfl
      have es2 : stay (es.take (j + 1)) h2 = stay (es.take j) h2 ++ (if h2 < e0.2.2.1 then [e0] else []) := by
        unfold stay
        rw [List.take_add_one, gl, List.filter_append]
        show _ ++ List.filter _ [e0] = _
        by_cases c : h2 < e0.2.2.1
        · rw [if_pos c, List.filter_cons_of_pos (p := fun e : En => decide (h2 < e.2.2.1)) (decide_eq_true c)]; rfl
        · rw [if_neg c, List.filter_cons_of_neg (p := fun e : En => decide (h2 < e.2.2.1)) (fun z => c (of_decide_eq_true z))]; rfl
      have nS : ∀ {x : Addr} {vs : List V}, H4 x = some (.tup vs) → Hx x = some (.tup vs) := fun {x vs} e => sm_at s (by
        intro z
        rcases List.mem_cons.mp z with z | z
        · rw [z, M4.di] at e; cases e
        · rw [List.mem_singleton.mp z, hG4] at e; cases e) e
      have hux := nS hu4
      have he := nS he
      have hox : Hx o = some (.dK (owF ld h2 sl)) := sm_at s (by simp [M2.ne, Go.symm]) M4.ob
      have Mx : OwAt Hx o ld h2 sl (stay (es.take j) h2 ++ e0 :: es.drop (j + 1)) := ⟨hox, hdx, M2.ne, fun e h => nS (M4.en e (by
        rw [← dj] at h
        rcases List.mem_append.mp h with h | h
        · exact List.mem_of_mem_take (List.mem_filter.mp h).1
        · exact List.mem_of_mem_drop h)), ndj, fun e h => M4.lt e (by
        rw [← dj] at h
        rcases List.mem_append.mp h with h | h
        · exact List.mem_of_mem_take (List.mem_filter.mp h).1
        · exact List.mem_of_mem_drop h)⟩
      refine ⟨u, _, rfl, .inl (.inl hux), rfl, _, _, rfl, _, _, rfl, e0.2.2.2, _, rfl, .inl (.inl he), rfl, _, _, rfl, _, _, rfl, rfl, rfl, _, rfl, _, rfl, o, _, rfl, Mx.gN, _, _, rfl, rfl, _, rfl, ite2 (fun c => ?_) (fun c => ?_)⟩
      · have c : e0.2.2.1 ≤ h2 := of_decide_eq_true c
        refine ⟨_, rfl, .inl ⟨rfl, _, SqL.of hGx⟩, _, rfl, _, rfl, _, rfl, (by show 3 ≤ sizeLine; decide), fun t2 nt2 => ?_⟩
        refine ⟨G, us, V.ref t2, rfl, rfl, ?_⟩
        dsimp only [kV]
        have lvS : Live [o, ld, G] Hx := fun x hx e => by
          rcases List.mem_cons.mp hx with hx | hx
          · rw [hx, hox] at e; cases e
          · rcases List.mem_cons.mp hx with hx | hx
            · rw [hx, hdx] at e; cases e
            · rw [List.mem_singleton.mp hx, hGx] at e; cases e
        have ft := off_new (o := .tup [V.int e0.2.2.1, .int ((e0.1 : Nat) : Int), .str e0.2.1]) lvS nt2
        have du := dpAll_same (sm_put (S := [o, ld, G]) (o := .tup [V.int e0.2.2.1, .int ((e0.1 : Nat) : Int), .str e0.2.1]) nt2) du
        have sx := same_upd (o := .tup [V.int e0.2.2.1, .int ((e0.1 : Nat) : Int), .str e0.2.1]) nt2
        have s := s.trans (sm_of sx)
        have hGx := sx _ _ hGx
        have hdx := sx _ _ hdx
        have hox := sx _ _ hox
        have Mx := Mx.same sx
        generalize upd Hx t2 (.tup [V.int e0.2.2.1, .int ((e0.1 : Nat) : Int), .str e0.2.1]) = Hb at ft du s hGx hdx hox Mx ⊢
        refine ⟨hGx, by rw [sizeLine_eq]; omega, ?_⟩
        have du : DpAll K (off (upd Hb G (.lst (us ++ [V.ref t2]))) [o, ld, G]) (us ++ [V.ref t2]) ((outs (es.take (j + 1)) h2).map goD) := by
          rw [eo, if_pos c, List.map_append]
          exact dpAll_same (sm_wr (by simp)) (dpAll_app' du (.cons (.tup (.inl (.inl ft)) (.cons (.int _) (.cons (.int _) (.cons (.str _) .nil)))) .nil))
        have s := s.trans (sm_wr (S := [ld, G]) (o := .lst (us ++ [V.ref t2])) (by simp : G ∈ [ld, G]))
        have hdx : upd Hb G (.lst (us ++ [V.ref t2])) ld = _ := (upd_ne Gl.symm).trans hdx
        have hox : upd Hb G (.lst (us ++ [V.ref t2])) o = _ := (upd_ne Go.symm).trans hox
        have hGx : upd Hb G (.lst (us ++ [V.ref t2])) G = some (.lst (us ++ [V.ref t2])) := upd_same
        have nde := Mx.nd
        clear Mx
        generalize upd Hb G (.lst (us ++ [V.ref t2])) = Hc at du s hdx hox hGx ⊢
        have gL : DGet Hc o (.str "lying") (some (.ref ld)) := by rw [← ow_ly ld h2 sl]; exact .k (k := .inr "lying") hox
        refine ⟨_, rfl, o, _, rfl, gL, ld, rfl, .inl ⟨_, .inl hdx⟩, _, rfl, _, .inl ((e0.1 : Nat) : Int), _, hdx, rfl, val_at nde (by simp), ?_⟩
        rw [drop_en nde]
        refine ⟨_, _, _, _, rfl, s.trans (sm_wr (by simp)), ?_, (upd_ne Gl).trans hGx, by rw [List.length_append]; show _ + 1 ≤ _; omega, dpAll_same (sm_wr (by simp)) du⟩
        rw [es2, if_neg (by omega), List.append_nil]
        exact upd_same
      · have c : ¬ e0.2.2.1 ≤ h2 := fun z => c (decide_eq_true z)
        refine ⟨_, _, _, us, rfl, s, ?_, hGx, by omega, ?_⟩
        · rw [es2, if_pos (by omega), List.append_assoc]
          exact hdx
        · rw [eo, if_neg c, List.append_nil]
          exact du
    rintro σ Hx ⟨v3, v4, v5, us, rfl, s, hdx, hGx, lu, du⟩
    rw [List.length_map, lts, List.take_of_length_le (Nat.le_refl _), List.drop_length, List.append_nil] at hdx
    rw [List.length_map, lts, List.take_of_length_le (Nat.le_refl _)] at du
    have nS : ∀ {x : Addr} {vs : List V}, H4 x = some (.tup vs) → Hx x = some (.tup vs) := fun {x vs} e => sm_at s (by
      intro z
      rcases List.mem_cons.mp z with z | z
      · rw [z, M4.di] at e; cases e
      · rw [List.mem_singleton.mp z, hG4] at e; cases e) e
    have hox : Hx o = some (.dK (owF ld h2 sl)) := sm_at s (by simp [M2.ne, Go.symm]) M4.ob
    refine ⟨_, rfl, G, us, outs es h2, rfl, SqL.of hGx, dpAll_same off_sub du, fun zs p2 dz np2 => ?_⟩
    have sz := same_upd (o := .lst zs) np2
    have en' : EnOk Hx es := fun e h => nS (M4.en e h)
    have hk : ∀ x ob, x ≠ o → x ≠ ld → H x = some ob → Hx x = some ob := fun x ob n1 n2 e => sm_at s (by
      have := ne_of_none e nG
      simp [n2, this]) (s4 _ _ (sm_at sa (by simp [n1]) e))
    refine q _ p2 zs ?_ ⟨sz _ _ hox, sz _ _ hdx, M2.ne, fun e h => sz _ _ (en' e (List.mem_filter.mp h).1), M2.nd.sublist ((List.filter_sublist (l := es)).map _), fun e h => M2.lt e (List.mem_filter.mp h).1⟩ ?_ upd_same ?_
    · exact fun x ob e => by
        have n := off_mem e
        rw [off_out n] at e ⊢
        exact sz _ _ (hk x ob (fun z => n (by rw [z]; simp)) (fun z => n (by rw [z]; simp)) e)
    · cases e : H p2 with
      | none => rfl
      | some ob =>
        have := hk p2 ob (fun z => by rw [z, hox] at np2; cases np2) (fun z => by rw [z, hdx] at np2; cases np2) e
        rw [np2] at this; cases this
    · refine dpAll_go (fun a vs h => ?_) (noL_map (f := goD) (fun _ => ⟨trivial, trivial, trivial, trivial⟩) _) dz
      have ne : ∀ z, Hx a = some z → z ≠ .dK (owF ld h2 sl) → z ≠ .dK (enK (stay es h2)) → off (upd Hx p2 (.lst zs)) [o, ld, p2] a = some z := fun z e n n2 => by
        have a1 : a ≠ o := fun x => by rw [x, hox] at e; exact n (Option.some.inj e).symm
        have a3 : a ≠ ld := fun x => by rw [x, hdx] at e; exact n2 (Option.some.inj e).symm
        have a2 : a ≠ p2 := ne_of_none e np2
        rw [off_out (by simp [a1, a2, a3]), upd_ne a2]
        exact e
      rcases h with (h | ⟨o2, h⟩) | h
      · exact .inl (.inl (ne _ h (fun z => by cases z) fun z => by cases z))
      · exact .inl (.inr ⟨o2, ne _ h (fun z => by cases z) fun z => by cases z⟩)
      · exact .inr h

end
end Pot

namespace Pot
open PySem PySem.Spec PyProof.Rows L2
theorem dl_pairI {β : Type} (enc : β → PyData) (l : List β) : (l.mergeSort (PySem.W.dataLe false enc)).Pairwise fun a b => PySem.W.dataLt (enc b) (enc a) = false := by
  have T := PySem.W.sortLe_total (PyProof.Rows.listOrd PyProof.Rows.itemOrd) false fun b : β => PySem.W.keyToks (enc b)
  have h := List.pairwise_mergeSort (le := PySem.W.dataLe false enc) (fun a b c h1 h2 => T.trans a b c h1 h2) (fun a b => by
    rw [Bool.or_eq_true]; exact T.total a b) l
  refine h.imp fun {a b} e => ?_
  rw [PySem.W.dataLe_eq] at e
  simpa using e
section
variable {P : Program} {w : World} {K : PySem.W.Frag} {mg : Str → Option Value} {base : Heap}
/-! ### those inside, by slots -/
def rowsF (es : List En) (ho : Int) : List En := es.mergeSort (PySem.W.dataLe false fun e => inD e ho)
theorem rows_perm (es : List En) (ho : Int) : (rowsF es ho).Perm es := List.mergeSort_perm _ _
theorem in_lt {a b : En} {ho : Int} (h : PySem.W.dataLt (inD b ho) (inD a ho) = false) (ne : a.1 ≠ b.1) : a.1 < b.1 := by
  unfold inD at h
  rw [PySem.W.dataLt_tuple, PySem.W.dataLt_cons rfl, if_neg, PySem.W.dataLt_int] at h
  · have := of_decide_eq_false h
    omega
  · simp [PyData.eqv]; omega
theorem rows_lt {es : List En} {ho : Int} (nd : (slotsF es).Nodup) : (rowsF es ho).Pairwise fun a b => a.1 < b.1 := by
  have h := dl_pairI (fun e : En => inD e ho) es
  have n2 : (slotsF (rowsF es ho)).Nodup := ((rows_perm es ho).map _).nodup_iff.mpr nd
  unfold slotsF List.Nodup at n2
  rw [List.pairwise_map] at n2
  exact (h.and n2).imp fun h => in_lt h.1 h.2
theorem rows_slots {es : List En} {ho : Int} {ns : List Int} (nd : (slotsF es).Nodup) (pm : ns.Perm ((slotsF es).map fun j : Nat => (j : Int))) (so : ns.Pairwise (· ≤ ·)) : ns = (rowsF es ho).map fun e => ((e.1 : Nat) : Int) := by
  have p2 : ns.Perm ((rowsF es ho).map fun e => ((e.1 : Nat) : Int)) := by
    refine pm.trans ?_
    unfold slotsF
    rw [List.map_map]
    exact ((rows_perm es ho).symm.map _)
  refine List.Perm.eq_of_pairwise (le := fun a b : Int => a ≤ b) (fun a b _ _ h1 h2 => Int.le_antisymm h1 h2) so ?_ p2
  rw [List.pairwise_map]
  exact (rows_lt nd).imp fun h => by omega
theorem enK_ks (es : List En) : (enK es).map (·.1) = ((slotsF es).map fun j : Nat => (j : Int)).map Sum.inl := by
  unfold enK slotsF
  rw [List.map_map, List.map_map, List.map_map]
  rfl
abbrev s__law_inside : Stmt := topS 18
def n__law_inside : List Str := ["_law_own", "_law_lying", "_law_slot"]
theorem sc__law_inside : FnScope n__law_inside ["_law_own"] (defScope s__law_inside) := ⟨rfl, rfl, rfl, by decide +kernel, rfl, by decide +kernel, by decide +kernel⟩
def spLI (K : PySem.W.Frag) : Sp := fun vs H Q _ => ∃ (o ld : Addr) (hr sl : Int) (es : List En), vs = [.ref o] ∧ OwAt H o ld hr sl es ∧ es.length ≤ 60 ∧
  ∀ (H' : Hp) (R : Addr) (us : List V), Same H H' → H R = none → H' R = some (.lst us) → DpAll K (off H' [R]) us ((rowsF es hr).map fun e => inD e hr) → Q (.ref R) H'
set_option maxHeartbeats 1000000 in
theorem ok_linside {f : Addr} {fd : FuncData} {k : Nat} (F : Fun K "_law_inside" "_law_inside" s__law_inside f fd) (T : Txt mg) : FnOk P w K mg base CX0 (k + 1) f fd ["_law_own"] (spLI K) := by
  refine F.ok sc__law_inside (fun vs H Q E h => ?_) (fun cdv A outer s H vs Q E hr h => ?_)
  · obtain ⟨o, ld, hr, sl, es, rfl, _⟩ := h
    rfl
  · obtain ⟨o, ld, ho, sl, es, rfl, M, l, q⟩ := h
    have nd := sc__law_inside.nd
    have hu := hu_of hr
    have hu64 := hr.units
    /- 0 _law_own, 1 _law_lying, 2 _law_slot -/
    refine ⟨_, (pss_cons (ps_set (i := 1) nd rfl (.inr rfl) (pe_dget hu (pv 0) pe_str (fun _ _ => rfl)))
      (pss_one (ps_ret (pe_lc (own := [("_law_slot", 2)]) rfl nd (ki_list (K := K) (pe_callB kc_sortedDI (by rfl) T.sorted (by decide +kernel) (pa_cons (pv 1) pa_nil))) (blkOk_by (N := n__law_inside) (sc := defScope s__law_inside) (by decide +kernel)) (fun _ _ _ _ _ => (pg_name (i := 2) nd rfl (.inl rfl))) (fun _ _ _ _ _ => pts_nil) (fun _ _ _ _ _ => (pe_tup (pa_cons (pv 2) (pa_cons (pe_ix (kx_tup (K := K)) (pe_dget hu (pv 1) (pv 2) (fun _ _ => rfl)) pe_int (fun _ _ => rfl)) (pa_cons (pe_op op_sub (pe_ix (kx_tup (K := K)) (pe_dget hu (pv 1) (pv 2) (fun _ _ => rfl)) pe_int (fun _ _ => rfl)) (pe_dget hu (pv 0) pe_str (fun _ _ => rfl))) pa_nil))))))))), ?_⟩
    refine ⟨_, rfl, o, _, rfl, M.gL, ?_⟩
    simp only [gName, List.set]
    refine ⟨_, rfl, ld, _, _, rfl, .inl M.di, enK_ks es, by rw [List.length_map]; unfold slotsF; rw [List.length_map]; omega, fun ns p pm so np => ?_⟩
    have en := rows_slots (ho := ho) M.nd pm so
    subst en
    have s1 := same_upd (o := .lst (((rowsF es ho).map fun e => ((e.1 : Nat) : Int)).map V.int)) np
    have M1 := M.same s1
    have hp : upd H p (.lst (((rowsF es ho).map fun e => ((e.1 : Nat) : Int)).map V.int)) p = some (.lst (((rowsF es ho).map fun e => ((e.1 : Nat) : Int)).map V.int)) := upd_same
    generalize upd H p (.lst (((rowsF es ho).map fun e => ((e.1 : Nat) : Int)).map V.int)) = H1 at s1 M1 hp ⊢
    have lr : (rowsF es ho).length = es.length := (rows_perm es ho).length_eq
    refine ⟨p, rfl, ⟨_, SqL.of hp⟩, fun D nD => ?_⟩
    refine lc_it (walk_list (xs := ((rowsF es ho).map fun e => ((e.1 : Nat) : Int)).map V.int)) (fun j Hx => Same H1 Hx ∧ ∃ us, Hx D = some (.lst us) ∧ us.length ≤ j ∧ DpAll K (off Hx [D]) us (((rowsF es ho).take j).map fun e => inD e ho)) ⟨same_upd nD, [], upd_same, Nat.le_refl _, .nil⟩ (fun j Hx _ h => SqL.of (h.1 _ _ hp)) ?_ ?_
    · rintro j y _ Hx hj ⟨sx, us, hD, lu, du⟩ ⟨rfl, gj⟩
      rw [List.length_map, List.length_map, lr] at hj
      rw [List.map_map, List.getElem?_map] at gj
      obtain ⟨e0, gl, rfl⟩ := Option.map_eq_some_iff.mp gj
      have me : e0 ∈ es := (rows_perm es ho).mem_iff.mp (List.mem_of_getElem? gl)
      have Mx := M1.same sx
      have hT := Mx.en e0 me
      have gV := DGet.k (k := .inl ((e0.1 : Nat) : Int)) Mx.di
      rw [val_at Mx.nd me] at gV
      show gName 2 (V.int ((e0.1 : Nat) : Int)) _ _ _
      refine ⟨rfl, tYes_at ?_⟩
      rw [if_pos rfl]
      refine ⟨_, rfl, _, rfl, _, rfl, ld, _, rfl, gV, e0.2.2.2, _, 0, _, rfl, rfl, .inl (.inl hT), rfl, _, rfl, _, rfl, ld, _, rfl, gV, e0.2.2.2, _, 1, _, rfl, rfl, .inl (.inl hT), rfl, _, rfl, o, _, rfl, Mx.gN, _, _, rfl, rfl, (by show 3 ≤ sizeLine; decide), fun t nt => ?_⟩
      have lvR : Live [D] Hx := fun x hx e => by rw [List.mem_singleton.mp hx, hD] at e; cases e
      have ft := off_new (o := .tup [.int ((e0.1 : Nat) : Int), .str e0.2.1, .int (e0.2.2.1 - ho)]) lvR nt
      have du := dpAll_same (sm_put (S := [D]) (o := .tup [.int ((e0.1 : Nat) : Int), .str e0.2.1, .int (e0.2.2.1 - ho)]) nt) du
      have sx := sx.trans (same_upd (o := .tup [.int ((e0.1 : Nat) : Int), .str e0.2.1, .int (e0.2.2.1 - ho)]) nt)
      have hD := same_upd (o := .tup [.int ((e0.1 : Nat) : Int), .str e0.2.1, .int (e0.2.2.1 - ho)]) nt _ _ hD
      generalize upd Hx t (.tup [.int ((e0.1 : Nat) : Int), .str e0.2.1, .int (e0.2.2.1 - ho)]) = Hc at ft du sx hD ⊢
      refine ⟨us, hD, by rw [sizeLine_eq]; omega, same_put sx nD, us ++ [.ref t], upd_same, by rw [List.length_append]; show _ + 1 ≤ _; omega, ?_⟩
      rw [List.take_add_one, gl, List.map_append]
      exact dpAll_same (sm_wr (by simp)) (dpAll_app' du (.cons (.tup (.inl (.inl ft)) (.cons (.int _) (.cons (.str _) (.cons (.int _) .nil)))) .nil))
    rintro H2 ⟨s2, us, hD, lu, du⟩
    rw [List.length_map, List.length_map, List.take_of_length_le (Nat.le_refl _)] at du
    exact q _ D us (s1.trans s2) (s1.free nD) hD du

end
end Pot

namespace Pot
open PySem PySem.Spec PyProof.Rows L2
section
variable {P : Program} {w : World} {K : PySem.W.Frag} {mg : Str → Option Value} {base : Heap}
theorem seq_mid {t u : TS} {D} {σ : L2.St} {H : Hp} (G : L2.St → Hp → Prop) (h1 : ∀ N : L2.St → Hp → Prop, (∀ σ' H', G σ' H' → N σ' H') → t { D with nx := N } σ H) (h2 : ∀ σ' H', G σ' H' → u D σ' H') : tSeq t u D σ H := h1 (u D) h2
theorem tf_no {hd : Addr} {hr sl : Int} {m : Str} (a : (m == ("slots" : Str)) = false) (b : (m == ("hour" : Str)) = false) (c : (m == ("held" : Str)) = false) : (tnF hd hr sl).lookup m = none := by
  unfold tnF
  rw [List.lookup_cons, a, List.lookup_cons, b, List.lookup_cons, c]
  rfl
/-- all of Tunnel -/
structure TunC (P : Program) (w : World) (K : PySem.W.Frag) (mg : Str → Option Value) (base : Heap) (C CF CS : Addr) : Prop where
  tk : TnK K mg C
  made : OMak P w K mg base 1 "Tunnel" C (spTnI C) []
  made1 : OMak P w K mg base 1 "Tunnel" C (spTnI C) [.int 0]
  ent : OMetX P w K mg base 3 C "enter" (spTnE K C CF) []
  ent1 : OMetX P w K mg base 3 C "enter" (spTnE K C CF) [.int 8]
  sof : OMetX P w K mg base 3 C "slot_of" (spTnF K C CS) []
  tick : OMet P w K mg base 1 C "tick" (spTnT K C) []
  tick1 : OMet P w K mg base 1 C "tick" (spTnT K C) [.int 1]
  inside : OMet P w K mg base 1 C "inside" (spTnS K C) []
  now : OMet P w K mg base 1 C "now" (spTnN C) []
  len : Own P w K mg base 1 C "__len__" (spTnL C)
/-- what isinstance tells of a Full -/
structure OthF (K : PySem.W.Frag) (mg : Str → Option Value) (C cH cR cB cN cS : Addr) : Prop where
  gC : mg "Full" = some (.ref C)
  gH : mg "HallError" = some (.ref cH)
  gR : mg "BadRow" = some (.ref cR)
  gB : mg "BadTally" = some (.ref cB)
  gN : mg "Never" = some (.ref cN)
  gS : mg "NoSuch" = some (.ref cS)
  gV : mg "ValueError" = none
  te : PySem.W.exmOne K (.ref C) (.ref cH) = some true
  ex : ExcC K C
  xf : XfC K C
  sl : PySem.W.findIn K (.ref C) "slots" = some none
  o1 : PySem.W.kitOne K (.ref C) (.ref C) = some true
  o2 : PySem.W.kitAny K (.ref C) [.ref cR, .ref cB, .ref cN, .ref cS] = some false
  o3 : PySem.W.kitOne K (.ref C) (.type "ValueError") = some true
def entD (m : Nat) (sl : Int) : PyData := if ((m : Nat) : Int) < sl then .int (m : Nat) else .tuple [.str "full", .int sl]
abbrev s__law_entered : Stmt := topS 19
def n__law_entered : List Str := ["_law_tunnel", "_law_name", "_law_cool", "_law_told", "_law_caught", "refusal"]
theorem sc__law_entered : FnScope n__law_entered ["_law_tunnel", "_law_name", "_law_cool"] (defScope s__law_entered) := ⟨rfl, rfl, rfl, by decide +kernel, rfl, by decide +kernel, by decide +kernel⟩
def optI : Option Int → V
  | none => .non
  | some z => .int z
def spEnt (K : PySem.W.Frag) (C : Addr) : Sp := fun vs H Q _ => ∃ (p hd : Addr) (hr sl : Int) (es : List En) (z : Str) (co : Option Int), vs = [.ref p, .str z, optI co] ∧ TnAt C H p hd hr sl es ∧ es.length ≤ 1000 ∧ sl.natAbs ≤ 2000000 ∧
  (((mexF (slotsF es) : Nat) : Int) < sl → ∀ (H' : Hp) (t : Addr), Sm [hd] H H' → H t = none → TnAt C H' p hd hr sl (es ++ [(mexF (slotsF es), z, hr + co.getD 8, t)]) → Q (.int (mexF (slotsF es) : Nat)) H') ∧
  (sl ≤ ((mexF (slotsF es) : Nat) : Int) → ∀ (H' : Hp) (x : V), Same H H' → Dp K H' x (.tuple [.str "full", .int sl]) → Q x H')
theorem ok_ent {C CF CS cH cR cB cN f : Addr} {fd : FuncData} {k : Nat} (F : Fun K "_law_entered" "_law_entered" s__law_entered f fd) (T : Txt mg) (O : TunC P w K mg base C CF CS) (Z : OthF K mg CF cH cR cB cN CS) : FnOk P w K mg base CX0 (k + 4) f fd ["_law_tunnel", "_law_name", "_law_cool"] (spEnt K C) := by
  refine F.ok sc__law_entered (fun vs H Q E h => ?_) (fun cdv A outer s H vs Q E hr h => ?_)
  · obtain ⟨p, hd, ho, sl, es, z, co, rfl, _⟩ := h
    rfl
  · obtain ⟨p, hd, ho, sl, es, z, co, rfl, M, l, b, q, qe⟩ := h
    have nd := sc__law_entered.nd
    have hu64 := hr.units
    have m_Tunnel_enter := O.ent
    have m_Tunnel_enter1 := O.ent1
    have gl_HallError := Z.gH
    have gl_Full := Z.gC
    have gl_BadRow := Z.gR
    have gl_BadTally := Z.gB
    have gl_Never := Z.gN
    have gl_NoSuch := Z.gS
    have gb_ValueError := Z.gV
    have xf_Full := Z.xf
    have fn_Full_slots := Z.sl
    let CTunnel := C
    let CFull := CF
    let CBadRow := cR
    let CBadTally := cB
    let CNever := cN
    let CNoSuch := CS
    /- 0 _law_tunnel, 1 _law_name, 2 _law_cool, 3 _law_told, 4 _law_caught, 5 refusal -/
    refine ⟨_, (pss_cons (ps_asg (pe_tup (pa_cons pe_non (pa_cons pe_non pa_nil))) (kg_tup (K := K) (n := 2) (pgs_cons (pg_name (i := 3) nd rfl (.inl rfl)) (pgs_cons (pg_name (i := 4) nd rfl (.inl rfl)) pgs_nil))))
      (pss_cons (ps_try_keep (i := 5) (ts := fun _ => tAsg (tVar 5) (gName 4)) rfl rfl rfl nd rfl rfl ⟨rfl, by decide, .inl gl_HallError⟩
            (fun W pn xe tk po => (pss_one (ps_set (i := 3) nd rfl (.inl rfl) (pe_ifExp (pt_cmpR op_isN (pv 2) pe_non (nomark _)) (pe_omx m_Tunnel_enter1 hr (by omega) tk (pv 0) (pa_cons (pv 1) pa_nil)) (pe_omx m_Tunnel_enter hr (by omega) tk (pv 0) (pa_cons (pv 1) (pa_cons (pv 2) pa_nil)))))))
            (fun a pn => pss_one (ps_set (i := 4) nd rfl (.inl rfl) (pv 5))))
      (pss_cons (ps_if (pt_cmpR op_isN (pv 4) pe_non (nomark _))
          (pss_one (ps_ret (pv 3)))
          pss_nil)
      (pss_cons (ps_if ((pw_or (pt_not (pt_val (pe_callB (kc_isD (K := K)) (by rfl) T.isinstance (by decide +kernel) (pa_cons (pv 4) (pa_cons (pe_glob (v := .ref CFull) (by rfl) gl_Full rfl) pa_nil))))) (pw_or1 (pt_val (pe_callB (kc_isDT (K := K)) (by rfl) T.isinstance (by decide +kernel) (pa_cons (pv 4) (pa_cons (pe_tup (pa_cons (pe_glob (v := .ref CBadRow) (by rfl) gl_BadRow rfl) (pa_cons (pe_glob (v := .ref CBadTally) (by rfl) gl_BadTally rfl) (pa_cons (pe_glob (v := .ref CNever) (by rfl) gl_Never rfl) (pa_cons (pe_glob (v := .ref CNoSuch) (by rfl) gl_NoSuch rfl) pa_nil))))) pa_nil))))))).pt
          (pss_one (ps_ret pe_str))
          pss_nil)
      (pss_one (ps_ret (pe_ifExp (pt_val (pe_callB (kc_isD (K := K)) (by rfl) T.isinstance (by decide +kernel) (pa_cons (pv 4) (pa_cons (pe_bltn (v := .ty "ValueError") (by rfl) gb_ValueError (by decide +kernel) rfl) pa_nil)))) (pe_tup (pa_cons pe_str (pa_cons (pe_kf xf_Full fn_Full_slots (pv 4)) pa_nil))) pe_str))))))), ?_⟩
    refine ⟨(by show 2 ≤ sizeLine; decide), fun t0 nt0 => ⟨t0, _, rfl, .inl (.inl upd_same), rfl, _, _, rfl, _, _, rfl, rfl, ?_⟩⟩
    have s1 := same_upd (o := .tup [V.non, V.non]) nt0
    generalize upd H t0 (.tup [V.non, V.non]) = H1 at s1 ⊢
    have M1 := M.same s1
    obtain ⟨dx, hp⟩ := M1.ob
    refine seq_mid (fun σ Hx => σ = [some (.ref p), some (.str z), some (optI co), some .non, some .non, none] ∧ H1 = Hx) (fun N hN => hN _ _ ⟨rfl, rfl⟩) (fun σ H0 h => ?_)
    obtain ⟨rfl, rfl⟩ := h
    refine seq_mid (fun σ Hx => (∃ v5, σ = [some (.ref p), some (.str z), some (optI co), some (.int (mexF (slotsF es) : Nat)), some .non, v5] ∧ Q (.int (mexF (slotsF es) : Nat)) Hx) ∨ (sl ≤ ((mexF (slotsF es) : Nat) : Int) ∧ ∃ d a1 v5, σ = [some (.ref p), some (.str z), some (optI co), some .non, some (.ref a1), v5] ∧ Same H Hx ∧ Hx d = some (flX sl) ∧ Hx a1 = some (CauO (.ref CF) (some d) a1))) (fun N hN => ?_) (fun σ Hx h => ?_)
    · have l1 : (tnF hd ho sl).lookup ("enter" : Str) = none := tf_no (by decide +kernel) (by decide +kernel) (by decide +kernel)
      have fine : ∀ {H' : Hp} {t : Addr}, ((mexF (slotsF es) : Nat) : Int) < sl → Sm [hd] H1 H' → H1 t = none → TnAt C H' p hd ho sl (es ++ [(mexF (slotsF es), z, ho + co.getD 8, t)]) → N [some (.ref p), some (.str z), some (optI co), some (.int (mexF (slotsF es) : Nat)), some .non, none] H' := fun {H' t} c s n m => hN _ _ (.inl ⟨_, rfl, q c _ t ((sm_of s1).trans s) (s1.free n) m⟩)
      have caught : ∀ {d a1 : Addr} {H' : Hp}, sl ≤ ((mexF (slotsF es) : Nat) : Int) → Same H1 H' → H' d = some (flX sl) → H' a1 = none → N [some (.ref p), some (.str z), some (optI co), some .non, some (.ref a1), none] (upd H' a1 (CauO (.ref CF) (some d) a1)) := fun {d a1 H'} c s hd na =>
        hN _ _ (.inr ⟨c, d, a1, _, rfl, (s1.trans s).trans (same_upd na), same_upd na _ _ hd, upd_same⟩)
      cases co with
      | none =>
        refine ⟨_, rfl, rfl, _, rfl, iteT ?_⟩
        exact ⟨_, rfl, p, dx, _, rfl, hp, l1, _, rfl, p, hd, ho, sl, es, z, 8, rfl, M1, l, b, fun c H' t s n m => fine c s n m, fun c d H' s n h => ⟨Z.te, fun a na => ⟨_, rfl, caught c s h na⟩⟩⟩
      | some co =>
        refine ⟨_, rfl, rfl, _, rfl, iteF ?_⟩
        exact ⟨_, rfl, p, dx, _, rfl, hp, l1, _, rfl, _, rfl, p, hd, ho, sl, es, z, co, rfl, M1, l, b, fun c H' t s n m => fine c s n m, fun c d H' s n h => ⟨Z.te, fun a na => ⟨_, rfl, caught c s h na⟩⟩⟩
    rcases h with ⟨v5, rfl, q⟩ | ⟨c, d, a1, v5, rfl, s, hd, ha⟩
    · exact ⟨_, rfl, rfl, _, rfl, iteT ⟨_, rfl, q⟩⟩
    · refine ⟨_, rfl, rfl, _, rfl, iteF ?_⟩
      refine ⟨_, rfl, a1, CF, d, _, _, _, true, rfl, ha, hd, Z.ex, .own CF, Z.o1, _, rfl, ?_⟩
      refine iteF ?_
      refine ⟨_, rfl, (by show 4 ≤ sizeLine; decide), fun t nt => ?_⟩
      have s2 := same_upd (o := .tup [.ref cR, .ref cB, .ref cN, .ref CS]) nt
      have ha := s2 _ _ ha
      have hd := s2 _ _ hd
      have s := s.trans s2
      refine ⟨a1, CF, d, t, _, _, _, false, rfl, ha, hd, Z.ex, upd_same, .cons (.own cR) (.cons (.own cB) (.cons (.own cN) (.cons (.own CS) .nil))), Z.o2, _, rfl, ?_⟩
      refine iteF ?_
      refine ⟨_, rfl, a1, CF, d, _, _, _, true, rfl, ha, hd, Z.ex, .ty "ValueError", Z.o3, _, rfl, iteT ?_⟩
      refine ⟨_, rfl, a1, d, _, .int sl, rfl, ha, hd, rfl, (by show 2 ≤ sizeLine; decide), fun l nl => ?_⟩
      exact qe c _ _ (s.trans (same_upd nl)) (.tup (.inl (.inl upd_same)) (.cons (.str _) (.cons (.int _) .nil)))

end
end Pot

namespace Pot
open PySem PySem.Spec PyProof.Rows L2
section
variable {P : Program} {w : World} {K : PySem.W.Frag} {mg : Str → Option Value} {base : Heap}
theorem nm_perm (es : List En) (ho : Int) (z : Str) : (nmF (rowsF es ho) z).Perm (nmF es z) := ((rows_perm es ho).filter _).map _
theorem nm_rows {es : List En} {ho : Int} {z : Str} {ns : List Int} (nd : (slotsF es).Nodup) (pm : ns.Perm ((nmF es z).map fun j : Nat => (j : Int))) (so : ns.Pairwise (· ≤ ·)) : ns = (nmF (rowsF es ho) z).map fun j : Nat => (j : Int) := by
  refine List.Perm.eq_of_pairwise (le := fun a b : Int => a ≤ b) (fun a b _ _ h1 h2 => Int.le_antisymm h1 h2) so ?_ (pm.trans ((nm_perm es ho z).symm.map _))
  unfold nmF
  rw [List.pairwise_map, List.pairwise_map]
  exact ((rows_lt nd).sublist List.filter_sublist).imp fun h => by omega
/-- what is told of the slots of a name -/
def soD (es : List En) (ho : Int) (z : Str) : PyData := if nmF (rowsF es ho) z = [] then .tuple [.str "piece", .str z] else .list (((nmF (rowsF es ho) z).map fun j : Nat => (j : Int)).map PyData.int)
/-- what isinstance tells of a NoSuch -/
structure OthS (K : PySem.W.Frag) (mg : Str → Option Value) (C cH : Addr) : Prop where
  gC : mg "NoSuch" = some (.ref C)
  gH : mg "HallError" = some (.ref cH)
  gV : mg "ValueError" = none
  gL : mg "LookupError" = none
  te : PySem.W.exmOne K (.ref C) (.ref C) = some true
  ex : ExcC K C
  xf : XfC K C
  wh : PySem.W.findIn K (.ref C) "what" = some none
  nm : PySem.W.findIn K (.ref C) "name" = some none
  o1 : PySem.W.kitOne K (.ref C) (.type "LookupError") = some true
  o2 : PySem.W.kitAny K (.ref C) [.ref cH, .type "ValueError"] = some false
abbrev s__law_slots_of : Stmt := topS 20
def n__law_slots_of : List Str := ["_law_tunnel", "_law_name", "_law_told", "_law_caught", "refusal"]
theorem sc__law_slots_of : FnScope n__law_slots_of ["_law_tunnel", "_law_name"] (defScope s__law_slots_of) := ⟨rfl, rfl, rfl, by decide +kernel, rfl, by decide +kernel, by decide +kernel⟩
def spSof (K : PySem.W.Frag) (C : Addr) : Sp := fun vs H Q _ => ∃ (p hd : Addr) (hr sl : Int) (es : List En) (z : Str), vs = [.ref p, .str z] ∧ TnAt C H p hd hr sl es ∧ es.length ≤ 60 ∧
  ∀ (H' : Hp) (x : V), Same H H' → (∀ S : List Addr, Live S H → Dp K (off H' S) x (soD es hr z)) → (nmF (rowsF es hr) z ≠ [] → ∃ R, x = .ref R ∧ H R = none ∧ H' R = some (.lst (((nmF (rowsF es hr) z).map fun j : Nat => (j : Int)).map V.int))) → Q x H'
theorem ok_sof {C CF CS cH f : Addr} {fd : FuncData} {k : Nat} (F : Fun K "_law_slots_of" "_law_slots_of" s__law_slots_of f fd) (T : Txt mg) (O : TunC P w K mg base C CF CS) (Y : OthS K mg CS cH) : FnOk P w K mg base CX0 (k + 4) f fd ["_law_tunnel", "_law_name"] (spSof K C) := by
  refine F.ok sc__law_slots_of (fun vs H Q E h => ?_) (fun cdv A outer s H vs Q E hr h => ?_)
  · obtain ⟨p, hd, ho, sl, es, z, rfl, _⟩ := h
    rfl
  · obtain ⟨p, hd, ho, sl, es, z, rfl, M, l, q⟩ := h
    have nd := sc__law_slots_of.nd
    have hu64 := hr.units
    have m_Tunnel_slot_of := O.sof
    have gl_HallError := Y.gH
    have gl_NoSuch := Y.gC
    have gb_ValueError := Y.gV
    have gb_LookupError := Y.gL
    have xf_NoSuch := Y.xf
    have fn_NoSuch_what := Y.wh
    have fn_NoSuch_name := Y.nm
    let CTunnel := C
    let CHallError := cH
    let CNoSuch := CS
    /- 0 _law_tunnel, 1 _law_name, 2 _law_told, 3 _law_caught, 4 refusal -/
    refine ⟨_, (pss_cons (ps_asg (pe_tup (pa_cons pe_non (pa_cons pe_non pa_nil))) (kg_tup (K := K) (n := 2) (pgs_cons (pg_name (i := 2) nd rfl (.inl rfl)) (pgs_cons (pg_name (i := 3) nd rfl (.inl rfl)) pgs_nil))))
      (pss_cons (ps_try_keep (i := 4) (ts := fun _ => tAsg (tVar 4) (gName 3)) rfl rfl rfl nd rfl rfl ⟨rfl, by decide, .inl gl_NoSuch⟩
            (fun W pn xe tk po => (pss_one (ps_set (i := 2) nd rfl (.inl rfl) (pe_omx m_Tunnel_slot_of hr (by omega) tk (pv 0) (pa_cons (pv 1) pa_nil)))))
            (fun a pn => pss_one (ps_set (i := 3) nd rfl (.inl rfl) (pv 4))))
      (pss_cons (ps_if (pt_cmpR op_isN (pv 3) pe_non (nomark _))
          (pss_one (ps_ret (pv 2)))
          pss_nil)
      (pss_cons (ps_if ((pw_or (pt_not (pt_val (pe_callB (kc_isD (K := K)) (by rfl) T.isinstance (by decide +kernel) (pa_cons (pv 3) (pa_cons (pe_bltn (v := .ty "LookupError") (by rfl) gb_LookupError (by decide +kernel) rfl) pa_nil))))) (pw_or1 (pt_val (pe_callB (kc_isDT (K := K)) (by rfl) T.isinstance (by decide +kernel) (pa_cons (pv 3) (pa_cons (pe_tup (pa_cons (pe_glob (v := .ref CHallError) (by rfl) gl_HallError rfl) (pa_cons (pe_bltn (v := .ty "ValueError") (by rfl) gb_ValueError (by decide +kernel) rfl) pa_nil))) pa_nil))))))).pt
          (pss_one (ps_ret pe_str))
          pss_nil)
      (pss_one (ps_ret (pe_tup (pa_cons (pe_kf xf_NoSuch fn_NoSuch_what (pv 3)) (pa_cons (pe_kf xf_NoSuch fn_NoSuch_name (pv 3)) pa_nil))))))))), ?_⟩
    refine ⟨(by show 2 ≤ sizeLine; decide), fun t0 nt0 => ⟨t0, _, rfl, .inl (.inl upd_same), rfl, _, _, rfl, _, _, rfl, rfl, ?_⟩⟩
    have s1 := same_upd (o := .tup [V.non, V.non]) nt0
    generalize upd H t0 (.tup [V.non, V.non]) = H1 at s1 ⊢
    have M1 := M.same s1
    obtain ⟨dx, hp⟩ := M1.ob
    refine seq_mid (fun σ Hx => σ = [some (.ref p), some (.str z), some .non, some .non, none] ∧ H1 = Hx) (fun N hN => hN _ _ ⟨rfl, rfl⟩) (fun σ H0 h => ?_)
    obtain ⟨rfl, rfl⟩ := h
    have e0 : nmF (rowsF es ho) z = [] ↔ nmF es z = [] := ⟨fun e => by have := (nm_perm es ho z).length_eq; rw [e] at this; exact List.eq_nil_of_length_eq_zero this.symm, fun e => by have := (nm_perm es ho z).length_eq; rw [e] at this; exact List.eq_nil_of_length_eq_zero this⟩
    refine seq_mid (fun σ Hx => (∃ v4 x, σ = [some (.ref p), some (.str z), some x, some .non, v4] ∧ Q x Hx) ∨ (nmF (rowsF es ho) z = [] ∧ ∃ d a1 v4, σ = [some (.ref p), some (.str z), some .non, some (.ref a1), v4] ∧ Same H Hx ∧ Hx d = some (.xd [("name", .str z), ("what", .str "piece")]) ∧ Hx a1 = some (CauO (.ref CS) (some d) a1))) (fun N hN => ?_) (fun σ Hx h => ?_)
    · have l1 : (tnF hd ho sl).lookup ("slot_of" : Str) = none := tf_no (by decide +kernel) (by decide +kernel) (by decide +kernel)
      refine ⟨_, rfl, p, dx, _, rfl, hp, l1, _, rfl, p, hd, ho, sl, es, z, rfl, M1, l, fun c H' R ns s nR hR pm so => ?_, fun c d H' s n h => ⟨Y.te, fun a na => ⟨_, rfl, ?_⟩⟩⟩
      · refine hN _ _ (.inl ⟨_, .ref R, rfl, q _ _ (s1.trans s) (fun S lv => ?_) ?_⟩)
        · unfold soD
          rw [if_neg fun e => c (e0.mp e), ← nm_rows M.nd pm so]
          exact .lst (SqL.of ((off_out fun z => lv _ z (s1.free nR)).trans hR)) (dp_ints _)
        · exact fun _ => ⟨R, rfl, s1.free nR, by rw [← nm_rows M.nd pm so]; exact hR⟩
      · exact hN _ _ (.inr ⟨e0.mpr c, d, a, _, rfl, (s1.trans s).trans (same_upd na), same_upd na _ _ h, upd_same⟩)
    rcases h with ⟨v5, x, rfl, q⟩ | ⟨c, d, a1, v5, rfl, s, hd, ha⟩
    · exact ⟨_, rfl, rfl, _, rfl, iteT ⟨_, rfl, q⟩⟩
    · refine ⟨_, rfl, rfl, _, rfl, iteF ?_⟩
      refine ⟨_, rfl, a1, CS, d, _, _, _, true, rfl, ha, hd, Y.ex, .ty "LookupError", Y.o1, _, rfl, ?_⟩
      refine iteF ?_
      refine ⟨_, rfl, (by show 2 ≤ sizeLine; decide), fun t nt => ?_⟩
      have s2 := same_upd (o := .tup [.ref cH, .ty "ValueError"]) nt
      have ha := s2 _ _ ha
      have hd := s2 _ _ hd
      have s := s.trans s2
      refine ⟨a1, CS, d, t, _, _, _, false, rfl, ha, hd, Y.ex, upd_same, .cons (.own cH) (.cons (.ty "ValueError") .nil), Y.o2, _, rfl, ?_⟩
      refine iteF ?_
      refine ⟨_, rfl, a1, d, _, .str "piece", rfl, ha, hd, (by rw [List.lookup_cons, (by decide +kernel : (("what" : Str) == ("name" : Str)) = false)]; rfl), _, rfl, a1, d, _, .str z, rfl, ha, hd, rfl, (by show 2 ≤ sizeLine; decide), fun l nl => ?_⟩
      refine q _ _ (s.trans (same_upd nl)) (fun S lv => ?_) fun h => absurd c h
      unfold soD
      rw [if_pos c]
      exact .tup (.inl (.inl ((off_out fun z => lv _ z (s.free nl)).trans upd_same))) (.cons (.str _) (.cons (.str _) .nil))

end
end Pot

namespace Pot
open PySem PySem.Spec PyProof.Rows L2
section
variable {P : Program} {w : World} {K : PySem.W.Frag} {mg : Str → Option Value} {base : Heap}
/-! ### alike but for where the pairs stand -/
def z0 (e : En) : En := (e.1, e.2.1, e.2.2.1, 0)
def Al (es fs : List En) : Prop := es.map z0 = fs.map z0
theorem rows_z0 (es : List En) (ho : Int) : (rowsF es ho).map z0 = rowsF (es.map z0) ho := List.map_mergeSort fun _ _ _ _ => rfl
theorem al_in {es fs : List En} (h : Al es fs) (ho : Int) : (rowsF es ho).map (fun e => inD e ho) = (rowsF fs ho).map fun e => inD e ho := by
  have k : ∀ gs : List En, (rowsF gs ho).map (fun e => inD e ho) = (rowsF (gs.map z0) ho).map fun e => inD e ho := fun gs => by
    rw [← rows_z0, List.map_map]; rfl
  rw [k es, k fs, h]
theorem al_nm {es fs : List En} (h : Al es fs) (ho : Int) (z : Str) : nmF (rowsF es ho) z = nmF (rowsF fs ho) z := by
  have k : ∀ gs : List En, nmF (rowsF gs ho) z = nmF (rowsF (gs.map z0) ho) z := fun gs => by
    rw [← rows_z0]
    unfold nmF
    rw [List.filter_map, List.map_map]
    rfl
  rw [k es, k fs, h]
theorem al_so {es fs : List En} (h : Al es fs) (ho : Int) (z : Str) : soD es ho z = soD fs ho z := by
  unfold soD
  rw [al_nm h]
theorem al_len {es fs : List En} (h : Al es fs) : es.length = fs.length := by
  have := congrArg List.length h
  rwa [List.length_map, List.length_map] at this
theorem al_slots {es fs : List En} (h : Al es fs) : slotsF es = slotsF fs := by
  have := congrArg (List.map fun e : En => e.1) h
  rwa [List.map_map, List.map_map] at this
theorem al_add {es fs : List En} (h : Al es fs) (e f : En) (k : z0 e = z0 f) : Al (es ++ [e]) (fs ++ [f]) := by
  unfold Al
  rw [List.map_append, List.map_append, h]
  show _ ++ [z0 e] = _ ++ [z0 f]
  rw [k]
theorem al_stay {es fs : List En} (h : Al es fs) (m : Int) : Al (stay es m) (stay fs m) := by
  have k : ∀ gs : List En, (stay gs m).map z0 = stay (gs.map z0) m := fun gs => by
    unfold stay
    rw [List.filter_map]; rfl
  unfold Al
  rw [k, k, h]
theorem al_outs {es fs : List En} (h : Al es fs) (m : Int) : ((outs es m).mergeSort (PySem.W.dataLe false goD)).map goD = ((outs fs m).mergeSort (PySem.W.dataLe false goD)).map goD := by
  have k : ∀ gs : List En, ((outs gs m).mergeSort (PySem.W.dataLe false goD)).map goD = ((outs (gs.map z0) m).mergeSort (PySem.W.dataLe false goD)).map goD := fun gs => by
    have e : outs (gs.map z0) m = (outs gs m).map z0 := by unfold outs; rw [List.filter_map]; rfl
    rw [e, ← List.map_mergeSort (r := PySem.W.dataLe false goD) (s := PySem.W.dataLe false goD) (f := z0) fun _ _ _ _ => rfl, List.map_map]
    rfl
  rw [k es, k fs, h]
theorem gd_ex : ∀ {ds : List PyData}, (∀ d ∈ ds, ∃ m, gd m d) → ∃ m, gdAll m ds
  | [], _ => ⟨0, trivial⟩
  | d :: ds, h => by
    obtain ⟨m, hm⟩ := h d List.mem_cons_self
    obtain ⟨n, hn⟩ := gd_ex fun e he => h e (List.mem_cons_of_mem _ he)
    exact ⟨m + n, gd_mono (Nat.le_add_right _ _) _ hm, gdAll_mono (Nat.le_add_left _ _) _ hn⟩
theorem wd_gd {z : Str} (h : Nw z) (m : Nat) : gd m (.str z) := ⟨Nat.le_trans h.1 (by decide), fun c hc => by have := (h.2 c hc).2; omega⟩
def stD (es : List En) (ho : Int) (ys : List Str) : PyData := .list [.list ((rowsF es ho).map fun e => inD e ho), .int ho, .int (es.length : Nat), .list (ys.map fun z => soD es ho z)]
theorem in_gd {e : En} {ho : Int} (h : Nw e.2.1) : ∃ m, gd m (inD e ho) := ⟨e.1 + (e.2.2.1 - ho).natAbs, by show Int.natAbs _ ≤ _; omega, wd_gd h _, by show Int.natAbs _ ≤ _; omega, trivial⟩
theorem soints_gd (ns : List Int) : ∃ m, gdAll m (ns.map PyData.int) := gd_ex fun d hd => by
  obtain ⟨n, _, rfl⟩ := List.mem_map.mp hd
  exact ⟨n.natAbs, Nat.le_refl _⟩
theorem so_gd {es : List En} {ho : Int} {z : Str} (h : Nw z) : ∃ m, gd m (soD es ho z) := by
  unfold soD
  split
  · exact ⟨0, ⟨by decide +kernel, codes_ofString _⟩, wd_gd h 0, trivial⟩
  · obtain ⟨m, hm⟩ := soints_gd ((nmF (rowsF es ho) z).map fun j : Nat => (j : Int))
    exact ⟨m, hm⟩
theorem st_gd {es : List En} {ho : Int} {ys : List Str} (ne : ∀ e ∈ es, Nw e.2.1) (ny : ∀ y ∈ ys, Nw y) : ∃ m, gd m (stD es ho ys) := by
  have : ∃ m, gdAll m [.list ((rowsF es ho).map fun e => inD e ho), .int ho, .int (es.length : Nat), .list (ys.map fun z => soD es ho z)] := gd_ex fun d hd => by
    rcases List.mem_cons.mp hd with rfl | hd
    · obtain ⟨m, hm⟩ : ∃ m, gdAll m ((rowsF es ho).map fun e => inD e ho) := gd_ex fun d hd => by
        obtain ⟨e, he, rfl⟩ := List.mem_map.mp hd
        exact in_gd (ne e ((rows_perm es ho).mem_iff.mp he))
      exact ⟨m, hm⟩
    rcases List.mem_cons.mp hd with rfl | hd
    · exact ⟨ho.natAbs, Nat.le_refl _⟩
    rcases List.mem_cons.mp hd with rfl | hd
    · exact ⟨es.length, by show Int.natAbs _ ≤ _; omega⟩
    rw [List.mem_singleton.mp hd]
    obtain ⟨m, hm⟩ : ∃ m, gdAll m (ys.map fun z => soD es ho z) := gd_ex fun d hd => by
      obtain ⟨z, hz, rfl⟩ := List.mem_map.mp hd
      exact so_gd (ny z hz)
    exact ⟨m, hm⟩
  exact this
theorem in_dep1 (e : En) (ho : Int) : (inD e ho).depth ≤ 1 := by show max 0 (max 0 (max 0 0)) + 1 ≤ 1; decide
theorem so_dep (es : List En) (ho : Int) (z : Str) : (soD es ho z).depth ≤ 1 := by
  unfold soD
  split
  · show max 0 (max 0 0) + 1 ≤ 1; decide
  · rw [depth_ints]; exact Nat.le_refl _
theorem st_dep (es : List En) (ho : Int) (ys : List Str) : (stD es ho ys).depth < 4 := by
  have : PyData.depthAll [.list ((rowsF es ho).map fun e => inD e ho), .int ho, .int (es.length : Nat), .list (ys.map fun z => soD es ho z)] ≤ 2 := depthAll_iff.mpr fun d hd => by
    rcases List.mem_cons.mp hd with rfl | hd
    · have := depthAll_map (f := fun e => inD e ho) (b := 1) (l := rowsF es ho) fun e _ => in_dep1 e ho
      show PyData.depthAll _ + 1 ≤ 2
      omega
    rcases List.mem_cons.mp hd with rfl | hd
    · exact Nat.zero_le _
    rcases List.mem_cons.mp hd with rfl | hd
    · exact Nat.zero_le _
    rw [List.mem_singleton.mp hd]
    have := depthAll_map (f := fun z => soD es ho z) (b := 1) (l := ys) fun z _ => so_dep es ho z
    show PyData.depthAll _ + 1 ≤ 2
    omega
  show PyData.depthAll _ + 1 < 4
  omega
theorem in_wid (e : En) (ho : Int) : widAll.wid (inD e ho) ≤ 1000 := by show max 3 (max 0 (max 0 (max 0 0))) ≤ 1000; decide
theorem so_wid {es : List En} {ho : Int} {z : Str} (l : es.length ≤ 60) : widAll.wid (soD es ho z) ≤ 1000 := by
  unfold soD
  split
  · show max 2 (max 0 (max 0 0)) ≤ 1000; decide
  · have ln : ((nmF (rowsF es ho) z).map fun j : Nat => (j : Int)).length ≤ 60 := by
      rw [List.length_map]
      unfold nmF
      rw [List.length_map]
      refine Nat.le_trans (List.length_filter_le _ _) ?_
      rw [(rows_perm es ho).length_eq]; exact l
    show max (List.map PyData.int _).length (widAll (List.map PyData.int _)) ≤ 1000
    refine Nat.max_le.mpr ⟨by rw [List.length_map]; omega, widAll_iff.mpr fun e he => ?_⟩
    obtain ⟨n, _, rfl⟩ := List.mem_map.mp he
    exact Nat.zero_le _
theorem st_wid {es : List En} {ho : Int} {ys : List Str} (l : es.length ≤ 60) (ly : ys.length ≤ 60) : widAll.wid (stD es ho ys) ≤ 1000 := by
  show max 4 (widAll _) ≤ 1000
  refine Nat.max_le.mpr ⟨by decide, widAll_iff.mpr fun d hd => ?_⟩
  rcases List.mem_cons.mp hd with rfl | hd
  · show max (List.map _ (rowsF es ho)).length (widAll _) ≤ 1000
    refine Nat.max_le.mpr ⟨by rw [List.length_map, (rows_perm es ho).length_eq]; omega, widAll_iff.mpr fun e he => ?_⟩
    obtain ⟨n, _, rfl⟩ := List.mem_map.mp he
    exact in_wid n ho
  rcases List.mem_cons.mp hd with rfl | hd
  · exact Nat.zero_le _
  rcases List.mem_cons.mp hd with rfl | hd
  · exact Nat.zero_le _
  rw [List.mem_singleton.mp hd]
  show max (List.map _ ys).length (widAll _) ≤ 1000
  refine Nat.max_le.mpr ⟨by rw [List.length_map]; omega, widAll_iff.mpr fun e he => ?_⟩
  obtain ⟨n, _, rfl⟩ := List.mem_map.mp he
  exact so_wid l

abbrev s__law_stands : Stmt := topS 21
def n__law_stands : List Str := ["_law_tunnel", "_law_own", "_law_names_here", "_law_name", "_law_found", "_law_lying", "_law_due", "_law_some", "_law_slot"]
theorem sc__law_stands : FnScope n__law_stands ["_law_tunnel", "_law_own", "_law_names_here"] (defScope s__law_stands) := ⟨rfl, rfl, rfl, by decide +kernel, rfl, by decide +kernel, by decide +kernel⟩
def spSt (K : PySem.W.Frag) (C : Addr) : Sp := fun vs H Q _ => ∃ (p hd o ld L : Addr) (hr sl : Int) (es fs : List En) (ys : List Str), vs = [.ref p, .ref o, .ref L] ∧ TnAt C H p hd hr sl es ∧ OwAt H o ld hr sl fs ∧ Al es fs ∧ es.length ≤ 60 ∧ H L = some (.lst (ys.map V.str)) ∧ ys.length ≤ 60 ∧ (∀ y ∈ ys, Nw y) ∧ (∀ e ∈ es, Nw e.2.1) ∧
  ∀ H', Same H H' → Q (.bl true) H'
set_option maxHeartbeats 1000000 in
theorem ok_st {C CF CS f : Addr} {fd : FuncData} {k : Nat} (F : Fun K "_law_stands" "_law_stands" s__law_stands f fd) (T : Txt mg) (O : TunC P w K mg base C CF CS) (c__law_same : Cl P w K mg base 5 "_law_same" (spSame K 4)) (c__law_inside : Cl P w K mg base 1 "_law_inside" (spLI K)) (c__law_slots_of : Cl P w K mg base 4 "_law_slots_of" (spSof K C)) : FnOk P w K mg base CX0 (k + 6) f fd ["_law_tunnel", "_law_own", "_law_names_here"] (spSt K C) := by
  refine F.ok sc__law_stands (fun vs H Q E h => ?_) (fun cdv A outer s H vs Q E hr h => ?_)
  · obtain ⟨p, hd, o, ld, L, hr, sl, es, fs, ys, rfl, _⟩ := h
    rfl
  · obtain ⟨p, hd, o, ld, L, ho, sl, es, fs, ys, rfl, M, W, al, l, hL, ly, ny, ne, q⟩ := h
    have nd := sc__law_stands.nd
    have hu := hu_of hr
    have hu64 := hr.units
    have m_Tunnel_inside := O.inside
    have m_Tunnel_now := O.now
    have len_Tunnel := O.len
    let CTunnel := C
    /- 0 _law_tunnel, 1 _law_own, 2 _law_names_here, 3 _law_name, 4 _law_found, 5 _law_lying, 6 _law_due, 7 _law_some, 8 _law_slot -/
    refine ⟨_, (pss_cons (ps_set (i := 4) nd rfl (.inl rfl) (pe_lst (pa_cons (pe_omt0 m_Tunnel_inside hr (by omega) (pv 0)) (pa_cons (pe_omt0 m_Tunnel_now hr (by omega) (pv 0)) (pa_cons (pe_callB (kc_lenI len_Tunnel hr (by omega)) (by rfl) T.len PySem.boot_len (pa_cons (pv 0) pa_nil)) (pa_cons (pe_lc (own := [("_law_name", 3)]) rfl nd (ki_list (K := K) (pv 2)) (blkOk_by (N := n__law_stands) (sc := defScope s__law_stands) (by decide +kernel)) (fun _ _ _ _ _ => (pg_name (i := 3) nd rfl (.inl rfl))) (fun _ _ _ _ _ => pts_nil) (fun _ _ _ _ _ => (pe_cl c__law_slots_of hr (by omega) (by rfl) (pa_cons (pv 0) (pa_cons (pv 3) pa_nil))))) pa_nil))))))
      (pss_cons (ps_asg (pe_tup (pa_cons (pe_dget hu (pv 1) pe_str (fun _ _ => rfl)) (pa_cons (pe_lst (pa_cons (pe_cl c__law_inside hr (by omega) (by rfl) (pa_cons (pv 1) pa_nil)) (pa_cons (pe_dget hu (pv 1) pe_str (fun _ _ => rfl)) (pa_cons (pe_callB call_lenD (by rfl) T.len PySem.boot_len (pa_cons (pe_dget hu (pv 1) pe_str (fun _ _ => rfl)) pa_nil)) (pa_cons (pe_lst pa_nil) pa_nil))))) pa_nil))) (kg_tup (K := K) (n := 2) (pgs_cons (pg_name (i := 5) nd rfl (.inr rfl)) (pgs_cons (pg_name (i := 6) nd rfl (.inl rfl)) pgs_nil))))
      (pss_cons (ps_for PassesOwn.never rfl (ki_list (K := K) (pv 2)) (pg_name (i := 3) nd rfl (.inr rfl))
          (pss_cons (ps_setLc (i := 7) (own := [("_law_slot", 8)]) rfl nd rfl rfl (sw_true rfl rfl rfl (by decide +kernel)) (ki_list (K := K) (pe_callB kc_sortedDI (by rfl) T.sorted (by decide +kernel) (pa_cons (pv 5) pa_nil))) (blkOk_by (N := n__law_stands) (sc := defScope s__law_stands) (by decide +kernel)) (fun _ _ _ _ _ => (pg_name (i := 8) nd rfl (.inl rfl))) (fun _ _ _ _ _ => (pts_one (pt_cmpR op_eq (pe_ix (kx_tup (K := K)) (pe_dget hu (pv 5) (pv 8) (fun _ _ => rfl)) pe_int (fun _ _ => rfl)) (pv 3) (nomark _)))) (fun _ _ _ _ _ => (pv 8)))
          (pss_one (ps_expr (pe_bm PySem.F.plainAttrs_list PySem.F.slot_list_append PySem.F.type_list_append mt_append (pe_ix (kx_list (K := K)) (pv 6) pe_int (fun _ _ => rfl)) (pa_cons (pe_ifExp (pt_cmpR (ko_ne (K := K) hu64) (pv 7) (pe_lst pa_nil) (nomark _)) (pv 7) (pe_tup (pa_cons pe_str (pa_cons (pv 3) pa_nil)))) pa_nil))))))
      (pss_one (ps_ret (pe_cl c__law_same hr (by omega) (by rfl) (pa_cons (pv 4) (pa_cons (pv 6) pa_nil)))))))), ?_⟩
    obtain ⟨dx, hp⟩ := M.ob
    have li : (tnF hd ho sl).lookup ("inside" : Str) = none := tf_no (by decide +kernel) (by decide +kernel) (by decide +kernel)
    have ln : (tnF hd ho sl).lookup ("now" : Str) = none := tf_no (by decide +kernel) (by decide +kernel) (by decide +kernel)
    refine ⟨_, rfl, p, dx, _, rfl, hp, li, p, hd, ho, sl, es, rfl, M, by omega, fun H1 R1 us s1 n1 h1 d1 => ?_⟩
    have M1 := M.same s1
    have hp1 := s1 _ _ hp
    have d1 := dpAll_same off_sub d1
    refine ⟨_, rfl, p, dx, _, rfl, hp1, ln, p, hd, ho, sl, es, rfl, M1, ?_⟩
    refine ⟨_, rfl, p, dx, _, rfl, hp1, p, hd, ho, sl, es, rfl, M1, ?_⟩
    refine ⟨es.length, rfl, by omega, ?_⟩
    have hL1 : SqL K H1 L (ys.map V.str) := SqL.of (s1 _ _ hL)
    refine ⟨_, rfl, L, rfl, ⟨_, hL1⟩, fun D nD => ?_⟩
    refine lc_it (walk_list (xs := ys.map V.str)) (fun j Hx => Same H1 Hx ∧ ∃ us, Hx D = some (.lst us) ∧ us.length = j ∧ DpAll K (off Hx [D]) us ((ys.take j).map fun z => soD es ho z)) ⟨same_upd nD, [], upd_same, rfl, .nil⟩ (fun j Hx _ h => h.1.seq hL1) ?_ ?_
    · rintro j y _ Hx hj ⟨sx, vs, hD, lv, dv⟩ ⟨rfl, gj⟩
      rw [List.length_map] at hj
      rw [List.getElem?_map] at gj
      obtain ⟨z, gz, rfl⟩ := Option.map_eq_some_iff.mp gj
      refine ⟨rfl, tYes_at ?_⟩
      rw [if_pos rfl]
      refine ⟨_, rfl, _, rfl, p, hd, ho, sl, es, z, rfl, M1.same sx, l, fun H' x s2 dxx _ => ?_⟩
      have lvR : Live [D] Hx := fun x hx e => by rw [List.mem_singleton.mp hx, hD] at e; cases e
      refine ⟨vs, s2 _ _ hD, by rw [lv, sizeLine_eq]; omega, same_put (sx.trans s2) nD, vs ++ [x], upd_same, by rw [List.length_append, lv]; rfl, ?_⟩
      rw [List.take_add_one, gz, List.map_append]
      exact dpAll_same (sm_wr (by simp)) (dpAll_app' (dpAll_same (sm_of s2) dv) (.cons (dxx [D] lvR) .nil))
    rintro H2 ⟨s2, vs, hD, lv, dv⟩
    rw [List.length_map] at lv
    rw [List.length_map, List.take_of_length_le (Nat.le_refl _)] at dv
    refine ⟨(by show 4 ≤ sizeLine; decide), fun G nG => ?_⟩
    simp only [gName, List.set]
    have d2 := dpAll_same s2 d1
    have hR2 := s2 _ _ h1
    have dv := dpAll_same off_sub dv
    have s3 := same_upd (o := .lst [.ref R1, .int ho, .int (es.length : Nat), .ref D]) nG
    have hG : upd H2 G (.lst [.ref R1, .int ho, .int (es.length : Nat), .ref D]) G = some (.lst [.ref R1, .int ho, .int (es.length : Nat), .ref D]) := upd_same
    have hD := s3 _ _ hD
    have dv := dpAll_same s3 dv
    have hR := s3 _ _ hR2
    have d2 := dpAll_same s3 d2
    have sa := (s1.trans s2).trans s3
    have dG : Dp K (upd H2 G (.lst [.ref R1, .int ho, .int (es.length : Nat), .ref D])) (.ref G) (.list [.list ((rowsF es ho).map fun e => inD e ho), .int ho, .int (es.length : Nat), .list (ys.map fun z => soD es ho z)]) := .lst (SqL.of hG) (.cons (.lst (SqL.of hR) d2) (.cons (.int _) (.cons (.int _) (.cons (.lst (SqL.of hD) dv) .nil))))
    generalize upd H2 G (.lst [.ref R1, .int ho, .int (es.length : Nat), .ref D]) = H3 at sa dG ⊢
    clear hG hD hR d2 dv hR2 s3
    have W3 := W.same sa
    have lf : fs.length ≤ 60 := by rw [← al_len al]; exact l
    have hL3 := sa _ _ hL
    refine ⟨_, rfl, o, _, rfl, W3.gL, _, rfl, o, ld, ho, sl, fs, rfl, W3, lf, fun H4 R4 us4 s4 n4 h4 d4 => ?_⟩
    have W4 := W3.same s4
    refine ⟨_, rfl, o, _, rfl, W4.gN, _, rfl, o, _, rfl, W4.gL, ld, _, rfl, W4.di, Nat.zero_le _, fun Y nY => ⟨(by show 4 ≤ sizeLine; decide), fun D2 nD2 => ?_⟩⟩
    rw [enK_len]
    have nY3 := s4.free nY
    have R4Y0 : R4 ≠ Y := fun e => by rw [e, nY] at h4; cases h4
    have s5 := same_upd (o := .lst []) nY
    have hY : upd H4 Y (.lst []) Y = some (.lst []) := upd_same
    have d4 := dpAll_same s5 (dpAll_same off_sub d4)
    have h4 := s5 _ _ h4
    have sb := s4.trans s5
    generalize upd H4 Y (.lst []) = H5 at sb hY d4 h4 nD2 ⊢
    clear s5 s4
    have s5 := same_upd (o := .lst [.ref R4, .int ho, .int (fs.length : Nat), .ref Y]) nD2
    have hD2 : upd H5 D2 (.lst [.ref R4, .int ho, .int (fs.length : Nat), .ref Y]) D2 = some (.lst [.ref R4, .int ho, .int (fs.length : Nat), .ref Y]) := upd_same
    have hY := s5 _ _ hY
    have d4 := dpAll_same s5 d4
    have h4 := s5 _ _ h4
    have sb := sb.trans s5
    refine ⟨(by show 2 ≤ sizeLine; decide), fun t nt => ?_⟩
    generalize upd H5 D2 (.lst [.ref R4, .int ho, .int (fs.length : Nat), .ref Y]) = H6 at sb hY hD2 d4 h4 nt ⊢
    clear s5
    have s5 := same_upd (o := .tup [.ref ld, .ref D2]) nt
    refine ⟨t, _, rfl, .inl (.inl upd_same), rfl, _, _, rfl, _, _, rfl, rfl, ?_⟩
    have hY := s5 _ _ hY
    have hD2 := s5 _ _ hD2
    have d4 := dpAll_same s5 d4
    have h4 := s5 _ _ h4
    have sb := sb.trans s5
    show tSeq _ _ _ _ (upd H6 t (.tup [.ref ld, .ref D2]))
    generalize upd H6 t (.tup [.ref ld, .ref D2]) = H7 at sb hY hD2 d4 h4 ⊢
    clear s5
    have hL7 := sb _ _ hL3
    have W7 := W3.same sb
    have hL7' := hL7
    have LY : L ≠ Y := ne_of_none hL3 nY3
    have oY : o ≠ Y := ne_of_none W3.ob nY3
    have dY : ld ≠ Y := ne_of_none W3.di nY3
    have D2Y : D2 ≠ Y := fun e => by rw [e, hY] at hD2; cases hD2
    have lr : (rowsF fs ho).length = fs.length := (rows_perm fs ho).length_eq
    have e2 : ∀ (i : Nat) (e0 : En) (z : Str), (rowsF fs ho)[i]? = some e0 → nmF ((rowsF fs ho).take (i + 1)) z = nmF ((rowsF fs ho).take i) z ++ (if e0.2.1 = z then [e0.1] else []) := fun i e0 z gl => by
      unfold nmF
      rw [List.take_add_one, gl, List.filter_append, List.map_append]
      show _ ++ List.map _ (List.filter _ [e0]) = _
      by_cases c : e0.2.1 = z
      · rw [if_pos c, List.filter_cons_of_pos (p := fun e : En => decide (e.2.1 = z)) (decide_eq_true c)]; rfl
      · rw [if_neg c, List.filter_cons_of_neg (p := fun e : En => decide (e.2.1 = z)) (fun q => c (of_decide_eq_true q))]; rfl
    refine ⟨_, rfl, L, rfl, ⟨_, SqL.of hL7⟩, ?_⟩
    refine for_it (walk_list (xs := ys.map V.str)) (fun j σ Hx => ∃ v3 v7 v8 us, σ = [some (.ref p), some (.ref o), some (.ref L), v3, some (.ref G), some (.ref ld), some (.ref D2), v7, v8] ∧ Sm [Y] H7 Hx ∧ Hx Y = some (.lst us) ∧ us.length = j ∧ DpAll K (off Hx [Y]) us ((ys.take j).map fun z => soD fs ho z)) ⟨_, _, _, [], rfl, sm_of (Same.refl _), hY, rfl, .nil⟩ (fun j σ Hx _ h => by
        obtain ⟨_, _, _, _, _, s, _⟩ := h
        exact (SqL.of (sm1_at s LY hL7) : SqL K Hx L _)) ?_ ?_
    · rintro j y σ _ Hx hj ⟨v3, v7, v8, us, rfl, sx, hYx, lu, du⟩ ⟨rfl, gj⟩
      rw [List.length_map] at hj
      rw [List.getElem?_map] at gj
      obtain ⟨z, gz, rfl⟩ := Option.map_eq_some_iff.mp gj
      have sH : Same H3 Hx := fun b o e => sm1_at sx (ne_of_none e nY3) (sb _ _ e)
      have Wx := W3.same sH
      simp only [gName, List.set]
      refine ⟨_, rfl, ld, _, _, rfl, .inl Wx.di, enK_ks fs, by rw [List.length_map]; unfold slotsF; rw [List.length_map]; omega, fun ns p5 pm so np => ?_⟩
      have en := rows_slots (ho := ho) W3.nd pm so
      subst en
      have s6 := same_upd (o := .lst (((rowsF fs ho).map fun e => ((e.1 : Nat) : Int)).map V.int)) np
      have hp5 : upd Hx p5 (.lst (((rowsF fs ho).map fun e => ((e.1 : Nat) : Int)).map V.int)) p5 = some (.lst (((rowsF fs ho).map fun e => ((e.1 : Nat) : Int)).map V.int)) := upd_same
      have hYx := s6 _ _ hYx
      have sx := sx.trans (sm_of s6)
      have du := dpAll_same (sm_of s6) du
      have Wx := Wx.same s6
      generalize upd Hx p5 (.lst (((rowsF fs ho).map fun e => ((e.1 : Nat) : Int)).map V.int)) = Ha at hp5 hYx sx du Wx ⊢
      have hYa := hYx
      refine ⟨p5, rfl, ⟨_, SqL.of hp5⟩, fun D nD => ?_⟩
      refine lc_it (walk_list (xs := ((rowsF fs ho).map fun e => ((e.1 : Nat) : Int)).map V.int)) (fun i Hz => Same Ha Hz ∧ Hz D = some (.lst (((nmF ((rowsF fs ho).take i) z).map fun j : Nat => (j : Int)).map V.int))) ⟨same_upd nD, upd_same⟩ (fun j Hz _ h => SqL.of (h.1 _ _ hp5)) ?_ ?_
      · rintro i y _ Hz hi ⟨sz, hD⟩ ⟨rfl, gi⟩
        rw [List.length_map, List.length_map, lr] at hi
        rw [List.map_map, List.getElem?_map] at gi
        obtain ⟨e0, gl, rfl⟩ := Option.map_eq_some_iff.mp gi
        have me : e0 ∈ fs := (rows_perm fs ho).mem_iff.mp (List.mem_of_getElem? gl)
        have Wz := Wx.same sz
        have hT := Wz.en e0 me
        have gV := DGet.k (k := .inl ((e0.1 : Nat) : Int)) Wz.di
        rw [val_at Wz.nd me] at gV
        show gName 8 (V.int ((e0.1 : Nat) : Int)) _ _ _
        have ln : (nmF ((rowsF fs ho).take i) z).length ≤ 60 := by
          unfold nmF
          rw [List.length_map]
          refine Nat.le_trans (List.length_filter_le _ _) ?_
          rw [List.length_take]; omega
        refine ⟨rfl, _, rfl, _, rfl, ld, _, rfl, gV, e0.2.2.2, _, 0, _, rfl, rfl, .inl (.inl hT), rfl, _, rfl, rfl, _, rfl, ?_⟩
        rw [decS]
        refine ite2 (fun c => ?_) (fun c => ?_)
        · have c : e0.2.1 = z := of_decide_eq_true c
          refine ⟨_, rfl, _, hD, by rw [List.length_map, List.length_map, sizeLine_eq]; omega, same_put sz nD, ?_⟩
          rw [e2 i e0 z gl, if_pos c, List.map_append, List.map_append]
          exact upd_same
        · have c : ¬ e0.2.1 = z := fun q => c (decide_eq_true q)
          refine ⟨sz, ?_⟩
          rw [e2 i e0 z gl, if_neg c, List.append_nil]
          exact hD
      rintro H8 ⟨s8, hD⟩
      rw [List.length_map, List.length_map, List.take_of_length_le (Nat.le_refl _)] at hD
      simp only [gName, List.set]
      have hYx := s8 _ _ hYx
      have sx := sx.trans (sm_of s8)
      have du := dpAll_same (sm_of s8) du
      have hD2x := sm1_at sx D2Y hD2
      have DY : D ≠ Y := fun e => by rw [e, hYa] at nD; cases nD
      have shp : ∀ ns : List Int, SeqAt.shaped (.list (ns.map PyData.int)) = true := fun ns => PySem.W.ke_shaped_ints ns
      have sq3 : atI [V.ref R4, .int ho, .int (fs.length : Nat), .ref Y] 3 = some (.ref Y) := atI_nat (j := 3) rfl
      refine ⟨_, rfl, D2, _, 3, _, rfl, rfl, SqL.of hD2x, sq3, .inl ⟨rfl, _, SqL.of hYx⟩, _, rfl, Nat.zero_le _, fun e ne => ?_⟩
      have s9 := same_upd (o := .lst []) ne
      have he : upd H8 e (.lst []) e = some (.lst []) := upd_same
      have hD := s9 _ _ hD
      have hYx := s9 _ _ hYx
      have sx := sx.trans (sm_of s9)
      have du := dpAll_same (sm_of s9) du
      generalize upd H8 e (.lst []) = H9 at he hD hYx sx du ⊢
      refine ⟨_, _, .lst (SqL.of hD) (dp_ints _), .lst (SqL.of he) .nil, shp _, rfl, _, rfl, ?_⟩
      have lvY : Live [Y] H9 := fun x hx e => by rw [List.mem_singleton.mp hx, hYx] at e; cases e
      have fin : ∀ (x : V) (Hw : Hp), Same H9 Hw → Dp K (off Hw [Y]) x (soD fs ho z) → ∃ v3' v7' v8' us', [some (V.ref p), some (.ref o), some (.ref L), some (.str z), some (.ref G), some (.ref ld), some (.ref D2), some (.ref D), v8] = [some (.ref p), some (.ref o), some (.ref L), v3', some (.ref G), some (.ref ld), some (.ref D2), v7', v8'] ∧ Sm [Y] H7 (upd Hw Y (.lst (us ++ [x]))) ∧ upd Hw Y (.lst (us ++ [x])) Y = some (.lst us') ∧ us'.length = j + 1 ∧ DpAll K (off (upd Hw Y (.lst (us ++ [x]))) [Y]) us' ((ys.take (j + 1)).map fun z => soD fs ho z) := fun x Hw sw dx => by
        refine ⟨_, _, _, us ++ [x], rfl, (sx.trans (sm_of sw)).trans (sm_wr (by simp)), upd_same, by rw [List.length_append, lu]; rfl, ?_⟩
        rw [List.take_add_one, gz, List.map_append]
        exact dpAll_same (sm_wr (by simp)) (dpAll_app' (dpAll_same (sm_of sw) du) (.cons dx .nil))
      by_cases c : nmF (rowsF fs ho) z = []
      · rw [c]
        refine iteF ?_
        refine ⟨_, rfl, (by show 2 ≤ sizeLine; decide), fun t2 nt2 => ?_⟩
        refine ⟨Y, us, _, rfl, rfl, same_upd nt2 _ _ hYx, by rw [lu, sizeLine_eq]; omega, ?_⟩
        refine fin _ _ (same_upd nt2) ?_
        unfold soD
        rw [if_pos c]
        exact .tup (.inl (.inl (off_new lvY nt2))) (.cons (.str _) (.cons (.str _) .nil))
      · obtain ⟨n0, nr, en0⟩ := List.exists_cons_of_ne_nil c
        rw [en0]
        refine iteT ?_
        refine ⟨_, rfl, Y, us, .ref D, rfl, rfl, hYx, by rw [lu, sizeLine_eq]; omega, fin _ _ (Same.refl _) ?_⟩
        unfold soD
        rw [if_neg c]
        exact .lst (SqL.of ((off_out (by simp [DY])).trans hD)) (dp_ints _)
    rintro σ Hx ⟨v3, v7, v8, us, rfl, sx, hYx, lu, du⟩
    rw [List.length_map] at lu
    rw [List.length_map, List.take_of_length_le (Nat.le_refl _)] at du
    have sH : Same H3 Hx := fun b o e => sm1_at sx (ne_of_none e nY3) (sb _ _ e)
    have hG := dp_same sH dG
    have hDx := sm1_at sx D2Y hD2
    have h4x := sm1_at sx R4Y0 h4
    have d4 : DpAll K Hx us4 ((rowsF fs ho).map fun e => inD e ho) := by
      refine dpAll_go (fun a vs h => ?_) (noL_map (f := fun e : En => inD e ho) (fun _ => ⟨trivial, trivial, trivial, trivial⟩) _) d4
      have ne : ∀ z, H7 a = some z → z ≠ .lst [] → Hx a = some z := fun z e n => sm1_at sx (fun y => by rw [y, hY] at e; exact n (Option.some.inj e).symm) e
      rcases h with (h | ⟨o2, h⟩) | h
      · exact .inl (.inl (ne _ h fun z => by cases z))
      · exact .inl (.inr ⟨o2, ne _ h fun z => by cases z⟩)
      · exact .inr h
    have dD : Dp K Hx (.ref D2) (.list [.list ((rowsF es ho).map fun e => inD e ho), .int ho, .int (es.length : Nat), .list (ys.map fun z => soD es ho z)]) := by
      rw [al_in al, al_len al, show (ys.map fun z => soD es ho z) = ys.map fun z => soD fs ho z from List.map_congr_left fun z _ => al_so al ho z]
      exact .lst (SqL.of hDx) (.cons (.lst (SqL.of h4x) d4) (.cons (.int _) (.cons (.int _) (.cons (.lst (SqL.of hYx) (dpAll_same off_sub du)) .nil))))
    obtain ⟨m, hm⟩ := st_gd (ho := ho) ne ny
    exact ⟨_, rfl, _, rfl, .ref G, .ref D2, stD es ho ys, m, rfl, hG, dD, st_dep es ho ys, st_wid l ly, hm, fun H' s' => q H' ((sa.trans sH).trans s')⟩

end
end Pot

namespace Pot
open PySem PySem.Spec PyProof.Rows L2
section
variable {P : Program} {w : World} {K : PySem.W.Frag} {mg : Str → Option Value} {base : Heap}
/-! ### two tunnels compared -/
def hitB (fs : List En) : List En → Bool
  | [] => true
  | e :: es => match fs.find? fun f => decide (f.1 = e.1) with
    | none => false
    | some f => (decide (e.2.1 = f.2.1) && decide (e.2.2.1 = f.2.2.1)) && hitB fs es
def eqT (hr hr2 sl sl2 : Int) (es fs : List En) : Bool := decide (sl = sl2) && (decide (hr = hr2) && (es.length == fs.length && hitB fs es))
def enD (e : En) : PyData := .tuple [.str e.2.1, .int e.2.2.1]
theorem en_eqv (e f : En) : PyData.eqv (enD e) (enD f) = (decide (e.2.1 = f.2.1) && decide (e.2.2.1 = f.2.2.1)) := by
  rw [Bool.eq_iff_iff]
  simp [enD, PyData.eqv, PyData.eqvAll]
theorem en_shaped {e : En} (h : Nw e.2.1) : SeqAt.shaped (enD e) = true := gd_shaped (m := e.2.2.1.natAbs) ⟨wd_gd h _, Nat.le_refl _, trivial⟩ (by show max 0 (max 0 0) + 1 ≤ 64; decide)
theorem val_find : ∀ (fs : List En) (j : Nat), valV (enK fs) (.inl ((j : Nat) : Int)) = (fs.find? fun f => decide (f.1 = j)).map fun f => V.ref f.2.2.2
  | [], _ => rfl
  | f :: fs, j => by
    by_cases c : f.1 = j
    · rw [List.find?_cons_of_pos (by simpa using c)]
      exact valV_pos (by show Sum.inl ((f.1 : Nat) : Int) = _; rw [c])
    · rw [List.find?_cons_of_neg (by simpa using c), ← val_find fs j]
      exact valV_neg (by intro z; exact c (by have := Sum.inl.inj z; omega))
theorem en_dp {H : Hp} {e : En} (h : H e.2.2.2 = some (.tup [.str e.2.1, .int e.2.2.1])) : Dp K H (.ref e.2.2.2) (enD e) := .tup (.inl (.inl h)) (.cons (.str _) (.cons (.int _) .nil))
theorem dhits_en {H : Hp} {fs : List En} (hf : EnOk H fs) (nf : ∀ e ∈ fs, Nw e.2.1) : ∀ {es : List En}, EnOk H es → (∀ e ∈ es, Nw e.2.1) → DHits K H (enK fs) (enK es) (hitB fs es)
  | [], _, _ => .nil
  | e :: es, he, ne => by
    unfold hitB
    cases c : fs.find? fun f => decide (f.1 = e.1) with
    | none => exact .miss (by rw [val_find, c]; rfl)
    | some f =>
      have mf := List.mem_of_find?_eq_some c
      have h := DHits.hit (K := K) (H := H) (ls := enK fs) (k := .inl ((e.1 : Nat) : Int)) (v := .ref e.2.2.2) (y := .ref f.2.2.2) (d := enD e) (e := enD f) (r := enK es) (by rw [val_find, c]; rfl) (en_dp (he e List.mem_cons_self)) (en_dp (hf f mf)) (en_shaped (ne e List.mem_cons_self)) (en_shaped (nf f mf)) (dhits_en hf nf (fun x hx => he x (List.mem_cons_of_mem _ hx)) fun x hx => ne x (List.mem_cons_of_mem _ hx))
      rw [en_eqv] at h
      exact h
/-- what == of tunnels asks of the class -/
def spTnQ (K : PySem.W.Frag) (C : Addr) : Sp := fun vs H Q _ => ∃ (p hd : Addr) (hr sl : Int) (es : List En) (y : V), vs = [.ref p, y] ∧ TnAt C H p hd hr sl es ∧ es.length ≤ 1000 ∧ (∀ e ∈ es, Nw e.2.1) ∧
  ((∃ (p2 hd2 : Addr) (hr2 sl2 : Int) (fs : List En), y = .ref p2 ∧ TnAt C H p2 hd2 hr2 sl2 fs ∧ fs.length ≤ 1000 ∧ (∀ e ∈ fs, Nw e.2.1) ∧ Q (.bl (eqT hr hr2 sl sl2 es fs)) H) ∨ (∃ t, TyOf K H y t ∧ PySem.W.kitOne K t (.ref C) = some false ∧ Q (.bl false) H))
abbrev s_nq : Stmt := inClass (topS 10) 7
def n_nq : List Str := ["self", "other"]
theorem sc_nq : FnScope n_nq ["self", "other"] (defScope s_nq) := ⟨rfl, rfl, rfl, by decide +kernel, rfl, by decide +kernel, by decide +kernel⟩
theorem ok_nq {C f : Addr} {fd : FuncData} {k : Nat} (F : Fun K "__eq__" "Tunnel.__eq__" s_nq f fd) (T : Txt mg) (N : TnK K mg C) (I : C8.InsC K C) : FnOk P w K mg base CX0 (k + 1) f fd ["self", "other"] (spTnQ K C) := by
  refine F.ok sc_nq (fun vs H Q E h => ?_) (fun cdv A outer s H vs Q E hr h => ?_)
  · obtain ⟨p, hd, ho, sl, es, y, rfl, _⟩ := h
    rfl
  · obtain ⟨p, hd, ho, sl, es, y, rfl, M, l, ne, h⟩ := h
    have nd := sc_nq.nd
    have hu64 := hr.units
    have hu66 : (A.deeper (envOfC (Str.ofString "Tunnel.__eq__") (defScope s_nq) s.heap.objs.size f cdv)).units + 66 < cLine := by have := hr.un; omega
    have gl_Tunnel := N.gl
    let CTunnel := C
    refine ⟨_, (pss_one (ps_ret (pe_and (pe_callB (kc_isT (C := CTunnel)) (by rfl) T.isinstance (by decide +kernel) (pa_cons (pv 1) (pa_cons (pe_glob (v := .ref CTunnel) (by rfl) gl_Tunnel rfl) pa_nil))) (pe_and (pe_cmpR op_eq (ke_fld (K := K) (pv 0)) (ke_fld (K := K) (pv 1)) (nomark _)) (pe_and (pe_cmpR op_eq (ke_fld (K := K) (pv 0)) (ke_fld (K := K) (pv 1)) (nomark _)) (pe_one (pe_cmpR (op_eq_dictD hu66) (ke_fld (K := K) (pv 0)) (ke_fld (K := K) (pv 1)) (nomark _)))))))), ?_⟩
    rcases h with ⟨p2, hd2, hr2, sl2, fs, rfl, M2, l2, nf, q⟩ | ⟨t, ty, kt, q⟩
    · obtain ⟨dx, hp⟩ := M.ob
      obtain ⟨dy, hp2⟩ := M2.ob
      refine ⟨_, rfl, .ref p2, .ref C, true, rfl, .ins hp2 I.cl I.ha I.hn I.htk I.hm, I.me, _, rfl, iteT ?_⟩
      refine ⟨_, rfl, p, C, dx, _, _, rfl, hp, N.cl, N.sl, tf_sl _ _ _, _, rfl, p2, C, dy, _, _, rfl, hp2, N.cl, N.sl, tf_sl _ _ _, ?_⟩
      have dI : ∀ a b : Int, decide (V.int a = V.int b) = decide (a = b) := fun a b => by simp
      refine ⟨rfl, _, rfl, ?_⟩
      rw [dI]
      unfold eqT at q
      by_cases c1 : sl = sl2
      · rw [decide_eq_true c1] at q ⊢
        refine iteT ?_
        refine ⟨_, rfl, p, C, dx, _, _, rfl, hp, N.cl, N.hr, tf_hr _ _ _, _, rfl, p2, C, dy, _, _, rfl, hp2, N.cl, N.hr, tf_hr _ _ _, ?_⟩
        refine ⟨rfl, _, rfl, ?_⟩
        rw [dI]
        by_cases c2 : ho = hr2
        · rw [decide_eq_true c2] at q ⊢
          refine iteT ?_
          refine ⟨_, rfl, p, C, dx, _, _, rfl, hp, N.cl, N.he, tf_he _ _ _, _, rfl, p2, C, dy, _, _, rfl, hp2, N.cl, N.he, tf_he _ _ _, ?_⟩
          refine ⟨hd, hd2, enK es, enK fs, hitB fs es, rfl, rfl, M.di, M2.di, fun _ => dhits_en M2.en nf M.en ne, ?_⟩
          rw [enK_len, enK_len]
          exact q
        · rw [decide_eq_false c2] at q ⊢
          exact iteF q
      · rw [decide_eq_false c1] at q ⊢
        exact iteF q
    · exact ⟨_, rfl, y, t, false, rfl, ty, kt, _, rfl, iteF q⟩

end
end Pot

namespace Pot
open PySem PySem.Spec PyProof.Rows L2
/-! ### tunnels are equal where the same is inside -/
theorem lt_ext : ∀ {xs ys : List En}, xs.Pairwise (fun a b => a.1 < b.1) → ys.Pairwise (fun a b => a.1 < b.1) → (∀ a, a ∈ xs ↔ a ∈ ys) → xs = ys
  | [], [], _, _, _ => rfl
  | [], y :: ys, _, _, h => (List.not_mem_nil ((h y).mpr List.mem_cons_self)).elim
  | x :: xs, [], _, _, h => (List.not_mem_nil ((h x).mp List.mem_cons_self)).elim
  | x :: xs, y :: ys, hx, hy, h => by
    obtain ⟨x1, x2⟩ := List.pairwise_cons.mp hx
    obtain ⟨y1, y2⟩ := List.pairwise_cons.mp hy
    have e : x = y := by
      rcases List.mem_cons.mp ((h x).mp List.mem_cons_self) with e | m
      · exact e
      · rcases List.mem_cons.mp ((h y).mpr List.mem_cons_self) with e | m2
        · exact e.symm
        · have := x1 _ m2
          have := y1 _ m
          omega
    subst e
    rw [lt_ext x2 y2 fun a => ?_]
    constructor
    · intro m
      rcases List.mem_cons.mp ((h a).mp (List.mem_cons_of_mem _ m)) with e | m2
      · have := x1 _ m; rw [e] at this; omega
      · exact m2
    · intro m
      rcases List.mem_cons.mp ((h a).mpr (List.mem_cons_of_mem _ m)) with e | m2
      · have := y1 _ m; rw [e] at this; omega
      · exact m2
theorem slot_inj : ∀ {fs : List En} {f g : En}, (slotsF fs).Nodup → f ∈ fs → g ∈ fs → f.1 = g.1 → f = g
  | [], _, _, _, h, _, _ => (List.not_mem_nil h).elim
  | x :: fs, f, g, nd, hf, hg, e => by
    unfold slotsF at nd
    rw [List.map_cons, List.nodup_cons] at nd
    rcases List.mem_cons.mp hf with h1 | h1
    · rcases List.mem_cons.mp hg with h2 | h2
      · rw [h1, h2]
      · rw [h1] at e
        exact (nd.1 (e ▸ List.mem_map.mpr ⟨g, h2, rfl⟩)).elim
    · rcases List.mem_cons.mp hg with h2 | h2
      · rw [h2] at e
        exact (nd.1 (e ▸ List.mem_map.mpr ⟨f, h1, rfl⟩)).elim
      · exact slot_inj nd.2 h1 h2 e
theorem hit_iff {fs : List En} (nf : (slotsF fs).Nodup) : ∀ es : List En, hitB fs es = true ↔ ∀ e ∈ es, ∃ f ∈ fs, z0 f = z0 e
  | [] => ⟨fun _ _ h => (List.not_mem_nil h).elim, fun _ => rfl⟩
  | e :: es => by
    unfold hitB
    cases c : fs.find? fun f => decide (f.1 = e.1) with
    | none =>
      refine ⟨fun h => (by cases h), fun h => ?_⟩
      obtain ⟨f, mf, ef⟩ := h e List.mem_cons_self
      have := List.find?_eq_none.mp c f mf
      have e1 : (z0 f).1 = (z0 e).1 := by rw [ef]
      have e1 : f.1 = e.1 := e1
      simp [e1] at this
    | some f =>
      have mf := List.mem_of_find?_eq_some c
      have ef : f.1 = e.1 := by simpa using List.find?_some c
      show ((decide (e.2.1 = f.2.1) && decide (e.2.2.1 = f.2.2.1)) && hitB fs es) = true ↔ _
      rw [Bool.and_eq_true, hit_iff nf es, Bool.and_eq_true, decide_eq_true_eq, decide_eq_true_eq]
      constructor
      · rintro ⟨⟨h1, h2⟩, h3⟩ x hx
        rcases List.mem_cons.mp hx with rfl | hx
        · exact ⟨f, mf, by unfold z0; rw [ef, h1, h2]⟩
        · exact h3 x hx
      · intro h
        obtain ⟨g, mg_, eg⟩ := h e List.mem_cons_self
        have e1 : (z0 g).1 = (z0 e).1 := by rw [eg]
        have e1 : g.1 = e.1 := e1
        have e2 : (z0 g).2.1 = (z0 e).2.1 := by rw [eg]
        have e3 : (z0 g).2.2.1 = (z0 e).2.2.1 := by rw [eg]
        have : g = f := slot_inj nf mg_ mf (e1.trans ef.symm)
        subst this
        exact ⟨⟨e2.symm, e3.symm⟩, fun x hx => h x (List.mem_cons_of_mem _ hx)⟩
theorem z0_nodup {es : List En} (nd : (slotsF es).Nodup) : (es.map z0).Nodup := by
  unfold slotsF at nd
  unfold List.Nodup at nd ⊢
  rw [List.pairwise_map] at nd ⊢
  refine nd.imp fun {a b} h e => h ?_
  have e1 : (z0 a).1 = (z0 b).1 := by rw [e]
  exact e1
theorem z0_rows {es : List En} (ho : Int) (nd : (slotsF es).Nodup) : ((rowsF es ho).map z0).Pairwise fun a b => a.1 < b.1 := by
  rw [List.pairwise_map]
  exact rows_lt nd
theorem dict_iff {es fs : List En} (ho : Int) (ne : (slotsF es).Nodup) (nf : (slotsF fs).Nodup) : (es.length == fs.length && hitB fs es) = decide ((rowsF es ho).map z0 = (rowsF fs ho).map z0) := by
  have pe : ∀ (gs : List En) (a : En), a ∈ (rowsF gs ho).map z0 ↔ a ∈ gs.map z0 := fun gs a => ((rows_perm gs ho).map z0).mem_iff
  rw [Bool.eq_iff_iff, decide_eq_true_eq, Bool.and_eq_true, beq_iff_eq, hit_iff nf]
  constructor
  · rintro ⟨hl, h⟩
    have sub : ∀ a ∈ es.map z0, a ∈ fs.map z0 := fun a ha => by
      obtain ⟨e, he, rfl⟩ := List.mem_map.mp ha
      obtain ⟨f, hf, ef⟩ := h e he
      exact List.mem_map.mpr ⟨f, hf, ef⟩
    refine lt_ext (z0_rows ho ne) (z0_rows ho nf) fun a => ?_
    rw [pe, pe]
    refine ⟨sub a, fun ha => ?_⟩
    by_cases c : a ∈ es.map z0
    · exact c
    · have := nodup_leG (l := a :: es.map z0) (ts := fs.map z0) (List.nodup_cons.mpr ⟨c, z0_nodup ne⟩) fun x hx => by
        rcases List.mem_cons.mp hx with rfl | hx
        · exact ha
        · exact sub x hx
      rw [List.length_cons, List.length_map, List.length_map] at this
      omega
  · intro h
    have hl : es.length = fs.length := by
      have := congrArg List.length h
      rwa [List.length_map, List.length_map, (rows_perm es ho).length_eq, (rows_perm fs ho).length_eq] at this
    refine ⟨hl, fun e he => ?_⟩
    have : z0 e ∈ fs.map z0 := by
      rw [← pe, ← h, pe]
      exact List.mem_map.mpr ⟨e, he, rfl⟩
    obtain ⟨f, hf, ef⟩ := List.mem_map.mp this
    exact ⟨f, hf, ef⟩
theorem in_eqv (ho : Int) : ∀ xs ys : List En, PyData.eqvAll (xs.map fun e => inD e ho) (ys.map fun e => inD e ho) = decide (xs.map z0 = ys.map z0)
  | [], [] => rfl
  | [], _ :: _ => rfl
  | _ :: _, [] => rfl
  | x :: xs, y :: ys => by
    show (PyData.eqv (inD x ho) (inD y ho) && PyData.eqvAll (xs.map fun e => inD e ho) (ys.map fun e => inD e ho)) = _
    rw [in_eqv ho xs ys, Bool.eq_iff_iff]
    obtain ⟨a, b, c, d⟩ := x
    obtain ⟨a2, b2, c2, d2⟩ := y
    simp only [inD, PyData.eqv, PyData.eqvAll, z0, List.map_cons, List.cons.injEq, Prod.mk.injEq, Bool.and_eq_true, beq_iff_eq, decide_eq_true_eq, and_true, Bool.and_true]
    constructor
    · rintro ⟨⟨h1, h2, h3⟩, h4⟩
      exact ⟨⟨by omega, h2, by omega⟩, h4⟩
    · rintro ⟨⟨h1, h2, h3⟩, h4⟩
      exact ⟨⟨by omega, h2, by omega⟩, h4⟩
/-- what the law looks at -/
def lkD (hr sl : Int) (es : List En) : PyData := .list [.int sl, .int hr, .list ((rowsF es hr).map fun e => inD e hr)]
theorem eqT_rows {hr hr2 sl sl2 : Int} {es fs : List En} (ne : (slotsF es).Nodup) (nf : (slotsF fs).Nodup) : eqT hr hr2 sl sl2 es fs = decide (sl = sl2 ∧ hr = hr2 ∧ (rowsF es hr).map z0 = (rowsF fs hr).map z0) := by
  unfold eqT
  rw [dict_iff hr ne nf, Bool.eq_iff_iff]
  simp only [Bool.and_eq_true, decide_eq_true_eq]
theorem lk_eqv {hr hr2 sl sl2 : Int} {es fs : List En} (ne : (slotsF es).Nodup) (nf : (slotsF fs).Nodup) : PyData.eqv (lkD hr sl es) (lkD hr2 sl2 fs) = eqT hr hr2 sl sl2 es fs := by
  rw [eqT_rows ne nf]
  show (PyData.eqv (.int sl) (.int sl2) && (PyData.eqv (.int hr) (.int hr2) && (PyData.eqvAll ((rowsF es hr).map fun e => inD e hr) ((rowsF fs hr2).map fun e => inD e hr2) && true))) = _
  have e1 : ∀ a b : Int, PyData.eqv (.int a) (.int b) = decide (a = b) := fun a b => by rw [Bool.eq_iff_iff]; simp [PyData.eqv]
  rw [e1, e1, Bool.and_true]
  by_cases c : hr = hr2
  · subst c
    rw [in_eqv, Bool.eq_iff_iff]
    simp
  · rw [decide_eq_false c, Bool.false_and, Bool.and_false]
    exact (decide_eq_false fun h => c h.2.1).symm
theorem eqT_symm {hr hr2 sl sl2 : Int} {es fs : List En} (ne : (slotsF es).Nodup) (nf : (slotsF fs).Nodup) : eqT hr2 hr sl2 sl fs es = eqT hr hr2 sl sl2 es fs := by
  rw [eqT_rows nf ne, eqT_rows ne nf]
  refine decide_eq_decide.mpr ⟨fun ⟨a, b, c⟩ => ⟨a.symm, b.symm, ?_⟩, fun ⟨a, b, c⟩ => ⟨a.symm, b.symm, ?_⟩⟩
  · subst b; exact c.symm
  · subst b; exact c.symm
theorem eqT_al {hr hr2 sl sl2 : Int} {es fs es' fs' : List En} (ne : (slotsF es).Nodup) (nf : (slotsF fs).Nodup) (a : Al es es') (b : Al fs fs') : eqT hr hr2 sl sl2 es fs = eqT hr hr2 sl sl2 es' fs' := by
  have ne' : (slotsF es').Nodup := al_slots a ▸ ne
  have nf' : (slotsF fs').Nodup := al_slots b ▸ nf
  rw [eqT_rows ne nf, eqT_rows ne' nf', rows_z0, rows_z0, rows_z0, rows_z0, a, b]

end Pot

namespace Pot
open PySem PySem.Spec PyProof.Rows L2
section
variable {P : Program} {w : World} {K : PySem.W.Frag} {mg : Str → Option Value} {base : Heap}
structure TunE (P : Program) (w : World) (K : PySem.W.Frag) (mg : Str → Option Value) (base : Heap) (C : Addr) : Prop where
  eq : Own P w K mg base 1 C "__eq__" (spTnQ K C)
  ne : NeK K C
abbrev s__law_are_alike : Stmt := topS 23
def n__law_are_alike : List Str := ["_law_one", "_law_other", "_law_alike"]
theorem sc__law_are_alike : FnScope n__law_are_alike ["_law_one", "_law_other", "_law_alike"] (defScope s__law_are_alike) := ⟨rfl, rfl, rfl, by decide +kernel, rfl, by decide +kernel, by decide +kernel⟩
def spAA (C : Addr) : Sp := fun vs H Q _ => ∃ (p hd p2 hd2 : Addr) (hr sl hr2 sl2 : Int) (es fs : List En), vs = [.ref p, .ref p2, .bl (eqT hr hr2 sl sl2 es fs)] ∧ TnAt C H p hd hr sl es ∧ TnAt C H p2 hd2 hr2 sl2 fs ∧ es.length ≤ 1000 ∧ fs.length ≤ 1000 ∧ (∀ e ∈ es, Nw e.2.1) ∧ (∀ e ∈ fs, Nw e.2.1) ∧ ∀ H', Same H H' → Q (.bl true) H'
theorem ok_aa {C f : Addr} {fd : FuncData} {k : Nat} (F : Fun K "_law_are_alike" "_law_are_alike" s__law_are_alike f fd) (T : Txt mg) (W : TunE P w K mg base C) : FnOk P w K mg base CX0 (k + 3) f fd ["_law_one", "_law_other", "_law_alike"] (spAA C) := by
  refine F.ok sc__law_are_alike (fun vs H Q E h => ?_) (fun cdv A outer s H vs Q E hr h => ?_)
  · obtain ⟨p, hd, p2, hd2, hr, sl, hr2, sl2, es, fs, rfl, _⟩ := h
    rfl
  · obtain ⟨p, hd, p2, hd2, ho, sl, ho2, sl2, es, fs, rfl, M, M2, l, l2, ne, ne2, q⟩ := h
    have nd := sc__law_are_alike.nd
    have hu64 := hr.units
    have eq_Tunnel := W.eq
    have ne_Tunnel := W.ne
    let CTunnel := C
    /- 0 _law_one, 1 _law_other, 2 _law_alike -/
    refine ⟨_, (pss_one (ps_ret (pe_cmpR (ko_eq (K := K) hu64) (pe_lst (pa_cons (pe_cmpR (ko_eqI eq_Tunnel hr (by omega)) (pv 0) (pv 1) (nomark _)) (pa_cons (pe_cmpR (ko_eqI eq_Tunnel hr (by omega)) (pv 1) (pv 0) (nomark _)) (pa_cons (pe_cmpR (ko_neI eq_Tunnel ne_Tunnel hr (by omega) hu64) (pv 0) (pv 1) (nomark _)) (pa_cons (pe_cmpR (ko_neI eq_Tunnel ne_Tunnel hr (by omega) hu64) (pv 1) (pv 0) (nomark _)) pa_nil))))) (pe_lst (pa_cons (pv 2) (pa_cons (pv 2) (pa_cons (pe_not (pv 2)) (pa_cons (pe_not (pv 2)) pa_nil))))) (nomark _)))), ?_⟩
    obtain ⟨dx, hp⟩ := M.ob
    obtain ⟨dy, hp2⟩ := M2.ob
    have nF : PySem.W.notFirst K C (.ref C) = true := by simp [PySem.W.notFirst]
    obtain ⟨c, ec⟩ : ∃ c, c = eqT ho ho2 sl sl2 es fs := ⟨_, rfl⟩
    have ec2 : eqT ho2 ho sl2 sl fs es = c := by rw [ec]; exact eqT_symm M.nd M2.nd
    rw [← ec]
    refine ⟨_, rfl, _, rfl, p, dx, _, p2, C, dy, _, rfl, rfl, hp, hp2, nF, p, hd, ho, sl, es, .ref p2, rfl, M, l, ne, .inl ⟨p2, hd2, ho2, sl2, fs, rfl, M2, l2, ne2, ⟨_, rfl, ?_⟩⟩⟩
    refine ⟨_, rfl, _, rfl, p2, dy, _, p, C, dx, _, rfl, rfl, hp2, hp, nF, p2, hd2, ho2, sl2, fs, .ref p, rfl, M2, l2, ne2, .inl ⟨p, hd, ho, sl, es, rfl, M, l, ne, ⟨_, rfl, ?_⟩⟩⟩
    refine ⟨_, rfl, _, rfl, p, dx, _, p2, C, dy, _, rfl, rfl, hp, hp2, nF, p, hd, ho, sl, es, .ref p2, rfl, M, l, ne, .inl ⟨p2, hd2, ho2, sl2, fs, rfl, M2, l2, ne2, ⟨_, rfl, _, rfl, ?_⟩⟩⟩
    refine ⟨_, rfl, _, rfl, p2, dy, _, p, C, dx, _, rfl, rfl, hp2, hp, nF, p2, hd2, ho2, sl2, fs, .ref p, rfl, M2, l2, ne2, .inl ⟨p, hd, ho, sl, es, rfl, M, l, ne, ⟨_, rfl, _, rfl, ?_⟩⟩⟩
    rw [ec2, ← ec]
    refine ⟨(by show 4 ≤ sizeLine; decide), fun a na => ?_⟩
    have s1 := same_upd (o := .lst [V.bl c, .bl c, .bl (!c), .bl (!c)]) na
    have ha : upd H a (.lst [V.bl c, .bl c, .bl (!c), .bl (!c)]) a = some (.lst [V.bl c, .bl c, .bl (!c), .bl (!c)]) := upd_same
    generalize upd H a (.lst [V.bl c, .bl c, .bl (!c), .bl (!c)]) = H1 at s1 ha ⊢
    refine ⟨_, rfl, _, rfl, _, rfl, _, rfl, _, rfl, _, rfl, (by show 4 ≤ sizeLine; decide), fun a2 na2 => ?_⟩
    have s2 := same_upd (o := .lst [V.bl c, .bl c, .bl (!c), .bl (!c)]) na2
    have ha := s2 _ _ ha
    have ha2 : upd H1 a2 (.lst [V.bl c, .bl c, .bl (!c), .bl (!c)]) a2 = some (.lst [V.bl c, .bl c, .bl (!c), .bl (!c)]) := upd_same
    have bD : ∀ b : Addr, ∀ H2 : Hp, H2 b = some (.lst [V.bl c, .bl c, .bl (!c), .bl (!c)]) → Dp K H2 (.ref b) (.list [.bool c, .bool c, .bool (!c), .bool (!c)]) := fun b H2 h => .lst (SqL.of h) (.cons (.bl _) (.cons (.bl _) (.cons (.bl _) (.cons (.bl _) .nil))))
    have sh : SeqAt.shaped (.list [.bool c, .bool c, .bool (!c), .bool (!c)]) = true := by cases c <;> rfl
    refine ⟨_, _, bD a _ ha, bD a2 _ ha2, sh, sh, ?_⟩
    have e : PyData.eqv (.list [.bool c, .bool c, .bool (!c), .bool (!c)]) (.list [.bool c, .bool c, .bool (!c), .bool (!c)]) = true := by cases c <;> rfl
    rw [e]
    exact q _ (s1.trans s2)

end
end Pot

namespace Pot
open PySem PySem.Spec PyProof.Rows L2
section
variable {P : Program} {w : World} {K : PySem.W.Frag} {mg : Str → Option Value} {base : Heap}
theorem TnAt.sm {C : Addr} {H H' : Hp} {S : List Addr} {p hd : Addr} {hr sl : Int} {es : List En} (h : TnAt C H p hd hr sl es) (s : Sm S H H') (h1 : p ∉ S) (h2 : hd ∉ S) (nt : ∀ x ∈ S, ∀ us, H x ≠ some (.tup us)) : TnAt C H' p hd hr sl es := by
  obtain ⟨⟨dx, a⟩, b, c, d, e⟩ := h
  exact ⟨⟨dx, sm_at s h1 a⟩, sm_at s h2 b, c.sm s nt, d, e⟩
theorem OwAt.sm {H H' : Hp} {S : List Addr} {o ld : Addr} {hr sl : Int} {es : List En} (h : OwAt H o ld hr sl es) (s : Sm S H H') (h1 : o ∉ S) (h2 : ld ∉ S) (nt : ∀ x ∈ S, ∀ us, H x ≠ some (.tup us)) : OwAt H' o ld hr sl es :=
  ⟨sm_at s h1 h.ob, sm_at s h2 h.di, h.ne, h.en.sm s nt, h.nd, h.lt⟩
theorem tn_len {C : Addr} {H : Hp} {p hd : Addr} {hr : Int} {sl : Nat} {es : List En} (h : TnAt C H p hd hr sl es) : es.length ≤ sl := by
  have := nodup_leG (l := slotsF es) (ts := List.range sl) h.nd fun x hx => by
    obtain ⟨e, he, rfl⟩ := List.mem_map.mp hx
    have := h.lt e he
    exact List.mem_range.mpr (by omega)
  unfold slotsF at this
  rwa [List.length_map, List.length_range] at this
def goL (es : List En) (m : Int) : PyData := .list (((outs es m).mergeSort (PySem.W.dataLe false goD)).map goD)
theorem go_mem {es : List En} {m : Int} {e : En} (h : e ∈ (outs es m).mergeSort (PySem.W.dataLe false goD)) : e ∈ es := (List.mem_filter.mp ((List.mergeSort_perm _ _).mem_iff.mp h)).1
theorem go_len (es : List En) (m : Int) : ((outs es m).mergeSort (PySem.W.dataLe false goD)).length ≤ es.length := by
  rw [(List.mergeSort_perm _ _).length_eq]
  exact List.length_filter_le _ _
theorem go_gd {es : List En} (m : Int) (ne : ∀ e ∈ es, Nw e.2.1) : ∃ k, gd k (goL es m) := by
  obtain ⟨k, hk⟩ : ∃ k, gdAll k (((outs es m).mergeSort (PySem.W.dataLe false goD)).map goD) := gd_ex fun d hd => by
    obtain ⟨e, he, rfl⟩ := List.mem_map.mp hd
    exact ⟨e.2.2.1.natAbs + e.1, by show Int.natAbs _ ≤ _; omega, by show Int.natAbs _ ≤ _; omega, wd_gd (ne e (go_mem he)) _, trivial⟩
  exact ⟨k, hk⟩
theorem go_depth (es : List En) (m : Int) : (goL es m).depth < 4 := by
  have := depthAll_map (f := goD) (b := 1) (l := (outs es m).mergeSort (PySem.W.dataLe false goD)) fun e _ => by show max 0 (max 0 (max 0 0)) + 1 ≤ 1; decide
  show PyData.depthAll _ + 1 < 4
  omega
theorem go_wid {es : List En} (m : Int) (l : es.length ≤ 60) : widAll.wid (goL es m) ≤ 1000 := by
  show max (List.map goD _).length (widAll (List.map goD _)) ≤ 1000
  refine Nat.max_le.mpr ⟨by rw [List.length_map]; have := go_len es m; omega, widAll_iff.mpr fun d hd => ?_⟩
  obtain ⟨e, _, rfl⟩ := List.mem_map.mp hd
  show max 3 (max 0 (max 0 (max 0 0))) ≤ 1000
  decide
section
variable {C : Addr} {H H' : Hp} {p hd o ld b L : Addr} {es fs : List En} {m : Nat}
theorem tn_take {hr sl : Int} (M : TnAt C H p hd hr sl es) (B : Bq H b m) (s : Sm [b] H H') : TnAt C H' p hd hr sl es := by
  obtain ⟨x, y, z, hb, _⟩ := B
  obtain ⟨dx, hp⟩ := M.ob
  have nt : ∀ x ∈ [b], ∀ us, H x ≠ some (.tup us) := fun x hx us e => by rw [List.mem_singleton.mp hx, hb] at e; cases e
  refine M.sm s ?_ ?_ nt
  · intro e; rw [List.mem_singleton.mp e, hb] at hp; cases hp
  · intro e; have := M.di; rw [List.mem_singleton.mp e, hb] at this; cases this
theorem ow_take {hr sl : Int} (W : OwAt H o ld hr sl fs) (B : Bq H b m) (s : Sm [b] H H') : OwAt H' o ld hr sl fs := by
  obtain ⟨x, y, z, hb, _⟩ := B
  have nt : ∀ x ∈ [b], ∀ us, H x ≠ some (.tup us) := fun x hx us e => by rw [List.mem_singleton.mp hx, hb] at e; cases e
  refine W.sm s ?_ ?_ nt
  · intro e; have := W.ob; rw [List.mem_singleton.mp e, hb] at this; cases this
  · intro e; have := W.di; rw [List.mem_singleton.mp e, hb] at this; cases this
theorem Bq.sm {S : List Addr} (B : Bq H b m) (s : Sm S H H') (h : b ∉ S) : Bq H' b m := by
  obtain ⟨x, y, z, hb, q⟩ := B
  exact ⟨x, y, z, sm_at s h hb, q⟩
end

/-- a tunnel and the law's own one, alike -/
structure Un (C : Addr) (H : Hp) (p hd o ld : Addr) (hr : Int) (sl : Nat) (es fs : List En) : Prop where
  M : TnAt C H p hd hr (sl : Nat) es
  W : OwAt H o ld hr (sl : Nat) fs
  al : Al es fs
  n1 : hd ≠ o
  n2 : hd ≠ ld
  ne : ∀ e ∈ es, Nw e.2.1
section
variable {C : Addr} {H H' : Hp} {p hd o ld b L : Addr} {hr : Int} {sl : Nat} {es fs : List En} {m : Nat}
theorem Un.sm {S : List Addr} (u : Un C H p hd o ld hr sl es fs) (s : Sm S H H') (h1 : p ∉ S) (h2 : hd ∉ S) (h3 : o ∉ S) (h4 : ld ∉ S) (nt : ∀ x ∈ S, ∀ us, H x ≠ some (.tup us)) : Un C H' p hd o ld hr sl es fs :=
  ⟨u.M.sm s h1 h2 nt, u.W.sm s h3 h4 nt, u.al, u.n1, u.n2, u.ne⟩
theorem Un.same (u : Un C H p hd o ld hr sl es fs) (s : Same H H') : Un C H' p hd o ld hr sl es fs := ⟨u.M.same s, u.W.same s, u.al, u.n1, u.n2, u.ne⟩
theorem Un.take (u : Un C H p hd o ld hr sl es fs) (B : Bq H b m) (s : Sm [b] H H') : Un C H' p hd o ld hr sl es fs := ⟨tn_take u.M B s, ow_take u.W B s, u.al, u.n1, u.n2, u.ne⟩
theorem un_live (u : Un C H p hd o ld hr sl es fs) (B : Bq H b m) : Live [b, p, hd, o, ld] H := fun x hx e => by
  obtain ⟨_, _, _, hb, _⟩ := B
  obtain ⟨dx, hp⟩ := u.M.ob
  have h2 := u.M.di
  have h3 := u.W.ob
  have h4 := u.W.di
  simp only [List.mem_cons, List.not_mem_nil, or_false] at hx
  rcases hx with rfl | rfl | rfl | rfl | rfl <;> simp_all
theorem fr_freeS {S : List Addr} {x : Addr} (g : Sm S H H') (lv : Live S H') (n : H' x = none) : H x = none := by
  cases e : H x with
  | none => rfl
  | some ob =>
    have := sm_at g (fun hx => lv x hx n) e
    rw [n] at this; cases this
theorem Un.le (u : Un C H p hd o ld hr sl es fs) : es.length ≤ sl := tn_len u.M
/-- the law's own one goes on -/
theorem Un.lw (u : Un C H p hd o ld hr sl es fs) (B : Bq H b m) (s : Sm [o, ld] H H') : TnAt C H' p hd hr (sl : Nat) es ∧ Bq H' b m := by
  obtain ⟨dx, hp⟩ := u.M.ob
  obtain ⟨x, y, z, hb, _⟩ := id B
  have nt : ∀ x ∈ [o, ld], ∀ us, H x ≠ some (.tup us) := fun x hx us e => by
    rcases List.mem_cons.mp hx with h | h
    · rw [h, u.W.ob] at e; cases e
    · rw [List.mem_singleton.mp h, u.W.di] at e; cases e
  have no : ∀ x ob, H x = some ob → ob ≠ .dK (owF ld hr (sl : Nat)) → ob ≠ .dK (enK fs) → x ∉ [o, ld] := fun x ob e n1 n2 hx => by
    rcases List.mem_cons.mp hx with h | h
    · rw [h, u.W.ob] at e; exact n1 (Option.some.inj e).symm
    · rw [List.mem_singleton.mp h, u.W.di] at e; exact n2 (Option.some.inj e).symm
  exact ⟨u.M.sm s (no p _ hp (fun z => by cases z) fun z => by cases z) (by simp [u.n1, u.n2]) nt, B.sm s (no b _ hb (fun z => by cases z) fun z => by cases z)⟩
/-- the tunnel goes on -/
theorem Un.tw {S : List Addr} (u : Un C H p hd o ld hr sl es fs) (B : Bq H b m) (hS : S = [hd] ∨ S = [p]) (s : Sm S H H') : OwAt H' o ld hr (sl : Nat) fs ∧ Bq H' b m := by
  obtain ⟨dx, hp⟩ := u.M.ob
  obtain ⟨x, y, z, hb, _⟩ := id B
  have ho := u.W.ob
  have hl := u.W.di
  have no : ∀ x ob, H x = some ob → x ≠ hd → ob ≠ .ins C dx (tnF hd hr (sl : Nat)) → x ∉ S := fun x ob e n1 n2 hx => by
    rcases hS with h | h
    · rw [h] at hx; exact n1 (List.mem_singleton.mp hx)
    · rw [h] at hx; rw [List.mem_singleton.mp hx, hp] at e; exact n2 (Option.some.inj e).symm
  have nd : ∀ x ob, H x = some ob → ob ≠ .dK (enK es) → x ≠ hd := fun x ob e n z => by rw [z, u.M.di] at e; exact n (Option.some.inj e).symm
  have nt : ∀ x ∈ S, ∀ us, H x ≠ some (.tup us) := fun x hx us e => no x _ e (nd x _ e fun z => by cases z) (fun z => by cases z) hx
  exact ⟨u.W.sm s (no o _ ho u.n1.symm fun z => by cases z) (no ld _ hl u.n2.symm fun z => by cases z) nt, B.sm s (no b _ hb (nd b _ hb fun z => by cases z) fun z => by cases z)⟩
end
abbrev s__law_deed : Stmt := topS 22
def n__law_deed : List Str := ["_law_state", "_law_tunnel", "_law_own", "_law_name", "_law_cool", "_law_many", "_law_due", "_law_told"]
theorem sc__law_deed : FnScope n__law_deed ["_law_state", "_law_tunnel", "_law_own", "_law_name"] (defScope s__law_deed) := ⟨rfl, rfl, rfl, by decide +kernel, rfl, by decide +kernel, by decide +kernel⟩
def spDeed (K : PySem.W.Frag) (C : Addr) : Sp := fun vs H Q _ => ∃ (b p hd o ld : Addr) (n : Nat) (hr : Int) (sl : Nat) (es fs : List En) (z : Str), vs = [.ref b, .ref p, .ref o, .str z] ∧ Un C H p hd o ld hr sl es fs ∧ sl ≤ 60 ∧ Nw z ∧ Bq H b n ∧ n + 10 < 2 ^ 40 ∧
  ∀ (H' : Hp) (t R hd' : Addr) (hr' : Int) (es' fs' : List En) (us : List V), Un C H' p hd' o ld hr' sl es' fs' → (hd' = hd ∨ H hd' = none) → Bq H' b (n + 10) → Sm [b, p, hd, o, ld] H H' → H t = none → H' t = some (.tup [.bl true, .ref R]) → H R = none → H' R = some (.lst us) → us.length ≤ 60 → Q (.ref t) H'
set_option maxHeartbeats 1000000 in
theorem ok_deed {C CF CS f : Addr} {fd : FuncData} {k : Nat} (F : Fun K "_law_deed" "_law_deed" s__law_deed f fd) (T : Txt mg) (O : TunC P w K mg base C CF CS) (c__law_take : Cl P w K mg base 1 "_law_take" spTake) (c__law_enter : Cl P w K mg base 1 "_law_enter" (spLE K)) (c__law_tick : Cl P w K mg base 1 "_law_tick" (spLT K)) (c__law_entered : Cl P w K mg base 4 "_law_entered" (spEnt K C)) (c__law_same : Cl P w K mg base 5 "_law_same" (spSame K 4)) : FnOk P w K mg base CX0 (k + 6) f fd ["_law_state", "_law_tunnel", "_law_own", "_law_name"] (spDeed K C) := by
  refine F.ok sc__law_deed (fun vs H Q E h => ?_) (fun cdv A outer s H vs Q E hr h => ?_)
  · obtain ⟨b, p, hd, o, ld, n, hr, sl, es, fs, z, rfl, _⟩ := h
    rfl
  · obtain ⟨b, p, hd, o, ld, n, ho, sl, es, fs, z, rfl, u, sl60, nz, B, hn, q⟩ := h
    have nd := sc__law_deed.nd
    have hu := hu_of hr
    have hu64 := hr.units
    have m_Tunnel_tick := O.tick
    let CTunnel := C
    /- 0 _law_state, 1 _law_tunnel, 2 _law_own, 3 _law_name, 4 _law_cool, 5 _law_many, 6 _law_due, 7 _law_told -/
    refine ⟨_, (pss_cons (ps_par (i := 4) (j := 5) rfl nd rfl rfl (by decide) rfl rfl (pa_cons (pe_op op_add pe_int (pe_cl c__law_take hr (by omega) (by rfl) (pa_cons (pv 0) (pa_cons pe_int pa_nil)))) (pa_cons (pe_cl c__law_take hr (by omega) (by rfl) (pa_cons (pv 0) (pa_cons (pe_ix (kx_list (K := K)) (pe_lst (pa_cons pe_int (pa_cons pe_int pa_nil))) (pe_cl c__law_take hr (by omega) (by rfl) (pa_cons (pv 0) (pa_cons pe_int pa_nil))) (fun _ _ => rfl)) pa_nil))) pa_nil)) rfl)
      (pss_cons (ps_if (pt_cmpR op_gt (pe_cl c__law_take hr (by omega) (by rfl) (pa_cons (pv 0) (pa_cons pe_int pa_nil))) pe_int (nomark _))
          (pss_cons (ps_set (i := 6) nd rfl (.inl rfl) (pe_cl c__law_enter hr (by omega) (by rfl) (pa_cons (pv 2) (pa_cons (pv 3) (pa_cons (pv 4) pa_nil)))))
          (pss_one (ps_ret (pe_tup (pa_cons (pe_cl c__law_same hr (by omega) (by rfl) (pa_cons (pe_cl c__law_entered hr (by omega) (by rfl) (pa_cons (pv 1) (pa_cons (pv 3) (pa_cons (pv 4) pa_nil)))) (pa_cons (pe_ifExp (pt_cmpR op_isN (pv 6) pe_non (nomark _)) (pe_tup (pa_cons pe_str (pa_cons (pe_dget hu (pv 2) pe_str (fun _ _ => rfl)) pa_nil))) (pv 6)) pa_nil))) (pa_cons (pe_lst pa_nil) pa_nil))))))
          pss_nil)
      (pss_cons (ps_set (i := 7) nd rfl (.inl rfl) (pe_omt m_Tunnel_tick hr (by omega) (pv 1) (pa_cons (pv 5) pa_nil)))
      (pss_one (ps_ret (pe_tup (pa_cons (pe_cl c__law_same hr (by omega) (by rfl) (pa_cons (pv 7) (pa_cons (pe_cl c__law_tick hr (by omega) (by rfl) (pa_cons (pv 2) (pa_cons (pv 5) pa_nil))) pa_nil))) (pa_cons (pv 7) pa_nil)))))))), ?_⟩
    refine ⟨_, rfl, b, 12, _, rfl, by decide, by decide, B, by omega, fun H1 r1 r10 r11 B1 s1 => ⟨_, _, rfl, rfl, _, rfl, (by show 2 ≤ sizeLine; decide), fun l1 nl1 => ?_⟩⟩
    have u1 := u.take B s1
    have hl1 : upd H1 l1 (.lst [V.int 3, .int 20]) l1 = some (.lst [V.int 3, .int 20]) := upd_same
    have lb1 := B1.ne nl1
    have u1 := u1.same (same_upd (o := .lst [V.int 3, .int 20]) nl1)
    have g1 := s1.trans (sm_of (S := [b]) (same_upd (o := .lst [V.int 3, .int 20]) nl1))
    have B1 := B1.put (o := .lst [V.int 3, .int 20]) nl1
    refine ⟨_, rfl, b, 2, _, rfl, by decide, by decide, B1, by omega, fun H2 i2 i20 i21 B2 s2 => ?_⟩
    have u2 := u1.take B1 s2
    have g2 := g1.trans s2
    have hl2 := sm1_at s2 lb1 hl1
    obtain ⟨mm, em, mm0, mm1⟩ : ∃ mm : Int, atI [V.int 3, .int 20] i2 = some (.int mm) ∧ 3 ≤ mm ∧ mm ≤ 20 := by
      have h : i2 = 0 ∨ i2 = 1 := by omega
      rcases h with rfl | rfl
      · exact ⟨3, rfl, by decide, by decide⟩
      · exact ⟨20, rfl, by decide, by decide⟩
    refine ⟨l1, _, i2, _, rfl, rfl, SqL.of hl2, em, b, mm, _, rfl, by omega, by omega, B2, by omega, fun H3 m1 m10 m11 B3 s3 => ⟨_, _, rfl, ?_⟩⟩
    have u3 := u2.take B2 s3
    have g3 := g2.trans s3
    clear hl1 hl2 u1 u2 g1 g2 B1 B2 s1 s2 s3 em nl1
    simp only [gName, List.set]
    refine ⟨_, rfl, b, 4, _, rfl, by decide, by decide, B3, by omega, fun H4 r4 r40 r41 B4 s4 => ⟨_, _, rfl, rfl, _, rfl, ?_⟩⟩
    have u4 := u3.take B3 s4
    have g4 := g3.trans s4
    clear u3 g3 B3 s4
    obtain ⟨co, eco⟩ : ∃ co : Int, co = 1 + r1 := ⟨_, rfl⟩
    rw [← eco]
    have le := u4.le
    have lf : fs.length ≤ 60 := by rw [← al_len u4.al]; omega
    have es_ := al_slots u4.al
    have gA : ∀ {H' : Hp}, Sm [b, p, hd, o, ld] H4 H' → Sm [b, p, hd, o, ld] H H' := fun s => (sm_mono (fun x hx => by rw [List.mem_singleton.mp hx]; simp) g4).trans s
    refine ite2 (fun _ => ?_) (fun _ => ?_)
    · have fin : ∀ (Hx : Hp) (es' fs' : List En), Un C Hx p hd o ld ho sl es' fs' → Bq Hx b (n + 10) → Sm [b, p, hd, o, ld] H Hx → ∀ R, Hx R = none → ∀ t, upd Hx R (.lst []) t = none → Q (.ref t) (upd (upd Hx R (.lst [])) t (.tup [.bl true, .ref R])) := fun Hx es' fs' ux Bx gx R nR t nt => by
        have sR := same_upd (o := .lst []) nR
        have st := sR.trans (same_upd (o := .tup [.bl true, .ref R]) nt)
        have nt0 : Hx t = none := sR.free nt
        have lv := un_live ux Bx
        exact q _ t R hd ho es' fs' [] (ux.same st) (.inl rfl) (Bx.same st) (gx.trans (sm_of st)) (fr_freeS gx lv nt0) upd_same (fr_freeS gx lv nR) (same_upd nt _ _ upd_same) (Nat.zero_le _)
      refine seq_mid (fun σ Hx => ∃ x, σ = [some (.ref b), some (.ref p), some (.ref o), some (.str z), some (.int co), some (.int m1), some x, none] ∧ ((mexF (slotsF es) < sl ∧ x = .int (mexF (slotsF es) : Nat) ∧ ∃ t, TnAt C Hx p hd ho (sl : Nat) es ∧ OwAt Hx o ld ho (sl : Nat) (fs ++ [(mexF (slotsF es), z, ho + co, t)]) ∧ Bq Hx b (n + 10) ∧ Sm [b, p, hd, o, ld] H Hx) ∨ (sl ≤ mexF (slotsF es) ∧ x = .non ∧ Un C Hx p hd o ld ho sl es fs ∧ Bq Hx b (n + 10) ∧ Sm [b, p, hd, o, ld] H Hx))) (fun M hM => ?_) (fun σ Hx h => ?_)
      · refine ⟨_, rfl, _, rfl, _, rfl, o, ld, ho, sl, fs, z, co, rfl, u4.W, lf, sl60, fun c H' t s n' W' => hM _ _ ⟨_, rfl, .inl ?_⟩, fun c H' s => hM _ _ ⟨_, rfl, .inr ?_⟩⟩
        · rw [← es_] at c W' ⊢
          have s2 : Sm [o, ld] H4 H' := sm_mono (fun x hx => by rw [List.mem_singleton.mp hx]; simp) s
          obtain ⟨M', B'⟩ := u4.lw B4 s2
          exact ⟨c, rfl, t, M', W', B'.mono (by omega), gA (sm_mono (fun x hx => by rw [List.mem_singleton.mp hx]; simp) s)⟩
        · rw [← es_] at c
          exact ⟨c, rfl, u4.same s, (B4.same s).mono (by omega), gA (sm_of s)⟩
      obtain ⟨x, rfl, h⟩ := h
      rcases h with ⟨c, rfl, t', M6, W6, B6, g6⟩ | ⟨c, rfl, u6, B6, g6⟩
      · refine ⟨_, rfl, _, rfl, _, rfl, p, hd, ho, (sl : Nat), es, z, some co, rfl, M6, by omega, by omega, fun _ H' t2 s n' M' => ?_, fun c2 => absurd c2 (by omega)⟩
        have hdi := M6.di
        have W7 : OwAt H' o ld ho (sl : Nat) _ := W6.sm s (by simp [Ne.symm u4.n1]) (by simp [Ne.symm u4.n2]) fun x hx us e => by rw [List.mem_singleton.mp hx, hdi] at e; cases e
        have B7 : Bq H' b (n + 10) := B6.sm s fun hx => by
          obtain ⟨_, _, _, hb, _⟩ := B6
          rw [List.mem_singleton.mp hx, hdi] at hb; cases hb
        have ne' : ∀ e ∈ es ++ [(mexF (slotsF es), z, ho + co, t2)], Nw e.2.1 := fun e he => by
          rcases List.mem_append.mp he with h | h
          · exact u4.ne e h
          · rw [List.mem_singleton.mp h]; exact nz
        have u7 : Un C H' p hd o ld ho sl _ _ := ⟨M', W7, al_add u4.al _ _ rfl, u4.n1, u4.n2, ne'⟩
        have g7 : Sm [b, p, hd, o, ld] H H' := g6.trans (sm_mono (fun x hx => by rw [List.mem_singleton.mp hx]; simp) s)
        refine ⟨_, rfl, rfl, _, rfl, iteF ⟨_, rfl, .int (mexF (slotsF es) : Nat), .int (mexF (slotsF es) : Nat), .int (mexF (slotsF es) : Nat), mexF (slotsF es), rfl, .int _, .int _, by show 0 < 4; decide, by show 0 ≤ 1000; decide, by show Int.natAbs _ ≤ _; omega, fun H'' s2 => ⟨Nat.zero_le _, fun R nR => ⟨(by show 2 ≤ sizeLine; decide), fun t nt => fin H'' _ _ (u7.same s2) (B7.same s2) (g7.trans (sm_of s2)) R nR t nt⟩⟩⟩⟩
      · refine ⟨_, rfl, _, rfl, _, rfl, p, hd, ho, (sl : Nat), es, z, some co, rfl, u6.M, by omega, by omega, fun c2 => absurd c2 (by omega), fun _ H' x s d => ?_⟩
        have u7 := u6.same s
        refine ⟨_, rfl, rfl, _, rfl, iteT ⟨_, rfl, o, _, rfl, u7.W.gS, (by show 2 ≤ sizeLine; decide), fun t2 nt2 => ?_⟩⟩
        have s2 := same_upd (o := .tup [.str "full", .int (sl : Nat)]) nt2
        have d2 := dp_same s2 d
        have d3 : Dp K (upd H' t2 (.tup [.str "full", .int (sl : Nat)])) (.ref t2) (.tuple [.str "full", .int (sl : Nat)]) := .tup (.inl (.inl upd_same)) (.cons (.str _) (.cons (.int _) .nil))
        refine ⟨x, .ref t2, .tuple [.str "full", .int (sl : Nat)], sl, rfl, d2, d3, by show max 0 (max 0 0) + 1 < 4; decide, by show max 2 (max 0 (max 0 0)) ≤ 1000; decide, ⟨⟨by decide +kernel, codes_ofString _⟩, by show Int.natAbs _ ≤ _; omega, trivial⟩, fun H'' s3 => ⟨Nat.zero_le _, fun R nR => ⟨(by show 2 ≤ sizeLine; decide), fun t nt => ?_⟩⟩⟩
        have s4 := (s.trans s2).trans s3
        exact fin H'' _ _ (u6.same s4) (B6.same s4) (g6.trans (sm_of s4)) R nR t nt
    · obtain ⟨dx, hp⟩ := u4.M.ob
      have lt : (tnF hd ho (sl : Nat)).lookup ("tick" : Str) = none := tf_no (by decide +kernel) (by decide +kernel) (by decide +kernel)
      refine ⟨_, rfl, p, dx, _, rfl, hp, lt, _, rfl, p, hd, ho, (sl : Nat), m1, es, rfl, u4.M, by omega, fun H5 hd' R us s nd' M5 nR hR dR => ?_⟩
      obtain ⟨W5, B5⟩ := u4.tw B4 (.inr rfl) s
      have ne5 : ∀ e ∈ stay es (ho + m1), Nw e.2.1 := fun e he => u4.ne e (List.mem_filter.mp he).1
      have k1 : hd' ≠ o := fun e => by have := u4.W.ob; rw [← e, nd'] at this; cases this
      have k2 : hd' ≠ ld := fun e => by have := u4.W.di; rw [← e, nd'] at this; cases this
      have g5 : Sm [b, p, hd, o, ld] H H5 := gA (sm_mono (fun x hx => by rw [List.mem_singleton.mp hx]; simp) s)
      have lR : us.length ≤ 60 := by
        have := dpAll_map_len dR
        have := go_len es (ho + m1)
        omega
      simp only [gName, List.set]
      refine ⟨_, rfl, _, rfl, _, rfl, o, ld, ho, (sl : Nat), m1, fs, rfl, W5, lf, fun H6 R2 us2 s6 W6 nR2 hR2 dR2 => ?_⟩
      have oWd := W5.di
      have oWo := W5.ob
      have no : ∀ x ob, H5 x = some ob → ob ≠ .dK (owF ld ho (sl : Nat)) → ob ≠ .dK (enK fs) → x ∉ [o, ld] := fun x ob e n1 n2 hx => by
        rcases List.mem_cons.mp hx with h | h
        · rw [h, oWo] at e; exact n1 (Option.some.inj e).symm
        · rw [List.mem_singleton.mp h, oWd] at e; exact n2 (Option.some.inj e).symm
      have nt : ∀ x ∈ [o, ld], ∀ us, H5 x ≠ some (.tup us) := fun x hx us e => no x _ e (fun z => by cases z) (fun z => by cases z) hx
      obtain ⟨dx5, hp5⟩ := M5.ob
      have M6 : TnAt C H6 p hd' (ho + m1) (sl : Nat) (stay es (ho + m1)) := M5.sm s6 (no p _ hp5 (fun z => by cases z) fun z => by cases z) (by simp [k1, k2]) nt
      have B6 : Bq H6 b (n + 10) := by
        obtain ⟨_, _, _, hb, _⟩ := id B5
        exact (B5.sm s6 (no b _ hb (fun z => by cases z) fun z => by cases z)).mono (by omega)
      have hR6 : H6 R = some (.lst us) := sm_at s6 (no R _ hR (fun z => by cases z) fun z => by cases z) hR
      have dR6 : DpAll K H6 us (((outs es (ho + m1)).mergeSort (PySem.W.dataLe false goD)).map goD) := by
        refine dpAll_go (fun a vs h => ?_) (noL_map (f := goD) (fun _ => ⟨trivial, trivial, trivial, trivial⟩) _) (dpAll_same off_sub dR)
        have ne : ∀ z, H5 a = some z → z ≠ .dK (owF ld ho (sl : Nat)) → z ≠ .dK (enK fs) → H6 a = some z := fun z e n n2 => sm_at s6 (no a z e n n2) e
        rcases h with (h | ⟨o2, h⟩) | h
        · exact .inl (.inl (ne _ h (fun z => by cases z) fun z => by cases z))
        · exact .inl (.inr ⟨o2, ne _ h (fun z => by cases z) fun z => by cases z⟩)
        · exact .inr h
      obtain ⟨k2', hk2⟩ := go_gd (ho + m1) (es := es) (fun e he => u4.ne e he)
      have d2 : Dp K H6 (.ref R2) (goL es (ho + m1)) := by
        unfold goL
        rw [al_outs u4.al]
        exact .lst (SqL.of hR2) (dpAll_same off_sub dR2)
      have g6 : Sm [b, p, hd, o, ld] H H6 := g5.trans (sm_mono (fun x hx => by
        rcases List.mem_cons.mp hx with h | h
        · rw [h]; simp
        · rw [List.mem_singleton.mp h]; simp) s6)
      have g44 : Sm [b, p, hd, o, ld] H H4 := gA (sm_of (Same.refl H4))
      have lv4 := un_live u4 B4
      have u6 : Un C H6 p hd' o ld (ho + m1) sl _ _ := ⟨M6, W6, al_stay u4.al _, k1, k2, ne5⟩
      have lp : Live [p] H5 := fun x hx e => by rw [List.mem_singleton.mp hx, hp5] at e; cases e
      have lo : Live [o, ld] H6 := fun x hx e => by
        rcases List.mem_cons.mp hx with h | h
        · rw [h, W6.ob] at e; cases e
        · rw [List.mem_singleton.mp h, W6.di] at e; cases e
      have fr : ∀ {x : Addr} {Hx : Hp}, Same H6 Hx → Hx x = none → H x = none := fun {x Hx} s7 n0 => fr_freeS g44 lv4 (fr_freeS s lp (fr_freeS s6 lo (s7.free n0)))
      refine ⟨.ref R, .ref R2, goL es (ho + m1), k2', rfl, .lst (SqL.of hR6) dR6, d2, go_depth es _, go_wid _ (by omega), hk2, fun H7 s7 => ⟨_, rfl, (by show 2 ≤ sizeLine; decide), fun t nt => ?_⟩⟩
      have st := s7.trans (same_upd (o := .tup [.bl true, .ref R]) nt)
      exact q _ t R hd' _ _ _ us (u6.same st) (.inr (fr_freeS g44 lv4 nd')) (B6.same st) (g6.trans (sm_of st)) (fr s7 nt) upd_same (fr_freeS g44 lv4 nR) (st _ _ hR6) lR

end
end Pot

namespace Pot
open PySem PySem.Spec PyProof.Rows L2
/-! ### what is put anew: pieces one to one, slots in the same order -/
theorem rel_ext {α : Type} {r : α → α → Prop} (as : ∀ a b, r a b → ¬ r b a) : ∀ {xs ys : List α}, xs.Pairwise r → ys.Pairwise r → (∀ a, a ∈ xs ↔ a ∈ ys) → xs = ys
  | [], [], _, _, _ => rfl
  | [], y :: ys, _, _, h => (List.not_mem_nil ((h y).mpr List.mem_cons_self)).elim
  | x :: xs, [], _, _, h => (List.not_mem_nil ((h x).mp List.mem_cons_self)).elim
  | x :: xs, y :: ys, hx, hy, h => by
    obtain ⟨x1, x2⟩ := List.pairwise_cons.mp hx
    obtain ⟨y1, y2⟩ := List.pairwise_cons.mp hy
    have ir : ∀ a, ¬ r a a := fun a q => as a a q q
    have e : x = y := by
      rcases List.mem_cons.mp ((h x).mp List.mem_cons_self) with e | m
      · exact e
      · rcases List.mem_cons.mp ((h y).mpr List.mem_cons_self) with e | m2
        · exact e.symm
        · exact (as _ _ (x1 _ m2) (y1 _ m)).elim
    subst e
    rw [rel_ext as x2 y2 fun a => ?_]
    constructor
    · intro m
      rcases List.mem_cons.mp ((h a).mp (List.mem_cons_of_mem _ m)) with e | m2
      · have := x1 _ m; rw [e] at this; exact (ir _ this).elim
      · exact m2
    · intro m
      rcases List.mem_cons.mp ((h a).mpr (List.mem_cons_of_mem _ m)) with e | m2
      · have := y1 _ m; rw [e] at this; exact (ir _ this).elim
      · exact m2
theorem pw_cases {α : Type} {r : α → α → Prop} : ∀ {R : List α} {a b : α}, R.Pairwise r → a ∈ R → b ∈ R → a = b ∨ r a b ∨ r b a
  | [], _, _, _, h, _ => (List.not_mem_nil h).elim
  | x :: R, a, b, p, ha, hb => by
    obtain ⟨p1, p2⟩ := List.pairwise_cons.mp p
    rcases List.mem_cons.mp ha with h1 | h1
    · rcases List.mem_cons.mp hb with h2 | h2
      · exact .inl (h1.trans h2.symm)
      · rw [h1]; exact .inr (.inl (p1 b h2))
    · rcases List.mem_cons.mp hb with h2 | h2
      · rw [h2]; exact .inr (.inr (p1 a h1))
      · exact pw_cases p2 h1 h2
def kl (a b : En) : Prop := a.2.2.1 < b.2.2.1 ∨ (a.2.2.1 = b.2.2.1 ∧ a.1 < b.1)
theorem kl_as (a b : En) (h : kl a b) : ¬ kl b a := by unfold kl at *; omega
theorem go_kl {a b : En} (ne : a.1 ≠ b.1) (h : PySem.W.dataLt (goD b) (goD a) = false) : kl a b := by
  have hi : ∀ x y : Int, PySem.W.alike (.int x) (.int y) = true := fun _ _ => rfl
  unfold goD at h
  rw [PySem.W.dataLt_tuple, PySem.W.dataLt_cons (hi _ _), PySem.W.dataLt_int] at h
  unfold kl
  by_cases c : b.2.2.1 = a.2.2.1
  · have q1 : PyData.eqv (.int b.2.2.1) (.int a.2.2.1) = true := by rw [c]; simp [PyData.eqv]
    rw [if_pos q1, PySem.W.dataLt_cons (hi _ _), PySem.W.dataLt_int, if_neg] at h
    · have := of_decide_eq_false h
      omega
    · simp [PyData.eqv]; omega
  · rw [if_neg] at h
    · have := of_decide_eq_false h
      omega
    · simp [PyData.eqv]; exact c
def srtF (es : List En) : List En := es.mergeSort (PySem.W.dataLe false goD)
theorem srt_perm (es : List En) : (srtF es).Perm es := List.mergeSort_perm _ _
theorem srt_kl {es : List En} (nd : (slotsF es).Nodup) : (srtF es).Pairwise kl := by
  have h := dl_pairI goD es
  have n2 : (slotsF (srtF es)).Nodup := ((srt_perm es).map _).nodup_iff.mpr nd
  unfold slotsF List.Nodup at n2
  rw [List.pairwise_map] at n2
  exact (h.and n2).imp fun h => go_kl h.2 h.1
/-- pieces one to one, their slots in one order -/
structure Tw (es gs : List En) (al : Bool) (R : List (En × En)) : Prop where
  pe : es.Perm (R.map Prod.fst)
  pg : gs.Perm (R.map Prod.snd)
  pw : R.Pairwise fun a b => a.1.1 < b.1.1 ∧ a.2.1 < b.2.1
  eq : ∀ r ∈ R, r.1.2.1 = r.2.2.1 ∧ r.1.2.2.1 = r.2.2.2.1
  al : al = true → ∀ r ∈ R, r.1.1 = r.2.1
theorem Tw.filt {es gs : List En} {al : Bool} {R : List (En × En)} (t : Tw es gs al R) (p : Int → Bool) : Tw (es.filter fun e => p e.2.2.1) (gs.filter fun e => p e.2.2.1) al (R.filter fun r => p r.1.2.2.1) := by
  refine ⟨?_, ?_, t.pw.sublist List.filter_sublist, fun r hr => t.eq r (List.mem_filter.mp hr).1, fun h r hr => t.al h r (List.mem_filter.mp hr).1⟩
  · have := t.pe.filter fun e => p e.2.2.1
    rw [List.filter_map] at this
    exact this
  · have := t.pg.filter fun e => p e.2.2.1
    rw [List.filter_map] at this
    have e : (R.filter fun r => p r.1.2.2.1) = R.filter ((fun e : En => p e.2.2.1) ∘ Prod.snd) := List.filter_congr fun r hr => by show p _ = p _; rw [(t.eq r hr).2]
    rw [e]
    exact this
theorem Tw.nodup {es gs : List En} {al : Bool} {R : List (En × En)} (t : Tw es gs al R) : (slotsF es).Nodup ∧ (slotsF gs).Nodup := by
  constructor
  · have : (slotsF (R.map Prod.fst)).Nodup := by
      unfold slotsF List.Nodup
      rw [List.map_map, List.pairwise_map]
      exact t.pw.imp fun h => by show _ ≠ _; have := h.1; simp only [Function.comp]; omega
    exact (t.pe.map _).nodup_iff.mpr this
  · have : (slotsF (R.map Prod.snd)).Nodup := by
      unfold slotsF List.Nodup
      rw [List.map_map, List.pairwise_map]
      exact t.pw.imp fun h => by show _ ≠ _; have := h.2; simp only [Function.comp]; omega
    exact (t.pg.map _).nodup_iff.mpr this
/-- sorted as they come out, they go one to one, too -/
theorem Tw.sorted {es gs : List En} {al : Bool} {R : List (En × En)} (t : Tw es gs al R) : ∃ S : List (En × En), S.Perm R ∧ srtF es = S.map Prod.fst ∧ srtF gs = S.map Prod.snd := by
  obtain ⟨ne, ng⟩ := t.nodup
  refine ⟨R.mergeSort fun a b => decide (a.1.2.2.1 < b.1.2.2.1 ∨ (a.1.2.2.1 = b.1.2.2.1 ∧ a.1.1 ≤ b.1.1)), List.mergeSort_perm _ _, ?_, ?_⟩
  all_goals
    have hs := List.pairwise_mergeSort (le := fun a b : En × En => decide (a.1.2.2.1 < b.1.2.2.1 ∨ (a.1.2.2.1 = b.1.2.2.1 ∧ a.1.1 ≤ b.1.1))) (fun a b c h1 h2 => by simp only [decide_eq_true_eq] at h1 h2 ⊢; omega) (fun a b => by simp only [Bool.or_eq_true, decide_eq_true_eq]; omega) R
    have hp := List.mergeSort_perm R fun a b : En × En => decide (a.1.2.2.1 < b.1.2.2.1 ∨ (a.1.2.2.1 = b.1.2.2.1 ∧ a.1.1 ≤ b.1.1))
    have hn : (R.mergeSort fun a b : En × En => decide (a.1.2.2.1 < b.1.2.2.1 ∨ (a.1.2.2.1 = b.1.2.2.1 ∧ a.1.1 ≤ b.1.1))).Pairwise fun a b => a.1.1 ≠ b.1.1 := by
      have h : ((R.mergeSort fun a b : En × En => decide (a.1.2.2.1 < b.1.2.2.1 ∨ (a.1.2.2.1 = b.1.2.2.1 ∧ a.1.1 ≤ b.1.1))).map fun r => r.1.1).Nodup := by
        refine (hp.map _).nodup_iff.mpr ?_
        unfold List.Nodup
        rw [List.pairwise_map]
        exact t.pw.imp fun h => by have := h.1; omega
      unfold List.Nodup at h
      rwa [List.pairwise_map] at h
    generalize (R.mergeSort fun a b : En × En => decide (a.1.2.2.1 < b.1.2.2.1 ∨ (a.1.2.2.1 = b.1.2.2.1 ∧ a.1.1 ≤ b.1.1))) = S at hs hp hn ⊢
  · refine rel_ext kl_as (srt_kl ne) ?_ fun a => ?_
    · rw [List.pairwise_map]
      exact (hs.and hn).imp fun {a b} h => by
        have h1 := of_decide_eq_true h.1
        have h2 := h.2
        unfold kl; omega
    · rw [(srt_perm es).mem_iff, t.pe.mem_iff]
      exact (hp.map _).mem_iff.symm
  · refine rel_ext kl_as (srt_kl ng) ?_ fun a => ?_
    · rw [List.pairwise_map]
      refine List.Pairwise.imp_of_mem (fun {a b} ma mb h => ?_) (hs.and hn)
      have h1 := of_decide_eq_true h.1
      have h2 := h.2
      have ea := t.eq a (hp.mem_iff.mp ma)
      have eb := t.eq b (hp.mem_iff.mp mb)
      rcases pw_cases t.pw (hp.mem_iff.mp ma) (hp.mem_iff.mp mb) with e | e | e
      · rw [e] at h2; exact (h2 rfl).elim
      · unfold kl; omega
      · unfold kl; omega
    · rw [(srt_perm gs).mem_iff, t.pg.mem_iff]
      exact (hp.map _).mem_iff.symm
theorem Tw.names {es gs : List En} {al : Bool} {R : List (En × En)} (t : Tw es gs al R) : (srtF es).map (fun e => (e.2.2.1, e.2.1)) = (srtF gs).map fun e => (e.2.2.1, e.2.1) := by
  obtain ⟨S, pS, e1, e2⟩ := t.sorted
  rw [e1, e2, List.map_map, List.map_map]
  exact List.map_congr_left fun r hr => by
    have := t.eq r (pS.mem_iff.mp hr)
    show (r.1.2.2.1, r.1.2.1) = (r.2.2.2.1, r.2.2.1)
    rw [this.1, this.2]
theorem Tw.all {es gs : List En} {R : List (En × En)} (t : Tw es gs true R) : (srtF es).map goD = (srtF gs).map goD := by
  obtain ⟨S, pS, e1, e2⟩ := t.sorted
  rw [e1, e2, List.map_map, List.map_map]
  exact List.map_congr_left fun r hr => by
    have h := t.eq r (pS.mem_iff.mp hr)
    have h2 := t.al rfl r (pS.mem_iff.mp hr)
    show goD r.1 = goD r.2
    unfold goD
    rw [h.1, h.2, h2]
theorem Tw.eqT {es gs : List En} {R : List (En × En)} (t : Tw es gs true R) (hr sl : Int) : eqT hr hr sl sl es gs = true := by
  obtain ⟨ne, ng⟩ := t.nodup
  rw [eqT_rows ne ng, decide_eq_true_eq]
  refine ⟨rfl, rfl, lt_ext (z0_rows hr ne) (z0_rows hr ng) fun a => ?_⟩
  have m1 := ((rows_perm es hr).map z0).mem_iff (a := a)
  have m2 := ((rows_perm gs hr).map z0).mem_iff (a := a)
  have m3 := (t.pe.map z0).mem_iff (a := a)
  have m4 := (t.pg.map z0).mem_iff (a := a)
  rw [m1, m2, m3, m4, List.map_map, List.map_map]
  have : R.map (z0 ∘ Prod.fst) = R.map (z0 ∘ Prod.snd) := List.map_congr_left fun r hr => by
    have h := t.eq r hr
    have h2 := t.al rfl r hr
    show z0 r.1 = z0 r.2
    unfold z0
    rw [h.1, h.2, h2]
  rw [this]

end Pot

namespace Pot
open PySem PySem.Spec PyProof.Rows L2
section
variable {P : Program} {w : World} {K : PySem.W.Frag} {mg : Str → Option Value} {base : Heap}
theorem takes_never {X : Cx} : Takes X (fun _ _ _ _ => False) := fun u s' x => by
  obtain ⟨_, _, _, _, _, _, _, _, _, _, _, _, _, _, _, _, q⟩ := x
  exact q.elim
theorem ins_new {C x dx : Addr} {H1 : Hp} (nx : H1 x = none) (ndx : H1 dx = none) : Same H1 (upd (upd H1 dx (.own x)) x (.ins C dx [])) := fun b o e => by
  rw [upd_ne (ne_of_none e nx), upd_ne (ne_of_none e ndx)]
  exact e
/-- those that are put anew, so many of them -/
def e00 : En := (0, Str.empty, 0, 0)
def gN (rows : List En) (i : Nat) : List En := (List.range i).map fun j => (j, (rows.getD j e00).2.1, (rows.getD j e00).2.2.1, 0)
theorem gN_succ (rows : List En) (i : Nat) : gN rows (i + 1) = gN rows i ++ [(i, (rows.getD i e00).2.1, (rows.getD i e00).2.2.1, 0)] := by
  unfold gN
  rw [List.range_succ, List.map_append]; rfl
theorem gN_slots {gs rows : List En} {i : Nat} (h : gs.map z0 = gN rows i) : slotsF gs = List.range i := by
  have : slotsF gs = (gs.map z0).map fun e => e.1 := by unfold slotsF; rw [List.map_map]; rfl
  rw [this, h]
  unfold gN
  rw [List.map_map]
  exact List.map_id _
theorem mex_range (i : Nat) : mexF (List.range i) = i := by
  obtain ⟨m1, m2, m3⟩ := mex_is (ts := List.range i)
  rw [List.length_range] at m3
  rcases Nat.lt_or_ge (mexF (List.range i)) i with h | h
  · exact (m1 (List.mem_range.mpr h)).elim
  · omega
def alkF (rows : List En) : Bool := decide ((rows.map fun e => ((e.1 : Nat) : Int)) = (List.range rows.length).map fun j : Nat => (j : Int))
theorem tw_new {es gs : List En} {ho : Int} (nd : (slotsF es).Nodup) (h : gs.map z0 = gN (rowsF es ho) (rowsF es ho).length) : Tw es gs (alkF (rowsF es ho)) ((rowsF es ho).zip gs) := by
  have hl : gs.length = (rowsF es ho).length := by
    have := congrArg List.length h
    unfold gN at this
    rwa [List.length_map, List.length_map, List.length_range] at this
  have gat : ∀ j (hj : j < gs.length), z0 gs[j] = (j, ((rowsF es ho).getD j e00).2.1, ((rowsF es ho).getD j e00).2.2.1, 0) := fun j hj => by
    have h1 : (gs.map z0)[j]? = some (z0 gs[j]) := by rw [List.getElem?_map, List.getElem?_eq_getElem hj]; rfl
    rw [h] at h1
    unfold gN at h1
    rw [List.getElem?_map, List.getElem?_range (by omega)] at h1
    exact (Option.some.inj h1).symm
  have zat : ∀ r ∈ (rowsF es ho).zip gs, ∃ j, ∃ (h1 : j < (rowsF es ho).length) (h2 : j < gs.length), r = ((rowsF es ho)[j], gs[j]) := fun r hr => by
    obtain ⟨j, hj, e⟩ := List.getElem_of_mem hr
    rw [List.length_zip] at hj
    exact ⟨j, by omega, by omega, by rw [← e, List.getElem_zip]⟩
  have gd_ : ∀ j (h1 : j < (rowsF es ho).length), (rowsF es ho).getD j e00 = (rowsF es ho)[j] := fun j h1 => by rw [List.getD_eq_getElem?_getD, List.getElem?_eq_getElem h1]; rfl
  refine ⟨?_, ?_, ?_, fun r hr => ?_, fun ha r hr => ?_⟩
  · rw [List.map_fst_zip (by omega)]
    exact (rows_perm es ho).symm
  · rw [List.map_snd_zip (by omega)]
  · rw [List.pairwise_iff_getElem]
    intro i j hi hj hij
    rw [List.length_zip] at hi hj
    rw [List.getElem_zip, List.getElem_zip]
    refine ⟨(List.pairwise_iff_getElem.mp (rows_lt (ho := ho) nd)) i j (by omega) (by omega) hij, ?_⟩
    have a := congrArg (fun q : En => q.1) (gat i (by omega))
    have b := congrArg (fun q : En => q.1) (gat j (by omega))
    have a : (gs[i]'(by omega)).1 = i := a
    have b : (gs[j]'(by omega)).1 = j := b
    show (gs[i]'(by omega)).1 < (gs[j]'(by omega)).1
    omega
  · obtain ⟨j, h1, h2, rfl⟩ := zat r hr
    have a := gat j h2
    rw [gd_ j h1] at a
    exact ⟨(congrArg (fun q : En => q.2.1) a).symm, (congrArg (fun q : En => q.2.2.1) a).symm⟩
  · obtain ⟨j, h1, h2, rfl⟩ := zat r hr
    have a : (gs[j]'h2).1 = j := congrArg (fun q : En => q.1) (gat j h2)
    have ha := of_decide_eq_true ha
    have g : ((rowsF es ho).map fun e => ((e.1 : Nat) : Int))[j]? = some (j : Int) := by
      rw [ha, List.getElem?_map, List.getElem?_range h1]; rfl
    rw [List.getElem?_map, List.getElem?_eq_getElem h1] at g
    have : (((rowsF es ho)[j].1 : Nat) : Int) = j := Option.some.inj g
    show (rowsF es ho)[j].1 = (gs[j]'h2).1
    omega
theorem eqT_new {es gs : List En} {ho sl : Int} (nd : (slotsF es).Nodup) (h : gs.map z0 = gN (rowsF es ho) (rowsF es ho).length) : eqT ho ho sl sl es gs = alkF (rowsF es ho) := by
  have t := tw_new nd h
  by_cases c : alkF (rowsF es ho) = true
  · rw [c] at t ⊢
    exact t.eqT ho sl
  · have c : alkF (rowsF es ho) = false := by simpa using c
    rw [c]
    obtain ⟨ne, ng⟩ := t.nodup
    rw [eqT_rows ne ng, decide_eq_false_iff_not]
    rintro ⟨_, _, e⟩
    have sg := gN_slots h
    have sr : slotsF (rowsF gs ho) = List.range (rowsF es ho).length := by
      have p1 : (slotsF (rowsF gs ho)).Perm (List.range (rowsF es ho).length) := by rw [← sg]; exact (rows_perm gs ho).map _
      refine List.Perm.eq_of_pairwise (le := fun a b : Nat => a ≤ b) (fun a b _ _ h1 h2 => Nat.le_antisymm h1 h2) ?_ (List.pairwise_le_range) p1
      unfold slotsF
      rw [List.pairwise_map]
      exact (rows_lt ng).imp fun h => Nat.le_of_lt h
    have se : slotsF (rowsF es ho) = slotsF (rowsF gs ho) := by
      have := congrArg (List.map fun e : En => e.1) e
      rwa [List.map_map, List.map_map] at this
    have : alkF (rowsF es ho) = true := by
      unfold alkF
      rw [decide_eq_true_eq]
      have e2 : (rowsF es ho).map (fun e => ((e.1 : Nat) : Int)) = (slotsF (rowsF es ho)).map fun j : Nat => (j : Int) := by unfold slotsF; rw [List.map_map]; rfl
      rw [e2, se, sr]
    rw [this] at c; cases c
theorem rgV_range (m : Nat) : rgV 0 (m : Nat) = ((List.range m).map fun i => ((i : Nat) : Int)).map V.int := by
  unfold rgV
  rw [List.map_map, Int.sub_zero, Int.toNat_natCast]
  refine List.map_congr_left fun i _ => ?_
  rw [Int.zero_add]; rfl
theorem gN_names {gs rows : List En} {i : Nat} (h : gs.map z0 = gN rows i) (hi : i ≤ rows.length) (nr : ∀ e ∈ rows, Nw e.2.1) : ∀ e ∈ gs, Nw e.2.1 := fun e he => by
  have m : z0 e ∈ gN rows i := by rw [← h]; exact List.mem_map.mpr ⟨e, he, rfl⟩
  unfold gN at m
  obtain ⟨j, hj, ej⟩ := List.mem_map.mp m
  have hj := List.mem_range.mp hj
  have e1 : e.2.1 = (rows.getD j e00).2.1 := (congrArg (fun q : En => q.2.1) ej).symm
  rw [e1, List.getD_eq_getElem?_getD, List.getElem?_eq_getElem (by omega)]
  exact nr _ (List.getElem_mem _)
theorem ints_eqv : ∀ ns ms : List Int, PyData.eqvAll (ns.map PyData.int) (ms.map PyData.int) = decide (ns = ms)
  | [], [] => rfl
  | [], _ :: _ => rfl
  | _ :: _, [] => rfl
  | n :: ns, m :: ms => by
    show (PyData.eqv (.int n) (.int m) && PyData.eqvAll (ns.map PyData.int) (ms.map PyData.int)) = _
    rw [ints_eqv ns ms, Bool.eq_iff_iff]
    simp [PyData.eqv]
theorem in_dp {H : Hp} {y : V} {e : En} {ho : Int} (d : Dp K H y (inD e ho)) : ∃ a, y = .ref a ∧ SqT K H a [.int ((e.1 : Nat) : Int), .str e.2.1, .int (e.2.2.1 - ho)] := by
  unfold inD at d
  cases d with
  | tup hq ds =>
    cases ds with
    | cons a ds =>
      cases ds with
      | cons b ds =>
        cases ds with
        | cons c ds =>
          cases ds
          cases a
          cases b
          cases c
          exact ⟨_, rfl, hq⟩
theorem sqT_sm {H H' : Hp} {S : List Addr} {a : Addr} {vs : List V} (h : SqT K H a vs) (s : Sm S H H') (nt : ∀ x ∈ S, ∀ ob, H x = some ob → (∀ us, ob ≠ .tup us) ∧ ∀ o us, ob ≠ .frz o (.tup us)) : SqT K H' a vs := by
  rcases h with (h | ⟨o2, h⟩) | h
  · exact .inl (.inl (sm_at s (fun x => (nt a x _ h).1 _ rfl) h))
  · exact .inl (.inr ⟨o2, sm_at s (fun x => (nt a x _ h).2 _ _ rfl) h⟩)
  · exact .inr h
theorem dpgo_sm {H H' : Hp} {S : List Addr} {us : List V} {es : List En} (d : DpAll K H us (es.map goD)) (s : Sm S H H') (nt : ∀ x ∈ S, ∀ ob, H x = some ob → (∀ us, ob ≠ .tup us) ∧ ∀ o us, ob ≠ .frz o (.tup us)) : DpAll K H' us (es.map goD) :=
  dpAll_go (fun a vs h => sqT_sm h s nt) (noL_map (f := goD) (fun _ => ⟨trivial, trivial, trivial, trivial⟩) _) d
def nmD (e : En) : PyData := .tuple [.int e.2.2.1, .str e.2.1]
theorem go_dp {H : Hp} {y : V} {e : En} (d : Dp K H y (goD e)) : ∃ a, y = .ref a ∧ SqT K H a [.int e.2.2.1, .int ((e.1 : Nat) : Int), .str e.2.1] := by
  unfold goD at d
  cases d with
  | tup hq ds =>
    cases ds with
    | cons a ds =>
      cases ds with
      | cons b ds =>
        cases ds with
        | cons c ds =>
          cases ds
          cases a
          cases b
          cases c
          exact ⟨_, rfl, hq⟩
theorem nm_gd {es : List En} (ne : ∀ e ∈ es, Nw e.2.1) : ∃ k, gd k (.list (es.map nmD)) := by
  obtain ⟨k, hk⟩ : ∃ k, gdAll k (es.map nmD) := gd_ex fun d hd => by
    obtain ⟨e, he, rfl⟩ := List.mem_map.mp hd
    exact ⟨e.2.2.1.natAbs, Nat.le_refl _, wd_gd (ne e he) _, trivial⟩
  exact ⟨k, hk⟩
theorem nm_shaped {es : List En} (ne : ∀ e ∈ es, Nw e.2.1) : SeqAt.shaped (.list (es.map nmD)) = true := by
  obtain ⟨k, hk⟩ := nm_gd ne
  refine gd_shaped hk ?_
  have := depthAll_map (f := nmD) (b := 1) (l := es) fun e _ => by show max 0 (max 0 0) + 1 ≤ 1; decide
  show PyData.depthAll _ + 1 ≤ 64
  omega
theorem go_shaped {es : List En} (ne : ∀ e ∈ es, Nw e.2.1) : SeqAt.shaped (.list (es.map goD)) = true := by
  obtain ⟨k, hk⟩ : ∃ k, gdAll k (es.map goD) := gd_ex fun d hd => by
    obtain ⟨e, he, rfl⟩ := List.mem_map.mp hd
    exact ⟨e.2.2.1.natAbs + e.1, by show Int.natAbs _ ≤ _; omega, by show Int.natAbs _ ≤ _; omega, wd_gd (ne e he) _, trivial⟩
  refine gd_shaped (m := k) (d := .list (es.map goD)) hk ?_
  have := depthAll_map (f := goD) (b := 1) (l := es) fun e _ => by show max 0 (max 0 (max 0 0)) + 1 ≤ 1; decide
  show PyData.depthAll _ + 1 ≤ 64
  omega
/-- all that stands while hours go on in both -/
structure Wn (C : Addr) (Hx : Hp) (p hd o ld q2 hq b : Addr) (ho : Int) (sl : Nat) (es fs gs : List En) (alk : Bool) (R : List (En × En)) (m : Nat) : Prop where
  u : Un C Hx p hd o ld ho sl es fs
  M : TnAt C Hx q2 hq ho (sl : Nat) gs
  t : Tw es gs alk R
  ng : ∀ e ∈ gs, Nw e.2.1
  k2 : hq ≠ o
  k3 : hq ≠ ld
  B : Bq Hx b m
theorem Wn.same {C : Addr} {H H' : Hp} {p hd o ld q2 hq b : Addr} {ho : Int} {sl : Nat} {es fs gs : List En} {alk : Bool} {R : List (En × En)} {m : Nat} (w : Wn C H p hd o ld q2 hq b ho sl es fs gs alk R m) (s : Same H H') : Wn C H' p hd o ld q2 hq b ho sl es fs gs alk R m := ⟨w.u.same s, w.M.same s, w.t, w.ng, w.k2, w.k3, w.B.same s⟩
abbrev s__law_anew : Stmt := topS 24
def n__law_anew : List Str := ["_law_state", "_law_tunnel", "_law_own", "_law_inside_here", "_law_other", "_law_slot", "_law_name", "_law_left", "_law_alike", "_law_turn", "_law_many", "_law_told", "_law_again", "_law_row"]
theorem sc__law_anew : FnScope n__law_anew ["_law_state", "_law_tunnel", "_law_own"] (defScope s__law_anew) := ⟨rfl, rfl, rfl, by decide +kernel, rfl, by decide +kernel, by decide +kernel⟩
def spAnew (K : PySem.W.Frag) (C : Addr) : Sp := fun vs H Q _ => ∃ (b p hd o ld : Addr) (n : Nat) (hr : Int) (sl : Nat) (es fs : List En), vs = [.ref b, .ref p, .ref o] ∧ Un C H p hd o ld hr sl es fs ∧ sl ≤ 60 ∧ Bq H b n ∧ n + 10 < 2 ^ 40 ∧ ∀ H', Sm [b, p, hd, o, ld] H H' → Q (.bl true) H'
set_option maxHeartbeats 1000000 in
theorem ok_anew {C CF CS f : Addr} {fd : FuncData} {k : Nat} (F : Fun K "_law_anew" "_law_anew" s__law_anew f fd) (T : Txt mg) (O : TunC P w K mg base C CF CS) (c__law_take : Cl P w K mg base 1 "_law_take" spTake) (c__law_inside : Cl P w K mg base 1 "_law_inside" (spLI K)) (c__law_tick : Cl P w K mg base 1 "_law_tick" (spLT K)) (c__law_are_alike : Cl P w K mg base 3 "_law_are_alike" (spAA C)) (c__law_same : Cl P w K mg base 5 "_law_same" (spSame K 4)) : FnOk P w K mg base CX0 (k + 6) f fd ["_law_state", "_law_tunnel", "_law_own"] (spAnew K C) := by
  refine F.ok sc__law_anew (fun vs H Q E h => ?_) (fun cdv A outer s H vs Q E hr h => ?_)
  · obtain ⟨b, p, hd, o, ld, n, hr, sl, es, fs, rfl, _⟩ := h
    rfl
  · obtain ⟨b, p, hd, o, ld, n, ho, sl, es, fs, rfl, u, sl60, B, hn, q⟩ := h
    have nd := sc__law_anew.nd
    have hu := hu_of hr
    have hu64 := hr.units
    have mk_Tunnel := O.made
    have m_Tunnel_enter := O.ent
    have m_Tunnel_tick := O.tick
    let CTunnel := C
    /- 0 _law_state, 1 _law_tunnel, 2 _law_own, 3 _law_inside_here, 4 _law_other, 5 _law_slot, 6 _law_name, 7 _law_left, 8 _law_alike, 9 _law_turn, 10 _law_many, 11 _law_told, 12 _law_again, 13 _law_row -/
    refine ⟨_, (pss_cons (ps_set (i := 3) nd rfl (.inl rfl) (pe_cl c__law_inside hr (by omega) (by rfl) (pa_cons (pv 2) pa_nil)))
      (pss_cons (ps_set (i := 4) nd rfl (.inl rfl) (pe_omk mk_Tunnel hr (by omega) (by rfl) (pa_cons (pe_dget hu (pv 2) pe_str (fun _ _ => rfl)) (pa_cons (pe_dget hu (pv 2) pe_str (fun _ _ => rfl)) pa_nil))))
      (pss_cons (ps_for PassesOwn.never rfl (ki_list (K := K) (pv 3)) (kg_tup (K := K) (n := 3) (pgs_cons (pg_name (i := 5) nd rfl (.inl rfl)) (pgs_cons (pg_name (i := 6) nd rfl (.inl rfl)) (pgs_cons (pg_name (i := 7) nd rfl (.inl rfl)) pgs_nil))))
          (pss_one (ps_expr (pe_omx m_Tunnel_enter hr (by omega) takes_never (pv 4) (pa_cons (pv 6) (pa_cons (pv 7) pa_nil))))))
      (pss_cons (ps_set (i := 8) nd rfl (.inl rfl) (pe_cmpR (ko_eq (K := K) hu64) (pe_lc (own := [("_law_row", 13)]) rfl nd (ki_list (K := K) (pv 3)) (blkOk_by (N := n__law_anew) (sc := defScope s__law_anew) (by decide +kernel)) (fun _ _ _ _ _ => (pg_name (i := 13) nd rfl (.inl rfl))) (fun _ _ _ _ _ => pts_nil) (fun _ _ _ _ _ => (pe_ix (kx_tup (K := K)) (pv 13) pe_int (fun _ _ => rfl)))) (pe_listRg rfl (by rfl) T.list (prg_1 (by rfl) T.range (pe_callB (kc_len (K := K)) (by rfl) T.len PySem.boot_len (pa_cons (pv 3) pa_nil)))) (nomark _)))
      (pss_cons (ps_if (pt_not (pt_val (pe_cl c__law_are_alike hr (by omega) (by rfl) (pa_cons (pv 1) (pa_cons (pv 4) (pa_cons (pv 8) pa_nil))))))
          (pss_one (ps_ret pe_bl))
          pss_nil)
      (pss_cons (ps_for PassesOwn.never rfl (pi_range1 (by rfl) T.range (pa_cons pe_int pa_nil)) (pg_name (i := 9) nd rfl (.inl rfl))
          (pss_cons (ps_set (i := 10) nd rfl (.inl rfl) (pe_cl c__law_take hr (by omega) (by rfl) (pa_cons (pv 0) (pa_cons pe_int pa_nil))))
          (pss_cons (ps_par (i := 11) (j := 12) rfl nd rfl rfl (by decide) rfl rfl (pa_cons (pe_omt m_Tunnel_tick hr (by omega) (pv 1) (pa_cons (pv 10) pa_nil)) (pa_cons (pe_omt m_Tunnel_tick hr (by omega) (pv 4) (pa_cons (pv 10) pa_nil)) pa_nil)) rfl)
          (pss_cons (ps_if ((pw_or (pt_not (pt_val (pe_cl c__law_same hr (by omega) (by rfl) (pa_cons (pv 11) (pa_cons (pe_cl c__law_tick hr (by omega) (by rfl) (pa_cons (pv 2) (pa_cons (pv 10) pa_nil))) pa_nil))))) (pw_or1 (pt_cmpR (ko_ne (K := K) hu64) (pe_lc (own := [("_law_row", 13)]) rfl nd (ki_list (K := K) (pv 12)) (blkOk_by (N := n__law_anew) (sc := defScope s__law_anew) (by decide +kernel)) (fun _ _ _ _ _ => (pg_name (i := 13) nd rfl (.inl rfl))) (fun _ _ _ _ _ => pts_nil) (fun _ _ _ _ _ => (pe_twoT (K := K) (pv 13)))) (pe_lc (own := [("_law_row", 13)]) rfl nd (ki_list (K := K) (pv 11)) (blkOk_by (N := n__law_anew) (sc := defScope s__law_anew) (by decide +kernel)) (fun _ _ _ _ _ => (pg_name (i := 13) nd rfl (.inl rfl))) (fun _ _ _ _ _ => pts_nil) (fun _ _ _ _ _ => (pe_twoT (K := K) (pv 13)))) (nomark _))))).pt
              (pss_one (ps_ret pe_bl))
              pss_nil)
          (pss_one (ps_if ((pw_and (pt_val (pv 8)) (pw_and1 ((pw_or (pt_cmpR (ko_ne (K := K) hu64) (pv 11) (pv 12) (nomark _)) (pw_or1 (pt_not (pt_val (pe_cl c__law_are_alike hr (by omega) (by rfl) (pa_cons (pv 1) (pa_cons (pv 4) (pa_cons pe_bl pa_nil))))))))).pt))).pt
              (pss_one (ps_ret pe_bl))
              pss_nil))))))
      (pss_one (ps_ret pe_bl)))))))), ?_⟩
    have le := u.le
    have lf : fs.length ≤ 60 := by rw [← al_len u.al]; omega
    refine ⟨_, rfl, o, ld, ho, (sl : Nat), fs, rfl, u.W, lf, fun H1 R1 us s1 n1 h1 d1 => ?_⟩
    have u1 := u.same s1
    have B1 := B.same s1
    have d1 := dpAll_same off_sub d1
    rw [← al_in u.al] at d1
    simp only [gName, List.set]
    -- the new one
    refine seq_mid (fun σ Hx => ∃ x hq, σ = [some (.ref b), some (.ref p), some (.ref o), some (.ref R1), some (.ref x), none, none, none, none, none, none, none, none, none] ∧ TnAt C Hx x hq ho (sl : Nat) [] ∧ Same H1 Hx ∧ H1 x = none ∧ H1 hq = none) (fun N hN => ?_) (fun σ H2 h => ?_)
    · refine ⟨_, rfl, o, _, rfl, u1.W.gS, _, rfl, o, _, rfl, u1.W.gN, ?_⟩
      intro x dx nx ndx dne
      exact ⟨H1, x, dx, (sl : Nat), ho, rfl, ins_new nx ndx, nx, upd_same, fun H' hq s n ne t => ⟨rfl, hN _ _ ⟨x, hq, rfl, t, s, nx, n⟩⟩⟩
    obtain ⟨q2, hq, rfl, M2, s2, nq2, nhq⟩ := h
    have lr : (rowsF es ho).length = es.length := (rows_perm es ho).length_eq
    have lus : us.length = es.length := by rw [dpAll_map_len d1, lr]
    have h1R := s2 _ _ h1
    have u2 := u1.same s2
    have B2 := B1.same s2
    have hqd : hq ≠ hd := fun e => by have := u1.M.di; rw [← e, nhq] at this; cases this
    have hqo : hq ≠ o := fun e => by have := u1.W.ob; rw [← e, nhq] at this; cases this
    have hql : hq ≠ ld := fun e => by have := u1.W.di; rw [← e, nhq] at this; cases this
    have hqR : hq ≠ R1 := fun e => by rw [← e, nhq] at h1; cases h1
    have d2 := dpAll_same s2 d1
    refine seq_mid (fun σ Hx => ∃ v5 v6 v7 gs, σ = [some (.ref b), some (.ref p), some (.ref o), some (.ref R1), some (.ref q2), v5, v6, v7, none, none, none, none, none, none] ∧ TnAt C Hx q2 hq ho (sl : Nat) gs ∧ gs.map z0 = gN (rowsF es ho) es.length ∧ Sm [hq] H2 Hx) (fun N hN => ?_) (fun σ H3 h => ?_)
    · refine ⟨_, rfl, R1, rfl, ⟨_, SqL.of h1R⟩, ?_⟩
      refine for_it (walk_list (xs := us)) (fun j σ Hx => ∃ v5 v6 v7 gs, σ = [some (.ref b), some (.ref p), some (.ref o), some (.ref R1), some (.ref q2), v5, v6, v7, none, none, none, none, none, none] ∧ TnAt C Hx q2 hq ho (sl : Nat) gs ∧ gs.map z0 = gN (rowsF es ho) j ∧ Sm [hq] H2 Hx) ⟨_, _, _, [], rfl, M2, rfl, sm_of (Same.refl _)⟩ (fun j σ Hx _ h => by
        obtain ⟨_, _, _, _, _, _, _, s⟩ := h
        exact (SqL.of (sm1_at s (Ne.symm hqR) h1R) : SqL K Hx R1 _)) ?_ (fun σ Hx h => by
        rw [lus] at h
        exact hN _ _ h)
      rintro j y σ _ Hx hj ⟨v5, v6, v7, gs, rfl, Mg, eg, sx⟩ ⟨rfl, gy⟩
      rw [lus] at hj
      obtain ⟨e0, g0, dp⟩ := dpAll_map_at d2 gy
      obtain ⟨a, rfl, ha⟩ := in_dp dp
      have hdi := M2.di
      have ntq : ∀ x ∈ [hq], ∀ ob, H2 x = some ob → (∀ us, ob ≠ .tup us) ∧ ∀ o us, ob ≠ .frz o (.tup us) := fun x hx ob e => by
        rw [List.mem_singleton.mp hx, hdi] at e
        cases e
        exact ⟨fun _ z => (by cases z), fun _ _ z => (by cases z)⟩
      have ha := sqT_sm ha sx ntq
      have sg := gN_slots eg
      have lg : gs.length = j := by
        have := congrArg List.length eg
        unfold gN at this
        rwa [List.length_map, List.length_map, List.length_range] at this
      have le2 : es.length ≤ sl := u.le
      have mx : mexF (slotsF gs) = j := by rw [sg]; exact mex_range j
      obtain ⟨dg, hpg⟩ := Mg.ob
      have lt : (tnF hq ho (sl : Nat)).lookup ("enter" : Str) = none := tf_no (by decide +kernel) (by decide +kernel) (by decide +kernel)
      refine ⟨a, _, rfl, ha, rfl, _, _, rfl, _, _, rfl, _, _, rfl, rfl, ?_⟩
      refine ⟨_, rfl, q2, dg, _, rfl, hpg, lt, _, rfl, _, rfl, q2, hq, ho, (sl : Nat), gs, e0.2.1, e0.2.2.1 - ho, rfl, Mg, by omega, by omega, fun c H' t s n M' => ?_, fun c => absurd c (by rw [mx]; omega)⟩
      refine ⟨_, _, _, _, rfl, M', ?_, sx.trans s⟩
      have ge : (rowsF es ho).getD j e00 = e0 := by rw [List.getD_eq_getElem?_getD, g0]; rfl
      rw [List.map_append, eg, gN_succ, ge, mx]
      show _ ++ [(j, e0.2.1, ho + (e0.2.2.1 - ho), 0)] = _
      rw [show ho + (e0.2.2.1 - ho) = e0.2.2.1 by omega]
    obtain ⟨v5, v6, v7, gs, rfl, Mg, eg, s3⟩ := h
    have hR3 := sm1_at s3 (Ne.symm hqR) h1R
    have hdi2 := M2.di
    have ntq : ∀ x ∈ [hq], ∀ ob, H2 x = some ob → (∀ us, ob ≠ .tup us) ∧ ∀ o us, ob ≠ .frz o (.tup us) := fun x hx ob e => by
      rw [List.mem_singleton.mp hx, hdi2] at e
      cases e
      exact ⟨fun _ z => (by cases z), fun _ _ z => (by cases z)⟩
    have u3 : Un C H3 p hd o ld ho sl es fs := by
      obtain ⟨dx, hp⟩ := u2.M.ob
      refine u2.sm s3 ?_ (by simp [Ne.symm hqd]) (by simp [Ne.symm hqo]) (by simp [Ne.symm hql]) fun x hx us e => (ntq x hx _ e).1 _ rfl
      intro z; rw [List.mem_singleton.mp z, hdi2] at hp; cases hp
    have B3 : Bq H3 b n := B2.sm s3 fun z => by
      obtain ⟨_, _, _, hb, _⟩ := B2
      rw [List.mem_singleton.mp z, hdi2] at hb; cases hb
    have g3 : Sm [b, p, hd, o, ld] H H3 := fun x ob e => by
      have nx := off_mem e
      rw [off_out nx] at e ⊢
      exact sm1_at s3 (ne_of_none (s1 _ _ e) nhq) (s2 _ _ (s1 _ _ e))
    refine seq_mid (fun σ Hx => ∃ v13, σ = [some (.ref b), some (.ref p), some (.ref o), some (.ref R1), some (.ref q2), v5, v6, v7, some (.bl (alkF (rowsF es ho))), none, none, none, none, v13] ∧ Same H3 Hx) (fun N hN => ?_) (fun σ H4 h => ?_)
    · refine ⟨_, rfl, R1, rfl, ⟨_, SqL.of hR3⟩, fun D nD => ?_⟩
      refine lc_it (walk_list (xs := us)) (fun j Hx => Same H3 Hx ∧ Hx D = some (.lst ((((rowsF es ho).take j).map fun e => ((e.1 : Nat) : Int)).map V.int))) ⟨same_upd nD, upd_same⟩ (fun j Hx _ h => SqL.of (h.1 _ _ hR3)) ?_ ?_
      · rintro j y _ Hx hj ⟨sx, hD⟩ ⟨rfl, gy⟩
        rw [lus] at hj
        obtain ⟨e0, g0, dp⟩ := dpAll_map_at d2 gy
        obtain ⟨a, rfl, ha⟩ := in_dp dp
        have ha := sqT_sm ha (s3.trans (sm_of sx)) ntq
        refine ⟨rfl, tYes_at ?_⟩
        rw [if_pos rfl]
        refine ⟨_, rfl, a, _, 0, _, rfl, rfl, ha, rfl, _, hD, by rw [List.length_map, List.length_map, List.length_take, sizeLine_eq]; omega, same_put sx nD, ?_⟩
        rw [List.take_add_one, g0, List.map_append, List.map_append]
        exact upd_same
      rintro Hy ⟨sy, hD⟩
      rw [lus, List.take_of_length_le (by omega)] at hD
      refine ⟨_, rfl, _, _, rfl, .inl ⟨_, SqL.of (sy _ _ hR3), rfl⟩, _, rfl, ?_⟩
      rw [lus]
      refine ⟨?_, fun r nr => ?_⟩
      · exact RgOk.of_le (by decide) (by omega) (by decide) (by omega)
      have erg : rgV 0 ((es.length : Nat) : Int) = ((List.range es.length).map fun j : Nat => (j : Int)).map V.int := rgV_range es.length
      rw [erg]
      have hr_ : upd Hy r (.lst (((List.range es.length).map fun j : Nat => (j : Int)).map V.int)) r = some (.lst (((List.range es.length).map fun j : Nat => (j : Int)).map V.int)) := upd_same
      have hD := same_upd (o := .lst (((List.range es.length).map fun j : Nat => (j : Int)).map V.int)) nr _ _ hD
      have shp : ∀ ns : List Int, SeqAt.shaped (.list (ns.map PyData.int)) = true := fun ns => PySem.W.ke_shaped_ints ns
      refine ⟨_, _, .lst (SqL.of hD) (dp_ints _), .lst (SqL.of hr_) (dp_ints _), shp _, shp _, ?_⟩
      have eq_ : PyData.eqv (.list (((rowsF es ho).map fun e => ((e.1 : Nat) : Int)).map PyData.int)) (.list (((List.range es.length).map fun j : Nat => (j : Int)).map PyData.int)) = alkF (rowsF es ho) := by
        show PyData.eqvAll _ _ = _
        rw [ints_eqv]
        unfold alkF
        rw [lr]
      rw [eq_]
      exact hN _ _ ⟨_, rfl, sy.trans (same_upd nr)⟩
    obtain ⟨v13, rfl, s4⟩ := h
    have u4 := u3.same s4
    have B4 := B3.same s4
    have M4 := Mg.same s4
    have g4 := g3.trans (sm_of s4)
    have nr : ∀ e ∈ rowsF es ho, Nw e.2.1 := fun e he => u.ne e ((rows_perm es ho).mem_iff.mp he)
    have ng := gN_names eg (by omega) nr
    have eg2 : gs.map z0 = gN (rowsF es ho) (rowsF es ho).length := by rw [lr]; exact eg
    have ea : eqT ho ho (sl : Nat) (sl : Nat) es gs = alkF (rowsF es ho) := eqT_new u.M.nd eg2
    have tw0 := tw_new u.M.nd eg2
    have lg : gs.length ≤ sl := tn_len M4
    have nq0 : H q2 = none := s1.free nq2
    generalize alkF (rowsF es ho) = alk at ea tw0 ⊢
    have le2 : es.length ≤ sl := u.le
    refine seq_mid (fun σ Hx => σ = [some (.ref b), some (.ref p), some (.ref o), some (.ref R1), some (.ref q2), v5, v6, v7, some (.bl alk), none, none, none, none, v13] ∧ Same H4 Hx) (fun N hN => ?_) (fun σ H5 h => ?_)
    · refine ⟨_, rfl, _, rfl, _, rfl, p, hd, q2, hq, ho, (sl : Nat), ho, (sl : Nat), es, gs, by rw [ea]; rfl, u4.M, M4, by omega, by omega, u4.ne, ng, fun H' s' => ⟨true, rfl, iteF (hN _ _ ⟨rfl, s'⟩)⟩⟩
    obtain ⟨rfl, s5⟩ := h
    have u5 := u4.same s5
    have B5 := B4.same s5
    have M5 := M4.same s5
    have g5 := g4.trans (sm_of s5)
    clear u4 B4 M4 g4 u3 B3 g3 M2 Mg d2 d1 h1R hR3 eg eg2 u2 u1 B2 B1 s3 s2
    have w5 : Wn C H5 p hd o ld q2 hq b ho sl es fs gs alk _ n := ⟨u5, M5, tw0, ng, hqo, hql, B5⟩
    have qp : q2 ≠ p := fun e => by obtain ⟨dx, hp⟩ := u.M.ob; rw [← e, nq0] at hp; cases hp
    refine ⟨_, rfl, by decide, by decide, ?_⟩
    refine for_it walk_range (fun i σ Hx => ∃ hd' hq' ho' es' fs' gs' R v9 v10 v11 v12 v13, σ = [some (.ref b), some (.ref p), some (.ref o), some (.ref R1), some (.ref q2), v5, v6, v7, some (.bl alk), v9, v10, v11, v12, v13] ∧ Wn C Hx p hd' o ld q2 hq' b ho' sl es' fs' gs' alk R (n + i) ∧ Sm [b, p, hd, o, ld] H Hx) ⟨hd, hq, ho, es, fs, gs, _, _, _, _, _, _, rfl, w5, g5⟩ (fun _ _ _ _ _ => trivial) ?_ (fun σ Hx h => by
      obtain ⟨_, _, _, _, _, _, _, _, _, _, _, _, _, _, g⟩ := h
      exact q _ g)
    clear w5 g5 u5 M5 tw0 ng hqo hql B5 s5 s4 hqd hqR ea lg lf le2 lr lus h1 n1 nhq nq2
    rintro i y σ _ Hx hi ⟨hd', hq', ho', es', fs', gs', R, v9, v10, v11, v12, v13', rfl, w, g⟩ ⟨rfl, rfl⟩
    have hi : i < 3 := hi
    show gName 9 (V.int (0 + (i : Nat))) _ _ _
    simp only [gName, List.set]
    refine ⟨_, rfl, b, 5, _, rfl, by decide, by decide, w.B, by omega, fun H6 m1 m10 m11 B6 s6 => ?_⟩
    have u6 := w.u.take w.B s6
    have M6 := tn_take w.M w.B s6
    have g6 : Sm [b, p, hd, o, ld] H H6 := g.trans (sm_mono (fun x hx => by rw [List.mem_singleton.mp hx]; simp) s6)
    have tw := w.t
    have ng := w.ng
    have k2 := w.k2
    have k3 := w.k3
    clear w
    simp only [gName, List.set]
    have le : es'.length ≤ sl := u6.le
    have lg : gs'.length ≤ sl := tn_len M6
    have lf : fs'.length ≤ 60 := by rw [← al_len u6.al]; omega
    obtain ⟨dx, hp6⟩ := u6.M.ob
    obtain ⟨dq, hq6⟩ := M6.ob
    have lt1 : (tnF hd' ho' (sl : Nat)).lookup ("tick" : Str) = none := tf_no (by decide +kernel) (by decide +kernel) (by decide +kernel)
    have lt2 : (tnF hq' ho' (sl : Nat)).lookup ("tick" : Str) = none := tf_no (by decide +kernel) (by decide +kernel) (by decide +kernel)
    refine ⟨_, rfl, p, dx, _, rfl, hp6, lt1, _, rfl, p, hd', ho', (sl : Nat), m1, es', rfl, u6.M, by omega, fun H7 hd7 R11 us11 s7 nd7 M7 nR11 hR11 dR11 => ?_⟩
    obtain ⟨W7, B7⟩ := u6.tw B6 (.inr rfl) s7
    have ntp : ∀ x ∈ [p], ∀ ob, H6 x = some ob → (∀ us, ob ≠ .tup us) ∧ ∀ o us, ob ≠ .frz o (.tup us) := fun x hx ob e => by
      rw [List.mem_singleton.mp hx, hp6] at e
      cases e
      exact ⟨fun _ z => (by cases z), fun _ _ z => (by cases z)⟩
    have Mq7 : TnAt C H7 q2 hq' ho' (sl : Nat) gs' := M6.sm s7 (by simp [qp]) (fun z => by
      have := M6.di
      rw [List.mem_singleton.mp z, hp6] at this; cases this) fun x hx us e => (ntp x hx _ e).1 _ rfl
    obtain ⟨dq7, hq7⟩ := Mq7.ob
    refine ⟨_, rfl, q2, dq7, _, rfl, hq7, lt2, _, rfl, q2, hq', ho', (sl : Nat), m1, gs', rfl, Mq7, by omega, fun H8 hq8 R12 us12 s8 nd8 Mq8 nR12 hR12 dR12 => ?_⟩
    refine ⟨_, _, rfl, ?_⟩
    simp only [gName, List.set]
    have hdi7 := M7.di
    have ntq : ∀ x ∈ [q2], ∀ ob, H7 x = some ob → (∀ us, ob ≠ .tup us) ∧ ∀ o us, ob ≠ .frz o (.tup us) := fun x hx ob e => by
      rw [List.mem_singleton.mp hx, hq7] at e
      cases e
      exact ⟨fun _ z => (by cases z), fun _ _ z => (by cases z)⟩
    have nq_ : ∀ {x ob}, H7 x = some ob → ob ≠ .ins C dq7 (tnF hq' ho' (sl : Nat)) → x ∉ [q2] := fun {x ob} e n hx => by
      rw [List.mem_singleton.mp hx, hq7] at e; exact n (Option.some.inj e).symm
    have M8 : TnAt C H8 p hd7 (ho' + m1) (sl : Nat) (stay es' (ho' + m1)) := M7.sm s8 (by simp [Ne.symm qp]) (nq_ hdi7 fun z => by cases z) fun x hx us e => (ntq x hx _ e).1 _ rfl
    have W8 : OwAt H8 o ld ho' (sl : Nat) fs' := W7.sm s8 (nq_ W7.ob fun z => by cases z) (nq_ W7.di fun z => by cases z) fun x hx us e => (ntq x hx _ e).1 _ rfl
    have B8 : Bq H8 b (n + i + 1) := by
      obtain ⟨_, _, _, hb, _⟩ := id B7
      exact B7.sm s8 (nq_ hb fun z => by cases z)
    have h11 := sm_at s8 (nq_ hR11 fun z => by cases z) hR11
    have d11 := dpgo_sm (dpAll_same off_sub dR11) s8 ntq
    have d12 := dpAll_same off_sub dR12
    have oWd := W8.di
    have oWo := W8.ob
    have no : ∀ {x ob}, H8 x = some ob → ob ≠ .dK (owF ld ho' (sl : Nat)) → ob ≠ .dK (enK fs') → x ∉ [o, ld] := fun {x ob} e n1 n2 hx => by
      rcases List.mem_cons.mp hx with h | h
      · rw [h, oWo] at e; exact n1 (Option.some.inj e).symm
      · rw [List.mem_singleton.mp h, oWd] at e; exact n2 (Option.some.inj e).symm
    have ntol : ∀ x ∈ [o, ld], ∀ ob, H8 x = some ob → (∀ us, ob ≠ .tup us) ∧ ∀ o us, ob ≠ .frz o (.tup us) := fun x hx ob e =>
      ⟨fun us z => no e (by rw [z]; exact fun z => by cases z) (by rw [z]; exact fun z => by cases z) hx, fun o2 us z => no e (by rw [z]; exact fun z => by cases z) (by rw [z]; exact fun z => by cases z) hx⟩
    have k1d : hd7 ≠ o := fun e => by have := u6.W.ob; rw [← e, nd7] at this; cases this
    have k2d : hd7 ≠ ld := fun e => by have := u6.W.di; rw [← e, nd7] at this; cases this
    have k1q : hq8 ≠ o := fun e => by have := W7.ob; rw [← e, nd8] at this; cases this
    have k2q : hq8 ≠ ld := fun e => by have := W7.di; rw [← e, nd8] at this; cases this
    obtain ⟨dx8, hp8⟩ := M8.ob
    obtain ⟨dq8, hq8_⟩ := Mq8.ob
    have ne8 : ∀ e ∈ stay es' (ho' + m1), Nw e.2.1 := fun e he => u6.ne e (List.mem_filter.mp he).1
    have ng8 : ∀ e ∈ stay gs' (ho' + m1), Nw e.2.1 := fun e he => ng e (List.mem_filter.mp he).1
    have t8 := tw.filt fun x => decide (ho' + m1 < x)
    have tout := tw.filt fun x => decide (x ≤ ho' + m1)
    refine ⟨_, rfl, _, rfl, _, rfl, o, ld, ho', (sl : Nat), m1, fs', rfl, W8, lf, fun H9 R2 us2 s9 W9 nR2 hR2 dR2 => ?_⟩
    have M9 : TnAt C H9 p hd7 (ho' + m1) (sl : Nat) (stay es' (ho' + m1)) := M8.sm s9 (no hp8 (fun z => by cases z) fun z => by cases z) (by simp [k1d, k2d]) fun x hx us e => (ntol x hx _ e).1 _ rfl
    have Mq9 : TnAt C H9 q2 hq8 (ho' + m1) (sl : Nat) (stay gs' (ho' + m1)) := Mq8.sm s9 (no hq8_ (fun z => by cases z) fun z => by cases z) (by simp [k1q, k2q]) fun x hx us e => (ntol x hx _ e).1 _ rfl
    have B9 : Bq H9 b (n + (i + 1)) := by
      obtain ⟨_, _, _, hb, _⟩ := id B8
      exact (B8.sm s9 (no hb (fun z => by cases z) fun z => by cases z)).mono (by omega)
    have h11 := sm_at s9 (no h11 (fun z => by cases z) fun z => by cases z) h11
    have h12 := sm_at s9 (no hR12 (fun z => by cases z) fun z => by cases z) hR12
    have d11 := dpgo_sm d11 s9 ntol
    have d12 := dpgo_sm d12 s9 ntol
    have u9 : Un C H9 p hd7 o ld (ho' + m1) sl _ _ := ⟨M9, W9, al_stay u6.al _, k1d, k2d, ne8⟩
    have g9 : Sm [b, p, hd, o, ld] H H9 := fun x ob e => by
      have nx := off_mem e
      rw [off_out nx] at e ⊢
      have nx2 : x ∉ [o, ld] := fun z => nx (by
        rcases List.mem_cons.mp z with z | z
        · rw [z]; simp
        · rw [List.mem_singleton.mp z]; simp)
      have nxp : x ∉ [p] := fun z => nx (by rw [List.mem_singleton.mp z]; simp)
      exact sm_at s9 nx2 (sm1_at s8 (ne_of_none e nq0) (sm_at s7 nxp (sm_at g6 nx e)))
    obtain ⟨kk, hkk⟩ := go_gd (ho' + m1) (es := es') (fun e he => u6.ne e he)
    have d2 : Dp K H9 (.ref R2) (goL es' (ho' + m1)) := by
      unfold goL
      rw [al_outs u6.al]
      exact .lst (SqL.of hR2) (dpAll_same off_sub dR2)
    refine ⟨.ref R11, .ref R2, goL es' (ho' + m1), kk, rfl, .lst (SqL.of h11) d11, d2, go_depth es' _, go_wid _ (by omega), hkk, fun H10 s10 => ⟨true, rfl, iteF ?_⟩⟩
    have w10 : Wn C H10 p hd7 o ld q2 hq8 b (ho' + m1) sl _ _ _ alk _ (n + (i + 1)) := ⟨u9.same s10, Mq9.same s10, t8, ng8, k1q, k2q, B9.same s10⟩
    have g10 := g9.trans (sm_of s10)
    have h11 := s10 _ _ h11
    have h12 := s10 _ _ h12
    have d11 := dpAll_same s10 d11
    have d12 := dpAll_same s10 d12
    have d11 : DpAll K H10 us11 ((srtF (es'.filter fun e => decide (e.2.2.1 ≤ ho' + m1))).map goD) := d11
    have d12 : DpAll K H10 us12 ((srtF (gs'.filter fun e => decide (e.2.2.1 ≤ ho' + m1))).map goD) := d12
    refine ⟨_, rfl, R12, rfl, ⟨_, SqL.of h12⟩, fun D12 nD12 => ?_⟩
    refine lc_it walk_list (fun j Hx => Same H10 Hx ∧ ∃ ws, Hx D12 = some (.lst ws) ∧ ws.length = j ∧ DpAll K (off Hx [D12]) ws (((srtF (gs'.filter fun e => decide (e.2.2.1 ≤ ho' + m1))).take j).map nmD)) ⟨same_upd nD12, [], upd_same, rfl, .nil⟩ (fun j Hx _ h => SqL.of (h.1 _ _ h12)) ?_ ?_
    · rintro j y _ Hx hj ⟨sx, ws, hD, lw, dw⟩ ⟨rfl, gy⟩
      obtain ⟨e0, g0, dp⟩ := dpAll_map_at d12 gy
      obtain ⟨a, rfl, ha⟩ := go_dp dp
      refine ⟨rfl, tYes_at ?_⟩
      rw [if_pos rfl]
      refine ⟨_, rfl, a, _, _, _, rfl, sqT_sm (S := []) ha (sm_of sx) (fun x hx => absurd hx List.not_mem_nil), fun t nt => ?_⟩
      have lvR : Live [D12] Hx := fun x hx e => by rw [List.mem_singleton.mp hx, hD] at e; cases e
      have ft := off_new (o := .tup [.int e0.2.2.1, .str e0.2.1]) lvR nt
      have dw := dpAll_same (sm_put (S := [D12]) (o := .tup [.int e0.2.2.1, .str e0.2.1]) nt) dw
      have sx := sx.trans (same_upd (o := .tup [.int e0.2.2.1, .str e0.2.1]) nt)
      have hD := same_upd (o := .tup [.int e0.2.2.1, .str e0.2.1]) nt _ _ hD
      have lj : j < 1000 := by
        have := dpAll_map_len d12
        have h1 := go_len es' (ho' + m1)
        have h2 := go_len gs' (ho' + m1)
        have h3 : (srtF (es'.filter fun e => decide (e.2.2.1 ≤ ho' + m1))).length ≤ es'.length := h1
        have h4 : (srtF (gs'.filter fun e => decide (e.2.2.1 ≤ ho' + m1))).length ≤ gs'.length := h2
        omega
      refine ⟨ws, hD, by rw [lw, sizeLine_eq]; omega, same_put sx nD12, ws ++ [.ref t], upd_same, by rw [List.length_append, lw]; rfl, ?_⟩
      rw [List.take_add_one, g0, List.map_append]
      exact dpAll_same (sm_wr (by simp)) (dpAll_app' dw (.cons (.tup (.inl (.inl ft)) (.cons (.int _) (.cons (.str _) .nil))) .nil))
    rintro H11 ⟨sH11, wsD12, hD12, lD12, dD12⟩
    rw [List.take_of_length_le (by rw [← dpAll_map_len d12]; exact Nat.le_refl _)] at dD12
    have dD12 := dpAll_same off_sub dD12
    have h11 := sH11 _ _ h11
    have h12 := sH11 _ _ h12
    have d11 := dpAll_same sH11 d11
    have d12 := dpAll_same sH11 d12
    refine ⟨_, rfl, R11, rfl, ⟨_, SqL.of h11⟩, fun D11 nD11 => ?_⟩
    refine lc_it walk_list (fun j Hx => Same H11 Hx ∧ ∃ ws, Hx D11 = some (.lst ws) ∧ ws.length = j ∧ DpAll K (off Hx [D11]) ws (((srtF (es'.filter fun e => decide (e.2.2.1 ≤ ho' + m1))).take j).map nmD)) ⟨same_upd nD11, [], upd_same, rfl, .nil⟩ (fun j Hx _ h => SqL.of (h.1 _ _ h11)) ?_ ?_
    · rintro j y _ Hx hj ⟨sx, ws, hD, lw, dw⟩ ⟨rfl, gy⟩
      obtain ⟨e0, g0, dp⟩ := dpAll_map_at d11 gy
      obtain ⟨a, rfl, ha⟩ := go_dp dp
      refine ⟨rfl, tYes_at ?_⟩
      rw [if_pos rfl]
      refine ⟨_, rfl, a, _, _, _, rfl, sqT_sm (S := []) ha (sm_of sx) (fun x hx => absurd hx List.not_mem_nil), fun t nt => ?_⟩
      have lvR : Live [D11] Hx := fun x hx e => by rw [List.mem_singleton.mp hx, hD] at e; cases e
      have ft := off_new (o := .tup [.int e0.2.2.1, .str e0.2.1]) lvR nt
      have dw := dpAll_same (sm_put (S := [D11]) (o := .tup [.int e0.2.2.1, .str e0.2.1]) nt) dw
      have sx := sx.trans (same_upd (o := .tup [.int e0.2.2.1, .str e0.2.1]) nt)
      have hD := same_upd (o := .tup [.int e0.2.2.1, .str e0.2.1]) nt _ _ hD
      have lj : j < 1000 := by
        have := dpAll_map_len d11
        have h1 := go_len es' (ho' + m1)
        have h2 := go_len gs' (ho' + m1)
        have h3 : (srtF (es'.filter fun e => decide (e.2.2.1 ≤ ho' + m1))).length ≤ es'.length := h1
        have h4 : (srtF (gs'.filter fun e => decide (e.2.2.1 ≤ ho' + m1))).length ≤ gs'.length := h2
        omega
      refine ⟨ws, hD, by rw [lw, sizeLine_eq]; omega, same_put sx nD11, ws ++ [.ref t], upd_same, by rw [List.length_append, lw]; rfl, ?_⟩
      rw [List.take_add_one, g0, List.map_append]
      exact dpAll_same (sm_wr (by simp)) (dpAll_app' dw (.cons (.tup (.inl (.inl ft)) (.cons (.int _) (.cons (.str _) .nil))) .nil))
    rintro H12 ⟨sH12, wsD11, hD11, lD11, dD11⟩
    rw [List.take_of_length_le (by rw [← dpAll_map_len d11]; exact Nat.le_refl _)] at dD11
    have dD11 := dpAll_same off_sub dD11
    have hD12 := sH12 _ _ hD12
    have dD12 := dpAll_same sH12 dD12
    have neE : ∀ e ∈ srtF (es'.filter fun e => decide (e.2.2.1 ≤ ho' + m1)), Nw e.2.1 := fun e he => u6.ne e (List.mem_filter.mp ((srt_perm _).mem_iff.mp he)).1
    have neG : ∀ e ∈ srtF (gs'.filter fun e => decide (e.2.2.1 ≤ ho' + m1)), Nw e.2.1 := fun e he => ng e (List.mem_filter.mp ((srt_perm _).mem_iff.mp he)).1
    have en : (srtF (gs'.filter fun e => decide (e.2.2.1 ≤ ho' + m1))).map nmD = (srtF (es'.filter fun e => decide (e.2.2.1 ≤ ho' + m1))).map nmD := by
      have := congrArg (List.map fun q : Int × Str => PyData.tuple [.int q.1, .str q.2]) tout.names
      rw [List.map_map, List.map_map] at this
      exact this.symm
    refine ⟨_, _, .lst (SqL.of hD12) dD12, .lst (SqL.of hD11) dD11, nm_shaped neG, nm_shaped neE, _, rfl, ?_⟩
    obtain ⟨k3', hk3⟩ := nm_gd neE
    rw [en, SeqAt.eqv_refl _ (gd_lay _ hk3)]
    refine iteF ?_
    have s12 := sH11.trans sH12
    have w12 := w10.same s12
    have g12 := g10.trans (sm_of s12)
    have h11 := sH12 _ _ h11
    have h12 := sH12 _ _ h12
    have d11 := dpAll_same sH12 d11
    have d12 := dpAll_same sH12 d12
    have fin : ∀ Hx, Same H12 Hx → ∃ hd' hq' ho' es' fs' gs' R v9 v10 v11 v12 v13, [some (V.ref b), some (.ref p), some (.ref o), some (.ref R1), some (.ref q2), v5, v6, v7, some (.bl alk), some (.int (0 + (i : Nat))), some (.int m1), some (.ref R11), some (.ref R12), v13'] = [some (.ref b), some (.ref p), some (.ref o), some (.ref R1), some (.ref q2), v5, v6, v7, some (.bl alk), v9, v10, v11, v12, v13] ∧ Wn C Hx p hd' o ld q2 hq' b ho' sl es' fs' gs' alk R (n + (i + 1)) ∧ Sm [b, p, hd, o, ld] H Hx := fun Hx s => ⟨_, _, _, _, _, _, _, _, _, _, _, _, rfl, w12.same s, g12.trans (sm_of s)⟩
    clear w10 g10 u9 g9
    cases alk with
    | false => exact ⟨_, rfl, _, rfl, iteF (iteF (fin _ (Same.refl _)))⟩
    | true =>
      have ea := tout.all
      refine ⟨_, rfl, _, rfl, iteT ?_⟩
      refine ⟨_, rfl, _, rfl, _, _, .lst (SqL.of h11) d11, .lst (SqL.of h12) d12, go_shaped neE, go_shaped neG, _, rfl, ?_⟩
      obtain ⟨k4', hk4⟩ := go_gd (ho' + m1) (es := es') (fun e he => u6.ne e he)
      have hk4 : gd k4' (.list ((srtF (es'.filter fun e => decide (e.2.2.1 ≤ ho' + m1))).map goD)) := hk4
      rw [← ea, SeqAt.eqv_refl _ (gd_lay _ hk4)]
      refine iteF ?_
      have eT := w12.t.eqT (ho' + m1) (sl : Nat)
      have l1 := w12.u.le
      have l2 := tn_len w12.M
      refine ⟨_, rfl, _, rfl, p, _, q2, _, ho' + m1, (sl : Nat), ho' + m1, (sl : Nat), _, _, by rw [eT]; rfl, w12.u.M, w12.M, by omega, by omega, w12.u.ne, w12.ng, fun H' s' => ⟨true, rfl, iteF (fin _ s')⟩⟩

end
end Pot

namespace Pot
open PySem PySem.Spec PyProof.Rows L2
section
variable {P : Program} {w : World} {K : PySem.W.Frag} {mg : Str → Option Value} {base : Heap}
mutual
theorem dp_goA {H H' : Hp} (go : ∀ a us, SqT K H a us → SqT K H' a us) (gl : ∀ a us, SqL K H a us → SqL K H' a us) : ∀ {v : V} {e : PyData}, Dp K H v e → Dp K H' v e
  | _, _, .non => .non
  | _, _, .bl b => .bl b
  | _, _, .int i => .int i
  | _, _, .str x => .str x
  | _, _, .lst s a => .lst (gl _ _ s) (dpAll_goA go gl a)
  | _, _, .tup s a => .tup (go _ _ s) (dpAll_goA go gl a)
theorem dpAll_goA {H H' : Hp} (go : ∀ a us, SqT K H a us → SqT K H' a us) (gl : ∀ a us, SqL K H a us → SqL K H' a us) : ∀ {vs : List V} {es : List PyData}, DpAll K H vs es → DpAll K H' vs es
  | _, _, .nil => .nil
  | _, _, .cons x t => .cons (dp_goA go gl x) (dpAll_goA go gl t)
end
/-- neither a list nor a tuple -/
def NoSq (S : List Addr) (H : Hp) : Prop := ∀ x ∈ S, ∀ ob, H x = some ob → (∀ us, ob ≠ .tup us) ∧ (∀ o us, ob ≠ .frz o (.tup us)) ∧ (∀ us, ob ≠ .lst us) ∧ ∀ o us, ob ≠ .frz o (.lst us)
/-- what is told stays where dicts and objects alone change, but for lists of one's own (A) -/
theorem dpAll_ob {H H' : Hp} {S A : List Addr} {us : List V} {ds : List PyData} (d : DpAll K (off H A) us ds) (s : Sm (S ++ A) H H') (nt : NoSq S H) : DpAll K (off H' A) us ds := by
  have key : ∀ a ob, off H A a = some ob → (a ∈ S → H a ≠ some ob) → off H' A a = some ob := fun a ob e n => by
    have nA := off_mem e
    rw [off_out nA] at e ⊢
    exact sm_at s (fun z => by
      rcases List.mem_append.mp z with z | z
      · exact n z e
      · exact nA z) e
  refine dpAll_goA (fun a vs h => ?_) (fun a vs h => ?_) d
  · rcases h with (h | ⟨o2, h⟩) | h
    · exact .inl (.inl (key _ _ h fun m e => (nt a m _ e).1 _ rfl))
    · exact .inl (.inr ⟨o2, key _ _ h fun m e => (nt a m _ e).2.1 _ _ rfl⟩)
    · exact .inr h
  · rcases h with (h | ⟨o2, h⟩) | h
    · exact .inl (.inl (key _ _ h fun m e => (nt a m _ e).2.2.1 _ rfl))
    · exact .inl (.inr ⟨o2, key _ _ h fun m e => (nt a m _ e).2.2.2 _ _ rfl⟩)
    · exact .inr h
/-- a tunnel and the law's own one, where they stand -/
structure U8 where
  p : Addr
  hd : Addr
  o : Addr
  ld : Addr
  hr : Int
  sl : Nat
  es : List En
  fs : List En
def U8.ok (u : U8) (C : Addr) (H : Hp) : Prop := Un C H u.p u.hd u.o u.ld u.hr u.sl u.es u.fs
def U8.ad (u : U8) : List Addr := [u.p, u.hd, u.o, u.ld]
theorem ad_ob {u : U8} {C : Addr} {H : Hp} (h : u.ok C H) : ∀ x ∈ u.ad, (∃ dx fl, H x = some (.ins C dx fl)) ∨ ∃ kv, H x = some (.dK kv) := fun x hx => by
  obtain ⟨dx, hp⟩ := h.M.ob
  simp only [U8.ad, List.mem_cons, List.not_mem_nil, or_false] at hx
  rcases hx with rfl | rfl | rfl | rfl
  · exact .inl ⟨_, _, hp⟩
  · exact .inr ⟨_, h.M.di⟩
  · exact .inr ⟨_, h.W.ob⟩
  · exact .inr ⟨_, h.W.di⟩
theorem ad_nosq {u : U8} {C : Addr} {H : Hp} (h : u.ok C H) : NoSq u.ad H := fun x hx ob e => by
  rcases ad_ob h x hx with ⟨dx, fl, g⟩ | ⟨kv, g⟩ <;> (rw [e] at g; cases g; exact ⟨fun _ z => (by cases z), fun _ _ z => (by cases z), fun _ z => (by cases z), fun _ _ z => (by cases z)⟩)
theorem ad_lst {u : U8} {C : Addr} {H : Hp} {x : Addr} {us : List V} (h : u.ok C H) (e : H x = some (.lst us)) : x ∉ u.ad := fun hx => (ad_nosq h x hx _ e).2.2.1 _ rfl
theorem ok_sm {u : U8} {C : Addr} {H H' : Hp} {S : List Addr} (h : u.ok C H) (s : Sm S H H') (n : ∀ x ∈ u.ad, x ∉ S) (nt : ∀ x ∈ S, ∀ us, H x ≠ some (.tup us)) : u.ok C H' :=
  h.sm s (n _ (by simp [U8.ad])) (n _ (by simp [U8.ad])) (n _ (by simp [U8.ad])) (n _ (by simp [U8.ad])) nt
def okH (d : PyData) : Prop := SeqAt.shaped d = true ∧ PyData.eqv d d = true
/-- all that stands beside the law's deeds; H is the heap at the start -/
structure Td (K : PySem.W.Frag) (C : Addr) (H Hx : Hp) (b L Hd Bo Ow p0 p1 o0 o1 : Addr) (u v : U8) (ys : List Str) (hs : List V) (ds : List PyData) (X : List Addr) (m : Nat) : Prop where
  ku : u.ok C Hx
  kv : v.ok C Hx
  dis : ∀ x ∈ u.ad, x ∉ v.ad
  usl : u.sl ≤ 8
  vsl : v.sl ≤ 8
  B : Bq Hx b m
  hL : Hx L = some (.lst (ys.map V.str))
  hB : Hx Bo = some (.lst [.ref p0, .ref p1])
  hO : Hx Ow = some (.lst [.ref o0, .ref o1])
  hh : Hx Hd = some (.lst hs)
  n1 : L ≠ b
  n2 : Bo ≠ b
  n3 : Ow ≠ b
  n4 : Hd ≠ b
  n5 : L ≠ Hd
  n6 : Bo ≠ Hd
  n7 : Ow ≠ Hd
  dp : DpAll K (off Hx (b :: Hd :: X)) hs (ds.map fun d => .tuple [d, d])
  ok : ∀ d ∈ ds, okH d
  fr : Sm [b] H Hx
  fu : ∀ x ∈ u.ad, H x = none
  fv : ∀ x ∈ v.ad, H x = none
  fH : H Hd = none
  nX : ∀ x ∈ X, Hx x ≠ none ∧ x ≠ b ∧ x ≠ Hd ∧ x ≠ L ∧ x ≠ Bo ∧ x ≠ Ow ∧ H x = none
section
variable {C : Addr} {H Hx H' : Hp} {b L Hd Bo Ow p0 p1 o0 o1 : Addr} {u v : U8} {ys : List Str} {hs : List V} {ds : List PyData} {X : List Addr} {m : Nat}
theorem Td.swap (t : Td K C H Hx b L Hd Bo Ow p0 p1 o0 o1 u v ys hs ds X m) : Td K C H Hx b L Hd Bo Ow p0 p1 o0 o1 v u ys hs ds X m :=
  ⟨t.kv, t.ku, fun x h h2 => t.dis x h2 h, t.vsl, t.usl, t.B, t.hL, t.hB, t.hO, t.hh, t.n1, t.n2, t.n3, t.n4, t.n5, t.n6, t.n7, t.dp, t.ok, t.fr, t.fv, t.fu, t.fH, t.nX⟩
theorem Td.same (t : Td K C H Hx b L Hd Bo Ow p0 p1 o0 o1 u v ys hs ds X m) (s : Same Hx H') : Td K C H H' b L Hd Bo Ow p0 p1 o0 o1 u v ys hs ds X m :=
  ⟨Un.same t.ku s, Un.same t.kv s, t.dis, t.usl, t.vsl, t.B.same s, s _ _ t.hL, s _ _ t.hB, s _ _ t.hO, s _ _ t.hh, t.n1, t.n2, t.n3, t.n4, t.n5, t.n6, t.n7, dpAll_same (sm_of s) t.dp, t.ok, t.fr.trans (sm_of s), t.fu, t.fv, t.fH, fun x hx => ⟨fun e => (t.nX x hx).1 (s.free e), (t.nX x hx).2⟩⟩
theorem Td.mono {m' : Nat} (t : Td K C H Hx b L Hd Bo Ow p0 p1 o0 o1 u v ys hs ds X m) (h : m ≤ m') : Td K C H Hx b L Hd Bo Ow p0 p1 o0 o1 u v ys hs ds X m' :=
  ⟨t.ku, t.kv, t.dis, t.usl, t.vsl, t.B.mono h, t.hL, t.hB, t.hO, t.hh, t.n1, t.n2, t.n3, t.n4, t.n5, t.n6, t.n7, t.dp, t.ok, t.fr, t.fu, t.fv, t.fH, t.nX⟩
theorem bq_lst (B : Bq Hx b m) : ∃ us, Hx b = some (.lst us) := by
  obtain ⟨x, y, z, hb, _⟩ := B
  exact ⟨_, hb⟩
theorem free1 {x : Addr} (s : Sm [b] Hx H') (n : x ≠ b) (e : H' x = none) : Hx x = none := by
  cases c : Hx x with
  | none => rfl
  | some ob =>
    have := sm1_at s n c
    rw [e] at this; cases this
theorem Td.take {m' : Nat} (t : Td K C H Hx b L Hd Bo Ow p0 p1 o0 o1 u v ys hs ds X m) (s : Sm [b] Hx H') (B : Bq H' b m') : Td K C H H' b L Hd Bo Ow p0 p1 o0 o1 u v ys hs ds X m' := by
  obtain ⟨us, hb⟩ := bq_lst t.B
  refine ⟨Un.take t.ku t.B s, Un.take t.kv t.B s, t.dis, t.usl, t.vsl, B, sm1_at s t.n1 t.hL, sm1_at s t.n2 t.hB, sm1_at s t.n3 t.hO, sm1_at s t.n4 t.hh, t.n1, t.n2, t.n3, t.n4, t.n5, t.n6, t.n7, dpAll_ob (S := []) t.dp (sm_mono (fun x hx => by rw [List.mem_singleton.mp hx]; simp) s) (fun x hx => (List.not_mem_nil hx).elim), t.ok, t.fr.trans s, t.fu, t.fv, t.fH, fun x hx => ⟨fun e => (t.nX x hx).1 (free1 s (t.nX x hx).2.1 e), (t.nX x hx).2⟩⟩
/-- a deed at the first of both -/
theorem Td.deed {m' : Nat} {hd' : Addr} {hr' : Int} {es' fs' : List En} {R : Addr} (t : Td K C H Hx b L Hd Bo Ow p0 p1 o0 o1 u v ys hs ds [] m) (s : Sm [b, u.p, u.hd, u.o, u.ld] Hx H') (B : Bq H' b m') (U : Un C H' u.p hd' u.o u.ld hr' u.sl es' fs') (hn : hd' = u.hd ∨ Hx hd' = none) (nR : Hx R = none) (lR : H' R ≠ none) : Td K C H H' b L Hd Bo Ow p0 p1 o0 o1 ⟨u.p, hd', u.o, u.ld, hr', u.sl, es', fs'⟩ v ys hs ds [R] m' := by
  obtain ⟨us, hb⟩ := bq_lst t.B
  have nl : ∀ {x : Addr} {us : List V}, x ≠ b → Hx x = some (.lst us) → x ∉ [b, u.p, u.hd, u.o, u.ld] := fun {x us} n e hx => by
    rcases List.mem_cons.mp hx with h | h
    · exact n h
    · exact ad_lst t.ku e h
  have lvv : ∀ x ∈ v.ad, Hx x ≠ none := fun x hx e => by
    rcases ad_ob t.kv x hx with ⟨_, _, g⟩ | ⟨_, g⟩ <;> (rw [e] at g; cases g)
  have fx : ∀ x, Hx x = none → H x = none := fun x e => by
    cases c : H x with
    | none => rfl
    | some ob =>
      by_cases d : x = b
      · rw [d, hb] at e; cases e
      · have := sm1_at t.fr d c
        rw [e] at this; cases this
  have hdv : hd' ∉ v.ad := fun h => by
    rcases hn with e | e
    · exact t.dis _ (by rw [e]; simp [U8.ad]) h
    · exact lvv _ h e
  have dpR : DpAll K (off Hx [b, Hd, R]) hs (ds.map fun d => .tuple [d, d]) := dpAll_same (fun x ob e => by
    have n := off_mem e
    rw [off_out n] at e
    rw [off_out fun z => by
      simp only [List.mem_cons, List.not_mem_nil, or_false] at z n
      rcases z with z | z | z
      · exact n (.inl z)
      · exact n (.inr z)
      · rw [z, nR] at e; cases e]
    exact e) t.dp
  refine ⟨U, ok_sm t.kv s (fun x hx h => ?_) (fun x hx us e => ?_), fun x hx => ?_, t.usl, t.vsl, B, sm_at s (nl t.n1 t.hL) t.hL, sm_at s (nl t.n2 t.hB) t.hB, sm_at s (nl t.n3 t.hO) t.hO, sm_at s (nl t.n4 t.hh) t.hh, t.n1, t.n2, t.n3, t.n4, t.n5, t.n6, t.n7, dpAll_ob (S := u.ad) dpR (sm_mono (fun x hx => ?_) s) (ad_nosq t.ku), t.ok, ?_, fun x hx => ?_, t.fv, t.fH, fun x hx => ?_⟩
  · rcases List.mem_cons.mp h with h | h
    · rw [h] at hx; exact ad_lst t.kv hb hx
    · exact t.dis x h hx
  · rcases List.mem_cons.mp hx with h | h
    · rw [h, hb] at e; cases e
    · exact (ad_nosq t.ku x h _ e).1 _ rfl
  · simp only [U8.ad, List.mem_cons, List.not_mem_nil, or_false] at hx
    rcases hx with rfl | rfl | rfl | rfl
    · exact t.dis _ (by simp [U8.ad])
    · exact hdv
    · exact t.dis _ (by simp [U8.ad])
    · exact t.dis _ (by simp [U8.ad])
  · rcases List.mem_cons.mp hx with h | h
    · rw [h]; simp
    · exact List.mem_append_left _ h
  · intro x ob e
    have n := off_mem e
    rw [off_out n] at e ⊢
    refine sm_at s (fun hx => ?_) (sm_at t.fr n e)
    rcases List.mem_cons.mp hx with h | h
    · exact n (List.mem_singleton.mpr h)
    · have := t.fu x h
      rw [this] at e; cases e
  · simp only [U8.ad, List.mem_cons, List.not_mem_nil, or_false] at hx
    rcases hx with rfl | rfl | rfl | rfl
    · exact t.fu _ (by simp [U8.ad])
    · rcases hn with e | e
      · rw [e]; exact t.fu _ (by simp [U8.ad])
      · exact fx _ e
    · exact t.fu _ (by simp [U8.ad])
    · exact t.fu _ (by simp [U8.ad])
  · rw [List.mem_singleton.mp hx]
    have ne : ∀ {y : Addr} {us : List V}, Hx y = some (.lst us) → R ≠ y := fun e z => by rw [← z, nR] at e; cases e
    exact ⟨lR, ne hb, ne t.hh, ne t.hL, ne t.hB, ne t.hO, fx _ nR⟩
/-- what stands behind the last deed of the first one -/
theorem Td.last (t : Td K C H Hx b L Hd Bo Ow p0 p1 o0 o1 u v ys hs ds X m) (s : Sm [b, u.p, u.hd, u.o, u.ld] Hx H') : v.ok C H' ∧ H' L = some (.lst (ys.map V.str)) ∧ H' Bo = some (.lst [.ref p0, .ref p1]) ∧ H' Ow = some (.lst [.ref o0, .ref o1]) ∧ Sm [b] H H' := by
  obtain ⟨us, hb⟩ := bq_lst t.B
  have nl : ∀ {x : Addr} {us : List V}, x ≠ b → Hx x = some (.lst us) → x ∉ [b, u.p, u.hd, u.o, u.ld] := fun {x us} n e hx => by
    rcases List.mem_cons.mp hx with h | h
    · exact n h
    · exact ad_lst t.ku e h
  refine ⟨ok_sm t.kv s (fun x hx h => ?_) (fun x hx us e => ?_), sm_at s (nl t.n1 t.hL) t.hL, sm_at s (nl t.n2 t.hB) t.hB, sm_at s (nl t.n3 t.hO) t.hO, fun x ob e => ?_⟩
  · rcases List.mem_cons.mp h with h | h
    · rw [h] at hx; exact ad_lst t.kv hb hx
    · exact t.dis x h hx
  · rcases List.mem_cons.mp hx with h | h
    · rw [h, hb] at e; cases e
    · exact (ad_nosq t.ku x h _ e).1 _ rfl
  · have n := off_mem e
    rw [off_out n] at e ⊢
    refine sm_at s (fun hx => ?_) (sm_at t.fr n e)
    rcases List.mem_cons.mp hx with h | h
    · exact n (List.mem_singleton.mpr h)
    · have := t.fu x h
      rw [this] at e; cases e
/-- something more is held -/
theorem Td.hold {x : V} {d : PyData} (t : Td K C H Hx b L Hd Bo Ow p0 p1 o0 o1 u v ys hs ds X m) (dx : Dp K (off Hx (b :: Hd :: X)) x (.tuple [d, d])) (od : okH d) : Td K C H (upd Hx Hd (.lst (hs ++ [x]))) b L Hd Bo Ow p0 p1 o0 o1 u v ys (hs ++ [x]) (ds ++ [d]) X m := by
  obtain ⟨us, hb⟩ := bq_lst t.B
  have s : Sm [Hd] Hx (upd Hx Hd (.lst (hs ++ [x]))) := sm_wr (by simp)
  have na : ∀ {w : U8}, w.ok C Hx → w.ok C (upd Hx Hd (.lst (hs ++ [x]))) := fun {w} h => ok_sm h s (fun y hy z => by
    rw [List.mem_singleton.mp z] at hy
    exact ad_lst h t.hh hy) (fun y hy us e => by rw [List.mem_singleton.mp hy, t.hh] at e; cases e)
  refine ⟨na t.ku, na t.kv, t.dis, t.usl, t.vsl, t.B.sm s (by simp [Ne.symm t.n4]), sm1_at s t.n5 t.hL, sm1_at s t.n6 t.hB, sm1_at s t.n7 t.hO, upd_same, t.n1, t.n2, t.n3, t.n4, t.n5, t.n6, t.n7, ?_, fun e he => ?_, ?_, t.fu, t.fv, t.fH, fun x hx => ⟨fun e => (t.nX x hx).1 (free1 s (t.nX x hx).2.2.1 e), (t.nX x hx).2⟩⟩
  · rw [List.map_append]
    exact dpAll_same (sm_wr (by simp)) (dpAll_app' t.dp (.cons dx .nil))
  · rcases List.mem_append.mp he with h | h
    · exact t.ok e h
    · rw [List.mem_singleton.mp h]; exact od
  · intro y ob e
    have n := off_mem e
    rw [off_out n] at e ⊢
    refine sm1_at s (fun z => ?_) (sm_at t.fr n e)
    rw [z, t.fH] at e; cases e
/-- a list and its copy are held -/
theorem Td.hold2 {R l tp : Addr} {us : List V} {es : List PyData} (t : Td K C H Hx b L Hd Bo Ow p0 p1 o0 o1 u v ys hs ds X m) (hR : Hx R = some (.lst us)) (nR : R ∉ b :: Hd :: X) (dp : DpAll K (off Hx (b :: Hd :: X)) us es) (ok : okH (.list es)) (nl : Hx l = none) (nt : upd Hx l (.lst us) tp = none) : Td K C H (upd (upd (upd Hx l (.lst us)) tp (.tup [.ref R, .ref l])) Hd (.lst (hs ++ [.ref tp]))) b L Hd Bo Ow p0 p1 o0 o1 u v ys (hs ++ [.ref tp]) (ds ++ [.list es]) X m ∧ Same Hx (upd (upd Hx l (.lst us)) tp (.tup [.ref R, .ref l])) ∧ upd (upd Hx l (.lst us)) tp (.tup [.ref R, .ref l]) Hd = some (.lst hs) := by
  have s1 := same_upd (o := .lst us) nl
  have s2 := same_upd (o := .tup [V.ref R, .ref l]) nt
  have s := s1.trans s2
  have t2 := t.same s
  have lv : Live (b :: Hd :: X) Hx := fun x hx e => by
    rcases List.mem_cons.mp hx with h | h
    · obtain ⟨us, hb⟩ := bq_lst t.B
      rw [h, hb] at e; cases e
    · rcases List.mem_cons.mp h with h | h
      · rw [h, t.hh] at e; cases e
      · exact (t.nX x h).1 e
  have lv1 : Live (b :: Hd :: X) (upd Hx l (.lst us)) := fun x hx e => lv x hx (s1.free e)
  have hl : upd (upd Hx l (.lst us)) tp (.tup [.ref R, .ref l]) l = some (.lst us) := s2 _ _ upd_same
  have nl2 : l ∉ b :: Hd :: X := fun h => lv _ h nl
  have dp2 := dpAll_same (sm_of s) dp
  exact ⟨t2.hold (.tup (.inl (.inl (off_new lv1 nt))) (.cons (.lst (SqL.of ((off_out nR).trans (s _ _ hR))) dp2) (.cons (.lst (SqL.of ((off_out nl2).trans hl)) dp2) .nil))) ok, s, t2.hh⟩
/-- what was one's own is changed, and let go -/
theorem Td.drop {R : Addr} {us : List V} {o : HO} (t : Td K C H Hx b L Hd Bo Ow p0 p1 o0 o1 u v ys hs ds [R] m) (hR : Hx R = some (.lst us)) : Td K C H (upd Hx R o) b L Hd Bo Ow p0 p1 o0 o1 u v ys hs ds [] m := by
  have s : Sm [R] Hx (upd Hx R o) := sm_wr (by simp)
  obtain ⟨_, n1, n2, n3, n4, n5, n6⟩ := t.nX R (by simp)
  have na : ∀ {w : U8}, w.ok C Hx → w.ok C (upd Hx R o) := fun {w} h => ok_sm h s (fun y hy z => by
    rw [List.mem_singleton.mp z] at hy
    exact ad_lst h hR hy) (fun y hy us e => by rw [List.mem_singleton.mp hy, hR] at e; cases e)
  refine ⟨na t.ku, na t.kv, t.dis, t.usl, t.vsl, t.B.sm s (by simp [Ne.symm n1]), sm1_at s n3.symm t.hL, sm1_at s n4.symm t.hB, sm1_at s n5.symm t.hO, sm1_at s n2.symm t.hh, t.n1, t.n2, t.n3, t.n4, t.n5, t.n6, t.n7, dpAll_same (fun x ob e => ?_) t.dp, t.ok, ?_, t.fu, t.fv, t.fH, fun x hx => (List.not_mem_nil hx).elim⟩
  · have n := off_mem e
    rw [off_out n] at e
    rw [off_out fun z => n (by simp only [List.mem_cons, List.not_mem_nil, or_false] at z ⊢; exact z.elim .inl fun z => .inr (.inl z))]
    exact sm1_at s (fun z => n (by simp [z])) e
  · intro y ob e
    have n := off_mem e
    rw [off_out n] at e ⊢
    exact sm1_at s (fun z => by rw [z, n6] at e; cases e) (sm_at t.fr n e)
end
def inL (es : List En) (ho : Int) : List PyData := (rowsF es ho).map fun e => inD e ho
theorem rows_mem {es : List En} {ho : Int} {e : En} (h : e ∈ rowsF es ho) : e ∈ es := (rows_perm es ho).mem_iff.mp h
theorem inL_gd {es : List En} {ho : Int} (ne : ∀ e ∈ es, Nw e.2.1) : ∃ k, gdAll k (inL es ho) := gd_ex fun d hd => by
  obtain ⟨e, he, rfl⟩ := List.mem_map.mp hd
  exact ⟨e.1 + (e.2.2.1 - ho).natAbs, by show Int.natAbs _ ≤ _; omega, wd_gd (ne e (rows_mem he)) _, by show Int.natAbs _ ≤ _; omega, trivial⟩
theorem in_dpt (es : List En) (ho : Int) : PyData.depthAll (inL es ho) ≤ 1 := depthAll_map (f := fun e => inD e ho) (b := 1) (l := rowsF es ho) fun e _ => by show max 0 (max 0 (max 0 0)) + 1 ≤ 1; decide
theorem in_ok {es : List En} {ho : Int} (ne : ∀ e ∈ es, Nw e.2.1) : okH (.list (inL es ho)) := by
  obtain ⟨k, hk⟩ := inL_gd (ho := ho) ne
  refine ⟨gd_shaped (m := k) (d := .list (inL es ho)) hk ?_, ?_⟩
  · have := in_dpt es ho
    show PyData.depthAll _ + 1 ≤ 64
    omega
  · show PyData.eqvAll _ _ = true
    unfold inL
    rw [in_eqv]
    simp
theorem ints_ok (ns : List Int) : okH (.list (ns.map PyData.int)) := ⟨PySem.W.ke_shaped_ints ns, by show PyData.eqvAll _ _ = true; rw [ints_eqv]; simp⟩
theorem lk_shaped {es : List En} {hr sl : Int} (ne : ∀ e ∈ es, Nw e.2.1) : SeqAt.shaped (lkD hr sl es) = true := by
  obtain ⟨k, hk⟩ := inL_gd (ho := hr) ne
  obtain ⟨k, hk⟩ : ∃ k, gdAll k [PyData.int sl, .int hr, .list (inL es hr)] := gd_ex fun d hd => by
    simp only [List.mem_cons, List.not_mem_nil, or_false] at hd
    rcases hd with rfl | rfl | rfl
    · exact ⟨sl.natAbs, Nat.le_refl _⟩
    · exact ⟨hr.natAbs, Nat.le_refl _⟩
    · exact ⟨k, hk⟩
  refine gd_shaped (m := k) (d := lkD hr sl es) hk ?_
  have := in_dpt es hr
  show max 0 (max 0 (max (PyData.depthAll (inL es hr) + 1) 0)) + 1 ≤ 64
  omega
/-- data without lists stays where lists are left out -/
theorem in_off {H : Hp} {us : List V} {es : List En} {ho : Int} {S A : List Addr} (d : DpAll K (off H S) us (inL es ho)) (n : ∀ x ∈ A, ∃ vs, H x = some (.lst vs)) : DpAll K (off H A) us (inL es ho) := by
  refine dpAll_go (fun a vs h => ?_) (noL_map (f := fun e : En => inD e ho) (fun _ => ⟨trivial, trivial, trivial, trivial⟩) _) d
  have key : ∀ ob, off H S a = some ob → (∀ vs, ob ≠ .lst vs) → off H A a = some ob := fun ob e z => by
    rw [off_out (off_mem e)] at e
    rw [off_out fun hx => by obtain ⟨vs, g⟩ := n a hx; rw [e] at g; exact z vs (Option.some.inj g)]
    exact e
  rcases h with (h | ⟨o2, h⟩) | h
  · exact .inl (.inl (key _ h fun _ z => by cases z))
  · exact .inl (.inr ⟨o2, key _ h fun _ z => by cases z⟩)
  · exact .inr h

end
end Pot

namespace Pot
open PySem PySem.Spec PyProof.Rows L2
section
variable {P : Program} {w : World} {K : PySem.W.Frag} {mg : Str → Option Value} {base : Heap}
theorem al_nw {es fs : List En} (al : Al es fs) (ne : ∀ e ∈ es, Nw e.2.1) : ∀ e ∈ fs, Nw e.2.1 := fun e he => by
  have m : z0 e ∈ es.map z0 := by
    have al : es.map z0 = fs.map z0 := al
    rw [al]; exact List.mem_map.mpr ⟨e, he, rfl⟩
  obtain ⟨e', he', h⟩ := List.mem_map.mp m
  have : (z0 e').2.1 = (z0 e).2.1 := by rw [h]
  have : e'.2.1 = e.2.1 := this
  rw [← this]; exact ne _ he'
/-- things of other kinds -/
def OthV (H : Hp) (x : V) : Prop := x = .non ∨ (∃ i, x = .int i) ∨ (∃ z, x = .str z) ∨ (∃ a us, x = .ref a ∧ H a = some (.lst us)) ∨ ∃ a us, x = .ref a ∧ H a = some (.tup us)
structure KinE (K : PySem.W.Frag) (C : Addr) : Prop where
  k : ∀ T ∈ ["NoneType", "int", "str", "list", "tuple"], PySem.W.notFirst K C (.type T) = true ∧ PySem.W.kitOne K (.type T) (.ref C) = some false
theorem OthV.same {H H' : Hp} {x : V} (h : OthV H x) (s : Same H H') : OthV H' x := by
  rcases h with h | h | h | ⟨a, us, h, e⟩ | ⟨a, us, h, e⟩
  · exact .inl h
  · exact .inr (.inl h)
  · exact .inr (.inr (.inl h))
  · exact .inr (.inr (.inr (.inl ⟨a, us, h, s _ _ e⟩)))
  · exact .inr (.inr (.inr (.inr ⟨a, us, h, s _ _ e⟩)))
theorem OthV.kd {C : Addr} {H : Hp} {x : V} (h : OthV H x) (KN : KinE K C) : ∃ T, KdV K T x H ∧ TyOf K H x (.type T) ∧ PySem.W.notFirst K C (.type T) = true ∧ PySem.W.kitOne K (.type T) (.ref C) = some false := by
  rcases h with rfl | ⟨i, rfl⟩ | ⟨z, rfl⟩ | ⟨a, us, rfl, e⟩ | ⟨a, us, rfl, e⟩
  · exact ⟨"NoneType", rfl, .non, KN.k _ (by decide)⟩
  · exact ⟨"int", rfl, .int i, KN.k _ (by decide)⟩
  · exact ⟨"str", rfl, .str z, KN.k _ (by decide)⟩
  · exact ⟨"list", .inl ⟨rfl, us, SqL.of e⟩, .lst e, KN.k _ (by decide)⟩
  · exact ⟨"tuple", .inr ⟨rfl, us, .inl (.inl e)⟩, .tup e, KN.k _ (by decide)⟩
theorem merge_nd52 : ∀ (kvs acc : List (Key × V)), ((acc ++ kvs).map fun p => p.1).Nodup → mergeK acc kvs = acc ++ kvs
  | [], acc, _ => by rw [List.append_nil]; rfl
  | x :: kvs, acc, h => by
    have h2 : acc ++ x :: kvs = (acc ++ [x]) ++ kvs := by rw [List.append_assoc]; rfl
    show mergeK (putK acc x.1 x.2) kvs = _
    rw [putK_new fun p hp e => ?_, merge_nd52 kvs (acc ++ [x]) (by rw [← h2]; exact h), h2]
    rw [List.map_append] at h
    exact (List.nodup_append.mp h).2.2 p.1 (List.mem_map.mpr ⟨p, hp, rfl⟩) x.1 (List.mem_map.mpr ⟨x, List.mem_cons_self, rfl⟩) e
theorem ow_made (ld : Addr) (hr sl : Int) : mergeK [] [((Sum.inr "slots" : Key), V.int sl), (Sum.inr "now", .int hr), (Sum.inr "lying", .ref ld)] = owF ld hr sl := merge_nd52 _ [] (by show ([Sum.inr "slots", Sum.inr "now", Sum.inr "lying"] : List Key).Nodup; decide +kernel)
theorem own_new {H : Hp} {o ld : Addr} (no : H o = none) (nld : upd H o (.dK []) ld = none) (hr sl : Int) : OwAt (upd (upd (upd H o (.dK [])) ld (.dK [])) o (.dK (owF ld hr sl))) o ld hr sl [] ∧ Same H (upd (upd (upd H o (.dK [])) ld (.dK [])) o (.dK (owF ld hr sl))) ∧ H ld = none ∧ upd (upd H o (.dK [])) ld (.dK []) o = some (.dK []) := by
  have h0 : upd H o (.dK []) o = some (.dK []) := upd_same
  have ne : o ≠ ld := ne_of_none h0 nld
  have nl : H ld = none := by rw [upd_ne ne.symm] at nld; exact nld
  refine ⟨⟨upd_same, (upd_ne ne.symm).trans upd_same, ne, fun _ h => (List.not_mem_nil h).elim, List.nodup_nil, fun _ h => (List.not_mem_nil h).elim⟩, fun x ob e => ?_, nl, (upd_ne ne).trans h0⟩
  rw [upd_ne (ne_of_none e no), upd_ne (ne_of_none e nl), upd_ne (ne_of_none e no)]
  exact e
abbrev s__law_right : Stmt := topS 25
def n__law_right : List Str := ["_law_state", "_law_slots", "_law_hour", "_law_names_here", "_law_more", "_law_later", "_law_held", "_law_both", "_law_owns", "_law_turn", "_law_at", "_law_name", "_law_fine", "_law_told", "_law_inside_here", "_law_some", "_law_alike", "_law_thing", "_law_kept"]
theorem sc__law_right : FnScope n__law_right ["_law_state"] (defScope s__law_right) := ⟨rfl, rfl, rfl, by decide +kernel, rfl, by decide +kernel, by decide +kernel⟩
def spRt (K : PySem.W.Frag) : Sp := fun vs H Q _ => ∃ (b : Addr), vs = [.ref b] ∧ Bq H b 0 ∧ ∀ H', Sm [b] H H' → Q (.bl true) H'
set_option maxHeartbeats 1000000 in
theorem ok_rt {C CF CS f : Addr} {fd : FuncData} {k : Nat} (F : Fun K "_law_right" "_law_right" s__law_right f fd) (T : Txt mg) (O : TunC P w K mg base C CF CS) (W : TunE P w K mg base C) (KN : KinE K C) (c__law_take : Cl P w K mg base 1 "_law_take" spTake) (c__law_names : Cl P w K mg base 2 "_law_names" spNames) (c__law_inside : Cl P w K mg base 1 "_law_inside" (spLI K)) (c__law_deed : Cl P w K mg base 6 "_law_deed" (spDeed K C)) (c__law_are_alike : Cl P w K mg base 3 "_law_are_alike" (spAA C)) (c__law_slots_of : Cl P w K mg base 4 "_law_slots_of" (spSof K C)) (c__law_stands : Cl P w K mg base 6 "_law_stands" (spSt K C)) (c__law_anew : Cl P w K mg base 6 "_law_anew" (spAnew K C)) : FnOk P w K mg base CX0 (k + 7) f fd ["_law_state"] (spRt K) := by
  refine F.ok sc__law_right (fun vs H Q E h => ?_) (fun cdv A outer s H vs Q E hr h => ?_)
  · obtain ⟨b, rfl, _⟩ := h
    rfl
  · obtain ⟨b, rfl, B, q⟩ := h
    have nd := sc__law_right.nd
    have hu := hu_of hr
    have hu64 := hr.units
    have mk_Tunnel := O.made
    have m_Tunnel_inside := O.inside
    have eq_Tunnel := W.eq
    have ne_Tunnel := W.ne
    let CTunnel := C
    /- 0 _law_state, 1 _law_slots, 2 _law_hour, 3 _law_names_here, 4 _law_more, 5 _law_later, 6 _law_held, 7 _law_both, 8 _law_owns, 9 _law_turn, 10 _law_at, 11 _law_name, 12 _law_fine, 13 _law_told, 14 _law_inside_here, 15 _law_some, 16 _law_alike, 17 _law_thing, 18 _law_kept -/
    refine ⟨_, (pss_cons (ps_par3 (i := 1) (j := 2) (l := 3) rfl nd rfl rfl rfl (by decide) (by decide) (by decide) rfl rfl rfl (pa_cons (pe_op op_add pe_int (pe_cl c__law_take hr (by omega) (by rfl) (pa_cons (pv 0) (pa_cons pe_int pa_nil)))) (pa_cons (pe_cl c__law_take hr (by omega) (by rfl) (pa_cons (pv 0) (pa_cons pe_int pa_nil))) (pa_cons (pe_cl c__law_names hr (by omega) (by rfl) (pa_cons (pv 0) (pa_cons pe_int pa_nil))) pa_nil))) rfl)
      (pss_cons (ps_par3 (i := 4) (j := 5) (l := 6) rfl nd rfl rfl rfl (by decide) (by decide) (by decide) rfl rfl rfl (pa_cons (pe_callTy call_int1 (by rfl) T.int (by decide +kernel) (pa_cons (pe_cmpR op_eq (pe_cl c__law_take hr (by omega) (by rfl) (pa_cons (pv 0) (pa_cons pe_int pa_nil))) pe_int (nomark _)) pa_nil)) (pa_cons (pe_callTy call_int1 (by rfl) T.int (by decide +kernel) (pa_cons (pe_cmpR op_eq (pe_cl c__law_take hr (by omega) (by rfl) (pa_cons (pv 0) (pa_cons pe_int pa_nil))) pe_int (nomark _)) pa_nil)) (pa_cons (pe_lst pa_nil) pa_nil))) rfl)
      (pss_cons (ps_set (i := 7) nd rfl (.inl rfl) (pe_lst (pa_cons (pe_omk mk_Tunnel hr (by omega) (by rfl) (pa_cons (pv 1) (pa_cons (pv 2) pa_nil))) (pa_cons (pe_omk mk_Tunnel hr (by omega) (by rfl) (pa_cons (pe_op op_add (pv 1) (pv 4)) (pa_cons (pe_op op_add (pv 2) (pv 5)) pa_nil))) pa_nil))))
      (pss_cons (ps_set (i := 8) nd rfl (.inl rfl) (pe_lst (pa_cons (pe_disp (pps_cons pe_str (pv 1) (pps_cons pe_str (pv 2) (pps_cons pe_str pe_dnewK pps_nil))) (by rfl) (by rfl) (fun z => by cases z) (by decide)) (pa_cons (pe_disp (pps_cons pe_str (pe_op op_add (pv 1) (pv 4)) (pps_cons pe_str (pe_op op_add (pv 2) (pv 5)) (pps_cons pe_str pe_dnewK pps_nil))) (by rfl) (by rfl) (fun z => by cases z) (by decide)) pa_nil))))
      (pss_cons (ps_for PassesOwn.never rfl (pi_range1 (by rfl) T.range (pa_cons (pe_op op_add pe_int (pe_cl c__law_take hr (by omega) (by rfl) (pa_cons (pv 0) (pa_cons pe_int pa_nil)))) pa_nil)) (pg_name (i := 9) nd rfl (.inl rfl))
          (pss_cons (ps_par (i := 10) (j := 11) rfl nd rfl rfl (by decide) rfl rfl (pa_cons (pe_cl c__law_take hr (by omega) (by rfl) (pa_cons (pv 0) (pa_cons pe_int pa_nil))) (pa_cons (pe_ix (kx_list (K := K)) (pv 3) (pe_cl c__law_take hr (by omega) (by rfl) (pa_cons (pv 0) (pa_cons pe_int pa_nil))) (fun _ _ => rfl)) pa_nil)) rfl)
          (pss_cons (ps_asg (pe_cl c__law_deed hr (by omega) (by rfl) (pa_cons (pv 0) (pa_cons (pe_ix (kx_list (K := K)) (pv 7) (pv 10) (fun _ _ => rfl)) (pa_cons (pe_ix (kx_list (K := K)) (pv 8) (pv 10) (fun _ _ => rfl)) (pa_cons (pv 11) pa_nil))))) (kg_tup (K := K) (n := 2) (pgs_cons (pg_name (i := 12) nd rfl (.inl rfl)) (pgs_cons (pg_name (i := 13) nd rfl (.inl rfl)) pgs_nil))))
          (pss_cons (ps_if ((pw_or (pt_not (pt_val (pv 12))) (pw_or (pt_not (pt_val (pe_cl c__law_stands hr (by omega) (by rfl) (pa_cons (pe_ix (kx_list (K := K)) (pv 7) (pv 10) (fun _ _ => rfl)) (pa_cons (pe_ix (kx_list (K := K)) (pv 8) (pv 10) (fun _ _ => rfl)) (pa_cons (pv 3) pa_nil)))))) (pw_or1 (pt_not (pt_val (pe_cl c__law_stands hr (by omega) (by rfl) (pa_cons (pe_ix (kx_list (K := K)) (pv 7) (pe_op op_sub pe_int (pv 10)) (fun _ _ => rfl)) (pa_cons (pe_ix (kx_list (K := K)) (pv 8) (pe_op op_sub pe_int (pv 10)) (fun _ _ => rfl)) (pa_cons (pv 3) pa_nil)))))))))).pt
              (pss_one (ps_ret pe_bl))
              pss_nil)
          (pss_cons (ps_par (i := 14) (j := 15) rfl nd rfl rfl (by decide) rfl rfl (pa_cons (pe_omt0 m_Tunnel_inside hr (by omega) (pe_ix (kx_list (K := K)) (pv 7) (pv 10) (fun _ _ => rfl))) (pa_cons (pe_cl c__law_slots_of hr (by omega) (by rfl) (pa_cons (pe_ix (kx_list (K := K)) (pv 7) (pv 10) (fun _ _ => rfl)) (pa_cons (pv 11) pa_nil))) pa_nil)) rfl)
          (pss_cons (ps_expr (pe_bm PySem.F.plainAttrs_list PySem.F.slot_list_append PySem.F.type_list_append mt_append (pv 6) (pa_cons (pe_tup (pa_cons (pv 14) (pa_cons (pe_callTy (kc_list (K := K)) (by rfl) T.list (by decide +kernel) (pa_cons (pv 14) pa_nil)) pa_nil))) pa_nil)))
          (pss_cons (ps_if (pt_val (pe_callB (kc_isi (K := K)) (by rfl) T.isinstance (by decide +kernel) (pa_cons (pv 15) (pa_cons (pe_bltn (v := .ty "list") (by rfl) T.list (by decide +kernel) rfl) pa_nil))))
              (pss_cons (ps_expr (pe_bm PySem.F.plainAttrs_list PySem.F.slot_list_append PySem.F.type_list_append mt_append (pv 6) (pa_cons (pe_tup (pa_cons (pv 15) (pa_cons (pe_callTy (kc_list (K := K)) (by rfl) T.list (by decide +kernel) (pa_cons (pv 15) pa_nil)) pa_nil))) pa_nil)))
              (pss_one (ps_expr (pe_bm PySem.F.plainAttrs_list PySem.F.slot_list_append PySem.F.type_list_append mt_append (pe_cl c__law_slots_of hr (by omega) (by rfl) (pa_cons (pe_ix (kx_list (K := K)) (pv 7) (pv 10) (fun _ _ => rfl)) (pa_cons (pv 11) pa_nil))) (pa_cons pe_int pa_nil)))))
              pss_nil)
          (pss_cons (ps_expr (pe_bm PySem.F.plainAttrs_list PySem.F.slot_list_append PySem.F.type_list_append mt_append (pv 13) (pa_cons pe_str pa_nil)))
          (pss_cons (ps_if (pt_cmpR op_eq (pe_op op_mod (pv 9) pe_int) pe_int (nomark _))
              (pss_one (ps_expr (pe_bm0 PySem.F.plainAttrs_list PySem.F.slot_list_clear PySem.F.type_list_clear mt_clear (pe_omt0 m_Tunnel_inside hr (by omega) (pe_ix (kx_list (K := K)) (pv 7) (pv 10) (fun _ _ => rfl))))))
              pss_nil)
          (pss_cons (ps_set (i := 16) nd rfl (.inl rfl) (pe_lst (pa_cons (pe_dget hu (pe_ix (kx_list (K := K)) (pv 8) pe_int (fun _ _ => rfl)) pe_str (fun _ _ => rfl)) (pa_cons (pe_dget hu (pe_ix (kx_list (K := K)) (pv 8) pe_int (fun _ _ => rfl)) pe_str (fun _ _ => rfl)) (pa_cons (pe_cl c__law_inside hr (by omega) (by rfl) (pa_cons (pe_ix (kx_list (K := K)) (pv 8) pe_int (fun _ _ => rfl)) pa_nil)) pa_nil)))))
          (pss_one (ps_if (pt_not (pt_val (pe_cl c__law_are_alike hr (by omega) (by rfl) (pa_cons (pe_ix (kx_list (K := K)) (pv 7) pe_int (fun _ _ => rfl)) (pa_cons (pe_ix (kx_list (K := K)) (pv 7) pe_int (fun _ _ => rfl)) (pa_cons (pe_cmpR (ko_eq (K := K) hu64) (pv 16) (pe_lst (pa_cons (pe_dget hu (pe_ix (kx_list (K := K)) (pv 8) pe_int (fun _ _ => rfl)) pe_str (fun _ _ => rfl)) (pa_cons (pe_dget hu (pe_ix (kx_list (K := K)) (pv 8) pe_int (fun _ _ => rfl)) pe_str (fun _ _ => rfl)) (pa_cons (pe_cl c__law_inside hr (by omega) (by rfl) (pa_cons (pe_ix (kx_list (K := K)) (pv 8) pe_int (fun _ _ => rfl)) pa_nil)) pa_nil)))) (nomark _)) pa_nil))))))
              (pss_one (ps_ret pe_bl))
              pss_nil))))))))))))
      (pss_cons (ps_for PassesOwn.never rfl (ki_tup (K := K) (pe_tup (pa_cons pe_non (pa_cons pe_int (pa_cons pe_str (pa_cons (pe_tup pa_nil) (pa_cons (pe_omt0 m_Tunnel_inside hr (by omega) (pe_ix (kx_list (K := K)) (pv 7) pe_int (fun _ _ => rfl))) (pa_cons (pe_tup (pa_cons (pe_dget hu (pe_ix (kx_list (K := K)) (pv 8) pe_int (fun _ _ => rfl)) pe_str (fun _ _ => rfl)) (pa_cons (pe_dget hu (pe_ix (kx_list (K := K)) (pv 8) pe_int (fun _ _ => rfl)) pe_str (fun _ _ => rfl)) pa_nil))) pa_nil)))))))) (pg_name (i := 17) nd rfl (.inl rfl))
          (pss_one (ps_if ((pw_or (pt_cmpR op_notBl (pe_cmpR (ko_eqB eq_Tunnel hr (by omega)) (pe_ix (kx_list (K := K)) (pv 7) pe_int (fun _ _ => rfl)) (pv 17) (nomark _)) pe_bl (nomark _)) (pw_or1 (pt_cmpR op_notBl (pe_cmpR (ko_neB eq_Tunnel ne_Tunnel hr (by omega) hu64) (pe_ix (kx_list (K := K)) (pv 7) pe_int (fun _ _ => rfl)) (pv 17) (nomark _)) pe_bl (nomark _))))).pt
              (pss_one (ps_ret pe_bl))
              pss_nil)))
      (pss_cons (ps_if (pt_not (pt_val (pe_callB (kc_all (K := K)) (by rfl) T.all (by decide +kernel) (pa_cons (pe_lc (own := [("_law_told", 13), ("_law_kept", 18)]) rfl nd (ki_list (K := K) (pv 6)) (blkOk_by (N := n__law_right) (sc := defScope s__law_right) (by decide +kernel)) (fun _ _ _ _ _ => (kg_tup (K := K) (n := 2) (pgs_cons (pg_name (i := 13) nd rfl (.inl rfl)) (pgs_cons (pg_name (i := 18) nd rfl (.inl rfl)) pgs_nil)))) (fun _ _ _ _ _ => pts_nil) (fun _ _ _ _ _ => (pe_cmpR (ko_eq (K := K) hu64) (pv 13) (pv 18) (nomark _)))) pa_nil))))
          (pss_one (ps_ret pe_bl))
          pss_nil)
      (pss_one (ps_ret (pe_and (pe_cl c__law_anew hr (by omega) (by rfl) (pa_cons (pv 0) (pa_cons (pe_ix (kx_list (K := K)) (pv 7) pe_int (fun _ _ => rfl)) (pa_cons (pe_ix (kx_list (K := K)) (pv 8) pe_int (fun _ _ => rfl)) pa_nil)))) (pe_one (pe_cl c__law_stands hr (by omega) (by rfl) (pa_cons (pe_ix (kx_list (K := K)) (pv 7) pe_int (fun _ _ => rfl)) (pa_cons (pe_ix (kx_list (K := K)) (pv 8) pe_int (fun _ _ => rfl)) (pa_cons (pv 3) pa_nil))))))))))))))), ?_⟩
    refine ⟨_, rfl, b, 7, 0, rfl, by decide, by decide, B, by decide, fun H1 r1 r10 r11 B1 s1 => ⟨_, _, rfl, rfl, ?_⟩⟩
    refine ⟨_, rfl, b, 50, _, rfl, by decide, by decide, B1, by decide, fun H2 ho h0 h50 B2 s2 => ?_⟩
    refine ⟨_, rfl, b, _, 4, rfl, B2, by decide, by decide, fun H3 L ys B3 s3 nL hL ly ny => ⟨_, _, _, rfl, ?_⟩⟩
    have g3 := (s1.trans s2).trans s3
    obtain ⟨x3, y3, z3, hb3, _⟩ := id B3
    have Lb : L ≠ b := fun e => by
      obtain ⟨_, _, _, hb2, _⟩ := B2
      rw [e, hb2] at nL; cases nL
    obtain ⟨sl, esl, sl1, sl7⟩ : ∃ sl : Nat, (1 + r1 : Int) = ((sl : Nat) : Int) ∧ 1 ≤ sl ∧ sl ≤ 7 := ⟨(1 + r1).toNat, by omega, by omega, by omega⟩
    simp only [gName, List.set]
    refine ⟨_, rfl, b, 4, _, rfl, by decide, by decide, B3, by decide, fun H4 r4 r40 r41 B4 s4 => ?_⟩
    refine ⟨rfl, .inr ⟨_, rfl, ?_⟩⟩
    obtain ⟨mo, emo, mo0⟩ : ∃ mo : Nat, (if decide (V.int r4 = V.int 0) = true then (1 : Int) else 0) = ((mo : Nat) : Int) ∧ mo ≤ 1 := by
      by_cases c : decide (V.int r4 = V.int 0) = true
      · exact ⟨1, by rw [if_pos c]; rfl, by decide⟩
      · exact ⟨0, by rw [if_neg c]; rfl, by decide⟩
    refine ⟨_, rfl, b, 4, _, rfl, by decide, by decide, B4, by decide, fun H5 r5 r50 r51 B5 s5 => ?_⟩
    refine ⟨rfl, .inr ⟨_, rfl, Nat.zero_le _, fun Hd nHd => ⟨_, _, _, rfl, ?_⟩⟩⟩
    obtain ⟨la, ela, la0⟩ : ∃ la : Nat, (if decide (V.int r5 = V.int 0) = true then (1 : Int) else 0) = ((la : Nat) : Int) ∧ la ≤ 1 := by
      by_cases c : decide (V.int r5 = V.int 0) = true
      · exact ⟨1, by rw [if_pos c]; rfl, by decide⟩
      · exact ⟨0, by rw [if_neg c]; rfl, by decide⟩
    rw [emo, ela]
    have hL5 : H5 L = some (.lst (ys.map V.str)) := sm1_at s5 Lb (sm1_at s4 Lb hL)
    have g5 := (g3.trans s4).trans s5
    have B6 := B5.put (o := .lst []) nHd
    have hH6 : upd H5 Hd (.lst []) Hd = some (.lst []) := upd_same
    have hL6 := same_upd (o := .lst []) nHd _ _ hL5
    have g6 := g5.trans (sm_of (same_upd (o := .lst []) nHd))
    have nHd0 : H Hd = none := by
      cases e : H Hd with
      | none => rfl
      | some ob =>
        have := sm1_at g5 (B5.ne nHd) e
        rw [nHd] at this; cases this
    generalize upd H5 Hd (.lst []) = H6 at B6 hH6 hL6 g6 ⊢
    simp only [gName, List.set]
    refine ⟨_, rfl, _, rfl, ?_⟩
    intro p0 dx0 np0 ndx0 dne0
    refine ⟨H6, p0, dx0, (1 + r1 : Int), ho, rfl, ins_new np0 ndx0, np0, upd_same, fun H7 hd0 s7 nh0 ne0 t7 => ⟨rfl, ?_⟩⟩
    rw [esl] at t7
    refine ⟨_, rfl, _, rfl, _, _, rfl, rfl, _, rfl, _, rfl, _, _, rfl, rfl, ?_⟩
    intro p1 dx1 np1 ndx1 dne1
    refine ⟨H7, p1, dx1, (1 + r1 + (mo : Nat) : Int), ho + (la : Nat), rfl, ins_new np1 ndx1, np1, upd_same, fun H8 hd1 s8 nh1 ne1 t8 => ⟨rfl, ?_⟩⟩
    have esl2 : (1 + r1 + (mo : Nat) : Int) = ((sl + mo : Nat) : Int) := by omega
    rw [esl2] at t8
    refine ⟨(by show 2 ≤ sizeLine; decide), fun Bo nBo => ?_⟩
    simp only [gName, List.set]
    have s9 := same_upd (o := .lst [V.ref p0, .ref p1]) nBo
    have hB9 : upd H8 Bo (.lst [V.ref p0, .ref p1]) Bo = some (.lst [V.ref p0, .ref p1]) := upd_same
    generalize upd H8 Bo (.lst [V.ref p0, .ref p1]) = H9 at s9 hB9 ⊢
    intro o0 no0
    refine ⟨_, rfl, _, rfl, ?_⟩
    intro ld0 nld0
    refine ⟨(own_new no0 nld0 0 0).2.2.2, [((Sum.inr "slots" : Key), V.int (1 + r1)), (Sum.inr "now", .int ho), (Sum.inr "lying", .ref ld0)], rfl, (by show 3 ≤ 15; decide), ?_⟩
    rw [ow_made, esl]
    obtain ⟨w10, s10, nl0, _⟩ := own_new no0 nld0 ho (sl : Nat)
    generalize upd (upd (upd H9 o0 (.dK [])) ld0 (.dK [])) o0 (.dK (owF ld0 ho (sl : Nat))) = H10 at w10 s10 ⊢
    intro o1 no1
    refine ⟨_, rfl, _, rfl, _, _, rfl, rfl, _, rfl, _, rfl, _, _, rfl, rfl, ?_⟩
    intro ld1 nld1
    refine ⟨(own_new no1 nld1 0 0).2.2.2, [((Sum.inr "slots" : Key), V.int ((sl : Nat) + (mo : Nat))), (Sum.inr "now", .int (ho + (la : Nat))), (Sum.inr "lying", .ref ld1)], rfl, (by show 3 ≤ 15; decide), ?_⟩
    rw [ow_made, show (((sl : Nat) : Int) + ((mo : Nat) : Int)) = ((sl + mo : Nat) : Int) from (Int.natCast_add sl mo).symm]
    obtain ⟨w11, s11, nl1, _⟩ := own_new no1 nld1 (ho + (la : Nat)) ((sl + mo : Nat) : Int)
    generalize upd (upd (upd H10 o1 (.dK [])) ld1 (.dK [])) o1 (.dK (owF ld1 (ho + (la : Nat)) ((sl + mo : Nat) : Int))) = H11 at w11 s11 ⊢
    refine ⟨(by show 2 ≤ sizeLine; decide), fun Ow nOw => ?_⟩
    have s12 := same_upd (o := .lst [V.ref o0, .ref o1]) nOw
    have hO12 : upd H11 Ow (.lst [V.ref o0, .ref o1]) Ow = some (.lst [V.ref o0, .ref o1]) := upd_same
    generalize upd H11 Ow (.lst [V.ref o0, .ref o1]) = H12 at s12 hO12 ⊢
    simp only [gName, List.set]
    have k6 : Same H6 H7 := s7
    have k11 : Same H9 H11 := s10.trans s11
    have k9 : Same H9 H12 := k11.trans s12
    have k8 : Same H8 H12 := s9.trans k9
    have k7 : Same H7 H12 := s8.trans k8
    have k6 : Same H6 H12 := s7.trans k7
    have f9 : ∀ x, H9 x = none → H8 x = none := fun x => s9.free
    have f7 : ∀ x, H8 x = none → H7 x = none := fun x => s8.free
    have f6 : ∀ x, H7 x = none → H6 x = none := fun x => s7.free
    have f0 : ∀ x, H6 x = none → H x = none := fun x => fr_freeS g6 (fun y hy e => by obtain ⟨us, hb⟩ := bq_lst B6; rw [List.mem_singleton.mp hy, hb] at e; cases e)
    have no1' : H9 o1 = none := s10.free no1
    have nl1' : H9 ld1 = none := s10.free nl1
    obtain ⟨dx7, hp7⟩ := t7.ob
    have hd7 := t7.di
    obtain ⟨dx8, hp8⟩ := t8.ob
    have hd8 := t8.di
    have hp9 := s9 _ _ hp8
    have hd9 := s9 _ _ hd8
    have ho10 := w10.ob
    have hl10 := w10.di
    have nof : ∀ {H0 : Hp} {x y : Addr} {ob : HO}, H0 x = some ob → H0 y = none → x ≠ y := fun e n z => by rw [z, n] at e; cases e
    have T0 : Td K C H H12 b L Hd Bo Ow p0 p1 o0 o1 ⟨p0, hd0, o0, ld0, ho, sl, [], []⟩ ⟨p1, hd1, o1, ld1, ho + (la : Nat), sl + mo, [], []⟩ ys [] [] [] 100 := by
      obtain ⟨bs, hb6⟩ := bq_lst B6
      refine ⟨⟨t7.same k7, w10.same (s11.trans s12), rfl, nof (s9 _ _ (s8 _ _ hd7)) no0, nof (s9 _ _ (s8 _ _ hd7)) nl0, fun _ h => (List.not_mem_nil h).elim⟩, ⟨t8.same k8, w11.same s12, rfl, nof (s10 _ _ hd9) no1, nof (s10 _ _ hd9) nl1, fun _ h => (List.not_mem_nil h).elim⟩, ?_, by show sl ≤ 8; omega, by show sl + mo ≤ 8; omega, (B6.same k6).mono (by decide), k6 _ _ hL6, k9 _ _ hB9, hO12, k6 _ _ hH6, Lb, (nof hb6 (f6 _ (f7 _ nBo))).symm, (nof hb6 (s7.free (s8.free (s9.free (k11.free nOw))))).symm, (B5.ne nHd), nof hL5 nHd, (nof hH6 (f6 _ (f7 _ nBo))).symm, (nof hH6 (s7.free (s8.free (s9.free (k11.free nOw))))).symm, .nil, fun _ h => (List.not_mem_nil h).elim, g6.trans (sm_of k6), ?_, ?_, nHd0, fun x hx => (List.not_mem_nil hx).elim⟩
      · intro x hx hy
        simp only [U8.ad, List.mem_cons, List.not_mem_nil, or_false] at hx hy
        rcases hx with h | h | h | h <;> rcases hy with z | z | z | z
        · exact (nof hp7 np1) (h.symm.trans z)
        · exact (nof hp7 nh1) (h.symm.trans z)
        · exact (nof (s10 _ _ (s9 _ _ (s8 _ _ hp7))) no1) (h.symm.trans z)
        · exact (nof (s10 _ _ (s9 _ _ (s8 _ _ hp7))) nl1) (h.symm.trans z)
        · exact (nof hd7 np1) (h.symm.trans z)
        · exact (nof hd7 nh1) (h.symm.trans z)
        · exact (nof (s10 _ _ (s9 _ _ (s8 _ _ hd7))) no1) (h.symm.trans z)
        · exact (nof (s10 _ _ (s9 _ _ (s8 _ _ hd7))) nl1) (h.symm.trans z)
        · exact ((nof hp9 no0).symm) (h.symm.trans z)
        · exact ((nof hd9 no0).symm) (h.symm.trans z)
        · exact (nof ho10 no1) (h.symm.trans z)
        · exact (nof ho10 nl1) (h.symm.trans z)
        · exact ((nof hp9 nl0).symm) (h.symm.trans z)
        · exact ((nof hd9 nl0).symm) (h.symm.trans z)
        · exact (nof hl10 no1) (h.symm.trans z)
        · exact (nof hl10 nl1) (h.symm.trans z)
      · intro x hx
        simp only [U8.ad, List.mem_cons, List.not_mem_nil, or_false] at hx
        rcases hx with rfl | rfl | rfl | rfl
        · exact f0 _ np0
        · exact f0 _ nh0
        · exact f0 _ (f6 _ (f7 _ (f9 _ no0)))
        · exact f0 _ (f6 _ (f7 _ (f9 _ nl0)))
      · intro x hx
        simp only [U8.ad, List.mem_cons, List.not_mem_nil, or_false] at hx
        rcases hx with rfl | rfl | rfl | rfl
        · exact f0 _ (f6 _ np1)
        · exact f0 _ (f6 _ nh1)
        · exact f0 _ (f6 _ (f7 _ (f9 _ no1')))
        · exact f0 _ (f6 _ (f7 _ (f9 _ nl1')))
    clear k6 k7 k8 k9 k11 f9 f7 f6 f0 no1' nl1' hp7 hd7 hp8 hd8 hp9 hd9 ho10 hl10 s7 s8 s9 s10 s11 s12 w10 w11 t7 t8 hB9 hO12 nld0 nld1 nl0 nl1 no0 no1 nBo nOw np0 np1 nh0 nh1 ndx0 ndx1 dne0 dne1 ne0 ne1 hL5 hH6 hL6 g3 g5 g6 B1 B2 B3 B4 B5 B6 nHd nHd0 nL hL hb3 Lb B s1 s2 s3 s4 s5
    refine ⟨_, rfl, b, 31, _, rfl, by decide, by decide, T0.B, by decide, fun H13 rt rt0 rt1 B13 s13 => ⟨_, _, rfl, rfl, ?_⟩⟩
    have T1 := T0.take s13 B13
    refine ⟨_, rfl, by show -2 ^ 62 ≤ 10 + rt; omega, by show 10 + rt < 2 ^ 62; omega, ?_⟩
    refine for_it walk_range (fun i σ Hx => ∃ u v hs ds v9 va vb vc vd ve vf vg, σ = [some (.ref b), some (.int (sl : Nat)), some (.int ho), some (.ref L), some (.int (mo : Nat)), some (.int (la : Nat)), some (.ref Hd), some (.ref Bo), some (.ref Ow), v9, va, vb, vc, vd, ve, vf, vg, none, none] ∧ Td K C H Hx b L Hd Bo Ow p0 p1 o0 o1 u v ys hs ds [] (300 + 20 * i) ∧ hs.length ≤ 2 * i ∧ u.p = p0 ∧ u.o = o0 ∧ v.p = p1 ∧ v.o = o1) ⟨_, _, [], [], _, _, _, _, _, _, _, _, rfl, T1.mono (by decide), Nat.le_refl _, rfl, rfl, rfl, rfl⟩ (fun _ _ _ _ _ => trivial) ?_ ?_
    · clear T1 T0 s13 B13
      rintro i y σ Hx _ hi ⟨u, v, hs, ds, v9, va, vb, vc, vd, ve, vf, vg, rfl, t, lh, e1, e2, e3, e4⟩ ⟨rfl, rfl⟩
      have hi : i < 42 := by have : (10 + rt).toNat < 42 := by omega
                             omega
      show gName 9 (V.int (0 + (i : Nat))) _ _ _
      simp only [gName, List.set]
      refine ⟨_, rfl, b, 2, _, rfl, by decide, by decide, t.B, by omega, fun H1 r5 r50 r51 B1 s1 => ?_⟩
      have t := t.take s1 B1
      refine ⟨_, rfl, _, rfl, b, 4, _, rfl, by decide, by decide, t.B, by omega, fun H2 r6 r60 r61 B2 s2 => ?_⟩
      have t := t.take s2 B2
      obtain ⟨z, ez, nz⟩ : ∃ z, atI (ys.map V.str) r6 = some (.str z) ∧ Nw z := by
        obtain ⟨k, rfl⟩ : ∃ k : Nat, r6 = (k : Int) := ⟨r6.toNat, by omega⟩
        have hk : k < ys.length := by omega
        exact ⟨ys[k], atI_nat (by rw [List.getElem?_map, List.getElem?_eq_getElem hk]; rfl), ny _ (List.getElem_mem hk)⟩
      refine ⟨L, _, r6, _, rfl, rfl, SqL.of t.hL, ez, ?_⟩
      refine ⟨_, _, rfl, ?_⟩
      simp only [gName, List.set]
      obtain ⟨A, O, tA, q1, q2, q3, q4, back⟩ : ∃ A O : U8, Td K C H H2 b L Hd Bo Ow p0 p1 o0 o1 A O ys hs ds [] (300 + 20 * i + 1 + 1) ∧ atI [V.ref p0, .ref p1] r5 = some (.ref A.p) ∧ atI [V.ref o0, .ref o1] r5 = some (.ref A.o) ∧ atI [V.ref p0, .ref p1] (1 - r5) = some (.ref O.p) ∧ atI [V.ref o0, .ref o1] (1 - r5) = some (.ref O.o) ∧ ∀ {Hx : Hp} {hs : List V} {ds : List PyData} {m : Nat} (A' : U8), A'.p = A.p → A'.o = A.o → Td K C H Hx b L Hd Bo Ow p0 p1 o0 o1 A' O ys hs ds [] m → ∃ u v, Td K C H Hx b L Hd Bo Ow p0 p1 o0 o1 u v ys hs ds [] m ∧ u.p = p0 ∧ u.o = o0 ∧ v.p = p1 ∧ v.o = o1 := by
        have c : r5 = 0 ∨ r5 = 1 := by omega
        rcases c with rfl | rfl
        · exact ⟨u, v, t, by rw [e1]; rfl, by rw [e2]; rfl, by rw [e3]; rfl, by rw [e4]; rfl, fun A' h1 h2 t' => ⟨A', v, t', h1.trans e1, h2.trans e2, e3, e4⟩⟩
        · exact ⟨v, u, t.swap, by rw [e3]; rfl, by rw [e4]; rfl, by rw [e1]; rfl, by rw [e2]; rfl, fun A' h1 h2 t' => ⟨u, A', t'.swap, e1, e2, h1.trans e3, h2.trans e4⟩⟩
      clear t e1 e2 e3 e4 B1 B2 s1 s2 ez
      refine ⟨_, rfl, _, rfl, _, rfl, Bo, _, r5, _, rfl, rfl, SqL.of tA.hB, q1, _, rfl, _, rfl, Ow, _, r5, _, rfl, rfl, SqL.of tA.hO, q2, _, rfl, b, A.p, A.hd, A.o, A.ld, _, A.hr, A.sl, A.es, A.fs, z, rfl, tA.ku, by have := tA.usl; omega, nz, tA.B, by omega, fun H3 tt R hd' hr' es' fs' us U hn B3 s3 ntt htt nR hR lu => ?_⟩
      have t3 := (tA.deed (R := R) s3 B3 U hn nR (fun e => by rw [hR] at e; cases e)).mono (m' := 300 + 20 * (i + 1)) (by omega)
      obtain ⟨A', eA⟩ : ∃ A' : U8, A' = ⟨A.p, hd', A.o, A.ld, hr', A.sl, es', fs'⟩ := ⟨_, rfl⟩
      have eAp : A'.p = A.p := by rw [eA]
      have eAo : A'.o = A.o := by rw [eA]
      rw [← eA] at t3
      rw [← eAp] at q1
      rw [← eAo] at q2
      have back' := fun {Hx : Hp} {hs : List V} {ds : List PyData} {m : Nat} => @back Hx hs ds m A' eAp eAo
      clear back s3 B3 U hn eA eAp eAo tA
      refine ⟨tt, _, rfl, .inl (.inl htt), rfl, _, _, rfl, _, _, rfl, rfl, ?_⟩
      simp only [gName, List.set]
      have leA := Un.le t3.ku
      have leO := Un.le t3.kv
      have uslA := t3.usl
      have uslO := t3.vsl
      refine ⟨_, rfl, true, rfl, iteF ?_⟩
      refine ⟨_, rfl, _, rfl, Bo, _, r5, _, rfl, rfl, SqL.of t3.hB, q1, _, rfl, _, rfl, Ow, _, r5, _, rfl, rfl, SqL.of t3.hO, q2, _, rfl, A'.p, A'.hd, A'.o, A'.ld, L, A'.hr, A'.sl, A'.es, A'.fs, ys, rfl, t3.ku.M, t3.ku.W, t3.ku.al, by omega, t3.hL, by omega, ny, t3.ku.ne, fun H4 s4 => ⟨true, rfl, iteF ?_⟩⟩
      have t4 := t3.same s4
      refine ⟨_, rfl, _, rfl, _, _, rfl, rfl, Bo, _, 1 - r5, _, rfl, rfl, SqL.of t4.hB, q3, _, rfl, _, rfl, _, _, rfl, rfl, Ow, _, 1 - r5, _, rfl, rfl, SqL.of t4.hO, q4, _, rfl, O.p, O.hd, O.o, O.ld, L, O.hr, O.sl, O.es, O.fs, ys, rfl, t4.kv.M, t4.kv.W, t4.kv.al, by omega, t4.hL, by omega, ny, t4.kv.ne, fun H5 s5 => ⟨true, rfl, iteF ?_⟩⟩
      have t5 := t4.same s5
      obtain ⟨dxA, hpA⟩ := t5.ku.M.ob
      have li : ∀ (x : Addr) (y z : Int), (tnF x y z).lookup ("inside" : Str) = none := fun x y z => tf_no (by decide +kernel) (by decide +kernel) (by decide +kernel)
      refine ⟨_, rfl, _, rfl, Bo, _, r5, _, rfl, rfl, SqL.of t5.hB, q1, A'.p, dxA, _, rfl, hpA, li _ _ _, A'.p, A'.hd, A'.hr, A'.sl, A'.es, rfl, t5.ku.M, by omega, fun H6 R1 us1 s6 n1 h1 d1 => ?_⟩
      have t6 := t5.same s6
      refine ⟨_, rfl, _, rfl, Bo, _, r5, _, rfl, rfl, SqL.of t6.hB, q1, _, rfl, A'.p, A'.hd, A'.hr, A'.sl, A'.es, z, rfl, t6.ku.M, by omega, fun H7 x2 s7 d2 l2 => ⟨_, _, rfl, ?_⟩⟩
      simp only [gName, List.set]
      have hR7 : H7 R = some (.lst us) := s7 _ _ (s6 _ _ (s5 _ _ (s4 _ _ hR)))
      have t7 := t6.same s7
      have dx2 := dp_same off_sub (d2 [] fun _ h => (List.not_mem_nil h).elim)
      obtain ⟨bs, hb5⟩ := bq_lst t5.B
      have nf : ∀ {x y : Addr} {vs : List V}, H5 x = some (.lst vs) → H5 y = none → y ≠ x := fun e n z => by rw [← z, n] at e; cases e
      have nR1 : R1 ∉ [b, Hd, R] := by
        simp only [List.mem_cons, List.not_mem_nil, or_false, not_or]
        exact ⟨nf hb5 n1, nf t5.hh n1, nf (s5 _ _ (s4 _ _ hR)) n1⟩
      have lsts : ∀ x ∈ [b, Hd, R], ∃ vs, H7 x = some (.lst vs) := fun x hx => by
        simp only [List.mem_cons, List.not_mem_nil, or_false] at hx
        rcases hx with rfl | rfl | rfl
        · exact bq_lst t7.B
        · exact ⟨_, t7.hh⟩
        · exact ⟨_, hR7⟩
      have d7 : DpAll K (off H7 [b, Hd, R]) us1 (inL A'.es A'.hr) := in_off (dpAll_same (sm_of s7) d1) lsts
      refine ⟨_, rfl, .inl ⟨rfl, _, SqL.of t7.hh⟩, _, rfl, _, rfl, R1, us1, rfl, .inl (SqL.of (s7 _ _ h1)), fun l nl => ⟨(by show 2 ≤ sizeLine; decide), fun tp ntp => ?_⟩⟩
      obtain ⟨t8, s8, hH8⟩ := t7.hold2 (s7 _ _ h1) nR1 d7 (in_ok t7.ku.ne) nl ntp
      generalize upd (upd H7 l (.lst us1)) tp (.tup [.ref R1, .ref l]) = Hc at t8 s8 hH8 ⊢
      refine ⟨Hd, hs, _, rfl, rfl, hH8, by rw [sizeLine_eq]; omega, ?_⟩
      have w8 : Sm [Hd] Hc (upd Hc Hd (.lst (hs ++ [.ref tp]))) := sm_wr (by simp)
      generalize upd Hc Hd (.lst (hs ++ [.ref tp])) = H8 at w8 t8 ⊢
      have dx8 := dp_same off_sub (dp_same w8 (dp_same (sm_of s8) (d2 [Hd] fun x hx e => by rw [List.mem_singleton.mp hx, t6.hh] at e; cases e)))
      have hR8 := sm1_at w8 (t7.nX R (by simp)).2.2.1 (s8 _ _ hR7)
      have x28 : ∀ R2 ob, H6 R2 = none → H7 R2 = some ob → H8 R2 = some ob := fun R2 ob n e => sm1_at w8 (fun z => by rw [z, t6.hh] at n; cases n) (s8 _ _ e)
      have free8 : ∀ x, H8 x = none → H5 x = none := fun x e => s6.free (s7.free (s8.free (free1 w8 (fun z => by rw [z, t8.hh] at e; cases e) e)))
      clear hH8 w8 d7 nR1 ntp nl lsts
      dsimp only
      refine seq_mid (fun σ Hx => ∃ hs ds, σ = [some (.ref b), some (.int (sl : Nat)), some (.int ho), some (.ref L), some (.int (mo : Nat)), some (.int (la : Nat)), some (.ref Hd), some (.ref Bo), some (.ref Ow), some (.int (0 + (i : Nat))), some (.int r5), some (.str z), some (.bl true), some (.ref R), some (.ref R1), some x2, vg, none, none] ∧ Td K C H Hx b L Hd Bo Ow p0 p1 o0 o1 A' O ys hs ds [R] (300 + 20 * (i + 1)) ∧ hs.length ≤ 2 * (i + 1) ∧ Hx R = some (.lst us)) (fun N hN => ?_) (fun σ Hx h => ?_)
      · by_cases c : nmF (rowsF A'.es A'.hr) z = []
        · have ed : soD A'.es A'.hr z = .tuple [.str "piece", .str z] := by unfold soD; rw [if_pos c]
          rw [ed] at dx8
          have dx8 : TyX K H8 x2 (.type "tuple") := tyx_dp dx8
          refine ⟨_, rfl, x2, .ty "list", _, _, _, rfl, .ty "list", dx8, kit_ty (show kitB "tuple" "list" = some false by decide +kernel), _, rfl, iteF ?_⟩
          exact hN _ _ ⟨_, _, rfl, t8, by rw [List.length_append]; show hs.length + 1 ≤ _; omega, hR8⟩
        · obtain ⟨R2, rfl, nR2, hR2⟩ := l2 c
          have hR28 := x28 R2 _ nR2 hR2
          refine ⟨_, rfl, _, .ty "list", _, _, _, rfl, .ty "list", tyx_list (SqL.of hR28), kit_ty (show kitB "list" "list" = some true by decide +kernel), _, rfl, iteT ?_⟩
          have le2 : (nmF (rowsF A'.es A'.hr) z).length ≤ 8 := by
            unfold nmF
            rw [List.length_map]
            refine Nat.le_trans (List.length_filter_le _ _) ?_
            rw [(rows_perm A'.es A'.hr).length_eq]; omega
          have nR2' : R2 ∉ [b, Hd, R] := by
            simp only [List.mem_cons, List.not_mem_nil, or_false, not_or]
            refine ⟨fun e => ?_, fun e => ?_, fun e => ?_⟩
            · rw [e, s6 _ _ hb5] at nR2; cases nR2
            · rw [e, t6.hh] at nR2; cases nR2
            · rw [e, s6 _ _ (s5 _ _ (s4 _ _ hR))] at nR2; cases nR2
          refine ⟨_, rfl, .inl ⟨rfl, _, SqL.of t8.hh⟩, _, rfl, _, rfl, R2, _, rfl, .inl (SqL.of hR28), fun l3 nl3 => ⟨(by show 2 ≤ sizeLine; decide), fun tp3 ntp3 => ?_⟩⟩
          obtain ⟨t9, s9, hH9⟩ := t8.hold2 hR28 nR2' (dp_ints _) (ints_ok _) nl3 ntp3
          refine ⟨Hd, _, _, rfl, rfl, hH9, by rw [List.length_append, sizeLine_eq]; show hs.length + 1 < _; omega, ?_⟩
          generalize upd (upd H8 l3 _) tp3 (.tup [.ref R2, .ref l3]) = Hc9 at t9 s9 hH9 ⊢
          have w9 : Sm [Hd] Hc9 (upd Hc9 Hd (.lst (hs ++ [.ref tp] ++ [.ref tp3]))) := sm_wr (by simp)
          have hR9 := sm1_at w9 (t7.nX R (by simp)).2.2.1 (s9 _ _ hR8)
          generalize upd Hc9 Hd (.lst (hs ++ [.ref tp] ++ [.ref tp3])) = H9 at w9 t9 hR9 ⊢
          dsimp only
          refine ⟨_, rfl, _, rfl, Bo, _, r5, _, rfl, rfl, SqL.of t9.hB, q1, _, rfl, A'.p, A'.hd, A'.hr, A'.sl, A'.es, z, rfl, t9.ku.M, by omega, fun H10 x3 s10 _ l3 => ?_⟩
          obtain ⟨R3, rfl, nR3, hR3⟩ := l3 c
          refine ⟨.inl ⟨rfl, _, SqL.of hR3⟩, R3, _, _, rfl, rfl, hR3, by rw [List.length_map, List.length_map, sizeLine_eq]; omega, hN _ _ ⟨_, _, rfl, t9.same (same_put s10 nR3), by rw [List.length_append, List.length_append]; show hs.length + 1 + 1 ≤ _; omega, same_put s10 nR3 _ _ hR9⟩⟩
      obtain ⟨hs2, ds2, rfl, t9, lh2, hR9⟩ := h
      refine ⟨_, rfl, .inl ⟨rfl, _, SqL.of hR9⟩, R, us, _, rfl, rfl, hR9, by rw [sizeLine_eq]; omega, ?_⟩
      have t10 := t9.drop (o := .lst (us ++ [.str "more"])) hR9
      generalize upd Hx R (.lst (us ++ [.str "more"])) = H10 at t10 ⊢
      dsimp only
      clear t9 t8 t7 t6 t5 t4 t3 s4 s5 s6 s7 s8 hR9 hR8 hR7 hR d1 h1 n1 d2 l2 dx2 x28 free8 nR hb5 nf
      refine seq_mid (fun σ Hx => σ = [some (.ref b), some (.int (sl : Nat)), some (.int ho), some (.ref L), some (.int (mo : Nat)), some (.int (la : Nat)), some (.ref Hd), some (.ref Bo), some (.ref Ow), some (.int (0 + (i : Nat))), some (.int r5), some (.str z), some (.bl true), some (.ref R), some (.ref R1), some x2, vg, none, none] ∧ Td K C H Hx b L Hd Bo Ow p0 p1 o0 o1 A' O ys hs2 ds2 [] (300 + 20 * (i + 1))) (fun N hN => ?_) (fun σ Hx h => ?_)
      · refine ⟨_, rfl, _, _, rfl, rfl, (by show (0 : Int) < 3; decide), rfl, _, rfl, ?_⟩
        refine ite2 (fun _ => ?_) (fun _ => hN _ _ ⟨rfl, t10⟩)
        obtain ⟨dx, hp⟩ := t10.ku.M.ob
        exact ⟨_, rfl, _, rfl, Bo, _, r5, _, rfl, rfl, SqL.of t10.hB, q1, A'.p, dx, _, rfl, hp, li _ _ _, A'.p, A'.hd, A'.hr, A'.sl, A'.es, rfl, t10.ku.M, by omega, fun H' R4 us4 s n h d => ⟨.inl ⟨rfl, _, SqL.of h⟩, R4, _, rfl, rfl, h, hN _ _ ⟨rfl, t10.same (same_put s n)⟩⟩⟩
      obtain ⟨rfl, t11⟩ := h
      obtain ⟨u, v, t12, e1, e2, e3, e4⟩ := back' t11
      clear t11 t10 back' q1 q2 q3 q4 leA leO uslA uslO
      have i0 : atI [V.ref o0, .ref o1] 0 = some (.ref u.o) := by rw [e2]; rfl
      have i1 : atI [V.ref o0, .ref o1] 1 = some (.ref v.o) := by rw [e4]; rfl
      have j0 : atI [V.ref p0, .ref p1] 0 = some (.ref u.p) := by rw [e1]; rfl
      have j1 : atI [V.ref p0, .ref p1] 1 = some (.ref v.p) := by rw [e3]; rfl
      have leu := Un.le t12.ku
      have lev := Un.le t12.kv
      have uu := t12.usl
      have uv := t12.vsl
      have lu2 : u.fs.length ≤ 60 := by rw [← al_len t12.ku.al]; omega
      have lv2 : v.fs.length ≤ 60 := by rw [← al_len t12.kv.al]; omega
      have nfu := al_nw t12.ku.al t12.ku.ne
      have nfv := al_nw t12.kv.al t12.kv.ne
      refine ⟨_, rfl, Ow, _, 0, _, rfl, rfl, SqL.of t12.hO, i0, u.o, _, rfl, t12.ku.W.gS, _, rfl, Ow, _, 0, _, rfl, rfl, SqL.of t12.hO, i0, u.o, _, rfl, t12.ku.W.gN, _, rfl, Ow, _, 0, _, rfl, rfl, SqL.of t12.hO, i0, u.o, u.ld, u.hr, u.sl, u.fs, rfl, t12.ku.W, lu2, fun H13 R5 us5 s13 n5 h5 d5 => ⟨(by show 3 ≤ sizeLine; decide), fun a na => ?_⟩⟩
      have d5 := dpAll_same off_sub d5
      have t13 := t12.same s13
      have s14 := same_upd (o := .lst [V.int (u.sl : Nat), .int u.hr, .ref R5]) na
      have t14 := t13.same s14
      have d14 : Dp K (upd H13 a (.lst [V.int (u.sl : Nat), .int u.hr, .ref R5])) (.ref a) (lkD u.hr (u.sl : Nat) u.fs) := .lst (SqL.of upd_same) (.cons (.int _) (.cons (.int _) (.cons (.lst (SqL.of (s14 _ _ h5)) (dpAll_same s14 d5)) .nil)))
      generalize upd H13 a (.lst [V.int (u.sl : Nat), .int u.hr, .ref R5]) = H14 at t14 d14 ⊢
      simp only [gName, List.set]
      refine ⟨_, rfl, Bo, _, 0, _, rfl, rfl, SqL.of t14.hB, j0, _, rfl, Bo, _, 1, _, rfl, rfl, SqL.of t14.hB, j1, _, rfl, _, rfl, Ow, _, 1, _, rfl, rfl, SqL.of t14.hO, i1, v.o, _, rfl, t14.kv.W.gS, _, rfl, Ow, _, 1, _, rfl, rfl, SqL.of t14.hO, i1, v.o, _, rfl, t14.kv.W.gN, _, rfl, Ow, _, 1, _, rfl, rfl, SqL.of t14.hO, i1, v.o, v.ld, v.hr, v.sl, v.fs, rfl, t14.kv.W, lv2, fun H15 R6 us6 s15 n6 h6 d6 => ⟨(by show 3 ≤ sizeLine; decide), fun a2 na2 => ?_⟩⟩
      have d6 := dpAll_same off_sub d6
      have s16 := same_upd (o := .lst [V.int (v.sl : Nat), .int v.hr, .ref R6]) na2
      have t16 := (t14.same s15).same s16
      have d16 : Dp K (upd H15 a2 (.lst [V.int (v.sl : Nat), .int v.hr, .ref R6])) (.ref a2) (lkD v.hr (v.sl : Nat) v.fs) := .lst (SqL.of upd_same) (.cons (.int _) (.cons (.int _) (.cons (.lst (SqL.of (s16 _ _ h6)) (dpAll_same s16 d6)) .nil)))
      have d14 := dp_same s16 (dp_same s15 d14)
      generalize upd H15 a2 (.lst [V.int (v.sl : Nat), .int v.hr, .ref R6]) = H16 at t16 d14 d16 ⊢
      refine ⟨_, _, d14, d16, lk_shaped nfu, lk_shaped nfv, u.p, u.hd, v.p, v.hd, u.hr, u.sl, v.hr, v.sl, u.es, v.es, ?_, t16.ku.M, t16.kv.M, by omega, by omega, t16.ku.ne, t16.kv.ne, fun H' s' => ⟨true, rfl, iteF ?_⟩⟩
      · rw [lk_eqv t12.ku.W.nd t12.kv.W.nd, ← eqT_al t12.ku.M.nd t12.kv.M.nd t12.ku.al t12.kv.al] <;> rfl
      · exact ⟨u, v, hs2, ds2, _, _, _, _, _, _, _, _, rfl, t16.same s', lh2, e1, e2, e3, e4⟩
    · clear T0 T1
      rintro σ Hx ⟨u, v, hs, ds, v9, va, vb, vc, vd, ve, vf, vg, rfl, t, lh, e1, e2, e3, e4⟩
      have i0 : atI [V.ref o0, .ref o1] 0 = some (.ref u.o) := by rw [e2]; rfl
      have j0 : atI [V.ref p0, .ref p1] 0 = some (.ref u.p) := by rw [e1]; rfl
      have j1 : atI [V.ref p0, .ref p1] 1 = some (.ref v.p) := by rw [e3]; rfl
      have i1 : atI [V.ref o0, .ref o1] 1 = some (.ref v.o) := by rw [e4]; rfl
      have leu := Un.le t.ku
      have lev := Un.le t.kv
      have uu := t.usl
      have uv := t.vsl
      dsimp only
      refine seq_mid (fun σ H2 => ∃ v17, σ = [some (.ref b), some (.int (sl : Nat)), some (.int ho), some (.ref L), some (.int (mo : Nat)), some (.int (la : Nat)), some (.ref Hd), some (.ref Bo), some (.ref Ow), v9, va, vb, vc, vd, ve, vf, vg, v17, none] ∧ Same Hx H2) (fun N hN => ?_) (fun σ H2 h => ?_)
      · obtain ⟨dx, hp⟩ := t.ku.M.ob
        have li : (tnF u.hd u.hr (u.sl : Nat)).lookup ("inside" : Str) = none := tf_no (by decide +kernel) (by decide +kernel) (by decide +kernel)
        refine ⟨(by show 0 ≤ sizeLine; decide), fun t0 nt0 => ?_⟩
        have s1 := same_upd (o := .tup []) nt0
        have ht0 : upd Hx t0 (.tup []) t0 = some (.tup []) := upd_same
        generalize upd Hx t0 (.tup []) = H1 at s1 ht0 ⊢
        have t1 := t.same s1
        refine ⟨_, rfl, Bo, _, 0, _, rfl, rfl, SqL.of t1.hB, j0, u.p, dx, _, rfl, s1 _ _ hp, li, u.p, u.hd, u.hr, u.sl, u.es, rfl, t1.ku.M, by omega, fun H3 R us s3 nR hR _ => ?_⟩
        have t3 := t1.same s3
        refine ⟨_, rfl, Ow, _, 0, _, rfl, rfl, SqL.of t3.hO, i0, u.o, _, rfl, t3.ku.W.gS, _, rfl, Ow, _, 0, _, rfl, rfl, SqL.of t3.hO, i0, u.o, _, rfl, t3.ku.W.gN, (by show 2 ≤ sizeLine; decide), fun t2 nt2 => ?_⟩
        have s4 := same_upd (o := .tup [V.int (u.sl : Nat), .int u.hr]) nt2
        have ht2 : upd H3 t2 (.tup [V.int (u.sl : Nat), .int u.hr]) t2 = some (.tup [V.int (u.sl : Nat), .int u.hr]) := upd_same
        generalize upd H3 t2 (.tup [V.int (u.sl : Nat), .int u.hr]) = H4 at s4 ht2 ⊢
        obtain ⟨xs, exs⟩ : ∃ xs, xs = [V.non, .int 0, .str "tunnel", .ref t0, .ref R, .ref t2] := ⟨_, rfl⟩
        have oth : ∀ x ∈ xs, OthV H4 x := fun x hx => by
          rw [exs] at hx
          simp only [List.mem_cons, List.not_mem_nil, or_false] at hx
          rcases hx with rfl | rfl | rfl | rfl | rfl | rfl
          · exact .inl rfl
          · exact .inr (.inl ⟨_, rfl⟩)
          · exact .inr (.inr (.inl ⟨_, rfl⟩))
          · exact .inr (.inr (.inr (.inr ⟨_, _, rfl, s4 _ _ (s3 _ _ ht0)⟩)))
          · exact .inr (.inr (.inr (.inl ⟨_, _, rfl, s4 _ _ hR⟩)))
          · exact .inr (.inr (.inr (.inr ⟨_, _, rfl, ht2⟩)))
        refine ⟨(by show 6 ≤ sizeLine; decide), fun t5 nt5 => ?_⟩
        rw [show [V.non, .int 0, .str "tunnel", .ref t0, .ref R, .ref t2] = xs from exs.symm]
        have s5 := same_upd (o := .tup xs) nt5
        have ht5 : upd H4 t5 (.tup xs) t5 = some (.tup xs) := upd_same
        generalize upd H4 t5 (.tup xs) = H5 at s5 ht5 ⊢
        have oth : ∀ x ∈ xs, OthV H5 x := fun x hx => (oth x hx).same s5
        have sA : Same Hx H5 := ((s1.trans s3).trans s4).trans s5
        have t5' := t.same sA
        refine ⟨t5, rfl, ⟨_, .inl (.inl ht5)⟩, ?_⟩
        refine for_it (walk_tup (xs := xs)) (fun j σ H2 => ∃ v17, σ = [some (.ref b), some (.int (sl : Nat)), some (.int ho), some (.ref L), some (.int (mo : Nat)), some (.int (la : Nat)), some (.ref Hd), some (.ref Bo), some (.ref Ow), v9, va, vb, vc, vd, ve, vf, vg, v17, none] ∧ Same H5 H2) ⟨_, rfl, Same.refl _⟩ (fun j σ H2 _ h => by
          obtain ⟨_, _, s⟩ := h
          exact (.inl (.inl (s _ _ ht5)) : SqT K H2 t5 _)) ?_ ?_
        rotate_left
        · rintro σ H2 ⟨v17, rfl, s⟩
          exact hN _ _ ⟨v17, rfl, sA.trans s⟩
        rintro j y σ _ H6 hj ⟨v17, rfl, s6⟩ ⟨rfl, gy⟩
        obtain ⟨T, kd, ty, nf, kt⟩ := ((oth y (List.mem_of_getElem? gy)).same s6).kd KN
        have t6 := t5'.same s6
        simp only [gName, List.set]
        refine ⟨_, rfl, Bo, _, 0, _, rfl, rfl, SqL.of t6.hB, j0, _, rfl, u.p, dx, _, T, rfl, s6 _ _ (sA _ _ hp), kd, nf, u.p, u.hd, u.hr, u.sl, u.es, y, rfl, t6.ku.M, by omega, t6.ku.ne, .inr ⟨.type T, ty, kt, false, rfl, ?_⟩⟩
        refine ⟨false, false, rfl, rfl, _, rfl, iteF ?_⟩
        refine ⟨_, rfl, Bo, _, 0, _, rfl, rfl, SqL.of t6.hB, j0, _, rfl, u.p, dx, _, T, rfl, s6 _ _ (sA _ _ hp), kd, nf, u.p, u.hd, u.hr, u.sl, u.es, y, rfl, t6.ku.M, by omega, t6.ku.ne, .inr ⟨.type T, ty, kt, false, rfl, _, rfl, true, true, rfl, rfl, _, rfl, iteF ⟨_, rfl, s6⟩⟩⟩
      obtain ⟨v17, rfl, s2⟩ := h
      have t2 := t.same s2
      clear t
      have ld : hs.length = ds.length := by have := dpAll_len t2.dp; rwa [List.length_map] at this
      refine ⟨_, rfl, Hd, rfl, ⟨_, SqL.of t2.hh⟩, fun D nD => ?_⟩
      refine lc_it (walk_list (xs := hs)) (fun j Hz => Same H2 Hz ∧ Hz D = some (.lst ((List.replicate j true).map V.bl))) ⟨same_upd nD, upd_same⟩ (fun j Hz _ h => SqL.of (h.1 _ _ t2.hh)) ?_ ?_
      · rintro j y _ Hz hj ⟨sz, hD⟩ ⟨rfl, gy⟩
        obtain ⟨d0, g0, dp⟩ := dpAll_map_at t2.dp gy
        obtain ⟨sh, eq⟩ := t2.ok d0 (List.mem_of_getElem? g0)
        have dp := dp_same sz (dp_same off_sub dp)
        cases dp with
        | tup hq dd =>
          cases dd with
          | cons d1 dd =>
            cases dd with
            | cons d2 dd =>
              cases dd
              refine ⟨_, _, rfl, hq, rfl, _, _, rfl, _, _, rfl, rfl, rfl, tYes_at ?_⟩
              rw [if_pos rfl]
              refine ⟨_, rfl, _, rfl, _, _, d1, d2, sh, sh, ?_⟩
              rw [eq]
              refine ⟨_, hD, by rw [List.length_map, List.length_replicate, sizeLine_eq]; omega, same_put sz nD, ?_⟩
              rw [List.replicate_succ', List.map_append]
              exact upd_same
      rintro H3 ⟨s3, hD⟩
      refine ⟨D, _, rfl, SqL.of hD, ?_⟩
      have e : ∀ n : Nat, (List.replicate n true).all id = true := fun n => List.all_eq_true.mpr fun x hx => by rw [(List.mem_replicate.mp hx).2]; rfl
      rw [e]
      have t3 := t2.same s3
      refine ⟨_, rfl, iteF ?_⟩
      refine ⟨_, rfl, _, rfl, Bo, _, 0, _, rfl, rfl, SqL.of t3.hB, j0, _, rfl, Ow, _, 0, _, rfl, rfl, SqL.of t3.hO, i0, b, u.p, u.hd, u.o, u.ld, _, u.hr, u.sl, u.es, u.fs, rfl, t3.ku, by omega, t3.B, ?_, fun H4 s4 => ?_⟩
      · have : (10 + rt).toNat < 42 := by omega
        omega
      obtain ⟨kv4, hL4, hB4, hO4, fr4⟩ := t3.last s4
      refine ⟨true, rfl, iteT ?_⟩
      refine ⟨_, rfl, Bo, _, 1, _, rfl, rfl, SqL.of hB4, j1, _, rfl, Ow, _, 1, _, rfl, rfl, SqL.of hO4, i1, _, rfl, v.p, v.hd, v.o, v.ld, L, v.hr, v.sl, v.es, v.fs, ys, rfl, kv4.M, kv4.W, kv4.al, by omega, hL4, by omega, ny, kv4.ne, fun H5 s5 => ?_⟩
      exact q _ (fr4.trans (sm_of s5))

end
end Pot

namespace Pot
open PySem PySem.Spec PyProof.Rows L2
section
variable {P : Program} {w : World} {K : PySem.W.Frag} {mg : Str → Option Value} {base : Heap}
theorem same_box {H2 H3 H4 : Hp} {b : Addr} (nb : H2 b = none) (s : Same H2 H3) (s2 : Sm [b] H3 H4) : Same H2 H4 := fun a o h => by
  have ne : a ∉ [b] := fun z => by rw [List.mem_singleton.mp z, nb] at h; cases h
  have := s2 a o (by rw [off_out ne]; exact s a o h)
  rw [off_out ne] at this; exact this
abbrev s_law : Stmt := topS 26
def n_law : List Str := ["_law_script", "_law_k"]
theorem sc_law : FnScope n_law ["_law_script"] (defScope s_law) := ⟨rfl, rfl, rfl, by decide +kernel, rfl, by decide +kernel, by decide +kernel⟩
def spLaw (K : PySem.W.Frag) : Sp := fun vs H Q _ => ∃ (a : Addr) (ns : List Int), vs = [.ref a] ∧ SqL K H a (ns.map V.int) ∧ ns.length ≤ 63 ∧ ∀ H', Q (.bl true) H'
theorem ok_law {f : Addr} {fd : FuncData} {k : Nat} (F : Fun K "law" "law" s_law f fd) (T : Txt mg) (c__law_begin : Cl P w K mg base 1 "_law_begin" (spBegin K)) (c__law_right : Cl P w K mg base 7 "_law_right" (spRt K)) : FnOk P w K mg base CX0 (k + 8) f fd ["_law_script"] (spLaw K) := by
  refine F.ok sc_law (fun vs H Q E h => ?_) (fun cdv A outer s H vs Q E hr h => ?_)
  · obtain ⟨a, ns, rfl, _⟩ := h
    rfl
  · obtain ⟨a, ns, rfl, hS, h63, q⟩ := h
    have nd := sc_law.nd
    /- 0 _law_script, 1 _law_k -/
    refine ⟨_, (pss_one (ps_ret (pe_callB (kc_all (K := K)) (by rfl) T.all (by decide +kernel) (pa_cons (pe_lc (own := [("_law_k", 1)]) rfl nd (pi_range1 (by rfl) T.range (pa_cons (pe_op op_add pe_int (pe_callB (call_min2 rfl) (by rfl) T.min (by decide +kernel) (pa_cons pe_int (pa_cons (pe_callB (kc_len (K := K)) (by rfl) T.len PySem.boot_len (pa_cons (pv 0) pa_nil)) pa_nil)))) pa_nil)) (blkOk_by (N := n_law) (sc := defScope s_law) (by decide +kernel)) (fun _ _ _ _ _ => (pg_name (i := 1) nd rfl (.inl rfl))) (fun _ _ _ _ _ => pts_nil) (fun _ _ _ _ _ => (pe_cl c__law_right hr (by omega) (by rfl) (pa_cons (pe_cl c__law_begin hr (by omega) (by rfl) (pa_cons (pv 0) (pa_cons (pv 1) pa_nil))) pa_nil)))) pa_nil)))), ?_⟩
    refine ⟨_, rfl, _, _, rfl, .inl ⟨_, hS, rfl⟩, _, _, rfl, _, _, rfl, rfl, ?_⟩
    obtain ⟨z, ez, z0, z4⟩ : ∃ z : Int, z = (1 : Int) + (if (((ns.map V.int).length : Nat) : Int) < 4 then (((ns.map V.int).length : Nat) : Int) else 4) ∧ 0 ≤ z ∧ z ≤ 5 := ⟨_, rfl, by split <;> omega, by split <;> omega⟩
    refine ⟨z, (by rw [ez]), (by omega), (by omega), fun D nD => ?_⟩
    refine lc_it walk_range (fun i H2 => Same H H2 ∧ H2 D = some (.lst ((List.replicate i true).map V.bl))) ⟨same_upd nD, upd_same⟩ (fun _ _ _ _ => trivial) ?_ ?_
    · rintro i y H2 H3 hi ⟨s2, hD⟩ ⟨rfl, rfl⟩
      have hi4 : i < 5 := by omega
      refine ⟨rfl, tYes_at ?_⟩
      rw [if_pos rfl]
      refine ⟨_, rfl, _, rfl, a, ns, i, (by show [V.ref a, V.int ((0 : Int) + (i : Nat))] = _; rw [Int.zero_add]), s2.seq hS, by omega, fun H4 b s4 B nb => ?_⟩
      refine ⟨b, rfl, B, fun H5 s5 => ?_⟩
      have s6 := same_box nb s4 s5
      refine ⟨_, s6 _ _ hD, ?_, same_put (s2.trans s6) nD, ?_⟩
      · rw [List.length_map, List.length_replicate, sizeLine_eq]; omega
      · rw [upd_same, List.replicate_succ', List.map_append]; rfl
    · rintro H2 ⟨s2, hD⟩
      refine ⟨D, _, rfl, SqL.of hD, ?_⟩
      have e : ∀ n : Nat, (List.replicate n true).all id = true := fun n => List.all_eq_true.mpr fun x hx => by rw [(List.mem_replicate.mp hx).2]; rfl
      rw [e]
      exact q _

end
end Pot

namespace Pot
open PySem PySem.Spec PyProof.Rows L2
theorem nf_of {K : PySem.W.Frag} {C : Addr} {t : Value} (h : PySem.W.subIn K t (.ref C) = some false) : PySem.W.notFirst K C t = true := by
  unfold PySem.W.notFirst
  rw [h]
  simp
theorem oex_of {K : PySem.W.Frag} {C : Addr} {bmB : List Value} {newId : String} (q : PySem.W.excInitIn K C bmB newId = true) (hd : PySem.W.hasDictIn K C = true) :
    ∃ nm q N bs bm sn sub ab col dd k0 k1 k2 k3 k5, K.lookup C = some (excClassObj nm q C N bs bm true sn sub ab col dd k0 k1 k2 k3 k5 newId) ∧ PySem.W.excTail bmB bm = true := by
  obtain ⟨cd, hc, hdd⟩ := PySem.W.any_some hd
  unfold PySem.W.excInitIn at q
  unfold PySem.W.clsIn at hc
  cases look : K.lookup C with
  | none => rw [look] at q; cases q
  | some o =>
    rw [look] at q hc
    obtain ⟨cl, dd, da, sl⟩ := o
    cases da with
    | cls cd2 =>
      cases hc
      split at q
      · rename_i here
        cases here
        split at q
        · rename_i C' bm k0 k1 k2 k3 n k5 hm hs
          simp only [Bool.and_eq_true, beq_iff_eq, Bool.not_eq_true'] at q
          obtain ⟨⟨⟨rfl, rfl⟩, del⟩, tail⟩ := q
          obtain ⟨nm, bs, mro, ns, qn, hd3, sn, sub, ab, col, dl⟩ := cd
          dsimp only at hm del hdd
          subst hm del hdd
          obtain ⟨sl⟩ := sl
          dsimp only at hs
          subst hs
          exact ⟨nm, qn, ns, bs, bm, sn, sub, ab, col, _, k0, k1, k2, k3, k5, rfl, tail⟩
        · cases q
      · cases q
    | _ => cases hc
theorem kit_subc {K : PySem.W.Frag} {t : Value} {C : Addr} {b : Bool} (ne : (t == Value.ref C) = false) (hd : PySem.W.hasDictIn K C = true) (ht : PySem.W.typeIn K (.ref C) = some (.type "type")) (hs : PySem.W.subIn K t (.ref C) = some b) : PySem.W.kitOne K t (.ref C) = some b := by
  obtain ⟨cd, hc, _⟩ := PySem.W.any_some hd
  have e2 : ((PySem.W.clsIn K C).isSome && PySem.W.typeIn K (.ref C) == some (.type "type")) = true := by rw [hc, ht] <;> rfl
  show (if (t == Value.ref C) = true then some true else (if ((PySem.W.clsIn K C).isSome && PySem.W.typeIn K (.ref C) == some (.type "type")) = true then PySem.W.subIn K t (.ref C) else none)) = some b
  rw [if_neg (by rw [ne]; exact Bool.false_ne_true), if_pos e2]
  exact hs
theorem kit_tyb {K : PySem.W.Frag} {C : Addr} {n : String} {b : Bool} (hm : PySem.W.kitMeta n = true) (hs : PySem.W.subIn K (.ref C) (.type n) = some b) : PySem.W.kitOne K (.ref C) (.type n) = some b := by
  show (if (Value.ref C == Value.type n) = true then some true else (if PySem.W.kitMeta n = true then PySem.W.subIn K (.ref C) (.type n) else none)) = some b
  rw [if_neg (by show ¬ (false = true); exact Bool.false_ne_true), if_pos hm]
  exact hs
theorem kit_four {K : PySem.W.Frag} {t a b c d : Value} (h1 : PySem.W.kitOne K t a = some false) (h2 : PySem.W.kitOne K t b = some false) (h3 : PySem.W.kitOne K t c = some false) (h4 : PySem.W.kitOne K t d = some false) : PySem.W.kitAny K t [a, b, c, d] = some false := by
  unfold PySem.W.kitAny; rw [h1]
  unfold PySem.W.kitAny; rw [h2]
  unfold PySem.W.kitAny; rw [h3]
  unfold PySem.W.kitAny; rw [h4]
  rfl
theorem along_le (K : PySem.W.Frag) : PySem.W.alongIn K "__init__" leTail = some (some (.builtin "LookupError.__init__")) := by kernel_rfl
theorem super_le {K : PySem.W.Frag} {C : Addr} {cd : ClassData} (h : PySem.W.clsIn K C = some cd) (m : cd.mro = .ref C :: leTail) : PySem.W.ks_superIn K C C "__init__" = some (some (.builtin "LookupError.__init__")) := by
  unfold PySem.W.ks_superIn
  rw [h]
  show PySem.W.alongIn K "__init__" ((cd.mro.dropWhile (· != .ref C)).drop 1) = _
  rw [m]
  have e : ((Value.ref C :: leTail).dropWhile (· != .ref C)).drop 1 = leTail := by simp [List.dropWhile_cons]
  rw [e]
  exact along_le K
theorem kit_self {K : PySem.W.Frag} {C : Addr} : PySem.W.kitOne K (.ref C) (.ref C) = some true := by
  show (if (Value.ref C == Value.ref C) = true then some true else _) = some true
  rw [if_pos (by simp)]
theorem super_he {K : PySem.W.Frag} {C cH : Addr} {cd cdH : ClassData} {v : Value} (h : PySem.W.clsIn K C = some cd) (m : cd.mro = .ref C :: .ref cH :: veTail) (hH : PySem.W.clsIn K cH = some cdH) (mH : cdH.mro = .ref cH :: veTail) (f : PySem.W.findIn K (.ref cH) "__init__" = some (some v)) : PySem.W.ks_superIn K C C "__init__" = some (some v) := by
  have e : PySem.W.alongIn K "__init__" (.ref cH :: veTail) = some (some v) := by
    rw [← mH, ← f]
    unfold PySem.W.clsIn at hH
    show _ = (match K.lookup cH with | some ⟨_, _, .cls cd, _⟩ => PySem.W.alongIn K "__init__" cd.mro | _ => none)
    cases look : K.lookup cH with
    | none => rw [look] at hH; cases hH
    | some o =>
      rw [look] at hH
      obtain ⟨cl, dd, da, sl⟩ := o
      cases da with
      | cls cd2 => cases hH; rfl
      | _ => cases hH
  unfold PySem.W.ks_superIn
  rw [h]
  show PySem.W.alongIn K "__init__" ((cd.mro.dropWhile (· != .ref C)).drop 1) = _
  rw [m]
  have e2 : ((Value.ref C :: Value.ref cH :: veTail).dropWhile (· != .ref C)).drop 1 = .ref cH :: veTail := by simp [List.dropWhile_cons]
  rw [e2]
  exact e
theorem kit_two {K : PySem.W.Frag} {t a b : Value} (h1 : PySem.W.kitOne K t a = some false) (h2 : PySem.W.kitOne K t b = some false) : PySem.W.kitAny K t [a, b] = some false := by
  unfold PySem.W.kitAny; rw [h1]
  unfold PySem.W.kitAny; rw [h2]
  rfl
theorem binds_fl {P : Program} {K : PySem.W.Frag} {f C : Addr} {fd : FuncData} (F : RSup.FunS P K "__init__" "Full.__init__" s_Full f C fd) : Binds K fd ["self", "slots"] [] := by
  obtain ⟨cda, cc, oc, od, kV, doc, pm, an, ct, osl, cl, cld, csl, ccl, cdd, ws, ccs, file, tf, rfl, _⟩ := F.ex
  exact .all fun us hl => match us, hl with | [_, _], _ => rfl
theorem binds_ns {P : Program} {K : PySem.W.Frag} {f C : Addr} {fd : FuncData} (F : RSup.FunS P K "__init__" "NoSuch.__init__" s_NoSuch f C fd) : Binds K fd ["self", "what", "name"] [] := by
  obtain ⟨cda, cc, oc, od, kV, doc, pm, an, ct, osl, cl, cld, csl, ccl, cdd, ws, ccs, file, tf, rfl, _⟩ := F.ex
  exact .all fun us hl => match us, hl with | [_, _, _], _ => rfl
set_option maxHeartbeats 4000000 in
theorem all_mk {l : PySem.W.OpenLaw} {w : World} {K : PySem.W.Frag} {h : Heap} {mg : Str → Option Value} {fa : Addr} (X : K.In h) (G : h.Ns mainGlobals mg) (hfa : mg "law" = some (.ref fa))
    {f1 : Addr} {od1 an1 : Option Addr} {sl1 : Array (Option Value)} {oc1 kV1 dc1 pm1 cd1 ct1 : Value}
    {f2 : Addr} {od2 an2 : Option Addr} {sl2 : Array (Option Value)} {oc2 kV2 dc2 pm2 cd2 ct2 : Value}
    {f3 : Addr} {od3 an3 : Option Addr} {sl3 : Array (Option Value)} {oc3 kV3 dc3 pm3 cd3 ct3 : Value}
    {f4 : Addr} {od4 an4 : Option Addr} {sl4 : Array (Option Value)} {oc4 kV4 dc4 pm4 cd4 ct4 : Value}
    {f5 : Addr} {od5 an5 : Option Addr} {sl5 : Array (Option Value)} {oc5 kV5 dc5 pm5 cd5 ct5 : Value}
    {f6 : Addr} {od6 an6 : Option Addr} {sl6 : Array (Option Value)} {oc6 kV6 dc6 pm6 cd6 ct6 : Value}
    {f7 : Addr} {od7 an7 : Option Addr} {sl7 : Array (Option Value)} {oc7 kV7 dc7 pm7 cd7 ct7 : Value}
    {f8 : Addr} {od8 an8 : Option Addr} {sl8 : Array (Option Value)} {oc8 kV8 dc8 pm8 cd8 ct8 : Value}
    {f9 : Addr} {od9 an9 : Option Addr} {sl9 : Array (Option Value)} {oc9 kV9 dc9 pm9 cd9 ct9 : Value}
    {f10 : Addr} {od10 an10 : Option Addr} {sl10 : Array (Option Value)} {oc10 kV10 dc10 pm10 cd10 ct10 : Value}
    {f11 : Addr} {od11 an11 : Option Addr} {sl11 : Array (Option Value)} {oc11 kV11 dc11 pm11 cd11 ct11 : Value}
    {f12 : Addr} {od12 an12 : Option Addr} {sl12 : Array (Option Value)} {oc12 kV12 dc12 pm12 cd12 ct12 : Value}
    {f13 : Addr} {od13 an13 : Option Addr} {sl13 : Array (Option Value)} {oc13 kV13 dc13 pm13 cd13 ct13 : Value}
    {f14 : Addr} {od14 an14 : Option Addr} {sl14 : Array (Option Value)} {oc14 kV14 dc14 pm14 cd14 ct14 : Value}
    {f15 : Addr} {od15 an15 : Option Addr} {sl15 : Array (Option Value)} {oc15 kV15 dc15 pm15 cd15 ct15 : Value}
    {f16 : Addr} {od16 an16 : Option Addr} {sl16 : Array (Option Value)} {oc16 kV16 dc16 pm16 cd16 ct16 : Value}
    {CTn : Addr}
    {fni : Addr} {odni anni : Option Addr} {slni : Array (Option Value)} {ocni kVni dcni pmni cdni ctni : Value} {Tni : Addr} {ocTni : Value} {odTni : Option Addr} {slTni : Array (Option Value)} {nTni : Nat} {tkni_0 : Tok}
    {fne : Addr} {odne anne : Option Addr} {slne : Array (Option Value)} {ocne kVne dcne pmne cdne ctne : Value} {Tne : Addr} {ocTne : Value} {odTne : Option Addr} {slTne : Array (Option Value)} {nTne : Nat} {tkne_0 : Tok}
    {fnt : Addr} {odnt annt : Option Addr} {slnt : Array (Option Value)} {ocnt kVnt dcnt pmnt cdnt ctnt : Value} {Tnt : Addr} {ocTnt : Value} {odTnt : Option Addr} {slTnt : Array (Option Value)} {nTnt : Nat} {tknt_0 : Tok}
    {fnw : Addr} {odnw annw : Option Addr} {slnw : Array (Option Value)} {ocnw kVnw dcnw pmnw cdnw ctnw : Value}
    {fnl : Addr} {odnl annl : Option Addr} {slnl : Array (Option Value)} {ocnl kVnl dcnl pmnl cdnl ctnl : Value}
    {fns : Addr} {odns anns : Option Addr} {slns : Array (Option Value)} {ocns kVns dcns pmns cdns ctns : Value}
    {fnf : Addr} {odnf annf : Option Addr} {slnf : Array (Option Value)} {ocnf kVnf dcnf pmnf cdnf ctnf : Value}
    {fnq : Addr} {odnq annq : Option Addr} {slnq : Array (Option Value)} {ocnq kVnq dcnq pmnq cdnq ctnq : Value}
    {cH cR cB cN : Addr} {cdH : ClassData}
    {CF fIF cdaF ccF : Addr} {ocIF kVIF dcIF pmIF ctIF clcF cclF : Value} {odIF anIF cdcF cddF : Option Addr} {slIF slcF ccsF : Array (Option Value)} {wsF : Array Value} {fileF : Str} {tfF : Tok} {cdNF : ClassData}
    {CS fIS cdaS ccS : Addr} {ocIS kVIS dcIS pmIS ctIS clcS cclS : Value} {odIS anIS cdcS cddS : Option Addr} {slIS slcS ccsS : Array (Option Value)} {wsS : Array Value} {fileS : Str} {tfS : Tok} {cdNS : ClassData}
    (a1 : PySem.W.nsIn K mainGlobals "least_free" = some (some (.ref f1))) (l1 : K.lookup f1 = some ⟨oc1, od1, .func (PySem.W.fnOf "least_free" "least_free" (defArgs s_least_free) (defBody s_least_free) (defScope s_least_free) .none kV1 dc1 pm1 an1 cd1 ct1), sl1⟩) (c1 : PySem.W.codeIn K cd1 "least_free" = true) (k1 : PySem.W.keepIn K (.ref f1) = true)
    (a2 : PySem.W.nsIn K mainGlobals "_law_begin" = some (some (.ref f2))) (l2 : K.lookup f2 = some ⟨oc2, od2, .func (PySem.W.fnOf "_law_begin" "_law_begin" (defArgs s__law_begin) (defBody s__law_begin) (defScope s__law_begin) .none kV2 dc2 pm2 an2 cd2 ct2), sl2⟩) (c2 : PySem.W.codeIn K cd2 "_law_begin" = true) (k2 : PySem.W.keepIn K (.ref f2) = true)
    (a3 : PySem.W.nsIn K mainGlobals "_law_take" = some (some (.ref f3))) (l3 : K.lookup f3 = some ⟨oc3, od3, .func (PySem.W.fnOf "_law_take" "_law_take" (defArgs s__law_take) (defBody s__law_take) (defScope s__law_take) .none kV3 dc3 pm3 an3 cd3 ct3), sl3⟩) (c3 : PySem.W.codeIn K cd3 "_law_take" = true) (k3 : PySem.W.keepIn K (.ref f3) = true)
    (a4 : PySem.W.nsIn K mainGlobals "_law_same" = some (some (.ref f4))) (l4 : K.lookup f4 = some ⟨oc4, od4, .func (PySem.W.fnOf "_law_same" "_law_same" (defArgs s__law_same) (defBody s__law_same) (defScope s__law_same) .none kV4 dc4 pm4 an4 cd4 ct4), sl4⟩) (c4 : PySem.W.codeIn K cd4 "_law_same" = true) (k4 : PySem.W.keepIn K (.ref f4) = true)
    (a5 : PySem.W.nsIn K mainGlobals "_law_names" = some (some (.ref f5))) (l5 : K.lookup f5 = some ⟨oc5, od5, .func (PySem.W.fnOf "_law_names" "_law_names" (defArgs s__law_names) (defBody s__law_names) (defScope s__law_names) .none kV5 dc5 pm5 an5 cd5 ct5), sl5⟩) (c5 : PySem.W.codeIn K cd5 "_law_names" = true) (k5 : PySem.W.keepIn K (.ref f5) = true)
    (a6 : PySem.W.nsIn K mainGlobals "_law_enter" = some (some (.ref f6))) (l6 : K.lookup f6 = some ⟨oc6, od6, .func (PySem.W.fnOf "_law_enter" "_law_enter" (defArgs s__law_enter) (defBody s__law_enter) (defScope s__law_enter) .none kV6 dc6 pm6 an6 cd6 ct6), sl6⟩) (c6 : PySem.W.codeIn K cd6 "_law_enter" = true) (k6 : PySem.W.keepIn K (.ref f6) = true)
    (a7 : PySem.W.nsIn K mainGlobals "_law_tick" = some (some (.ref f7))) (l7 : K.lookup f7 = some ⟨oc7, od7, .func (PySem.W.fnOf "_law_tick" "_law_tick" (defArgs s__law_tick) (defBody s__law_tick) (defScope s__law_tick) .none kV7 dc7 pm7 an7 cd7 ct7), sl7⟩) (c7 : PySem.W.codeIn K cd7 "_law_tick" = true) (k7 : PySem.W.keepIn K (.ref f7) = true)
    (a8 : PySem.W.nsIn K mainGlobals "_law_inside" = some (some (.ref f8))) (l8 : K.lookup f8 = some ⟨oc8, od8, .func (PySem.W.fnOf "_law_inside" "_law_inside" (defArgs s__law_inside) (defBody s__law_inside) (defScope s__law_inside) .none kV8 dc8 pm8 an8 cd8 ct8), sl8⟩) (c8 : PySem.W.codeIn K cd8 "_law_inside" = true) (k8 : PySem.W.keepIn K (.ref f8) = true)
    (a9 : PySem.W.nsIn K mainGlobals "_law_entered" = some (some (.ref f9))) (l9 : K.lookup f9 = some ⟨oc9, od9, .func (PySem.W.fnOf "_law_entered" "_law_entered" (defArgs s__law_entered) (defBody s__law_entered) (defScope s__law_entered) .none kV9 dc9 pm9 an9 cd9 ct9), sl9⟩) (c9 : PySem.W.codeIn K cd9 "_law_entered" = true) (k9 : PySem.W.keepIn K (.ref f9) = true)
    (a10 : PySem.W.nsIn K mainGlobals "_law_slots_of" = some (some (.ref f10))) (l10 : K.lookup f10 = some ⟨oc10, od10, .func (PySem.W.fnOf "_law_slots_of" "_law_slots_of" (defArgs s__law_slots_of) (defBody s__law_slots_of) (defScope s__law_slots_of) .none kV10 dc10 pm10 an10 cd10 ct10), sl10⟩) (c10 : PySem.W.codeIn K cd10 "_law_slots_of" = true) (k10 : PySem.W.keepIn K (.ref f10) = true)
    (a11 : PySem.W.nsIn K mainGlobals "_law_stands" = some (some (.ref f11))) (l11 : K.lookup f11 = some ⟨oc11, od11, .func (PySem.W.fnOf "_law_stands" "_law_stands" (defArgs s__law_stands) (defBody s__law_stands) (defScope s__law_stands) .none kV11 dc11 pm11 an11 cd11 ct11), sl11⟩) (c11 : PySem.W.codeIn K cd11 "_law_stands" = true) (k11 : PySem.W.keepIn K (.ref f11) = true)
    (a12 : PySem.W.nsIn K mainGlobals "_law_deed" = some (some (.ref f12))) (l12 : K.lookup f12 = some ⟨oc12, od12, .func (PySem.W.fnOf "_law_deed" "_law_deed" (defArgs s__law_deed) (defBody s__law_deed) (defScope s__law_deed) .none kV12 dc12 pm12 an12 cd12 ct12), sl12⟩) (c12 : PySem.W.codeIn K cd12 "_law_deed" = true) (k12 : PySem.W.keepIn K (.ref f12) = true)
    (a13 : PySem.W.nsIn K mainGlobals "_law_are_alike" = some (some (.ref f13))) (l13 : K.lookup f13 = some ⟨oc13, od13, .func (PySem.W.fnOf "_law_are_alike" "_law_are_alike" (defArgs s__law_are_alike) (defBody s__law_are_alike) (defScope s__law_are_alike) .none kV13 dc13 pm13 an13 cd13 ct13), sl13⟩) (c13 : PySem.W.codeIn K cd13 "_law_are_alike" = true) (k13 : PySem.W.keepIn K (.ref f13) = true)
    (a14 : PySem.W.nsIn K mainGlobals "_law_anew" = some (some (.ref f14))) (l14 : K.lookup f14 = some ⟨oc14, od14, .func (PySem.W.fnOf "_law_anew" "_law_anew" (defArgs s__law_anew) (defBody s__law_anew) (defScope s__law_anew) .none kV14 dc14 pm14 an14 cd14 ct14), sl14⟩) (c14 : PySem.W.codeIn K cd14 "_law_anew" = true) (k14 : PySem.W.keepIn K (.ref f14) = true)
    (a15 : PySem.W.nsIn K mainGlobals "_law_right" = some (some (.ref f15))) (l15 : K.lookup f15 = some ⟨oc15, od15, .func (PySem.W.fnOf "_law_right" "_law_right" (defArgs s__law_right) (defBody s__law_right) (defScope s__law_right) .none kV15 dc15 pm15 an15 cd15 ct15), sl15⟩) (c15 : PySem.W.codeIn K cd15 "_law_right" = true) (k15 : PySem.W.keepIn K (.ref f15) = true)
    (a16 : PySem.W.nsIn K mainGlobals "law" = some (some (.ref f16))) (l16 : K.lookup f16 = some ⟨oc16, od16, .func (PySem.W.fnOf "law" "law" (defArgs s_law) (defBody s_law) (defScope s_law) .none kV16 dc16 pm16 an16 cd16 ct16), sl16⟩) (c16 : PySem.W.codeIn K cd16 "law" = true) (k16 : PySem.W.keepIn K (.ref f16) = true)
    (z1 : PySem.W.nsIn K mainGlobals "len" = some none)
    (z2 : PySem.W.nsIn K mainGlobals "divmod" = some none)
    (z3 : PySem.W.nsIn K mainGlobals "range" = some none)
    (z4 : PySem.W.nsIn K mainGlobals "sum" = some none)
    (z5 : PySem.W.nsIn K mainGlobals "all" = some none)
    (z6 : PySem.W.nsIn K mainGlobals "any" = some none)
    (z7 : PySem.W.nsIn K mainGlobals "isinstance" = some none)
    (z8 : PySem.W.nsIn K mainGlobals "str" = some none)
    (z9 : PySem.W.nsIn K mainGlobals "int" = some none)
    (z10 : PySem.W.nsIn K mainGlobals "list" = some none)
    (z11 : PySem.W.nsIn K mainGlobals "tuple" = some none)
    (z12 : PySem.W.nsIn K mainGlobals "bool" = some none)
    (z13 : PySem.W.nsIn K mainGlobals "zip" = some none)
    (z14 : PySem.W.nsIn K mainGlobals "set" = some none)
    (z15 : PySem.W.nsIn K mainGlobals "sorted" = some none)
    (z16 : PySem.W.nsIn K mainGlobals "enumerate" = some none)
    (z17 : PySem.W.nsIn K mainGlobals "repr" = some none)
    (z18 : PySem.W.nsIn K mainGlobals "min" = some none)
    (z19 : PySem.W.nsIn K mainGlobals "max" = some none)
    (z20 : PySem.W.nsIn K mainGlobals "abs" = some none)
    (qaTn : PySem.W.nsIn K mainGlobals "Tunnel" = some (some (.ref CTn)))
    (ani : PySem.W.findIn K (.ref CTn) "__init__" = some (some (.ref fni)))
    (ini : PySem.W.isFn K (.ref fni) = true)
    (lni : K.lookup fni = some ⟨ocni, odni, .func (PySem.W.fnOf "__init__" "Tunnel.__init__" (defArgs s_ni) (defBody s_ni) (defScope s_ni) (.ref Tni) kVni dcni pmni anni cdni ctni), slni⟩)
    (cni : PySem.W.codeIn K cdni "Tunnel.__init__" = true)
    (kni : PySem.W.keepIn K (.ref fni) = true)
    (tni : K.lookup Tni = some ⟨ocTni, odTni, .seq #[.int 0 tkni_0] nTni, slTni⟩)
    (ane : PySem.W.findIn K (.ref CTn) "enter" = some (some (.ref fne)))
    (ine : PySem.W.isFn K (.ref fne) = true)
    (lne : K.lookup fne = some ⟨ocne, odne, .func (PySem.W.fnOf "enter" "Tunnel.enter" (defArgs s_ne) (defBody s_ne) (defScope s_ne) (.ref Tne) kVne dcne pmne anne cdne ctne), slne⟩)
    (cne : PySem.W.codeIn K cdne "Tunnel.enter" = true)
    (kne : PySem.W.keepIn K (.ref fne) = true)
    (tne : K.lookup Tne = some ⟨ocTne, odTne, .seq #[.int 8 tkne_0] nTne, slTne⟩)
    (ant : PySem.W.findIn K (.ref CTn) "tick" = some (some (.ref fnt)))
    (int : PySem.W.isFn K (.ref fnt) = true)
    (lnt : K.lookup fnt = some ⟨ocnt, odnt, .func (PySem.W.fnOf "tick" "Tunnel.tick" (defArgs s_nt) (defBody s_nt) (defScope s_nt) (.ref Tnt) kVnt dcnt pmnt annt cdnt ctnt), slnt⟩)
    (cnt : PySem.W.codeIn K cdnt "Tunnel.tick" = true)
    (knt : PySem.W.keepIn K (.ref fnt) = true)
    (tnt : K.lookup Tnt = some ⟨ocTnt, odTnt, .seq #[.int 1 tknt_0] nTnt, slTnt⟩)
    (anw : PySem.W.findIn K (.ref CTn) "now" = some (some (.ref fnw)))
    (inw : PySem.W.isFn K (.ref fnw) = true)
    (lnw : K.lookup fnw = some ⟨ocnw, odnw, .func (PySem.W.fnOf "now" "Tunnel.now" (defArgs s_nw) (defBody s_nw) (defScope s_nw) .none kVnw dcnw pmnw annw cdnw ctnw), slnw⟩)
    (cnw : PySem.W.codeIn K cdnw "Tunnel.now" = true)
    (knw : PySem.W.keepIn K (.ref fnw) = true)
    (anl : PySem.W.findIn K (.ref CTn) "__len__" = some (some (.ref fnl)))
    (inl : PySem.W.isFn K (.ref fnl) = true)
    (lnl : K.lookup fnl = some ⟨ocnl, odnl, .func (PySem.W.fnOf "__len__" "Tunnel.__len__" (defArgs s_nl) (defBody s_nl) (defScope s_nl) .none kVnl dcnl pmnl annl cdnl ctnl), slnl⟩)
    (cnl : PySem.W.codeIn K cdnl "Tunnel.__len__" = true)
    (knl : PySem.W.keepIn K (.ref fnl) = true)
    (ans : PySem.W.findIn K (.ref CTn) "inside" = some (some (.ref fns)))
    (ins : PySem.W.isFn K (.ref fns) = true)
    (lns : K.lookup fns = some ⟨ocns, odns, .func (PySem.W.fnOf "inside" "Tunnel.inside" (defArgs s_ns) (defBody s_ns) (defScope s_ns) .none kVns dcns pmns anns cdns ctns), slns⟩)
    (cns : PySem.W.codeIn K cdns "Tunnel.inside" = true)
    (kns : PySem.W.keepIn K (.ref fns) = true)
    (anf : PySem.W.findIn K (.ref CTn) "slot_of" = some (some (.ref fnf)))
    (inf : PySem.W.isFn K (.ref fnf) = true)
    (lnf : K.lookup fnf = some ⟨ocnf, odnf, .func (PySem.W.fnOf "slot_of" "Tunnel.slot_of" (defArgs s_nf) (defBody s_nf) (defScope s_nf) .none kVnf dcnf pmnf annf cdnf ctnf), slnf⟩)
    (cnf : PySem.W.codeIn K cdnf "Tunnel.slot_of" = true)
    (knf : PySem.W.keepIn K (.ref fnf) = true)
    (anq : PySem.W.findIn K (.ref CTn) "__eq__" = some (some (.ref fnq)))
    (inq : PySem.W.isFn K (.ref fnq) = true)
    (lnq : K.lookup fnq = some ⟨ocnq, odnq, .func (PySem.W.fnOf "__eq__" "Tunnel.__eq__" (defArgs s_nq) (defBody s_nq) (defScope s_nq) .none kVnq dcnq pmnq annq cdnq ctnq), slnq⟩)
    (cnq : PySem.W.codeIn K cdnq "Tunnel.__eq__" = true)
    (knq : PySem.W.keepIn K (.ref fnq) = true)
    (pgTn : PySem.W.plainGet K CTn Str.empty = true)
    (hdTn : PySem.W.hasDictIn K CTn = true)
    (poTn : PySem.W.plainOver K CTn = true)
    (saTn : PySem.W.findIn K (.ref CTn) "__setattr__" = some (some (.builtin "object.__setattr__")))
    (mkTn : PySem.W.makesIn K CTn = true)
    (kcTn : PySem.W.keepIn K (.ref CTn) = true)
    (nTn0 : PySem.W.findIn K (.ref CTn) "slots" = some none)
    (nTn1 : PySem.W.findIn K (.ref CTn) "hour" = some none)
    (nTn2 : PySem.W.findIn K (.ref CTn) "held" = some none)
    (icTn : PySem.W.findIn K (.ref CTn) "__class__" = some (some (.builtin "object.__class__")))
    (isTn : PySem.W.specialIn K (.builtin "object.__class__") "__get__" = some (some (.builtin "getset_descriptor.__get__")))
    (ikTn : PySem.W.takesIn K (.builtin "object.__class__") = some true)
    (imTn : PySem.W.mroIn K CTn (.type "object") = some true)
    (inTn : PySem.W.findIn K (.ref CTn) "__ne__" = some (some (.builtin "object.__ne__")))
    (hcH : PySem.W.nsIn K mainGlobals "HallError" = some (some (.ref cH)))
    (s4 : PySem.W.nsIn K cStatics "thirdparty.any" = some none)
    (s5 : (l.prog.main.scope.names.lookup ("super" : Str)).isSome = false)
    (hS : PySem.W.nsIn K mainGlobals "super" = some none)
    (e6 : PySem.W.specialIn K (.builtin "object.__class__") "__get__" = some (some (.builtin "getset_descriptor.__get__")))
    (e7 : PySem.W.takesIn K (.builtin "object.__class__") = some true)
    (hCF : PySem.W.nsIn K mainGlobals "Full" = some (some (.ref CF)))
    (xIF : PySem.W.excInitIn K CF veTail "ValueError.__new__" = true)
    (x1F : PySem.W.findIn K (.ref CF) "__setattr__" = some (some (.builtin "object.__setattr__")))
    (bCF : PySem.W.subIn K (.ref CF) (.type "BaseException") = some true)
    (tCF : PySem.W.typeIn K (.ref CF) = some (.type "type"))
    (kCF : PySem.W.keepIn K (.ref CF) = true)
    (xcF : PySem.W.clsIn K CF = some cdNF)
    (xmF : cdNF.mro = .ref CF :: .ref cH :: veTail)
    (sBF : PySem.W.subIn K (.ref CF) (.type "ValueError") = some true)
    (s3F : PySem.W.mroIn K CF (.ref CF) = some true)
    (iNF : PySem.W.findIn K (.ref CF) "__init__" = some (some (.ref fIF)))
    (tIF : PySem.W.typeIn K (.ref fIF) = some (.type "function"))
    (f0F : PySem.W.findIn K (.ref CF) "slots" = some none)
    (lIF : K.lookup fIF = some ⟨ocIF, odIF, .func (PySem.W.ksFn "__init__" "Full.__init__" (defArgs s_Full) (defBody s_Full) (defScope s_Full) .none kVIF dcIF pmIF anIF (.ref cdaF) ctIF ccF), slIF⟩)
    (cIF : PySem.W.codeIn K (.ref cdaF) "Full.__init__" = true)
    (lcF : K.lookup ccF = some ⟨clcF, cdcF, .cell (some (.ref CF)), slcF⟩)
    (ldF : K.lookup cdaF = some ⟨cclF, cddF, .fields wsF, ccsF⟩)
    (w2F : wsF[2]? = some (.str fileF tfF))
    (flF : ((l.prog.main.file : Str) == fileF) = true)
    (e1F : PySem.W.findIn K (.ref CF) "__getattribute__" = some (some (.builtin "BaseException.__getattribute__")))
    (e2F : PySem.W.findIn K (.ref CF) "__getattr__" = some none)
    (e4F : PySem.W.hasDictIn K CF = true)
    (e5F : PySem.W.findIn K (.ref CF) "__class__" = some (some (.builtin "object.__class__")))
    (e8F : PySem.W.mroIn K CF (.type "object") = some true)
    (sCF : PySem.W.subIn K (.ref CF) (.ref CF) = some true)
    (hCS : PySem.W.nsIn K mainGlobals "NoSuch" = some (some (.ref CS)))
    (xIS : PySem.W.excInitIn K CS leTail "LookupError.__new__" = true)
    (x1S : PySem.W.findIn K (.ref CS) "__setattr__" = some (some (.builtin "object.__setattr__")))
    (bCS : PySem.W.subIn K (.ref CS) (.type "BaseException") = some true)
    (tCS : PySem.W.typeIn K (.ref CS) = some (.type "type"))
    (kCS : PySem.W.keepIn K (.ref CS) = true)
    (xcS : PySem.W.clsIn K CS = some cdNS)
    (xmS : cdNS.mro = .ref CS :: leTail)
    (sBS : PySem.W.subIn K (.ref CS) (.type "LookupError") = some true)
    (s3S : PySem.W.mroIn K CS (.ref CS) = some true)
    (iNS : PySem.W.findIn K (.ref CS) "__init__" = some (some (.ref fIS)))
    (tIS : PySem.W.typeIn K (.ref fIS) = some (.type "function"))
    (f0S : PySem.W.findIn K (.ref CS) "what" = some none)
    (f1S : PySem.W.findIn K (.ref CS) "name" = some none)
    (lIS : K.lookup fIS = some ⟨ocIS, odIS, .func (PySem.W.ksFn "__init__" "NoSuch.__init__" (defArgs s_NoSuch) (defBody s_NoSuch) (defScope s_NoSuch) .none kVIS dcIS pmIS anIS (.ref cdaS) ctIS ccS), slIS⟩)
    (cIS : PySem.W.codeIn K (.ref cdaS) "NoSuch.__init__" = true)
    (lcS : K.lookup ccS = some ⟨clcS, cdcS, .cell (some (.ref CS)), slcS⟩)
    (ldS : K.lookup cdaS = some ⟨cclS, cddS, .fields wsS, ccsS⟩)
    (w2S : wsS[2]? = some (.str fileS tfS))
    (flS : ((l.prog.main.file : Str) == fileS) = true)
    (e1S : PySem.W.findIn K (.ref CS) "__getattribute__" = some (some (.builtin "BaseException.__getattribute__")))
    (e2S : PySem.W.findIn K (.ref CS) "__getattr__" = some none)
    (e4S : PySem.W.hasDictIn K CS = true)
    (e5S : PySem.W.findIn K (.ref CS) "__class__" = some (some (.builtin "object.__class__")))
    (e8S : PySem.W.mroIn K CS (.type "object") = some true)
    (sCS : PySem.W.subIn K (.ref CS) (.ref CS) = some true)
    (hcR : PySem.W.nsIn K mainGlobals "BadRow" = some (some (.ref cR)))
    (hcB : PySem.W.nsIn K mainGlobals "BadTally" = some (some (.ref cB)))
    (hcN : PySem.W.nsIn K mainGlobals "Never" = some (some (.ref cN)))
    (hV : PySem.W.nsIn K mainGlobals "ValueError" = some none)
    (hL : PySem.W.nsIn K mainGlobals "LookupError" = some none)
    (xcH : PySem.W.clsIn K cH = some cdH)
    (xmH : cdH.mro = .ref cH :: veTail)
    (fiH : PySem.W.findIn K (.ref cH) "__init__" = some (some (.builtin "ValueError.__init__")))
    (sH : PySem.W.subIn K (.ref CF) (.ref cH) = some true)
    (bH : PySem.W.subIn K (.ref cH) (.type "BaseException") = some true)
    (dcH : PySem.W.hasDictIn K cH = true)
    (tcH : PySem.W.typeIn K (.ref cH) = some (.type "type"))
    (dcR : PySem.W.hasDictIn K cR = true)
    (tcR : PySem.W.typeIn K (.ref cR) = some (.type "type"))
    (dcB : PySem.W.hasDictIn K cB = true)
    (tcB : PySem.W.typeIn K (.ref cB) = some (.type "type"))
    (dcN : PySem.W.hasDictIn K cN = true)
    (tcN : PySem.W.typeIn K (.ref cN) = some (.type "type"))
    (ncR : (Value.ref CF == Value.ref cR) = false)
    (scR : PySem.W.subIn K (.ref CF) (.ref cR) = some false)
    (ncB : (Value.ref CF == Value.ref cB) = false)
    (scB : PySem.W.subIn K (.ref CF) (.ref cB) = some false)
    (ncN : (Value.ref CF == Value.ref cN) = false)
    (scN : PySem.W.subIn K (.ref CF) (.ref cN) = some false)
    (nCS : (Value.ref CF == Value.ref CS) = false)
    (sFS2 : PySem.W.subIn K (.ref CF) (.ref CS) = some false)
    (nSH : (Value.ref CS == Value.ref cH) = false)
    (sSH : PySem.W.subIn K (.ref CS) (.ref cH) = some false)
    (sSV : PySem.W.subIn K (.ref CS) (.type "ValueError") = some false)
    (tyTn : PySem.W.typeIn K (.ref CTn) = some (.type "type"))
    (skNoneType : PySem.W.subIn K (.type "NoneType") (.ref CTn) = some false)
    (skint : PySem.W.subIn K (.type "int") (.ref CTn) = some false)
    (skstr : PySem.W.subIn K (.type "str") (.ref CTn) = some false)
    (sklist : PySem.W.subIn K (.type "list") (.ref CTn) = some false)
    (sktuple : PySem.W.subIn K (.type "tuple") (.ref CTn) = some false)
    : ∃ fd : FuncData, (∀ (s : Shared) (v : Value), BindsTo s fd ⟨[v], []⟩ [("_law_script", v)]) ∧ ∀ base : Heap, K.In base → base.Ns mainGlobals mg → FnOk l.prog w K mg base CX0 8 fa fd ["_law_script"] (spLaw K) := by
  have e := hfa.symm.trans (PySem.W.mg_of X G a16)
  cases e
  have T : Txt mg := ⟨PySem.W.mg_none_of X G z1, PySem.W.mg_none_of X G z2, PySem.W.mg_none_of X G z3, PySem.W.mg_none_of X G z4, PySem.W.mg_none_of X G z5, PySem.W.mg_none_of X G z6, PySem.W.mg_none_of X G z7, PySem.W.mg_none_of X G z8, PySem.W.mg_none_of X G z9, PySem.W.mg_none_of X G z10, PySem.W.mg_none_of X G z11, PySem.W.mg_none_of X G z12, PySem.W.mg_none_of X G z13, PySem.W.mg_none_of X G z14, PySem.W.mg_none_of X G z15, PySem.W.mg_none_of X G z16, PySem.W.mg_none_of X G z17, PySem.W.mg_none_of X G z18, PySem.W.mg_none_of X G z19, PySem.W.mg_none_of X G z20⟩
  have F1 := fun_mk (st := s_least_free) l1 c1 k1
  have b1 := F1.binds (ps := ["taken"]) fun _ _ _ _ _ _ us hl => match us, hl with | [_], _ => rfl
  have g1 := PySem.W.mg_of X G a1
  have F2 := fun_mk (st := s__law_begin) l2 c2 k2
  have b2 := F2.binds (ps := ["_law_script", "_law_k"]) fun _ _ _ _ _ _ us hl => match us, hl with | [_, _], _ => rfl
  have g2 := PySem.W.mg_of X G a2
  have F3 := fun_mk (st := s__law_take) l3 c3 k3
  have b3 := F3.binds (ps := ["_law_state", "_law_many"]) fun _ _ _ _ _ _ us hl => match us, hl with | [_, _], _ => rfl
  have g3 := PySem.W.mg_of X G a3
  have F4 := fun_mk (st := s__law_same) l4 c4 k4
  have b4 := F4.binds (ps := ["_law_found", "_law_due"]) fun _ _ _ _ _ _ us hl => match us, hl with | [_, _], _ => rfl
  have g4 := PySem.W.mg_of X G a4
  have F5 := fun_mk (st := s__law_names) l5 c5 k5
  have b5 := F5.binds (ps := ["_law_state", "_law_many"]) fun _ _ _ _ _ _ us hl => match us, hl with | [_, _], _ => rfl
  have g5 := PySem.W.mg_of X G a5
  have F6 := fun_mk (st := s__law_enter) l6 c6 k6
  have b6 := F6.binds (ps := ["_law_own", "_law_name", "_law_cool"]) fun _ _ _ _ _ _ us hl => match us, hl with | [_, _, _], _ => rfl
  have g6 := PySem.W.mg_of X G a6
  have F7 := fun_mk (st := s__law_tick) l7 c7 k7
  have b7 := F7.binds (ps := ["_law_own", "_law_many"]) fun _ _ _ _ _ _ us hl => match us, hl with | [_, _], _ => rfl
  have g7 := PySem.W.mg_of X G a7
  have F8 := fun_mk (st := s__law_inside) l8 c8 k8
  have b8 := F8.binds (ps := ["_law_own"]) fun _ _ _ _ _ _ us hl => match us, hl with | [_], _ => rfl
  have g8 := PySem.W.mg_of X G a8
  have F9 := fun_mk (st := s__law_entered) l9 c9 k9
  have b9 := F9.binds (ps := ["_law_tunnel", "_law_name", "_law_cool"]) fun _ _ _ _ _ _ us hl => match us, hl with | [_, _, _], _ => rfl
  have g9 := PySem.W.mg_of X G a9
  have F10 := fun_mk (st := s__law_slots_of) l10 c10 k10
  have b10 := F10.binds (ps := ["_law_tunnel", "_law_name"]) fun _ _ _ _ _ _ us hl => match us, hl with | [_, _], _ => rfl
  have g10 := PySem.W.mg_of X G a10
  have F11 := fun_mk (st := s__law_stands) l11 c11 k11
  have b11 := F11.binds (ps := ["_law_tunnel", "_law_own", "_law_names_here"]) fun _ _ _ _ _ _ us hl => match us, hl with | [_, _, _], _ => rfl
  have g11 := PySem.W.mg_of X G a11
  have F12 := fun_mk (st := s__law_deed) l12 c12 k12
  have b12 := F12.binds (ps := ["_law_state", "_law_tunnel", "_law_own", "_law_name"]) fun _ _ _ _ _ _ us hl => match us, hl with | [_, _, _, _], _ => rfl
  have g12 := PySem.W.mg_of X G a12
  have F13 := fun_mk (st := s__law_are_alike) l13 c13 k13
  have b13 := F13.binds (ps := ["_law_one", "_law_other", "_law_alike"]) fun _ _ _ _ _ _ us hl => match us, hl with | [_, _, _], _ => rfl
  have g13 := PySem.W.mg_of X G a13
  have F14 := fun_mk (st := s__law_anew) l14 c14 k14
  have b14 := F14.binds (ps := ["_law_state", "_law_tunnel", "_law_own"]) fun _ _ _ _ _ _ us hl => match us, hl with | [_, _, _], _ => rfl
  have g14 := PySem.W.mg_of X G a14
  have F15 := fun_mk (st := s__law_right) l15 c15 k15
  have b15 := F15.binds (ps := ["_law_state"]) fun _ _ _ _ _ _ us hl => match us, hl with | [_], _ => rfl
  have g15 := PySem.W.mg_of X G a15
  have F16 := fun_mk (st := s_law) l16 c16 k16
  refine ⟨PySem.W.fnOf "law" "law" (defArgs s_law) (defBody s_law) (defScope s_law) .none kV16 dc16 pm16 an16 cd16 ct16, fun s v => .of_eq rfl, fun base _ _ => ?_⟩
  have Fni : FunVQ K "__init__" "Tunnel.__init__" s_ni [.int 0] fni _ := ⟨⟨_, _, _, _, _, _, _, _, _, _, rfl, lni, cni, .inr ⟨(by intro z; cases z), Tni, _, [_], _, rfl, tni, rfl, .cons (⟨_, rfl⟩) (.nil)⟩, .inl rfl⟩, kni⟩
  obtain ⟨dsni_0, vni_0, bni_0⟩ := FunD.binds1 (ps := ["self", "slots", "hour"]) Fni 3 1 (by intro z; cases z) rfl (fun T kV doc pm an cdv ct us its hu hi => match us, hu, its, hi with | [_, _, _], _, [_], _ => ⟨_, rfl, rfl⟩)
  obtain ⟨dsni_1, vni_1, bni_1⟩ := FunD.binds1 (ps := ["self", "slots", "hour"]) Fni 2 0 (by intro z; cases z) rfl (fun T kV doc pm an cdv ct us its hu hi => match us, hu, its, hi with | [_, _], _, [_], _ => ⟨_, rfl, rfl⟩)
  have Fne : FunVQ K "enter" "Tunnel.enter" s_ne [.int 8] fne _ := ⟨⟨_, _, _, _, _, _, _, _, _, _, rfl, lne, cne, .inr ⟨(by intro z; cases z), Tne, _, [_], _, rfl, tne, rfl, .cons (⟨_, rfl⟩) (.nil)⟩, .inl rfl⟩, kne⟩
  obtain ⟨dsne_0, vne_0, bne_0⟩ := FunD.binds1 (ps := ["self", "name", "cool"]) Fne 3 1 (by intro z; cases z) rfl (fun T kV doc pm an cdv ct us its hu hi => match us, hu, its, hi with | [_, _, _], _, [_], _ => ⟨_, rfl, rfl⟩)
  obtain ⟨dsne_1, vne_1, bne_1⟩ := FunD.binds1 (ps := ["self", "name", "cool"]) Fne 2 0 (by intro z; cases z) rfl (fun T kV doc pm an cdv ct us its hu hi => match us, hu, its, hi with | [_, _], _, [_], _ => ⟨_, rfl, rfl⟩)
  have Fnt : FunVQ K "tick" "Tunnel.tick" s_nt [.int 1] fnt _ := ⟨⟨_, _, _, _, _, _, _, _, _, _, rfl, lnt, cnt, .inr ⟨(by intro z; cases z), Tnt, _, [_], _, rfl, tnt, rfl, .cons (⟨_, rfl⟩) (.nil)⟩, .inl rfl⟩, knt⟩
  obtain ⟨dsnt_0, vnt_0, bnt_0⟩ := FunD.binds1 (ps := ["self", "many"]) Fnt 2 1 (by intro z; cases z) rfl (fun T kV doc pm an cdv ct us its hu hi => match us, hu, its, hi with | [_, _], _, [_], _ => ⟨_, rfl, rfl⟩)
  obtain ⟨dsnt_1, vnt_1, bnt_1⟩ := FunD.binds1 (ps := ["self", "many"]) Fnt 1 0 (by intro z; cases z) rfl (fun T kV doc pm an cdv ct us its hu hi => match us, hu, its, hi with | [_], _, [_], _ => ⟨_, rfl, rfl⟩)
  have Fnw := fun_mk (st := s_nw) lnw cnw knw
  have bnw := Fnw.binds (ps := ["self"]) fun _ _ _ _ _ _ us hl => match us, hl with | [_], _ => rfl
  have Fnl := fun_mk (st := s_nl) lnl cnl knl
  have bnl := Fnl.binds (ps := ["self"]) fun _ _ _ _ _ _ us hl => match us, hl with | [_], _ => rfl
  have Fns := fun_mk (st := s_ns) lns cns kns
  have bns := Fns.binds (ps := ["self"]) fun _ _ _ _ _ _ us hl => match us, hl with | [_], _ => rfl
  have Fnf := fun_mk (st := s_nf) lnf cnf knf
  have bnf := Fnf.binds (ps := ["self", "name"]) fun _ _ _ _ _ _ us hl => match us, hl with | [_, _], _ => rfl
  have Fnq := fun_mk (st := s_nq) lnq cnq knq
  have bnq := Fnq.binds (ps := ["self", "other"]) fun _ _ _ _ _ _ us hl => match us, hl with | [_, _], _ => rfl
  have clTn : Cls K CTn := ⟨pgTn, hdTn, poTn, saTn⟩
  have meTn : PySem.W.kitOne K (.ref CTn) (.ref CTn) = some true := by
    show (if (Value.ref CTn == Value.ref CTn) = true then some true else _) = some true
    rw [if_pos (by simp)]
  have insTn : C8.InsC K CTn := ⟨clTn, icTn, isTn, ikTn, imTn, meTn⟩
  have TK : TnK K mg CTn := ⟨clTn, nTn0, nTn1, nTn2, PySem.W.mg_of X G qaTn⟩
  have FSF : RSup.FunS l.prog K "__init__" "Full.__init__" s_Full fIF CF _ := ⟨⟨_, _, _, _, _, _, _, _, _, _, _, _, _, _, _, _, _, _, _, rfl, lIF, cIF, lcF, ldF, w2F, flF⟩⟩
  have FSS : RSup.FunS l.prog K "__init__" "NoSuch.__init__" s_NoSuch fIS CS _ := ⟨⟨_, _, _, _, _, _, _, _, _, _, _, _, _, _, _, _, _, _, _, rfl, lIS, cIS, lcS, ldS, w2S, flS⟩⟩
  have FLK : FlK l.prog K mg CF fIF := ⟨PySem.W.mg_of X G hCF, ⟨oex_of xIF e4F, x1F, bCF, tCF, kCF⟩, ⟨PySem.W.kxs_ValueError, super_he xcF xmF xcH xmH fiH, sBF, s3F, s4, PySem.W.mg_none_of X G hS, s5⟩, iNF, tIF, f0F⟩
  have NSK : NsK l.prog K mg CS fIS := ⟨PySem.W.mg_of X G hCS, ⟨oex_of xIS e4S, x1S, bCS, tCS, kCS⟩, ⟨PySem.W.kxs_LookupError, super_le xcS xmS, sBS, s3S, s4, PySem.W.mg_none_of X G hS, s5⟩, iNS, tIS, f0S, f1S⟩
  have c_Full : FlR l.prog w K mg base 1 CF := ⟨fIF, _, FLK, ok_fl (k := 0) FSF FLK, binds_fl FSF⟩
  have c_NoSuch : NsR l.prog w K mg base 1 CS := ⟨fIS, _, NSK, ok_ns (k := 0) FSS NSK, binds_ns FSS⟩
  have Z : OthF K mg CF cH cR cB cN CS := ⟨PySem.W.mg_of X G hCF, PySem.W.mg_of X G hcH, PySem.W.mg_of X G hcR, PySem.W.mg_of X G hcB, PySem.W.mg_of X G hcN, PySem.W.mg_of X G hCS, PySem.W.mg_none_of X G hV, PySem.W.exm_ref bH dcH tcH sH, ⟨e1F, e2F, bCF, e4F, e5F, e6, e7, e8F⟩, ⟨e1F, e2F, bCF, e4F⟩, f0F, kit_self, kit_four (kit_subc ncR dcR tcR scR) (kit_subc ncB dcB tcB scB) (kit_subc ncN dcN tcN scN) (kit_subc nCS e4S tCS sFS2), kit_tyb (by decide +kernel) sBF⟩
  have Y : OthS K mg CS cH := ⟨PySem.W.mg_of X G hCS, PySem.W.mg_of X G hcH, PySem.W.mg_none_of X G hV, PySem.W.mg_none_of X G hL, PySem.W.exm_ref bCS e4S tCS sCS, ⟨e1S, e2S, bCS, e4S, e5S, e6, e7, e8S⟩, ⟨e1S, e2S, bCS, e4S⟩, f0S, f1S, kit_tyb (by decide +kernel) sBS, kit_two (kit_subc nSH dcH tcH sSH) (kit_tyb (by decide +kernel) sSV)⟩
  have c_least_free : Cl l.prog w K mg base 1 "least_free" (spFree) := ⟨_, _, _, ok_free F1 T, g1, F1.kp, b1⟩
  have O : TunC l.prog w K mg base CTn CF CS := ⟨TK, ⟨_, _, _, _, ⟨mkTn, ani, ini, kcTn⟩, ok_ni (k := 0) Fni TK, PySem.W.mg_of X G qaTn, bni_0, vni_0⟩, ⟨_, _, _, _, ⟨mkTn, ani, ini, kcTn⟩, ok_ni (k := 0) Fni TK, PySem.W.mg_of X G qaTn, bni_1, vni_1⟩,
    ⟨_, _, _, _, clTn, ⟨ane, ine, kne⟩, ok_ne (k := 0) Fne TK c_Full c_least_free, bne_0, vne_0⟩, ⟨_, _, _, _, clTn, ⟨ane, ine, kne⟩, ok_ne (k := 0) Fne TK c_Full c_least_free, bne_1, vne_1⟩, ⟨_, _, _, _, clTn, ⟨anf, inf, knf⟩, ok_nf (k := 0) Fnf T TK c_NoSuch, bnf, .nil⟩,
    ⟨_, _, _, _, clTn, ⟨ant, int, knt⟩, ok_nt (k := 0) Fnt T TK, bnt_0, vnt_0⟩, ⟨_, _, _, _, clTn, ⟨ant, int, knt⟩, ok_nt (k := 0) Fnt T TK, bnt_1, vnt_1⟩, ⟨_, _, _, _, clTn, ⟨ans, ins, kns⟩, ok_nsd (k := 0) Fns T TK, bns, .nil⟩, ⟨_, _, _, _, clTn, ⟨anw, inw, knw⟩, ok_nn (k := 0) Fnw TK, bnw, .nil⟩, own_of ⟨anl, inl, knl⟩ (ok_nl (k := 0) Fnl T TK) bnl⟩
  have W : TunE l.prog w K mg base CTn := ⟨own_of ⟨anq, inq, knq⟩ (ok_nq (k := 0) Fnq T TK insTn) bnq, ⟨imTn, inTn⟩⟩
  have KN : KinE K CTn := ⟨fun T hT => by
    simp only [List.mem_cons, List.not_mem_nil, or_false] at hT
    rcases hT with rfl | rfl | rfl | rfl | rfl
    · exact ⟨nf_of skNoneType, kit_subc rfl hdTn tyTn skNoneType⟩
    · exact ⟨nf_of skint, kit_subc rfl hdTn tyTn skint⟩
    · exact ⟨nf_of skstr, kit_subc rfl hdTn tyTn skstr⟩
    · exact ⟨nf_of sklist, kit_subc rfl hdTn tyTn sklist⟩
    · exact ⟨nf_of sktuple, kit_subc rfl hdTn tyTn sktuple⟩⟩
  have c__law_begin : Cl l.prog w K mg base 1 "_law_begin" ((spBegin K)) := ⟨_, _, _, ok_begin F2 T, g2, F2.kp, b2⟩
  have c__law_take : Cl l.prog w K mg base 1 "_law_take" (spTake) := ⟨_, _, _, ok_take F3 T, g3, F3.kp, b3⟩
  have c__law_names : Cl l.prog w K mg base 2 "_law_names" (spNames) := ⟨_, _, _, ok_names F5 T c__law_take, g5, F5.kp, b5⟩
  have c__law_inside : Cl l.prog w K mg base 1 "_law_inside" ((spLI K)) := ⟨_, _, _, ok_linside F8 T, g8, F8.kp, b8⟩
  have c__law_enter : Cl l.prog w K mg base 1 "_law_enter" ((spLE K)) := ⟨_, _, _, ok_lenter F6 T, g6, F6.kp, b6⟩
  have c__law_tick : Cl l.prog w K mg base 1 "_law_tick" ((spLT K)) := ⟨_, _, _, ok_ltick F7 T, g7, F7.kp, b7⟩
  have c__law_entered : Cl l.prog w K mg base 4 "_law_entered" ((spEnt K CTn)) := ⟨_, _, _, ok_ent F9 T O Z, g9, F9.kp, b9⟩
  have c__law_same : Cl l.prog w K mg base 5 "_law_same" (spSame K 4) := ⟨_, _, _, ok_same F4 T b4 g4 4, g4, F4.kp, b4⟩
  have c__law_deed : Cl l.prog w K mg base 6 "_law_deed" ((spDeed K CTn)) := ⟨_, _, _, ok_deed F12 T O c__law_take c__law_enter c__law_tick c__law_entered c__law_same, g12, F12.kp, b12⟩
  have c__law_are_alike : Cl l.prog w K mg base 3 "_law_are_alike" ((spAA CTn)) := ⟨_, _, _, ok_aa F13 T W, g13, F13.kp, b13⟩
  have c__law_slots_of : Cl l.prog w K mg base 4 "_law_slots_of" ((spSof K CTn)) := ⟨_, _, _, ok_sof F10 T O Y, g10, F10.kp, b10⟩
  have c__law_stands : Cl l.prog w K mg base 6 "_law_stands" ((spSt K CTn)) := ⟨_, _, _, ok_st F11 T O c__law_same c__law_inside c__law_slots_of, g11, F11.kp, b11⟩
  have c__law_anew : Cl l.prog w K mg base 6 "_law_anew" ((spAnew K CTn)) := ⟨_, _, _, ok_anew F14 T O c__law_take c__law_inside c__law_tick c__law_are_alike c__law_same, g14, F14.kp, b14⟩
  have c__law_right : Cl l.prog w K mg base 7 "_law_right" ((spRt K)) := ⟨_, _, _, ok_rt F15 T O W KN c__law_take c__law_names c__law_inside c__law_deed c__law_are_alike c__law_slots_of c__law_stands c__law_anew, g15, F15.kp, b15⟩
  exact ok_law F16 T c__law_begin c__law_right
end Pot
open PySem PySem.W PyProof.Rows
set_option maxRecDepth 100000 in
set_option maxHeartbeats 0 in
theorem PySem.Challenge.cw_potround_k53_tunnels_again_and_shared_holds : PySem.Challenge.rw_potround_k53_tunnels_again_and_shared.Holds := by
  w_on; o_law; k_head; (case hw => w_witness2)
  k_fill
  refine L2.walk_of (l := PySem.Challenge.rw_potround_k53_tunnels_again_and_shared) (n := 63) (k := 8) (x := "_law_script") (CX := fun _ => L2.CX0) (sp := fun w => Pot.spLaw _) rfl (by decide) rfl ⟨rfl, by decide, by decide⟩ (fun w h Y => PySem.W.kIn_of Y) ?F (fun _ _ a ns hl _ hS => ⟨a, ns, rfl, hS, hl, fun _ => rfl⟩) (fun _ _ _ _ _ h => h)
  case F =>
    intro w mg fa h KX G hmg
    refine' Pot.all_mk KX G hmg ?a1 ?l1 ?c1 ?k1 ?a2 ?l2 ?c2 ?k2 ?a3 ?l3 ?c3 ?k3 ?a4 ?l4 ?c4 ?k4 ?a5 ?l5 ?c5 ?k5 ?a6 ?l6 ?c6 ?k6 ?a7 ?l7 ?c7 ?k7 ?a8 ?l8 ?c8 ?k8 ?a9 ?l9 ?c9 ?k9 ?a10 ?l10 ?c10 ?k10 ?a11 ?l11 ?c11 ?k11 ?a12 ?l12 ?c12 ?k12 ?a13 ?l13 ?c13 ?k13 ?a14 ?l14 ?c14 ?k14 ?a15 ?l15 ?c15 ?k15 ?a16 ?l16 ?c16 ?k16 ?z1 ?z2 ?z3 ?z4 ?z5 ?z6 ?z7 ?z8 ?z9 ?z10 ?z11 ?z12 ?z13 ?z14 ?z15 ?z16 ?z17 ?z18 ?z19 ?z20 ?qaTn ?ani ?ini ?lni ?cni ?kni ?tni ?ane ?ine ?lne ?cne ?kne ?tne ?ant ?int ?lnt ?cnt ?knt ?tnt ?anw ?inw ?lnw ?cnw ?knw ?anl ?inl ?lnl ?cnl ?knl ?ans ?ins ?lns ?cns ?kns ?anf ?inf ?lnf ?cnf ?knf ?anq ?inq ?lnq ?cnq ?knq ?pgTn ?hdTn ?poTn ?saTn ?mkTn ?kcTn ?nTn0 ?nTn1 ?nTn2 ?icTn ?isTn ?ikTn ?imTn ?inTn ?hcH ?s4 ?s5 ?hS ?e6 ?e7 ?hCF ?xIF ?x1F ?bCF ?tCF ?kCF ?xcF ?xmF ?sBF ?s3F ?iNF ?tIF ?f0F ?lIF ?cIF ?lcF ?ldF ?w2F ?flF ?e1F ?e2F ?e4F ?e5F ?e8F ?sCF ?hCS ?xIS ?x1S ?bCS ?tCS ?kCS ?xcS ?xmS ?sBS ?s3S ?iNS ?tIS ?f0S ?f1S ?lIS ?cIS ?lcS ?ldS ?w2S ?flS ?e1S ?e2S ?e4S ?e5S ?e8S ?sCS ?hcR ?hcB ?hcN ?hV ?hL ?xcH ?xmH ?fiH ?sH ?bH ?dcH ?tcH ?dcR ?tcR ?dcB ?tcB ?dcN ?tcN ?ncR ?scR ?ncB ?scB ?ncN ?scN ?nCS ?sFS2 ?nSH ?sSH ?sSV ?tyTn ?skNoneType ?skint ?skstr ?sklist ?sktuple
    (case a1 => k_is)
    (case l1 => k_is)
    (case c1 => k_is)
    (case k1 => k_is)
    (case a2 => k_is)
    (case l2 => k_is)
    (case c2 => k_is)
    (case k2 => k_is)
    (case a3 => k_is)
    (case l3 => k_is)
    (case c3 => k_is)
    (case k3 => k_is)
    (case a4 => k_is)
    (case l4 => k_is)
    (case c4 => k_is)
    (case k4 => k_is)
    (case a5 => k_is)
    (case l5 => k_is)
    (case c5 => k_is)
    (case k5 => k_is)
    (case a6 => k_is)
    (case l6 => k_is)
    (case c6 => k_is)
    (case k6 => k_is)
    (case a7 => k_is)
    (case l7 => k_is)
    (case c7 => k_is)
    (case k7 => k_is)
    (case a8 => k_is)
    (case l8 => k_is)
    (case c8 => k_is)
    (case k8 => k_is)
    (case a9 => k_is)
    (case l9 => k_is)
    (case c9 => k_is)
    (case k9 => k_is)
    (case a10 => k_is)
    (case l10 => k_is)
    (case c10 => k_is)
    (case k10 => k_is)
    (case a11 => k_is)
    (case l11 => k_is)
    (case c11 => k_is)
    (case k11 => k_is)
    (case a12 => k_is)
    (case l12 => k_is)
    (case c12 => k_is)
    (case k12 => k_is)
    (case a13 => k_is)
    (case l13 => k_is)
    (case c13 => k_is)
    (case k13 => k_is)
    (case a14 => k_is)
    (case l14 => k_is)
    (case c14 => k_is)
    (case k14 => k_is)
    (case a15 => k_is)
    (case l15 => k_is)
    (case c15 => k_is)
    (case k15 => k_is)
    (case a16 => k_is)
    (case l16 => k_is)
    (case c16 => k_is)
    (case k16 => k_is)
    (case z1 => k_is)
    (case z2 => k_is)
    (case z3 => k_is)
    (case z4 => k_is)
    (case z5 => k_is)
    (case z6 => k_is)
    (case z7 => k_is)
    (case z8 => k_is)
    (case z9 => k_is)
    (case z10 => k_is)
    (case z11 => k_is)
    (case z12 => k_is)
    (case z13 => k_is)
    (case z14 => k_is)
    (case z15 => k_is)
    (case z16 => k_is)
    (case z17 => k_is)
    (case z18 => k_is)
    (case z19 => k_is)
    (case z20 => k_is)
    (case qaTn => k_is)
    (case ani => k_is)
    (case ini => k_is)
    (case lni => k_is)
    (case cni => k_is)
    (case kni => k_is)
    (case tni => k_is)
    (case ane => k_is)
    (case ine => k_is)
    (case lne => k_is)
    (case cne => k_is)
    (case kne => k_is)
    (case tne => k_is)
    (case ant => k_is)
    (case int => k_is)
    (case lnt => k_is)
    (case cnt => k_is)
    (case knt => k_is)
    (case tnt => k_is)
    (case anw => k_is)
    (case inw => k_is)
    (case lnw => k_is)
    (case cnw => k_is)
    (case knw => k_is)
    (case anl => k_is)
    (case inl => k_is)
    (case lnl => k_is)
    (case cnl => k_is)
    (case knl => k_is)
    (case ans => k_is)
    (case ins => k_is)
    (case lns => k_is)
    (case cns => k_is)
    (case kns => k_is)
    (case anf => k_is)
    (case inf => k_is)
    (case lnf => k_is)
    (case cnf => k_is)
    (case knf => k_is)
    (case anq => k_is)
    (case inq => k_is)
    (case lnq => k_is)
    (case cnq => k_is)
    (case knq => k_is)
    (case pgTn => k_is)
    (case hdTn => k_is)
    (case poTn => k_is)
    (case saTn => k_is)
    (case mkTn => k_is)
    (case kcTn => k_is)
    (case nTn0 => k_is)
    (case nTn1 => k_is)
    (case nTn2 => k_is)
    (case icTn => k_is)
    (case isTn => k_is)
    (case ikTn => k_is)
    (case imTn => k_is)
    (case inTn => k_is)
    (case hcH => k_is)
    (case s4 => k_is)
    (case s5 => first | rfl | decide +kernel | k_is)
    (case hS => k_is)
    (case e6 => k_is)
    (case e7 => k_is)
    (case hCF => k_is)
    (case xIF => first | k_is | k_exc | kx_is)
    (case x1F => k_is)
    (case bCF => k_is)
    (case tCF => k_is)
    (case kCF => k_is)
    (case xcF => k_is)
    (case xmF => first | rfl | k_is)
    (case sBF => k_is)
    (case s3F => k_is)
    (case iNF => k_is)
    (case tIF => k_is)
    (case f0F => k_is)
    (case lIF => k_is)
    (case cIF => k_is)
    (case lcF => k_is)
    (case ldF => k_is)
    (case w2F => first | rfl | k_is)
    (case flF => first | rfl | decide +kernel | k_is)
    (case e1F => k_is)
    (case e2F => k_is)
    (case e4F => k_is)
    (case e5F => k_is)
    (case e8F => k_is)
    (case sCF => k_is)
    (case hCS => k_is)
    (case xIS => first | k_is | k_exc | kx_is)
    (case x1S => k_is)
    (case bCS => k_is)
    (case tCS => k_is)
    (case kCS => k_is)
    (case xcS => k_is)
    (case xmS => first | rfl | k_is)
    (case sBS => k_is)
    (case s3S => k_is)
    (case iNS => k_is)
    (case tIS => k_is)
    (case f0S => k_is)
    (case f1S => k_is)
    (case lIS => k_is)
    (case cIS => k_is)
    (case lcS => k_is)
    (case ldS => k_is)
    (case w2S => first | rfl | k_is)
    (case flS => first | rfl | decide +kernel | k_is)
    (case e1S => k_is)
    (case e2S => k_is)
    (case e4S => k_is)
    (case e5S => k_is)
    (case e8S => k_is)
    (case sCS => k_is)
    (case hcR => k_is)
    (case hcB => k_is)
    (case hcN => k_is)
    (case hV => k_is)
    (case hL => k_is)
    (case xcH => k_is)
    (case xmH => first | rfl | k_is)
    (case fiH => k_is)
    (case sH => k_is)
    (case bH => k_is)
    (case dcH => k_is)
    (case tcH => k_is)
    (case dcR => k_is)
    (case tcR => k_is)
    (case dcB => k_is)
    (case tcB => k_is)
    (case dcN => k_is)
    (case tcN => k_is)
    (case ncR => first | rfl | decide)
    (case scR => k_is)
    (case ncB => first | rfl | decide)
    (case scB => k_is)
    (case ncN => first | rfl | decide)
    (case scN => k_is)
    (case nCS => first | rfl | decide)
    (case sFS2 => k_is)
    (case nSH => first | rfl | decide)
    (case sSH => k_is)
    (case sSV => k_is)
    (case tyTn => k_is)
    (case skNoneType => k_is)
    (case skint => k_is)
    (case skstr => k_is)
    (case sklist => k_is)
    (case sktuple => k_is)
