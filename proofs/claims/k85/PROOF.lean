import PyProof.Rows.All
import Wide.All
import OpenK.AllK
import Wide.FinOn
import HandS.ForMost
import PyProof.ReprRoads
import HandS.FStrTup
import HandS.Strs
import HandS.SetFor
import HandS.Zip
import HandS.ForExc
import HandS.IsInst
import HandS.Evl
import HandS.Conv
import HandS.Flow
import HandS.Style
import HandS.Sort
import HandS.Walk
import HandS.Codes
import HandS.StrMore
import HandS.TupAny
import HandS.Defaults
import KE.KEqSeq
import HandS.WideBits
import HandS.More
import KE.KLam
import KE.SortKeyHeap
import KE.SortData
import KE.SortLaws
import HandS.Base
import HandS.Call
import HandS.List
import HandS.Comp
import HandS.Text
import HandS.Lambda
import KE.KNestM
import KE.DataMinKey
import HandS.Iter
import PyProof.SetRoads
import HandS.Deep
import PyProof.StrBlock2
import KE.GoesNew
import HandS.DictTup
import HandS.DictSubView
import KE.KDictDisplayH
import KE.KDictWalk
import KE.DataMinMax
import HandS.SortKw
import PyProof.MinMaxWalk
import HandS.Dict
import KE.KDictPairs
import HandS.SlotsOwn
import HandS.OwnEq
import KE.DataCmp
import HandS.ExcInit
import KE.KExcInit
import KE.KExcSuper
import KE.KSuper
import KE.KSuperObj
import HandS.Words
import HandS.WordsExc
import HandS.Exc
import HandS.ExcIs
import HandS.ExcField
import KE.KExcIs
import HandS.CallSlots
import HandS.ExcOwn
import HandS.DictComp
import PyProof.AutoSeq1
import KE.KTupSum
import PyProof.EqKinds
import PyProof.ContainsOpen
import HandS.FStr
import HandS.RaiseMore
import HandS.ListItems
import HandS.Small
import HandS.TryOnly
import PySem.Challenge.RW_potround_k85_whole_each_piece_through_th
set_option Elab.async false
set_option linter.all false
set_option maxRecDepth 100000
namespace Pot
open PySem PySem.Spec PyProof.Rows L2
/-! ### defs that are called where no text of a thing is under way -/
structure FnG (P : Program) (w : World) (K : PySem.W.Frag) (mg : Str → Option Value) (base : Heap) (k : Nat) (f : Addr) (fd : FuncData) (ps : List Str) (sp : Sp) : Prop where
  many : ∀ vs H Q E, sp vs H Q E → vs.length = ps.length
  does : ∀ (A : Around) (outer : List Env) (s : Shared) (H : Hp) (args : Args) (us : List Value) (vs : List V) (Q : VK), A.guards = some [] → Room k A → Env0 P w K mg base A outer s H →
    BindsTo s fd args (ps.zip us) → Vals vs us → sp vs H Q E0 → codeAny (model P w) A (.call (.ref f) args) (CR CX0 outer P w H s Q E0) s
section
variable {P : Program} {w : World} {K : PySem.W.Frag} {mg : Str → Option Value} {base : Heap}
theorem FnG.of {k : Nat} {f : Addr} {fd : FuncData} {ps : List Str} {sp : Sp} (F : FnOk P w K mg base CX0 k f fd ps sp) : FnG P w K mg base k f fd ps sp :=
  ⟨F.len, fun A outer s H args us vs Q _ hr e hb r h => F.run A outer s H args us vs Q E0 hr e hb r h⟩
theorem okG {x qual : Str} {st : Stmt} {f : Addr} {fd : FuncData} {N ps : List Str} {k : Nat} {sp : Sp} (F : Fun K x qual st f fd) (S : FnScope N ps (defScope st)) (many : ∀ vs H Q E, sp vs H Q E → vs.length = ps.length)
    (body : ∀ (cdv : Value) (A : Around) (outer : List Env) (s : Shared) (H : Hp) (vs : List V) (Q : VK), A.guards = some [] → Room k (A.deeper (envOfC qual (defScope st) s.heap.objs.size f cdv)) → sp vs H Q E0 →
      ∃ t, PSs (cxOf CX0 P w K mg base N qual (defScope st) f cdv A outer s H E0).nox (defBody st) t ∧ t { nx := fun _ H' => Q .non H', rt := Q } (start N vs) H) : FnG P w K mg base (k + 1) f fd ps sp := by
  obtain ⟨oc, od, kV, doc, pm, an, cdv, ct, osl, rfl, at_, code⟩ := F.ex
  refine ⟨many, fun A outer s H args us vs Q gd room e0 bind rel want => ?_⟩
  have kin : K.In s.heap := e0.mod.kin.keeps fun b o e => (e0.bs b o e).1
  have nolim : s.heap.NoLimit := e0.mod.nolimit.keeps fun b o e => (e0.bs b o e).1
  refine codeAny_call_function room.depth (kin _ _ at_) rfl S.co S.gen rfl (PySem.W.codeRec_of kin code) (bind _ _ _ _ (wpAny_newFunctionEnv_cells S.kind (fun y hy => ?_) fun env he s1 x => ?_))
  · obtain ⟨n, v⟩ := y
    exact (S.par n (List.of_mem_zip hy).1).imp id fun q => ⟨q, PySem.W.cellsFrom_some _ _ _ (.inl q)⟩
  · subst he
    obtain ⟨t, ht, hq⟩ := body cdv A outer s H vs Q gd (room.deeper _) want
    have I : Inv (cxOf CX0 P w K mg base N qual (defScope st) f cdv A outer s H E0) [] (start N vs) H s1 := inv_start S room.hd e0 (many _ _ _ _ want) rel x
    refine ⟨nolim.keeps x.toInCall.keep, codeAny_func (wpAny_mono (ht.nox.run [] s1 (start N vs) H _ I hq) (fun fl s' hs => ?_) fun _ _ z => z)⟩
    cases fl with
    | ret u =>
      obtain ⟨v, σ', H', J, rv, q⟩ := hs
      exact ⟨v, H', J.os, J.bare, J.base, J.hok, rv, q⟩
    | next =>
      obtain ⟨σ', H', J, q⟩ := hs
      exact ⟨V.non, H', J.os, J.bare, J.base, J.hok, rfl, q⟩
    | brk => obtain ⟨_, _, _, q⟩ := hs; exact q.elim
    | cont => obtain ⟨_, _, _, q⟩ := hs; exact q.elim
/-! calls -/
/-- a def that may be called by its name where no text is under way -/
def ClG (P : Program) (w : World) (K : PySem.W.Frag) (mg : Str → Option Value) (base : Heap) (k : Nat) (x : Str) (ds : List V) (sp : Sp) : Prop :=
  ∃ (f : Addr) (fd : FuncData) (ps : List Str) (dus : List Value), FnG P w K mg base k f fd ps sp ∧ mg x = some (.ref f) ∧ PySem.W.keepIn K (.ref f) = true ∧ Binds K fd ps dus ∧ Vals ds dus
theorem pe_clG {X : Cx} {k j : Nat} {x : Str} {ds : List V} {sp : Sp} {e : Expr} {es : List Expr} {t : TA} {p pos : Pos} (c : ClG X.prog X.w X.K X.mg X.base k x ds sp) (hr : Room j X.A) (gd : X.A.guards = some []) (hk : k ≤ j) (hg : Gl X x) (ha : PA X (e :: es) t)
    (hdb : (x == ("__debug__" : Str)) = false := by decide) (he : starEach (e :: es) X.env = (false, eval e X.env) :: starEach es X.env := by rfl) (hpl : (backTo pos (starEach es X.env)).any (·.1) = false := by rfl) :
    PE X (.Call (.Name x p) (e :: es) [] pos) (tCall sp ds E0 t) := by
  obtain ⟨f, fd, ps, dus, G, named, kept, binds, dv⟩ := c
  refine ⟨fun pins s σ H Q I h => wpAny_Call_Name_kw (ld_glob I hg named (PySem.W.callWith_K (h₀ := X.base) I.ok.mod.kin kept (thn (ha.run pos pins s σ H _ I h) fun us s1 hh => ?_) he hpl) hdb)⟩
  obtain ⟨vs, H1, I1, r, q⟩ := hh
  refine ⟨I1.kIn, ?_⟩
  have rel := r.append dv
  have n : (us ++ dus).length = ps.length := rel.length ▸ G.many _ _ _ _ q
  refine wpAny_call (codeAny_mono (G.does X.A X.stack s1 H1 ⟨us, []⟩ (us ++ dus) (vs ++ ds) Q gd (hr.mono hk) I1.env0 (binds s1 us I1.kIn n) rel q) fun res s' hq => ?_)
  rcases res with _ | fl
  case error => exact (show False from hq).elim
  cases fl <;> first | exact I1.after hq | exact (show False from hq).elim
/-! the law's own call -/
theorem law_callG {mb : Str → Option Value} {k : Nat} {fa a : Addr} {fd : FuncData} {x : Str} {sp : Sp} {s : Shared} {vs : List Value} {ns : List Int} (kin : K.In s.heap) (glob : s.heap.Ns mainGlobals mg) (blt : s.heap.Ns builtinsNs mb)
    (boot : ∀ y : Str, y ≠ "__name__" → mb y = bootBuiltins y) (lim : s.heap.NoLimit) (gens : s.gens = #[]) (obj : s.heap.get? a = some { cls := .type "list", data := .seq vs.toArray }) (whole : IntsAre vs ns) (small : ns.length ≤ sizeLine) (room : Room k callerA)
    (F : ∀ base : Heap, K.In base → base.Ns mainGlobals mg → FnG P w K mg base k fa fd [x] sp) (bind : ∀ (s : Shared) (u : Value), BindsTo s fd ⟨[u], []⟩ [(x, u)])
    (want : ∀ H : Hp, Only H → SqL K H a (ns.map V.int) → sp [.ref a] H (fun v _ => v = .bl true) E0) :
    codeAny (model P w) callerA (.call (.ref fa) ⟨[.ref a], []⟩) (fun r s' => r = .ok (.ret (.bool true)) ∧ OldK s.heap s'.heap ∧ s'.os = s.os ∧ AllBare s'.gens) s := by
  have rv := vals_ints whole
  have nv := whole.length
  -- which heap is told: the script, locked, where it isn't one of the written part
  obtain ⟨H, only, seq, fine, alone, apart⟩ : ∃ H : Hp, Only H ∧ SqL K H a (ns.map V.int) ∧ HOk P w H s.heap ∧ (∀ b u, H b = some u → b = a) ∧ (∀ u, H a = some u → K.lookup a = none) := by
    cases lk : K.lookup a with
    | some o =>
      have same := kin a o lk
      rw [obj] at same
      cases same
      exact ⟨fun _ => none, fun _ => .inl rfl, .inr ⟨_, vs.toArray, _, lk, rfl, rfl, rfl, by rw [List.size_toArray, nv]; exact small, by simpa using rv⟩, (fun b u z => nomatch (show (none : Option HO) = some u from z)), (fun b u z => nomatch (show (none : Option HO) = some u from z)), fun u z => nomatch (show (none : Option HO) = some u from z)⟩
    | none =>
      have hit : ∀ b u, (if b = a then some (HO.frz { cls := .type "list", data := .seq vs.toArray } (.lst (ns.map V.int))) else none) = some u → b = a ∧ u = .frz { cls := .type "list", data := .seq vs.toArray } (.lst (ns.map V.int)) := fun b u z => by
        split at z
        · cases z; exact ⟨‹_›, rfl⟩
        · cases z
      refine ⟨fun b => if b = a then some (.frz { cls := .type "list", data := .seq vs.toArray } (.lst (ns.map V.int))) else none, fun b => ?_, .inl (.inr ⟨_, if_pos rfl⟩), fun b u z => ?_, fun b u z => (hit b u z).1, fun _ _ => rfl⟩
      · by_cases hb : b = a
        · exact .inr ⟨_, _, if_pos hb⟩
        · exact .inl (if_neg hb)
      · obtain ⟨rfl, rfl⟩ := hit b u z
        exact ⟨obj, by rw [List.length_map]; exact small, vs, _, rv, obj⟩
  have hid : ∀ {b : Addr} {o : Obj}, s.heap.get? b = some o → (b = a → H a = none) → (hidT s.heap H).get? b = some o := fun {b o} e n => hidT_get e (by
    cases q : H b with
    | none => rfl
    | some u =>
      have e2 := alone b u q
      subst e2
      rw [n rfl] at q
      cases q)
  have kinB : K.In (hidT s.heap H) := fun b o e => hid (kin b o e) fun z => by
    subst z
    cases q : H b with
    | none => rfl
    | some u => rw [apart u q] at e; cases e
  have ns_ : ∀ {b : Addr} {m : Str → Option Value}, s.heap.Ns b m → (hidT s.heap H).Ns b m := fun {b m} h => by
    obtain ⟨o, es, ep, e, d, r⟩ := h
    refine ⟨o, es, ep, hid e fun z => ?_, d, r⟩
    subst z
    rw [obj] at e
    cases e
    exact nomatch (show Data.seq vs.toArray _ = Data.dict es ep from d)
  have md : Mod K mg (hidT s.heap H) := ⟨kinB, ns_ glob, ⟨mb, ns_ blt, boot⟩, by obtain ⟨mc, h1, h2⟩ := lim; exact ⟨mc, ns_ h1, h2⟩⟩
  have e0 : Env0 P w K mg (hidT s.heap H) callerA [] s H := ⟨rfl, md, fun b o e => of_hidT e, Nat.le_of_eq (hidT_size _ _), trivial, (fun b hb => nomatch (show b ∈ ([] : List Addr) from hb)), fine, .of_eq gens⟩
  refine codeAny_mono ((F _ kinB (ns_ glob)).does callerA [] s H ⟨[.ref a], []⟩ [.ref a] [.ref a] _ rfl room e0 (bind s (.ref a)) (.cons rfl .nil) (want H only seq)) fun res s' h => ?_
  rcases res with _ | fl
  case error => exact (show False from h).elim
  cases fl <;> first | exact (show False from h).elim | skip
  obtain ⟨v, H', os, bare, un, fine', rel, q⟩ := h
  cases (show v = .bl true from q)
  cases (show _ = Value.bool true from rel)
  refine ⟨rfl, OldK.of_keep fun b o e => ?_, os, bare⟩
  cases q : H b with
  | none => exact un.keep b o e q (fun z => nomatch (show b ∈ ([] : List Addr) from z)) (fun z => nomatch z)
  | some u =>
    rcases only b with z | ⟨ob, xs, z⟩
    · rw [q] at z; cases z
    · obtain ⟨e1, _⟩ := fine b _ z
      obtain ⟨e2, _⟩ := fine' b _ (un.frzs b ob _ z)
      rw [e] at e1; cases e1
      exact e2
end
theorem walkG {l : PySem.W.OpenLaw} {n k : Nat} {q : Program} {loose : List Str} {XP : (Str → Option Value) → Heap → Prop} {YP : World → Heap → Prop} {d : DefRec} {K : Params → PySem.W.Frag} {sp : World → Sp} {x : Str}
    (most : l.most = some n) (fits : n ≤ sizeLine) (plain : d.params.defaults = []) (room : Room k callerA) (part : ∀ (w : World) (h : Heap), YP w h → (K w.params).In h)
    (F : ∀ (w : World) (mg : Str → Option Value) (fa : Addr) (h : Heap), (K w.params).In h → h.Ns mainGlobals mg → mg d.name = some (.ref fa) →
      ∃ fd : FuncData, (∀ (s : Shared) (u : Value), BindsTo s fd ⟨[u], []⟩ [(x, u)]) ∧ ∀ base : Heap, (K w.params).In base → base.Ns mainGlobals mg → FnG l.prog w (K w.params) mg base k fa fd [x] (sp w))
    (want : ∀ (w : World) (H : Hp) (a : Addr) (ns : List Int), ns.length ≤ n → Only H → SqL (K w.params) H a (ns.map V.int) → sp w [.ref a] H (fun v _ => v = .bl true) E0) :
    PySem.W.WalkO q loose XP YP l.row.toRowW d [] (fun f vs => PySem.call f vs) := by
  refine Att.attach_call most plain fun w s₀ s₁ mg mb fa o pm cd doc a vs ns G Y _ _ _ named obj whole len gens => ?_
  obtain ⟨fd, bind, hF⟩ := F w mg fa _ (part w _ Y) G.T.g named
  exact law_callG (part w _ Y) G.T.g G.T.b G.T.builtins G.T.nolimit gens obj whole (Nat.le_trans len fits) room hF bind fun H only seq => want w H a ns len only seq
end Pot

namespace Pot
open PySem PySem.Spec PyProof.Rows L2
/-! ### repr of what is made of numbers, texts, truths, None, lists and tuples -/
section
variable {K : PySem.W.Frag}
mutual
theorem dp_noDict {H : Hp} : ∀ {v : V} {d : PyData}, Dp K H v d → d.hasDict = false
  | _, _, .non => rfl
  | _, _, .bl _ => rfl
  | _, _, .int _ => rfl
  | _, _, .str _ => rfl
  | _, _, .lst _ a => dpAll_noDict a
  | _, _, .tup _ a => dpAll_noDict a
theorem dpAll_noDict {H : Hp} : ∀ {vs : List V} {ds : List PyData}, DpAll K H vs ds → PyData.hasDictAll ds = false
  | _, _, .nil => rfl
  | _, _, .cons h t => by
    show (PyData.hasDict _ || PyData.hasDictAll _) = false
    rw [dp_noDict h, dpAll_noDict t]
    rfl
end
/-- how long its text may be, told roughly -/
def costAll : List PyData → Nat
  | [] => 0
  | x :: xs => cost x + 2 + costAll xs
where cost : PyData → Nat
  | .none => 4
  | .bool _ => 5
  | .int _ => 1921
  | .str x => 10 * x.length + 2
  | .list xs => costAll xs + 3
  | .tuple xs => costAll xs + 3
  | .dict _ => 0
/-- what repr is asked of here: its texts of plain signs -/
def fineAll : List PyData → Prop
  | [] => True
  | x :: xs => fine x ∧ fineAll xs
where fine : PyData → Prop
  | .none => True
  | .bool _ => True
  | .int i => i.natAbs.log2 < 1920
  | .str x => ∀ c ∈ x.cps.toList, c < 16 ^ 8
  | .list xs => fineAll xs
  | .tuple xs => fineAll xs
  | .dict _ => False
theorem from_len : ∀ (ts : List Str) (k : Nat) (acc : Str), (textFrom k acc ts).length ≤ acc.length + piled ts
  | [], k, acc => by rw [piled_nil]; exact Nat.le_refl _
  | t :: r, k, acc => by
    have ih := from_len r (k + 1)
    rw [piled_cons]
    unfold textFrom
    refine Nat.le_trans (ih _) ?_
    rw [strLen_append]
    split
    · rw [strLen_append]
      have e : (", " : Str).length = 2 := by decide +kernel
      omega
    · rw [strLen_append]
      have e : ("" : Str).length = 0 := by decide +kernel
      omega
theorem list_len (ts : List Str) : (listText ts).length ≤ piled ts + 2 := by
  unfold listText
  rw [strLen_append]
  have h := from_len ts 0 "["
  have e1 : ("[" : Str).length = 1 := by decide +kernel
  have e2 : ("]" : Str).length = 1 := by decide +kernel
  omega
mutual
theorem shown_len : ∀ d : PyData, fineAll.fine d → d.shown.length ≤ costAll.cost d
  | .none, _ => by decide +kernel
  | .bool b, _ => by cases b <;> decide +kernel
  | .int i, h => PyProof.Rows.int_text_len_1921 h
  | .str x, h => StrLaws.reprText_len x h
  | .list xs, h => Nat.le_trans (list_len _) (Nat.add_le_add (piled_len xs h) (by decide))
  | .tuple xs, h => Nat.le_trans (fmt_text _) (Nat.add_le_add (piled_len xs h) (by decide))
  | .dict _, h => h.elim
theorem piled_len : ∀ ds : List PyData, fineAll ds → piled (PyData.shownAll ds) ≤ costAll ds
  | [], _ => Nat.le_refl _
  | x :: xs, h => by
    have h1 := shown_len x h.1
    have h2 := piled_len xs h.2
    show piled (x.shown :: PyData.shownAll xs) ≤ costAll.cost x + 2 + costAll xs
    rw [piled_cons]
    omega
end
mutual
theorem fine_show : ∀ d : PyData, fineAll.fine d → d.showable = true
  | .none, _ => rfl
  | .bool _, _ => rfl
  | .int i, h => decide_eq_true h
  | .str _, _ => rfl
  | .list xs, h => fineAll_show xs h
  | .tuple xs, h => fineAll_show xs h
  | .dict _, h => h.elim
theorem fineAll_show : ∀ ds : List PyData, fineAll ds → PyData.showableAll ds = true
  | [], _ => rfl
  | x :: xs, h => by
    show (PyData.showable x && PyData.showableAll xs) = true
    rw [fine_show x h.1, fineAll_show xs h.2]
    rfl
end
end
section
variable {X : Cx}
def rRepr (K : PySem.W.Frag) : List V → Hp → VK → Prop := fun xs H Q => ∃ (a : Addr) (d : PyData), xs = [V.ref a] ∧ Dp K H (.ref a) d ∧ fineAll.fine d ∧ d.depth ≤ 60 ∧ costAll.cost d ≤ 16777216 ∧ Q (.str d.shown) H
theorem cr_repr (gd : X.A.guards = some []) (hu : X.A.units + 64 < cLine) : CallR X (.builtin "repr") (rRepr X.K) := by
  intro pins s σ H vs us Q I r h
  obtain ⟨a, d, rfl, dp, sh, dep, sz, q⟩ := h
  rw [Vals.ref1 r]
  obtain ⟨as, rd⟩ := Dp.reads I d (.ref a) (.ref a) dp rfl
  refine repr_of_reads' rd (fine_show d sh) (fun z => ?_) gd (by omega) (fun _ _ e => e) (fun h' u tk k => ⟨.str d.shown, H, I.kept k, ⟨u, rfl⟩, q⟩) (Nat.le_trans (shown_len d sh) (by rw [sizeLine_eq]; exact sz))
  rw [dp_noDict dp] at z
  cases z
end
end Pot

namespace Pot
open PySem PySem.Spec PyProof.Rows L2 PySem.W PySem.Calls
/-! ### set(xs) of a list of ints -/
/-- the object that set() makes first -/
abbrev emptySet (w : World) : Obj := { cls := .type "set", dict := none, data := .set #[] 0 (.fresh 0 0 (!w.params.followText "set-order")) }
section
variable {P : Program} {w : World} {A : Around} {E : Value → Shared → Prop} {s : Shared}
/-- what is wanted behind the filling -/
def Filled (w : World) (s : Shared) (ns : List Int) (s' : Shared) : Prop := ∃ h' tk c, s' = { s with heap := h', toks := tk } ∧ SetR w h' s.heap.objs.size (fun j => decide (j ∈ ns)) c ∧ c ≤ ns.length ∧ ∀ b o, s.heap.get? b = some o → h'.get? b = some o
set_option maxHeartbeats 4000000 in
theorem call_set_li {l : Addr} {items : Array Value} (ns : List Int) {Q : Value → Shared → Prop} (hh : A.handled = none) (hl : s.heap.IsList l items) (hit : IntsAre items.toList ns) (hb : ns.length + 1 < scanBound)
    (hq : ∀ s', Filled w s ns s' → Q (.ref s.heap.objs.size) s') : wpAny (model P w) A (call (.type "set") [.ref l]) Q E s := by
  have size : items.size = ns.length := by
    rw [← Array.length_toList]; exact IntsAre.length hit
  have made := F.called_set.made
  have below := F.called_set.sub
  obtain ⟨_, _, chain⟩ := F.called_set.mro
  have nt := F.called_set.notType
  have cc := F.called_set.canCreate
  have ck := F.typeCall_set_1 (.ref l)
  refine wpAny_call (codeAny_of_tree (show wpAny _ _ (callAny (.type "set") _) _ _ _ from wpAny_pure ⟨Code.quiet_builtin _ (by decide +kernel), codeAny_builtin F.entry_type_call ?_⟩))
  rw [Around.under_plain (weight_type_call_type "set" [.ref l] []) rfl]
  repeat (any_goals (first | assumption | wp_step))
  refine codeAny_mono (code_set_led1 (.ref l) (E := E) (Q₁ := fun obj z => obj = .ref s.heap.objs.size ∧ z = { s with heap := s.heap.push (emptySet w) }) ⟨rfl, rfl⟩) fun r z hr => ?_
  rcases r with _ | fl
  case error => exact hr
  cases fl <;> first | exact hr.elim | skip
  obtain ⟨rfl, rfl⟩ := hr
  have at0 : (s.heap.push (emptySet w)).get? s.heap.objs.size = some (emptySet w) := Heap.get?_push_size _ rfl
  have ty0 : Shared.TypeIs { s with heap := s.heap.push (emptySet w) } (.ref s.heap.objs.size) "set" := ⟨_, at0, rfl⟩
  have li := F.called_set.init.lookup
  have bi := F.called_set.init.bind (.ref s.heap.objs.size)
  repeat (any_goals (first | assumption | wp_step))
  refine codeAny_mono (codeAny_call_builtin (R := wants (fun r z => r = .none ∧ Filled w s ns z) E) F.called_set.init.plain F.entry_set_init (check_set_init_1 ty0 ?_)) fun r z hz => ?_
  · obtain ⟨⟨_, od, _, os⟩, hol, hcl, nl, hdl⟩ := hl
    simp only at hcl hdl
    subst hcl
    subst hdl
    have keep : (s.heap.push (emptySet w)).get? l = some { cls := .type "list", dict := od, data := .seq items nl, slots := os } := Heap.get?_push_of_some _ hol
    have s1 := F.sub_list_set
    have s2 := F.sub_list_frozenset
    have s3 : (Value.type "list" == Value.type "dict") = false := by decide
    have isl : (s.heap.push (emptySet w)).IsList l items := ⟨_, keep, rfl, nl, rfl⟩
    unfold Builtin.«set.__init__» noKeywords Builtin.Frozenset.updateFrom
    generalize hPI : pyIter = PI
    wp_walk
    subst hPI
    refine wpAny_pyIter_list isl (wpAny_bind (wpAny_runValue ?_))
    have lt : l < s.heap.objs.size := Heap.lt_size hol
    have sz : (s.heap.push (emptySet w)).objs.size = s.heap.objs.size + 1 := Heap.size_push ..
    have ne1 : l ≠ (s.heap.push (emptySet w)).objs.size := by rw [sz]; exact Nat.ne_of_lt (Nat.lt_succ_of_lt lt)
    have ne2 : s.heap.objs.size ∉ [(s.heap.push (emptySet w)).objs.size, l] := by
      rw [sz]
      intro z
      rcases List.mem_cons.mp z with z | z
      · exact absurd z (Nat.ne_of_lt (Nat.lt_succ_self _))
      · exact absurd (List.mem_singleton.mp z) (Nat.ne_of_gt lt)
    have each : ∀ (i : Nat) (v : Value), items[i]? = some v → ∃ k t, ns[i]? = some k ∧ v = .int k t := fun i v hv => by
      have hi : i < ns.length := size ▸ (Array.getElem?_eq_some_iff.mp hv).1
      obtain ⟨t, e⟩ := IntsAre.int_at hit i v (by rw [Array.getElem?_toList]; exact hv)
      exact ⟨ns[i], t, List.getElem?_eq_getElem hi, by rw [e, List.getD_eq_getElem?_getD, List.getElem?_eq_getElem hi]; rfl⟩
    refine set_update_ints ((Walks.list (show A.in1.in1.in1.handled = none by simp [hh]) _ l ne1 items).toS) s.heap.objs.size ne2 ns size hb each (items.size - 0) 0 _ (by omega) (Nat.zero_le _) ⟨⟨_, Heap.get?_push_size _ rfl, rfl, rfl⟩, isl.push _⟩ ⟨0, Nat.le_refl 0, setR_new_at (Heap.get?_push_of_some _ at0)⟩ fun s' c hm hc hS => ?_
    obtain ⟨h', g, d, tk, o⟩ := s'
    cases (show g = s.gens from hm.gens)
    cases (show d = s.drawn from hm.drawn)
    cases (show o = s.os from hm.os)
    refine (show wpAny _ _ _ _ _ _ from wpAny_pure (show wpAny _ _ (ret Value.none) _ _ _ from wpAny_pure ⟨rfl, h', tk, c, rfl, hS, size ▸ hc, fun b o e => ?_⟩))
    have hb0 : b < s.heap.objs.size := Heap.lt_size e
    refine hm.heap b o (fun z => ?_) (Heap.get?_push_of_some _ (Heap.get?_push_of_some _ e))
    rcases List.mem_cons.mp z with z | z
    · exact absurd z (Nat.ne_of_lt hb0)
    · exact absurd ((List.mem_singleton.mp z).trans sz) (Nat.ne_of_lt (Nat.lt_succ_of_lt hb0))
  · rcases r with _ | fl
    case error => exact hz
    cases fl <;> first | exact hz.elim | skip
    obtain ⟨rfl, f⟩ := hz
    obtain ⟨h', tk, c, rfl, hS, hc, k⟩ := id f
    repeat (any_goals (first | assumption | wp_step))
    exact hq _ ⟨_, _, _, rfl, hS, hc, k⟩
end
section
variable {X : Cx}
/-- set(xs), at most 60 ints: a set of just these -/
def rSetLi (K : PySem.W.Frag) (w : World) : List V → Hp → VK → Prop := fun xs H Q => ∃ (a : Addr) (ns : List Int), xs = [V.ref a] ∧ SqL K H a (ns.map V.int) ∧ ns.length ≤ 1000 ∧
  ∀ (p : Addr) (c : Nat), H p = none → c ≤ ns.length → Q (.ref p) (upd H p (SetO w p (fun k => decide (k ∈ ns)) c))
theorem cr_setLi (hc : X.calm = true) : CallR X (.type "set") (rSetLi X.K X.w) := by
  intro pins s σ H vs us Q I r h
  obtain ⟨a, ns, rfl, hS, hl, q⟩ := h
  rw [Vals.ref1 r]
  obtain ⟨its, rv, pl, hz⟩ := I.list hS
  refine call_set_li ns (I.ok.hd hc) pl.isList (by simpa using Vals.ints rv) (by unfold scanBound; omega) fun s' f => ?_
  obtain ⟨h', tk, c, rfl, R, hcn, k⟩ := f
  have hn : H s.heap.objs.size = none := I.hok.fresh (Nat.le_refl _)
  have J : Inv X pins σ (upd H s.heap.objs.size (SetO X.w s.heap.objs.size (fun k => decide (k ∈ ns)) c)) { s with heap := h', toks := tk } := I.laid (t' := tk) k (Nat.le_refl _) (setO_new R)
  exact ⟨.ref s.heap.objs.size, _, J, rfl, q _ _ hn hcn⟩
end
end Pot

/-! The rules whose readings name the written part, with it as a letter of its own. -/
namespace Pot
open PySem PySem.Spec PyProof.Rows L2
section
variable {X : Cx} {K : PySem.W.Frag}
theorem kx_list (h : X.K = K := by rfl) : IxR X (rIxL K) := h ▸ ix_list
theorem kx_tup (h : X.K = K := by rfl) : IxR X (rIxT K) := h ▸ ix_tup
theorem kl_list (h : X.K = K := by rfl) : SlR X (rSlL K) := h ▸ sl_list
theorem kl_tup (h : X.K = K := by rfl) : SlR X (rSlA K) := h ▸ sl_tupA
theorem ko_in (h : X.K = K := by rfl) : OpR X (compareOp .In) (rIn K false) := h ▸ op_in_seq
theorem ko_eq (hu : X.A.units + 64 < cLine) (h : X.K = K := by rfl) : OpR X (compareOp .Eq) (rEqD K) := h ▸ op_eqD hu
theorem ko_ne (hu : X.A.units + 64 < cLine) (h : X.K = K := by rfl) : OpR X (compareOp .NotEq) (rNeD K) := h ▸ op_neD hu
def rLen (K : PySem.W.Frag) : List V → Hp → VK → Prop := fun xs H Q => ∃ x n, xs = [x] ∧ LenV K x H n ∧ Q (.int n) H
theorem kc_len (h : X.K = K := by rfl) : CallR X (.builtin "len") (rLen K) := by subst h; exact call_len
def rListOf (K : PySem.W.Frag) : List V → Hp → VK → Prop := fun xs H Q => ∃ p ys, xs = [.ref p] ∧ (SqL K H p ys ∨ SqT K H p ys) ∧ ∀ l, H l = none → Q (.ref l) (upd H l (.lst ys))
theorem kc_list (h : X.K = K := by rfl) : CallR X (.type "list") (rListOf K) := by subst h; exact call_list_of
def rTupleOf (K : PySem.W.Frag) : List V → Hp → VK → Prop := fun xs H Q => ∃ p ys, xs = [.ref p] ∧ ((SqL K H p ys ∧ ∀ l, H l = none → Q (.ref l) (upd H l (.tup ys))) ∨ (SqT K H p ys ∧ Q (.ref p) H))
theorem kc_tuple (h : X.K = K := by rfl) : CallR X (.type "tuple") (rTupleOf K) := by subst h; exact call_tuple_of
theorem kc_sum (hc : X.calm = true := by rfl) (h : X.K = K := by rfl) : CallR X (.builtin "sum") (rSum K) := h ▸ cr_sum hc
theorem kc_all (hc : X.calm = true := by rfl) (h : X.K = K := by rfl) : CallR X (.builtin "all") (rAll K) := h ▸ cr_all hc
theorem kc_any (hc : X.calm = true := by rfl) (h : X.K = K := by rfl) : CallR X (.builtin "any") (rAny K) := h ▸ cr_any hc
theorem kc_sorted (h : X.K = K := by rfl) : CallR X (.builtin "sorted") (rSorted K) := h ▸ cr_sorted
theorem kc_sortedS (h : X.K = K := by rfl) : CallR X (.builtin "sorted") (rSortedS K) := h ▸ cr_sortedS
theorem kc_isi (h : X.K = K := by rfl) : CallR X (.builtin "isinstance") (rIsi K) := h ▸ call_isi
theorem kc_isiT (h : X.K = K := by rfl) : CallR X (.builtin "isinstance") (rIsiT K) := h ▸ call_isiT
theorem kc_repr (gd : X.A.guards = some []) (hu : X.A.units + 64 < cLine) (h : X.K = K := by rfl) : CallR X (.builtin "repr") (rRepr K) := h ▸ cr_repr gd hu
theorem kc_setLi {w : World} (hc : X.calm = true := by rfl) (h : X.K = K := by rfl) (hw : X.w = w := by rfl) : CallR X (.type "set") (rSetLi K w) := by subst h; subst hw; exact cr_setLi hc
theorem kc_sortedSet {w : World} (hc : X.calm = true := by rfl) (hw : X.w = w := by rfl) : CallR X (.builtin "sorted") (rSortedSet w) := hw ▸ cr_sortedSet hc
theorem ki_list {tg l : Expr} {tl : TE} (hl : PE X l tl) (h : X.K = K := by rfl) : PI X tg l (iList K tl) := h ▸ pi_list hl
theorem ki_tup {tg l : Expr} {tl : TE} (hl : PE X l tl) (h : X.K = K := by rfl) : PI X tg l (iTup K tl) := h ▸ pi_tup hl
theorem ki_zip {e e2 : Expr} {ta : TA} {p pos tpos : Pos} {elts : List Expr} {kk : Nat} (hg : Gl X "zip") (hm : X.mg "zip" = none) (ha : PA X [e, e2] ta) (hs : starEach [e, e2] X.env = (false, eval e X.env) :: starEach [e2] X.env := by rfl)
    (hpl : (backTo pos (starEach [e2] X.env)).any (·.1) = false := by rfl) (h : X.K = K := by rfl) : PI X (.Tuple elts kk tpos) (.Call (.Name "zip" p) [e, e2] [] pos) (RZ.iZipA K ta) := h ▸ RZ.pi_zipA hg hm ha hs hpl
theorem ki_enum {e : Expr} {ta : TA} {p pos tpos : Pos} {elts : List Expr} {kk : Nat} (hg : Gl X "enumerate") (hm : X.mg "enumerate" = none) (ha : PA X [e] ta) (hs : starEach [e] X.env = [(false, eval e X.env)] := by rfl) (h : X.K = K := by rfl)
    : PI X (.Tuple elts kk tpos) (.Call (.Name "enumerate" p) [e] [] pos) (iEnum K ta) := h ▸ pi_enum hg hm ha hs
theorem kg_tup {pos : Pos} {es : List Expr} {k : Nat} {t : TGs} {n : Nat} (h : PGs X es t) (hc : X.calm = true := by rfl) (hn : (assignEach es X.env).length = n := by rfl) (hst : (assignEach es X.env).findIdx? (·.1) = none := by rfl) (hk : X.K = K := by rfl) : PG X (.Tuple es k pos) (gTup K n t) := hk ▸ pg_tup hc h hn hst
def tTru (K : PySem.W.Frag) (ta : TE) : TT := fun σ H Q => ta σ H fun x H' => ∃ k, TruV K x H' k ∧ Q k H'
theorem kt_truth {a : Expr} {ta : TE} (ha : PE X a ta) (he : ∀ whole, isTrue a X.env whole = (do let v ← whole; standAt a.pos; holding [v] (truthy v)) := by intro _; rfl) (h : X.K = K := by rfl) : PT X a (tTru K ta) := by subst h; exact pt_truth ha he
def rJoin (K : PySem.W.Frag) : V → List V → Hp → VK → Prop := fun x xs H Q => ∃ a p, ∃ ys : List Str, x = .str a ∧ xs = [.ref p] ∧ (SqL K H p (ys.map V.str) ∨ SqT K H p (ys.map V.str)) ∧ (ys.map (·.length)).sum + ys.length * a.length ≤ 16777216 ∧ Q (.str (Txt.join a ys)) H
theorem ke_join {o e : Expr} {to te : TE} {apos pos : Pos} (ho : PE X o to) (he : PE X e te) (hs : starEach [e] X.env = [(false, eval e X.env)] := by rfl) (hbase : attributeBase o "join" X.env (eval o X.env) = eval o X.env := by rfl) (hline : (apos.endLine == pos.line) = true := by rfl) (h : X.K = K := by rfl) :
    PE X (.Call (.Attribute o "join" apos) [e] [] pos) (tM1 (rJoin K) to te) := by subst h; exact pe_join ho he hs hbase hline
theorem pss_never {st : List Stmt} : PSs X st (fun _ _ _ => False) := ⟨fun _ _ _ _ _ _ h => h.elim⟩
theorem ps_never {st : Stmt} : PS X st (fun _ _ _ => False) := ⟨fun _ _ _ _ _ _ h => h.elim⟩
theorem pe_never {e : Expr} : PE X e (fun _ _ _ => False) := ⟨fun _ _ _ _ _ _ h => h.elim⟩
theorem tYes_at {σ : L2.St} {H : Hp} {Q : Bool → Hp → Prop} (h : Q true H) : tYes σ H Q := h
end
end Pot

namespace Pot
open PySem PySem.Spec PyProof.Rows L2
/-- built-in names that the module gives no other meaning -/
structure Txt (mg : Str → Option Value) : Prop where
  len : mg "len" = none
  divmod : mg "divmod" = none
  range : mg "range" = none
  sum : mg "sum" = none
  all : mg "all" = none
  any : mg "any" = none
  isinstance : mg "isinstance" = none
  str : mg "str" = none
  int : mg "int" = none
  list : mg "list" = none
  tuple : mg "tuple" = none
  bool : mg "bool" = none
  zip : mg "zip" = none
  set : mg "set" = none
  sorted : mg "sorted" = none
  enumerate : mg "enumerate" = none
  repr : mg "repr" = none
  min : mg "min" = none
  max : mg "max" = none
  abs : mg "abs" = none
/-- a def that may be called by its name: what it keeps, at which level -/
def Cl (P : Program) (w : World) (K : PySem.W.Frag) (mg : Str → Option Value) (base : Heap) (k : Nat) (x : Str) (sp : Sp) : Prop :=
  ∃ (f : Addr) (fd : FuncData) (ps : List Str), FnOk P w K mg base CX0 k f fd ps sp ∧ mg x = some (.ref f) ∧ PySem.W.keepIn K (.ref f) = true ∧ Binds K fd ps []
theorem pe_cl {X : Cx} {k j : Nat} {x : Str} {sp : Sp} {e : Expr} {es : List Expr} {t : TA} {p pos : Pos} (c : Cl X.prog X.w X.K X.mg X.base k x sp) (hr : Room j X.A) (hk : k ≤ j) (hg : Gl X x) (ha : PA X (e :: es) t) (hdb : (x == ("__debug__" : Str)) = false := by decide)
    (he : starEach (e :: es) X.env = (false, eval e X.env) :: starEach es X.env := by rfl) (hpl : (backTo pos (starEach es X.env)).any (·.1) = false := by rfl) : PE X (.Call (.Name x p) (e :: es) [] pos) (tCall sp [] E0 t) := by
  obtain ⟨f, fd, ps, G, hm, kp, b⟩ := c
  exact pe_call G (hr.mono hk) hg hm kp b .nil pass0 ha hdb he hpl
/-! ### the drawing state -/
def dS (c : Addr) (t : Int) : List (Key × V) := [(Sum.inr "cells", .ref c), (Sum.inr "turn", .int t)]
/-- at d stands a state of the law: its cells at c, its turn at most n -/
def StAt (H : Hp) (d c : Addr) (n : Nat) : Prop := d ≠ c ∧ ∃ (xs : List Int) (t : Int),
  H d = some (.dK (dS c t)) ∧ H c = some (.lst (xs.map V.int)) ∧ xs ≠ [] ∧ xs.length ≤ 63 ∧ 0 ≤ t ∧ t ≤ n
/-- all that was tracked stands, but d and c -/
def Kp (d c : Addr) (H H' : Hp) : Prop := ∀ b o, b ≠ d → b ≠ c → H b = some o → H' b = some o
theorem Kp.refl (d c : Addr) (H : Hp) : Kp d c H H := fun _ _ _ _ e => e
theorem Kp.trans {d c : Addr} {H H1 H2 : Hp} (a : Kp d c H H1) (b : Kp d c H1 H2) : Kp d c H H2 := fun x o h1 h2 e => b x o h1 h2 (a x o h1 h2 e)
theorem Kp.of {d c : Addr} {H H' : Hp} (s : Same H H') : Kp d c H H' := fun x o _ _ e => s x o e
theorem same_upd {H : Hp} {p : Addr} {o : HO} (h : H p = none) : Same H (upd H p o) := fun b x e => by
  rw [upd_ne (ne_of_none e h)]
  exact e
theorem same_put {H H' : Hp} {p : Addr} {o : HO} (s : Same H H') (h : H p = none) : Same H (upd H' p o) := fun b x e => by
  rw [upd_ne (ne_of_none e h)]
  exact s b x e
theorem kp_put {d c : Addr} {H H' : Hp} {p : Addr} {o : HO} (s : Kp d c H H') (h : H p = none) : Kp d c H (upd H' p o) := fun b x h1 h2 e => by
  rw [upd_ne (ne_of_none e h)]
  exact s b x h1 h2 e
theorem StAt.mono {H : Hp} {d c : Addr} {n m : Nat} (h : StAt H d c n) (k : n ≤ m) : StAt H d c m := by
  obtain ⟨h0, xs, t, h1, h2, h3, h4, h5, h6⟩ := h
  exact ⟨h0, xs, t, h1, h2, h3, h4, h5, by omega⟩
theorem StAt.same {H H' : Hp} {d c : Addr} {n : Nat} (h : StAt H d c n) (s : Same H H') : StAt H' d c n := by
  obtain ⟨h0, xs, t, h1, h2, h3, h4, h5, h6⟩ := h
  exact ⟨h0, xs, t, s _ _ h1, s _ _ h2, h3, h4, h5, h6⟩
theorem Kp.free {d c : Addr} {H H' : Hp} {n : Nat} {l : Addr} (k : Kp d c H H') (s : StAt H' d c n) (h : H' l = none) : H l = none := by
  obtain ⟨_, xs, t, h1, h2, _⟩ := s
  have n1 : l ≠ d := (ne_of_none h1 h).symm
  have n2 : l ≠ c := (ne_of_none h2 h).symm
  cases e : H l with
  | none => rfl
  | some o =>
    rw [k l o n1 n2 e] at h
    cases h
theorem StAt.ne1 {H : Hp} {d c : Addr} {n : Nat} {l : Addr} (s : StAt H d c n) (h : H l = none) : d ≠ l := by
  obtain ⟨_, xs, t, h1, h2, _⟩ := s
  exact ne_of_none h1 h
theorem StAt.ne2 {H : Hp} {d c : Addr} {n : Nat} {l : Addr} (s : StAt H d c n) (h : H l = none) : c ≠ l := by
  obtain ⟨_, xs, t, h1, h2, _⟩ := s
  exact ne_of_none h2 h
theorem StAt.put {H : Hp} {d c : Addr} {n : Nat} {l : Addr} {o : HO} (s : StAt H d c n) (n1 : d ≠ l) (n2 : c ≠ l) : StAt (upd H l o) d c n := by
  obtain ⟨h0, xs, t, h1, h2, h3, h4, h5, h6⟩ := s
  exact ⟨h0, xs, t, by rw [upd_ne n1]; exact h1, by rw [upd_ne n2]; exact h2, h3, h4, h5, h6⟩
theorem val_turn (c : Addr) (t : Int) : valV (dS c t) (Sum.inr "turn") = some (.int t) := by
  have e : ¬ ((Sum.inr (Str.ofString "cells") : Key) = Sum.inr (Str.ofString "turn")) := by decide +kernel
  unfold dS; rw [valV_neg e, valV_pos rfl]
theorem val_cells (c : Addr) (t : Int) : valV (dS c t) (Sum.inr "cells") = some (.ref c) := by
  unfold dS; rw [valV_pos rfl]
theorem put_turn (c : Addr) (t u : Int) : putK (dS c t) (Sum.inr "turn") (.int u) = dS c u := by
  have e : ¬ ((Sum.inr (Str.ofString "cells") : Key) = Sum.inr (Str.ofString "turn")) := by decide +kernel
  unfold putK dS
  simp [e]

theorem dget_turn {H : Hp} {d c : Addr} {t : Int} (h : H d = some (.dK (dS c t))) : DGet H d (.str "turn") (some (.int t)) := by
  rw [← val_turn c t]; exact DGet.k (k := Sum.inr "turn") h
theorem dget_cells {H : Hp} {d c : Addr} {t : Int} (h : H d = some (.dK (dS c t))) : DGet H d (.str "cells") (some (.ref c)) := by
  rw [← val_cells c t]; exact DGet.k (k := Sum.inr "cells") h
theorem dput_turn {H : Hp} {d c : Addr} {t : Int} (u : Int) (h : H d = some (.dK (dS c t))) : DPut H d (.str "turn") (.int u) (upd H d (.dK (dS c u))) := by
  rw [← put_turn c t u]; exact DPut.k (k := Sum.inr "turn") h (by show 2 < sizeLine; decide)
theorem ge18 (x : Int) : (decide ((10 : Int) ^ (18 : Int).toNat ≤ x) = true) ↔ 1000000000000000000 ≤ x := by
  have e : (10 : Int) ^ (18 : Int).toNat = 1000000000000000000 := by decide
  rw [e, decide_eq_true_eq]
theorem cmul_mod (a b : Int) {m : Int} (h0 : 0 < m) (h1 : m < 2 ^ 64) : CMul (a % m) b := by
  have p := Int.emod_nonneg a (show m ≠ 0 by omega)
  have q := Int.emod_lt_of_pos a h0
  exact .inl ⟨by omega, by omega⟩
theorem mod_at {xs : List Int} {u : Int} (hx : xs ≠ []) : ∃ (j : Nat) (y : Int), u % ((xs.map V.int).length : Int) = (j : Int) ∧ j < xs.length ∧ xs[j]? = some y := by
  have h0 : 0 < xs.length := List.length_pos_iff.mpr hx
  rw [List.length_map]
  have a := Int.emod_nonneg u (show (xs.length : Int) ≠ 0 by omega)
  have b := Int.emod_lt_of_pos u (show (0 : Int) < (xs.length : Int) by omega)
  refine ⟨(u % (xs.length : Int)).toNat, xs[(u % (xs.length : Int)).toNat]'(by omega), by omega, by omega, ?_⟩
  exact List.getElem?_eq_getElem _

section
variable {K : PySem.W.Frag}
theorem cut63 {xs : List V} (h : xs.length ≤ 63) : cutV xs none (some 63) = xs := by
  unfold cutV
  rw [HT.sIx_none, show HT.sIx xs.length xs.length (some 63) = min 63 xs.length from HT.sIx_nat xs.length xs.length 63, Nat.min_eq_right h]
  simp
theorem dp_ints {H : Hp} (ns : List Int) : DpAll K H (ns.map V.int) (ns.map PyData.int) := by
  induction ns with
  | nil => exact .nil
  | cons n r ih => exact .cons (.int n) ih
theorem same_tup {H H' : Hp} {a : Addr} {xs : List V} (e : Same H H') (h : SqT K H a xs) : SqT K H' a xs := by
  rcases h with (h | ⟨o, h⟩) | h
  · exact .inl (.inl (e _ _ h))
  · exact .inl (.inr ⟨o, e _ _ h⟩)
  · exact .inr h
mutual
theorem dp_same {H H' : Hp} (s : Same H H') : ∀ {v : V} {d : PyData}, Dp K H v d → Dp K H' v d
  | _, _, .non => .non
  | _, _, .bl b => .bl b
  | _, _, .int i => .int i
  | _, _, .str x => .str x
  | _, _, .lst h a => .lst (s.seq h) (dpAll_same s a)
  | _, _, .tup h a => .tup (same_tup s h) (dpAll_same s a)
theorem dpAll_same {H H' : Hp} (s : Same H H') : ∀ {vs : List V} {ds : List PyData}, DpAll K H vs ds → DpAll K H' vs ds
  | _, _, .nil => .nil
  | _, _, .cons h t => .cons (dp_same s h) (dpAll_same s t)
end
theorem dpAll_len {H : Hp} : ∀ {vs : List V} {ds : List PyData}, DpAll K H vs ds → vs.length = ds.length
  | _, _, .nil => rfl
  | _, _, .cons _ t => by rw [List.length_cons, List.length_cons, dpAll_len t]
theorem dpAll_at {H : Hp} : ∀ {vs : List V} {ds : List PyData} {i : Nat} {v : V}, DpAll K H vs ds → vs[i]? = some v → ∃ d, ds[i]? = some d ∧ Dp K H v d
  | _, _, _, _, .nil, h => by simp at h
  | _, _, 0, _, .cons h _, e => ⟨_, rfl, by cases e; exact h⟩
  | _, _, i + 1, _, .cons _ t, e => dpAll_at (i := i) t e
theorem depth_at : ∀ {ds : List PyData} {i : Nat} {d : PyData}, ds[i]? = some d → d.depth ≤ PyData.depthAll ds
  | [], _, _, h => by simp at h
  | x :: r, 0, d, h => by cases h; unfold PyData.depthAll; exact Nat.le_max_left ..
  | x :: r, i + 1, d, h => by
    have := depth_at (ds := r) (i := i) (d := d) h
    unfold PyData.depthAll
    exact Nat.le_trans this (Nat.le_max_right ..)
theorem tyx_list {H : Hp} {a : Addr} {xs : List V} (h : SqL K H a xs) : TyX K H (.ref a) (.type "list") := by
  rcases h with (h | ⟨o, h⟩) | ⟨o, its, n, h1, h2, _⟩
  · exact .base (.lst h)
  · exact .base (.frz h)
  · exact .kList h1 h2
theorem tyx_tup {H : Hp} {a : Addr} {xs : List V} (h : SqT K H a xs) : TyX K H (.ref a) (.type "tuple") := by
  rcases h with (h | ⟨o, h⟩) | ⟨o, its, n, h1, h2, _⟩
  · exact .base (.tup h)
  · exact .fTuple h
  · exact .kTuple h1 h2
theorem walk_zipT {a b : Addr} {xs ys : List V} {n : Nat} (hn : n = min xs.length ys.length) : Walk (RZ.ItzT K a b) n (fun H => SqT K H a xs ∧ SqT K H b ys) (YPair (fun i => xs[i]?) (fun i => ys[i]?)) := by
  subst hn
  refine ⟨fun i _ hi q => ?_, fun _ q => ⟨xs, ys, q.1, q.2, by omega⟩, fun i H v H' _ q y => ?_⟩
  · exact ⟨xs, ys, xs[i]'(by omega), ys[i]'(by omega), q.1, q.2, List.getElem?_eq_getElem _, List.getElem?_eq_getElem _⟩
  · obtain ⟨T, x, z, e1, e2, e3, e4, e5⟩ := y
    exact ⟨T, x, z, e1, e2, e3, e4 xs q.1, e5 ys q.2⟩
/-- the longest list within -/
def widAll : List PyData → Nat
  | [] => 0
  | x :: xs => max (wid x) (widAll xs)
where wid : PyData → Nat
  | .list xs => max xs.length (widAll xs)
  | .tuple xs => max xs.length (widAll xs)
  | _ => 0
theorem wid_at : ∀ {ds : List PyData} {i : Nat} {d : PyData}, ds[i]? = some d → widAll.wid d ≤ widAll ds
  | [], _, _, h => by simp at h
  | x :: r, 0, d, h => by cases h; unfold widAll; exact Nat.le_max_left ..
  | x :: r, i + 1, d, h => by
    have := wid_at (ds := r) (i := i) (d := d) h
    unfold widAll
    exact Nat.le_trans this (Nat.le_max_right ..)
theorem depth_ints (ns : List Int) : (PyData.list (ns.map PyData.int)).depth = 1 := by
  have h : ∀ l : List Int, PyData.depthAll (l.map PyData.int) = 0 := by
    intro l
    induction l with
    | nil => rfl
    | cons x r ih =>
      show max 0 (PyData.depthAll (r.map PyData.int)) = 0
      rw [ih]
      rfl
  show PyData.depthAll (ns.map PyData.int) + 1 = 1
  rw [h]
theorem wid_ints (ns : List Int) : widAll.wid (PyData.list (ns.map PyData.int)) = ns.length := by
  have h : ∀ l : List Int, widAll (l.map PyData.int) = 0 := by
    intro l
    induction l with
    | nil => rfl
    | cons x r ih =>
      show max 0 (widAll (r.map PyData.int)) = 0
      rw [ih]
      rfl
  show max (ns.map PyData.int).length (widAll (ns.map PyData.int)) = ns.length
  rw [h, List.length_map, Nat.max_zero]
theorem flat_ints (ns : List Int) : (ns.map V.int).all flatV = true := by
  rw [List.all_eq_true]
  intro x hx
  obtain ⟨k, _, rfl⟩ := List.mem_map.mp hx
  rfl
end
section
variable {P : Program} {w : World} {K : PySem.W.Frag} {mg : Str → Option Value} {base : Heap}
/-- a def with values that may be left out -/
abbrev FunV (K : PySem.W.Frag) (x : Str) (st : Stmt) (dvs : List V) (f : Addr) (fd : FuncData) : Prop := FunD K x x (defArgs st) (defBody st) (defScope st) dvs [] f fd
theorem okD {x : Str} {st : Stmt} {dvs : List V} {f : Addr} {fd : FuncData} {N ps : List Str} {k : Nat} {sp : Sp} (F : FunV K x st dvs f fd) (S : FnScope N ps (defScope st)) (len : ∀ vs H Q E, sp vs H Q E → vs.length = ps.length)
    (body : ∀ (cdv : Value) (A : Around) (outer : List Env) (s : Shared) (H : Hp) (vs : List V) (Q : VK) (E : XK), Room k (A.deeper (envOfC x (defScope st) s.heap.objs.size f cdv)) → sp vs H Q E →
      ∃ t, PSs (cxOf CX0 P w K mg base N x (defScope st) f cdv A outer s H E).nox (defBody st) t ∧ t { nx := fun _ H' => Q .non H', rt := Q } (start N vs) H) : FnOk P w K mg base CX0 (k + 1) f fd ps sp :=
  FunD.ok F S len fun cdv A outer s H vs Q E hr h => by
    obtain ⟨t, ht, hq⟩ := body cdv A outer s H vs Q E hr h
    exact ⟨t, ht.nox, hq⟩
/-- a def that may be called by its name, the values ds being left out -/
def ClD (P : Program) (w : World) (K : PySem.W.Frag) (mg : Str → Option Value) (base : Heap) (k : Nat) (x : Str) (ds : List V) (sp : Sp) : Prop :=
  ∃ (f : Addr) (fd : FuncData) (ps : List Str) (dus : List Value), FnOk P w K mg base CX0 k f fd ps sp ∧ mg x = some (.ref f) ∧ PySem.W.keepIn K (.ref f) = true ∧ Binds K fd ps dus ∧ Vals ds dus
theorem pe_cd {X : Cx} {k j : Nat} {x : Str} {ds : List V} {sp : Sp} {e : Expr} {es : List Expr} {t : TA} {p pos : Pos} (c : ClD X.prog X.w X.K X.mg X.base k x ds sp) (hr : Room j X.A) (hk : k ≤ j) (hg : Gl X x) (ha : PA X (e :: es) t) (hdb : (x == ("__debug__" : Str)) = false := by decide)
    (he : starEach (e :: es) X.env = (false, eval e X.env) :: starEach es X.env := by rfl) (hpl : (backTo pos (starEach es X.env)).any (·.1) = false := by rfl) : PE X (.Call (.Name x p) (e :: es) [] pos) (tCall sp ds E0 t) := by
  obtain ⟨f, fd, ps, dus, G, hm, kp, b, dv⟩ := c
  exact pe_call G (hr.mono hk) hg hm kp b dv pass0 ha hdb he hpl
theorem Cl.mono {k j : Nat} {x : Str} {sp : Sp} (c : Cl P w K mg base k x sp) (h : k ≤ j) : Cl P w K mg base j x sp := by
  obtain ⟨f, fd, ps, G, r⟩ := c
  exact ⟨f, fd, ps, G.mono h, r⟩
end
end Pot

namespace Pot
open PySem PySem.Spec PyProof.Rows L2
/-! ### a box of three numbers from which is drawn, and all that stands beside it -/
def Bx (H : Hp) (b : Addr) : Prop := ∃ x y z : Int, H b = some (.lst [.int x, .int y, .int z])
/-- the heap without some -/
def off (H : Hp) (S : List Addr) : Hp := fun x => if x ∈ S then none else H x
theorem off_in {H : Hp} {S : List Addr} {x : Addr} (h : x ∈ S) : off H S x = none := if_pos h
theorem off_out {H : Hp} {S : List Addr} {x : Addr} (h : x ∉ S) : off H S x = H x := if_neg h
theorem off_mem {H : Hp} {S : List Addr} {x : Addr} {o : HO} (h : off H S x = some o) : x ∉ S := fun e => by rw [off_in e] at h; cases h
theorem off_sub {H : Hp} {S : List Addr} : Same (off H S) H := fun x o h => by
  have n := off_mem h
  rw [off_out n] at h; exact h
theorem off_mono {H : Hp} {S T : List Addr} (h : ∀ x ∈ T, x ∈ S) : Same (off H S) (off H T) := fun x o e => by
  have n := off_mem e
  rw [off_out n] at e
  rw [off_out fun z => n (h x z)]; exact e
/-- what stands beside S stands -/
abbrev Sm (S : List Addr) (H H' : Hp) : Prop := Same (off H S) (off H' S)
theorem sm_mono {H H' : Hp} {S T : List Addr} (h : ∀ x ∈ T, x ∈ S) (s : Sm T H H') : Sm S H H' := fun x o e => by
  have n := off_mem e
  rw [off_out n] at e ⊢
  have n2 : x ∉ T := fun z => n (h x z)
  have := s x o (by rw [off_out n2]; exact e)
  rw [off_out n2] at this; exact this
theorem sm_one {H H' : Hp} {S : List Addr} {b : Addr} (h : b ∈ S) (s : Sm [b] H H') : Sm S H H' := sm_mono (fun x hx => by rw [List.mem_singleton.mp hx]; exact h) s
theorem sm_of {H H' : Hp} {S : List Addr} (s : Same H H') : Sm S H H' := fun x o h => by
  have n := off_mem h
  rw [off_out n] at h ⊢; exact s x o h
theorem sm_put {H : Hp} {S : List Addr} {p : Addr} {o : HO} (h : H p = none) : Sm S H (upd H p o) := sm_of (same_upd h)
theorem sm_wr {H : Hp} {S : List Addr} {p : Addr} {o : HO} (h : p ∈ S) : Sm S H (upd H p o) := fun x u e => by
  have n := off_mem e
  rw [off_out n] at e ⊢
  have ne : x ≠ p := fun z => n (by rw [z]; exact h)
  rw [upd_ne ne]; exact e
theorem at_off {H : Hp} {S : List Addr} {x : Addr} {o : HO} (h : off H S x = some o) : H x = some o := off_sub x o h
theorem Bx.bx {H : Hp} {b : Addr} (B : Bx H b) : Bx H b := B
theorem Bx.ne {H : Hp} {b p : Addr} (B : Bx H b) (h : H p = none) : p ≠ b := fun e => by
  obtain ⟨x, y, z, B⟩ := B
  rw [e, B] at h; cases h
theorem Bx.same {H H' : Hp} {b : Addr} (B : Bx H b) (s : Same H H') : Bx H' b := by
  obtain ⟨x, y, z, B⟩ := B
  exact ⟨x, y, z, s _ _ B⟩
theorem Bx.put {H : Hp} {b p : Addr} {o : HO} (B : Bx H b) (h : H p = none) : Bx (upd H p o) b := B.same (same_upd h)
theorem Bx.wr {H : Hp} {b p : Addr} {o : HO} (B : Bx H b) (h : p ≠ b) : Bx (upd H p o) b := by
  obtain ⟨x, y, z, B⟩ := B
  exact ⟨x, y, z, by rw [upd_ne h.symm]; exact B⟩
/-- all of S are there -/
def Live (S : List Addr) (H : Hp) : Prop := ∀ s ∈ S, H s ≠ none
theorem Live.same {S : List Addr} {H H' : Hp} (L : Live S H) (s : Same H H') : Live S H' := fun x hx e => by
  cases h : H x with
  | none => exact L x hx h
  | some o => rw [s x o h] at e; cases e
theorem Live.box {S : List Addr} {H H' : Hp} {b : Addr} (L : Live S H) (B : Bx H' b) (s : Sm [b] H H') : Live S H' := fun x hx e => by
  by_cases hb : x = b
  · obtain ⟨_, _, _, B⟩ := B
    rw [hb, B] at e; cases e
  · have n : x ∉ [b] := fun z => hb (List.mem_singleton.mp z)
    cases h : H x with
    | none => exact L x hx h
    | some o =>
      have := s x o (by rw [off_out n]; exact h)
      rw [off_out n, e] at this; cases this
theorem Live.put {S : List Addr} {H : Hp} {p : Addr} {o : HO} (L : Live S H) (h : H p = none) : Live S (upd H p o) := L.same (same_upd h)
theorem Live.wr {S : List Addr} {H : Hp} {p : Addr} {o : HO} (L : Live S H) : Live S (upd H p o) := fun x hx e => by
  by_cases hp : x = p
  · rw [hp, upd_same] at e; cases e
  · rw [upd_ne hp] at e; exact L x hx e
theorem Live.one {H : Hp} {b : Addr} (B : Bx H b) : Live [b] H := fun x hx e => by
  obtain ⟨_, _, _, B⟩ := B
  rw [List.mem_singleton.mp hx, B] at e; cases e
theorem Live.out {S : List Addr} {H : Hp} {p : Addr} (L : Live S H) (h : H p = none) : p ∉ S := fun z => L p z h
theorem Live.cons {S : List Addr} {H : Hp} {p : Addr} {o : HO} (L : Live S H) (h : H p = some o) : Live (p :: S) H := fun x hx e => by
  rcases List.mem_cons.mp hx with z | z
  · rw [z, h] at e; cases e
  · exact L x z e
theorem off_new {H : Hp} {S : List Addr} {p : Addr} {o : HO} (L : Live S H) (h : H p = none) : off (upd H p o) S p = some o := by
  rw [off_out (L.out h)]; exact upd_same
theorem off_upd {H : Hp} {S : List Addr} {p : Addr} {o : HO} (h : p ∉ S) : off (upd H p o) S p = some o := by
  rw [off_out h]; exact upd_same
section
variable {K : PySem.W.Frag}
theorem sq_off {H : Hp} {S : List Addr} {a : Addr} {xs : List V} (h : SqL K (off H S) a xs) : SqL K H a xs := off_sub.seq h
theorem sqt_off {H : Hp} {S : List Addr} {a : Addr} {xs : List V} (h : SqT K (off H S) a xs) : SqT K H a xs := same_tup off_sub h
theorem dp_off {H : Hp} {S : List Addr} {v : V} {d : PyData} (h : Dp K (off H S) v d) : Dp K H v d := dp_same off_sub h
/-- a new list is none of S, beside which the rest stands as it was -/
theorem off_fresh {H : Hp} {S : List Addr} {p : Addr} {o : HO} (h : H p = none) : off (upd H p o) (p :: S) = off H S := by
  funext x; unfold off
  by_cases e : x = p
  · subst e
    rw [if_pos List.mem_cons_self, h]
    split <;> rfl
  · have : (x ∈ p :: S) ↔ x ∈ S := by rw [List.mem_cons]; exact ⟨fun z => z.resolve_left e, .inr⟩
    by_cases m : x ∈ S
    · rw [if_pos m, if_pos (this.mpr m)]
    · rw [if_neg m, if_neg fun z => m (this.mp z), upd_ne e]
end
/-! ### what is made of numbers, texts, truths, None, lists and tuples -/
/-- numbers within m, texts of at most 2000 signs -/
def gdAll (m : Nat) : List PyData → Prop
  | [] => True
  | x :: xs => gd m x ∧ gdAll m xs
where gd (m : Nat) : PyData → Prop
  | .none => True
  | .bool _ => True
  | .int i => i.natAbs ≤ m
  | .str x => x.length ≤ 2000 ∧ ∀ c ∈ x.cps.toList, c < 1114112
  | .list xs => gdAll m xs
  | .tuple xs => gdAll m xs
  | .dict _ => False
abbrev gd (m : Nat) (d : PyData) : Prop := gdAll.gd m d
theorem gdAll_iff {m : Nat} : ∀ {ds : List PyData}, gdAll m ds ↔ ∀ d ∈ ds, gd m d
  | [] => ⟨fun _ _ h => (List.not_mem_nil h).elim, fun _ => trivial⟩
  | x :: xs => by
    constructor
    · intro h d hd
      rcases List.mem_cons.mp hd with e | e
      · rw [e]; exact h.1
      · exact gdAll_iff.mp h.2 d e
    · intro h
      exact ⟨h x List.mem_cons_self, gdAll_iff.mpr fun d hd => h d (List.mem_cons_of_mem _ hd)⟩
mutual
theorem gd_mono {m n : Nat} (h : m ≤ n) : ∀ d : PyData, gd m d → gd n d
  | .none, _ => trivial
  | .bool _, _ => trivial
  | .int i, g => Nat.le_trans g h
  | .str _, g => g
  | .list xs, g => gdAll_mono h xs g
  | .tuple xs, g => gdAll_mono h xs g
  | .dict _, g => g.elim
theorem gdAll_mono {m n : Nat} (h : m ≤ n) : ∀ ds : List PyData, gdAll m ds → gdAll n ds
  | [], _ => trivial
  | x :: xs, g => ⟨gd_mono h x g.1, gdAll_mono h xs g.2⟩
end
theorem log_small' {i : Int} (h : i.natAbs ≤ 2000000) : i.natAbs.log2 < 1920 := by
  by_cases z : i.natAbs = 0
  · rw [z]; decide
  · have := (Nat.log2_lt z).mpr (show i.natAbs < 2 ^ 21 from Nat.lt_of_le_of_lt h (by decide))
    omega
mutual
theorem gd_fine {m : Nat} (h : m ≤ 2000000) : ∀ d : PyData, gd m d → fineAll.fine d
  | .none, _ => trivial
  | .bool _, _ => trivial
  | .int i, g => log_small' (Nat.le_trans g h)
  | .str _, g => fun c hc => Nat.lt_trans (g.2 c hc) (by decide)
  | .list xs, g => gdAll_fine h xs g
  | .tuple xs, g => gdAll_fine h xs g
  | .dict _, g => g.elim
theorem gdAll_fine {m : Nat} (h : m ≤ 2000000) : ∀ ds : List PyData, gdAll m ds → fineAll ds
  | [], _ => trivial
  | x :: xs, g => ⟨gd_fine h x g.1, gdAll_fine h xs g.2⟩
end
theorem costAll_app (xs ys : List PyData) : costAll (xs ++ ys) = costAll xs + costAll ys := by
  induction xs with
  | nil => simp [costAll]
  | cons x xs ih => simp only [List.cons_append, costAll, ih]; omega
theorem cost_mem {ds : List PyData} {d : PyData} (h : d ∈ ds) : costAll.cost d + 2 ≤ costAll ds := by
  induction ds with
  | nil => exact (List.not_mem_nil h).elim
  | cons x xs ih =>
    show _ ≤ costAll.cost x + 2 + costAll xs
    rcases List.mem_cons.mp h with e | e
    · rw [e]; omega
    · have := ih e; omega
theorem len_cost : ∀ ds : List PyData, 2 * ds.length ≤ costAll ds
  | [] => Nat.le_refl _
  | x :: xs => by
    have := len_cost xs
    show 2 * (xs.length + 1) ≤ costAll.cost x + 2 + costAll xs
    omega
theorem depthAll_iff {D : Nat} : ∀ {ds : List PyData}, PyData.depthAll ds ≤ D ↔ ∀ d ∈ ds, d.depth ≤ D
  | [] => ⟨fun _ _ h => (List.not_mem_nil h).elim, fun _ => Nat.zero_le _⟩
  | x :: xs => by
    show max x.depth (PyData.depthAll xs) ≤ D ↔ _
    rw [Nat.max_le, depthAll_iff (ds := xs)]
    constructor
    · rintro ⟨h1, h2⟩ d hd
      rcases List.mem_cons.mp hd with e | e
      · rw [e]; exact h1
      · exact h2 d e
    · intro h
      exact ⟨h x List.mem_cons_self, fun d hd => h d (List.mem_cons_of_mem _ hd)⟩
/-- rows of parts: of numbers within m, their cost, how deep and how wide each -/
structure Ths (m C D W : Nat) (ds : List PyData) : Prop where
  g : ∀ d ∈ ds, gd m d
  c : costAll ds ≤ C
  d : ∀ d ∈ ds, d.depth ≤ D
  w : ∀ d ∈ ds, widAll.wid d ≤ W
/-- a thing: of numbers within m, its cost, how deep, how wide -/
structure Th (m C D W : Nat) (dd : PyData) : Prop where
  g : gd m dd
  c : costAll.cost dd ≤ C
  d : dd.depth ≤ D
  w : widAll.wid dd ≤ W
theorem widAll_iff {D : Nat} : ∀ {ds : List PyData}, widAll ds ≤ D ↔ ∀ d ∈ ds, widAll.wid d ≤ D
  | [] => ⟨fun _ _ h => (List.not_mem_nil h).elim, fun _ => Nat.zero_le _⟩
  | x :: xs => by
    show max (widAll.wid x) (widAll xs) ≤ D ↔ _
    rw [Nat.max_le, widAll_iff (ds := xs)]
    constructor
    · rintro ⟨h1, h2⟩ d hd
      rcases List.mem_cons.mp hd with e | e
      · rw [e]; exact h1
      · exact h2 d e
    · intro h
      exact ⟨h x List.mem_cons_self, fun d hd => h d (List.mem_cons_of_mem _ hd)⟩
section
variable {m n C E D F W U : Nat} {d x : PyData} {ds xs ys : List PyData}
theorem Th.mono (h : Th m C D W d) (a : m ≤ n) (b : C ≤ E) (c : D ≤ F) (e : W ≤ U) : Th n E F U d := ⟨gd_mono a d h.g, Nat.le_trans h.c b, Nat.le_trans h.d c, Nat.le_trans h.w e⟩
theorem Ths.mono (h : Ths m C D W ds) (a : m ≤ n) (b : C ≤ E) (c : D ≤ F) (e : W ≤ U) : Ths n E F U ds := ⟨fun x hx => gd_mono a x (h.g x hx), Nat.le_trans h.c b, fun x hx => Nat.le_trans (h.d x hx) c, fun x hx => Nat.le_trans (h.w x hx) e⟩
theorem Ths.app (h : Ths m C D W xs) (k : Ths m E D W ys) : Ths m (C + E) D W (xs ++ ys) :=
  ⟨fun d hd => (List.mem_append.mp hd).elim (h.g d) (k.g d), by rw [costAll_app]; exact Nat.add_le_add h.c k.c, fun d hd => (List.mem_append.mp hd).elim (h.d d) (k.d d), fun d hd => (List.mem_append.mp hd).elim (h.w d) (k.w d)⟩
theorem Ths.nil : Ths m 0 D W [] := ⟨fun _ h => (List.not_mem_nil h).elim, Nat.le_refl _, fun _ h => (List.not_mem_nil h).elim, fun _ h => (List.not_mem_nil h).elim⟩
theorem Ths.one (h : Th m C D W x) : Ths m (C + 2) D W [x] :=
  ⟨fun d hd => by rw [List.mem_singleton.mp hd]; exact h.g, by show costAll.cost x + 2 + 0 ≤ _; have := h.c; omega, fun d hd => by rw [List.mem_singleton.mp hd]; exact h.d, fun d hd => by rw [List.mem_singleton.mp hd]; exact h.w⟩
theorem Ths.mem (h : Ths m C D W ds) (e : d ∈ ds) : Th m C D W d := ⟨h.g d e, by have := cost_mem e; have := h.c; omega, h.d d e, h.w d e⟩
theorem Ths.len (h : Ths m C D W ds) : 2 * ds.length ≤ C := Nat.le_trans (len_cost ds) h.c
theorem Ths.list (h : Ths m C D W ds) (l : ds.length ≤ W) : Th m (C + 3) (D + 1) W (.list ds) :=
  ⟨gdAll_iff.mpr h.g, by show costAll ds + 3 ≤ _; have := h.c; omega, by show PyData.depthAll ds + 1 ≤ _; have := depthAll_iff.mpr h.d; omega, by show max ds.length (widAll ds) ≤ W; exact Nat.max_le.mpr ⟨l, widAll_iff.mpr h.w⟩⟩
theorem Ths.tuple (h : Ths m C D W ds) (l : ds.length ≤ W) : Th m (C + 3) (D + 1) W (.tuple ds) :=
  ⟨gdAll_iff.mpr h.g, by show costAll ds + 3 ≤ _; have := h.c; omega, by show PyData.depthAll ds + 1 ≤ _; have := depthAll_iff.mpr h.d; omega, by show max ds.length (widAll ds) ≤ W; exact Nat.max_le.mpr ⟨l, widAll_iff.mpr h.w⟩⟩
theorem Th.ofList (h : Th m C D W (.list ds)) : Ths m (C - 3) (D - 1) W ds ∧ ds.length ≤ W ∧ 3 ≤ C ∧ 1 ≤ D := by
  have h1 : costAll ds + 3 ≤ C := h.c
  have h2 : PyData.depthAll ds + 1 ≤ D := h.d
  have h3 : max ds.length (widAll ds) ≤ W := h.w
  exact ⟨⟨gdAll_iff.mp h.g, by omega, depthAll_iff.mp (by omega), widAll_iff.mp (Nat.le_trans (Nat.le_max_right ..) h3)⟩, Nat.le_trans (Nat.le_max_left ..) h3, by omega, by omega⟩
theorem Th.ofTuple (h : Th m C D W (.tuple ds)) : Ths m (C - 3) (D - 1) W ds ∧ ds.length ≤ W ∧ 3 ≤ C ∧ 1 ≤ D := by
  have h1 : costAll ds + 3 ≤ C := h.c
  have h2 : PyData.depthAll ds + 1 ≤ D := h.d
  have h3 : max ds.length (widAll ds) ≤ W := h.w
  exact ⟨⟨gdAll_iff.mp h.g, by omega, depthAll_iff.mp (by omega), widAll_iff.mp (Nat.le_trans (Nat.le_max_right ..) h3)⟩, Nat.le_trans (Nat.le_max_left ..) h3, by omega, by omega⟩
theorem costAll_take (n : Nat) (ds : List PyData) : costAll (ds.take n) ≤ costAll ds := by
  have := costAll_app (ds.take n) (ds.drop n)
  rw [List.take_append_drop] at this; omega
theorem costAll_drop (n : Nat) (ds : List PyData) : costAll (ds.drop n) ≤ costAll ds := by
  have := costAll_app (ds.take n) (ds.drop n)
  rw [List.take_append_drop] at this; omega
theorem costAll_rev : ∀ ds : List PyData, costAll ds.reverse = costAll ds
  | [] => rfl
  | x :: xs => by rw [List.reverse_cons, costAll_app, costAll_rev xs]; show _ + (costAll.cost x + 2 + 0) = costAll.cost x + 2 + costAll xs; omega
theorem Ths.sub (h : Ths m C D W ds) (s : ∀ x ∈ xs, x ∈ ds) (c : costAll xs ≤ C) : Ths m C D W xs := ⟨fun d hd => h.g d (s d hd), c, fun d hd => h.d d (s d hd), fun d hd => h.w d (s d hd)⟩
theorem Ths.take (h : Ths m C D W ds) (n : Nat) : Ths m C D W (ds.take n) := h.sub (fun d hd => List.mem_of_mem_take hd) (Nat.le_trans (costAll_take n ds) h.c)
theorem Ths.drop (h : Ths m C D W ds) (n : Nat) : Ths m C D W (ds.drop n) := h.sub (fun d hd => List.mem_of_mem_drop hd) (Nat.le_trans (costAll_drop n ds) h.c)
theorem Ths.rev (h : Ths m C D W ds) : Ths m C D W ds.reverse := h.sub (fun d hd => List.mem_reverse.mp hd) (by rw [costAll_rev]; exact h.c)
theorem costAll_set : ∀ (ds : List PyData) (i : Nat) (x : PyData), costAll (ds.set i x) ≤ costAll ds + (costAll.cost x + 2)
  | [], _, _ => Nat.zero_le _
  | y :: ys, 0, x => by show costAll.cost x + 2 + costAll ys ≤ costAll.cost y + 2 + costAll ys + _; omega
  | y :: ys, i + 1, x => by
    have := costAll_set ys i x
    show costAll.cost y + 2 + costAll (ys.set i x) ≤ costAll.cost y + 2 + costAll ys + _
    omega
theorem Ths.set {i : Nat} (h : Ths m C D W ds) (k : Th m E D W x) : Ths m (C + E + 2) D W (ds.set i x) :=
  ⟨fun d hd => (List.mem_or_eq_of_mem_set hd).elim (h.g d) fun e => by rw [e]; exact k.g, Nat.le_trans (costAll_set ds i x) (by have := h.c; have := k.c; omega), fun d hd => (List.mem_or_eq_of_mem_set hd).elim (h.d d) fun e => by rw [e]; exact k.d, fun d hd => (List.mem_or_eq_of_mem_set hd).elim (h.w d) fun e => by rw [e]; exact k.w⟩
end
section
variable {K : PySem.W.Frag} {H : Hp}
theorem dpAll_app' : ∀ {xs ys : List V} {ds es : List PyData}, DpAll K H xs ds → DpAll K H ys es → DpAll K H (xs ++ ys) (ds ++ es)
  | _, _, _, _, .nil, h => h
  | _, _, _, _, .cons h t, h2 => .cons h (dpAll_app' t h2)
theorem dpAll_take : ∀ {xs : List V} {ds : List PyData} (n : Nat), DpAll K H xs ds → DpAll K H (xs.take n) (ds.take n)
  | _, _, 0, _ => .nil
  | _, _, _ + 1, .nil => .nil
  | _, _, n + 1, .cons h t => .cons h (dpAll_take n t)
theorem dpAll_drop : ∀ {xs : List V} {ds : List PyData} (n : Nat), DpAll K H xs ds → DpAll K H (xs.drop n) (ds.drop n)
  | _, _, 0, h => h
  | _, _, _ + 1, .nil => .nil
  | _, _, n + 1, .cons _ t => dpAll_drop n t
theorem dpAll_rev : ∀ {xs : List V} {ds : List PyData}, DpAll K H xs ds → DpAll K H xs.reverse ds.reverse
  | _, _, .nil => .nil
  | _, _, .cons h t => by rw [List.reverse_cons, List.reverse_cons]; exact dpAll_app' (dpAll_rev t) (.cons h .nil)
theorem dpAll_set : ∀ {xs : List V} {ds : List PyData} {i : Nat} {v : V} {d : PyData}, DpAll K H xs ds → Dp K H v d → DpAll K H (xs.set i v) (ds.set i d)
  | _, _, _, _, _, .nil, _ => .nil
  | _, _, 0, _, _, .cons _ t, k => .cons k t
  | _, _, _ + 1, _, _, .cons h t, k => .cons h (dpAll_set t k)
/-- a slice of a row of parts -/
theorem dp_cut {xs : List V} {ds : List PyData} {lo hi : Option Int} {m C D W : Nat} (h : DpAll K H xs ds) (t : Ths m C D W ds) : ∃ es, DpAll K H (cutV xs lo hi) es ∧ Ths m C D W es ∧ es.length ≤ ds.length := by
  unfold cutV
  exact ⟨_, dpAll_take _ (dpAll_drop _ h), (t.drop _).take _, by rw [List.length_take, List.length_drop]; omega⟩
theorem dp_lst' {v : V} {ds : List PyData} (h : Dp K H v (.list ds)) : ∃ a xs, v = .ref a ∧ SqL K H a xs ∧ DpAll K H xs ds := by
  cases h with
  | lst h a => exact ⟨_, _, rfl, h, a⟩
end
end Pot
namespace Pot
open PySem PySem.Spec PyProof.Rows L2
theorem sm_at {H H' : Hp} {S : List Addr} {x : Addr} {o : HO} (s : Sm S H H') (n : x ∉ S) (h : H x = some o) : H' x = some o := by
  have := s x o (by rw [off_out n]; exact h)
  rw [off_out n] at this; exact this
theorem sm1_at {H H' : Hp} {b x : Addr} {o : HO} (s : Sm [b] H H') (n : x ≠ b) (h : H x = some o) : H' x = some o := sm_at s (fun z => n (List.mem_singleton.mp z)) h
theorem smp {H H' : Hp} {S : List Addr} {p : Addr} {o : HO} (s : Sm S H H') (h : H p = none) : Sm S H (upd H' p o) := fun x u e => by
  have n := off_mem e
  have ne : x ≠ p := fun z => by
    rw [off_out n, z, h] at e; cases e
  have := s x u e
  rw [off_out n] at this ⊢
  rw [upd_ne ne]; exact this
theorem sm_free {H H' : Hp} {b l : Addr} (s : Sm [b] H H') (B : Bx H' b) (h : H' l = none) : H l = none := by
  have nb := B.ne h
  have n : l ∉ [b] := fun z => nb (List.mem_singleton.mp z)
  cases e : H l with
  | none => rfl
  | some o => rw [sm_at s n e] at h; cases h
theorem cut_map {α : Type} (f : α → V) (ns : List α) (lo hi : Option Int) : cutV (ns.map f) lo hi = ((ns.drop (HT.sIx ns.length 0 lo)).take (HT.sIx ns.length ns.length hi - HT.sIx ns.length 0 lo)).map f := by
  unfold cutV
  rw [List.length_map, List.map_take, List.map_drop]
theorem cut_head {xs : List V} {k : Nat} : cutV xs none (some (k : Int)) = xs.take k := by
  unfold cutV
  rw [HT.sIx_none, HT.sIx_nat, List.drop_zero, Nat.sub_zero]
  by_cases h : k ≤ xs.length
  · rw [Nat.min_eq_left h]
  · rw [Nat.min_eq_right (by omega), List.take_length, List.take_of_length_le (by omega)]
theorem cut_tail {xs : List V} {k : Nat} : cutV xs (some (k : Int)) none = xs.drop k := by
  unfold cutV
  rw [HT.sIx_none, HT.sIx_nat]
  by_cases h : k ≤ xs.length
  · rw [Nat.min_eq_left h, List.take_of_length_le (by rw [List.length_drop]; exact Nat.le_refl _)]
  · rw [Nat.min_eq_right (by omega), Nat.sub_self, List.take_zero, List.drop_of_length_le (by omega)]
end Pot
namespace Pot
open PySem PySem.Spec PyProof.Rows L2
section
variable {K : PySem.W.Frag} {H : Hp} {t : Addr} {d : PyData} {ds : List PyData}
theorem seq_dp {x : V} (h : Dp K H x d) (e : d = .list ds ∨ d = .tuple ds) : ∃ t zs, x = .ref t ∧ (SqL K H t zs ∨ SqT K H t zs) ∧ DpAll K H zs ds := by
  rcases e with rfl | rfl
  · cases h with
    | lst h a => exact ⟨_, _, rfl, .inl h, a⟩
  · cases h with
    | tup h a => exact ⟨_, _, rfl, .inr h, a⟩
theorem len_dp (h : Dp K H (.ref t) d) (e : d = .list ds ∨ d = .tuple ds) : LenV K (.ref t) H ds.length := by
  rcases e with rfl | rfl
  · cases h with
    | lst h a => exact .inl ⟨_, h, (dpAll_len a).symm⟩
  · cases h with
    | tup h a => exact .inr ⟨_, h, (dpAll_len a).symm⟩
theorem Th.parts {m C D W : Nat} (h : Th m C D W d) (e : d = .list ds ∨ d = .tuple ds) : Ths m (C - 3) (D - 1) W ds ∧ ds.length ≤ W ∧ 3 ≤ C ∧ 1 ≤ D := by
  rcases e with rfl | rfl
  · exact h.ofList
  · exact h.ofTuple
end
theorem sm_in {H H' : Hp} {S : List Addr} {x : Addr} {o : HO} (s : Sm S H H') (h : off H S x = some o) : off H' S x = some o := s x o h
end Pot
namespace Pot
open PySem PySem.Spec PyProof.Rows L2
theorem costAll_set_eq : ∀ {ds : List PyData} {i : Nat} {x y : PyData}, ds[i]? = some y → costAll (ds.set i x) + costAll.cost y = costAll ds + costAll.cost x
  | [], _, _, _, h => by simp at h
  | z :: zs, 0, x, y, h => by
    have e : z = y := by simpa using h
    subst e
    show costAll.cost x + 2 + costAll zs + costAll.cost z = costAll.cost z + 2 + costAll zs + costAll.cost x
    omega
  | z :: zs, i + 1, x, y, h => by
    have := costAll_set_eq (ds := zs) (i := i) (x := x) (y := y) (by simpa using h)
    show costAll.cost z + 2 + costAll (zs.set i x) + costAll.cost y = costAll.cost z + 2 + costAll zs + costAll.cost x
    omega
theorem codes_ofString (s : String) : ∀ c ∈ (Str.ofString s).cps.toList, c < 1114112 := by
  intro c hc
  rw [Str.ofString_eq_toList] at hc
  have : c ∈ s.toList.map Char.toNat := by simpa using hc
  obtain ⟨ch, _, rfl⟩ := List.mem_map.mp this
  have v := ch.valid
  have e : ch.toNat = ch.val.toNat := rfl
  rcases v with v | ⟨_, v⟩
  · have : ch.val.toNat < 0xD800 := v
    omega
  · have : ch.val.toNat < 0x110000 := v
    omega
theorem th_text {i : Int} (h : i.natAbs ≤ 2000000) {m : Nat} : Th m 19212 0 0 (.str (toString i)) := by
  have l : (Str.ofString (toString i)).length ≤ 1921 := PyProof.Rows.int_text_len_1921 (log_small' h)
  exact ⟨⟨by omega, codes_ofString _⟩, by show 10 * (Str.ofString (toString i)).length + 2 ≤ 19212; omega, Nat.le_refl _, Nat.le_refl _⟩
end Pot

namespace Pot
open PySem PySem.Spec PyProof.Rows L2
theorem Ths.parts2 {m C E D W a b : Nat} {ds es : List PyData} (h : Ths m C D W ds) (hab : a ≤ b) (k : Ths m E D W es) : Ths m (C + E) D W (ds.take a ++ es ++ ds.drop b) := by
  have mem : ∀ d, d ∈ ds.take a ++ es ++ ds.drop b → d ∈ ds ∨ d ∈ es := fun d hd => by
    rcases List.mem_append.mp hd with z | z
    · rcases List.mem_append.mp z with y | y
      · exact .inl (List.mem_of_mem_take y)
      · exact .inr y
    · exact .inl (List.mem_of_mem_drop z)
  refine ⟨fun d hd => (mem d hd).elim (h.g d) (k.g d), ?_, fun d hd => (mem d hd).elim (h.d d) (k.d d), fun d hd => (mem d hd).elim (h.w d) (k.w d)⟩
  rw [costAll_app, costAll_app]
  have e := costAll_app (ds.take a) (ds.drop a)
  rw [List.take_append_drop] at e
  have e2 : ds.drop b = (ds.drop a).drop (b - a) := by rw [List.drop_drop]; congr 1; omega
  have e3 := costAll_drop (b - a) (ds.drop a)
  rw [← e2] at e3
  have := h.c
  have := k.c
  omega
end Pot

namespace Pot
open PySem PySem.Spec PyProof.Rows L2
theorem nodup_le {α : Type} [BEq α] [LawfulBEq α] : ∀ {ks l : List α}, ks.Nodup → (∀ k ∈ ks, k ∈ l) → ks.length ≤ l.length
  | [], _, _, _ => Nat.zero_le _
  | k :: ks, l, h, s => by
    have hk := s k List.mem_cons_self
    have h2 := (List.nodup_cons.mp h)
    have := nodup_le (ks := ks) (l := l.erase k) h2.2 fun x hx => by
      have ne : x ≠ k := fun e => h2.1 (e ▸ hx)
      exact (List.mem_erase_of_ne ne).mpr (s x (List.mem_cons_of_mem _ hx))
    rw [List.length_erase_of_mem hk] at this
    have : 0 < l.length := List.length_pos_of_mem hk
    simp only [List.length_cons]
    omega
section
variable {X : Cx} {K : PySem.W.Frag}
theorem ko_notIn (h : X.K = K := by rfl) : OpR X (compareOp .NotIn) (rIn K true) := h ▸ op_notIn_seq
/-- set(xs) of ints: how many members it has -/
def rSetLj (K : PySem.W.Frag) (w : World) : List V → Hp → VK → Prop := fun xs H Q => ∃ (a : Addr) (ns : List Int), xs = [V.ref a] ∧ SqL K H a (ns.map V.int) ∧ ns.length ≤ 4000 ∧
  ∀ (p : Addr) (ks : List Int), H p = none → ks.Nodup → (∀ k, k ∈ ks ↔ k ∈ ns) → Q (.ref p) (upd H p (SetO w p (fun k => decide (k ∈ ns)) ks.length))
theorem cr_setLj (hc : X.calm = true) : CallR X (.type "set") (rSetLj X.K X.w) := by
  intro pins s σ H vs us Q I r h
  obtain ⟨a, ns, rfl, hS, hl, q⟩ := h
  rw [Vals.ref1 r]
  obtain ⟨its, rv, pl, hz⟩ := I.list hS
  refine call_set_li ns (I.ok.hd hc) pl.isList (by simpa using Vals.ints rv) (by unfold scanBound; omega) fun s' f => ?_
  obtain ⟨h', tk, c, rfl, R, hcn, k⟩ := f
  have hn : H s.heap.objs.size = none := I.hok.fresh (Nat.le_refl _)
  have J : Inv X pins σ (upd H s.heap.objs.size (SetO X.w s.heap.objs.size (fun k => decide (k ∈ ns)) c)) { s with heap := h', toks := tk } := I.laid (t' := tk) k (Nat.le_refl _) (setO_new R)
  obtain ⟨o, es, ep, t, _, _, _, _, nod, mem, _, _, size, _⟩ := R
  have q2 := q s.heap.objs.size (es.toList.map keyOf) hn nod fun k => by rw [← mem k, decide_eq_true_eq]
  rw [List.length_map, Array.length_toList, size] at q2
  exact ⟨.ref s.heap.objs.size, _, J, rfl, q2⟩
theorem kc_setLj {w : World} (hc : X.calm = true := by rfl) (h : X.K = K := by rfl) (hw : X.w = w := by rfl) : CallR X (.type "set") (rSetLj K w) := by subst h; subst hw; exact cr_setLj hc
end
end Pot

namespace Pot
open PySem PySem.Spec PyProof.Rows L2
/-! ### kinds of data -/
def tyD : PyData → String
  | .none => "NoneType"
  | .bool _ => "bool"
  | .int _ => "int"
  | .str _ => "str"
  | .list _ => "list"
  | .tuple _ => "tuple"
  | .dict _ => "dict"
def isIntD : PyData → Bool
  | .int _ => true
  | .bool _ => true
  | _ => false
def isBoolD : PyData → Bool
  | .bool _ => true
  | _ => false
def isStrD : PyData → Bool
  | .str _ => true
  | _ => false
def isListD : PyData → Bool
  | .list _ => true
  | _ => false
def isTupD : PyData → Bool
  | .tuple _ => true
  | _ => false
section
variable {K : PySem.W.Frag} {H : Hp} {x : V} {d : PyData} {Q : VK}
theorem tyx_dp (h : Dp K H x d) : TyX K H x (.type (tyD d)) := by
  cases h with
  | non => exact .base .non
  | bl b => exact .base (.bl b)
  | int i => exact .base (.int i)
  | str z => exact .base (.str z)
  | lst h _ => exact tyx_list h
  | tup h _ => exact tyx_tup h
theorem kit_int (h : Dp K H x d) : PySem.W.kitOne K (.type (tyD d)) (.type "int") = some (isIntD d) := by
  cases h with
  | non => exact kit_ty (show kitB "NoneType" "int" = some false by decide +kernel)
  | bl _ => exact kit_ty (show kitB "bool" "int" = some true by decide +kernel)
  | int _ => exact kit_ty (show kitB "int" "int" = some true by decide +kernel)
  | str _ => exact kit_ty (show kitB "str" "int" = some false by decide +kernel)
  | lst _ _ => exact kit_ty (show kitB "list" "int" = some false by decide +kernel)
  | tup _ _ => exact kit_ty (show kitB "tuple" "int" = some false by decide +kernel)
theorem kit_bool (h : Dp K H x d) : PySem.W.kitOne K (.type (tyD d)) (.type "bool") = some (isBoolD d) := by
  cases h with
  | non => exact kit_ty (show kitB "NoneType" "bool" = some false by decide +kernel)
  | bl _ => exact kit_ty (show kitB "bool" "bool" = some true by decide +kernel)
  | int _ => exact kit_ty (show kitB "int" "bool" = some false by decide +kernel)
  | str _ => exact kit_ty (show kitB "str" "bool" = some false by decide +kernel)
  | lst _ _ => exact kit_ty (show kitB "list" "bool" = some false by decide +kernel)
  | tup _ _ => exact kit_ty (show kitB "tuple" "bool" = some false by decide +kernel)
theorem kit_str (h : Dp K H x d) : PySem.W.kitOne K (.type (tyD d)) (.type "str") = some (isStrD d) := by
  cases h with
  | non => exact kit_ty (show kitB "NoneType" "str" = some false by decide +kernel)
  | bl _ => exact kit_ty (show kitB "bool" "str" = some false by decide +kernel)
  | int _ => exact kit_ty (show kitB "int" "str" = some false by decide +kernel)
  | str _ => exact kit_ty (show kitB "str" "str" = some true by decide +kernel)
  | lst _ _ => exact kit_ty (show kitB "list" "str" = some false by decide +kernel)
  | tup _ _ => exact kit_ty (show kitB "tuple" "str" = some false by decide +kernel)
theorem kit_list (h : Dp K H x d) : PySem.W.kitOne K (.type (tyD d)) (.type "list") = some (isListD d) := by
  cases h with
  | non => exact kit_ty (show kitB "NoneType" "list" = some false by decide +kernel)
  | bl _ => exact kit_ty (show kitB "bool" "list" = some false by decide +kernel)
  | int _ => exact kit_ty (show kitB "int" "list" = some false by decide +kernel)
  | str _ => exact kit_ty (show kitB "str" "list" = some false by decide +kernel)
  | lst _ _ => exact kit_ty (show kitB "list" "list" = some true by decide +kernel)
  | tup _ _ => exact kit_ty (show kitB "tuple" "list" = some false by decide +kernel)
theorem kit_tup (h : Dp K H x d) : PySem.W.kitOne K (.type (tyD d)) (.type "tuple") = some (isTupD d) := by
  cases h with
  | non => exact kit_ty (show kitB "NoneType" "tuple" = some false by decide +kernel)
  | bl _ => exact kit_ty (show kitB "bool" "tuple" = some false by decide +kernel)
  | int _ => exact kit_ty (show kitB "int" "tuple" = some false by decide +kernel)
  | str _ => exact kit_ty (show kitB "str" "tuple" = some false by decide +kernel)
  | lst _ _ => exact kit_ty (show kitB "list" "tuple" = some false by decide +kernel)
  | tup _ _ => exact kit_ty (show kitB "tuple" "tuple" = some true by decide +kernel)
theorem kit_lt (h : Dp K H x d) : PySem.W.kitAny K (.type (tyD d)) [.type "list", .type "tuple"] = some (isListD d || isTupD d) := by
  cases h <;> rfl
end
/-! ### numbers within bounds -/
def numD (lo hi : Int) : PyData → Bool
  | .int i => decide (lo ≤ i) && decide (i ≤ hi)
  | _ => false
def toI : PyData → Int
  | .int i => i
  | _ => 0
theorem numD_int {lo hi : Int} : ∀ {d : PyData}, numD lo hi d = true → d = .int (toI d) ∧ lo ≤ toI d ∧ toI d ≤ hi
  | .int i, h => by
    obtain ⟨h1, h2⟩ := Bool.and_eq_true_iff.mp (show (decide (lo ≤ i) && decide (i ≤ hi)) = true from h)
    exact ⟨rfl, of_decide_eq_true h1, of_decide_eq_true h2⟩
/-- rising -/
def risI : List Int → Bool
  | a :: b :: r => decide (a < b) && risI (b :: r)
  | _ => true
def risD (lo hi : Int) : PyData → Bool
  | .list ds => ds.all (numD lo hi) && risI (ds.map toI)
  | _ => false
theorem risI_pair : ∀ {ns : List Int}, risI ns = true ↔ ns.Pairwise (· < ·)
  | [] => by simp [risI]
  | [a] => by simp [risI]
  | a :: b :: r => by
    have ih := risI_pair (ns := b :: r)
    show (decide (a < b) && risI (b :: r)) = true ↔ _
    rw [Bool.and_eq_true_iff, decide_eq_true_eq, ih]
    constructor
    · rintro ⟨h1, h2⟩
      refine List.pairwise_cons.mpr ⟨fun x hx => ?_, h2⟩
      rcases List.mem_cons.mp hx with e | e
      · rw [e]; exact h1
      · exact Int.lt_trans h1 ((List.pairwise_cons.mp h2).1 x e)
    · intro h
      obtain ⟨h1, h2⟩ := List.pairwise_cons.mp h
      exact ⟨h1 b List.mem_cons_self, h2⟩
theorem nums_of {lo hi : Int} {ds : List PyData} (h : ds.all (numD lo hi) = true) : ds = (ds.map toI).map PyData.int ∧ ∀ k ∈ ds.map toI, lo ≤ k ∧ k ≤ hi := by
  rw [List.all_eq_true] at h
  constructor
  · rw [List.map_map]
    conv => lhs; rw [← List.map_id ds]
    exact List.map_congr_left fun d hd => (numD_int (h d hd)).1
  · intro k hk
    obtain ⟨d, hd, rfl⟩ := List.mem_map.mp hk
    exact (numD_int (h d hd)).2
section
variable {K : PySem.W.Frag} {H : Hp}
theorem dp_intsV : ∀ {xs : List V} {ns : List Int}, DpAll K H xs (ns.map PyData.int) → xs = ns.map V.int
  | [], [], _ => rfl
  | [], _ :: _, h => by cases h
  | _ :: _, [], h => by cases h
  | x :: xs, n :: ns, h => by
    cases h with
    | cons h t => cases h; rw [dp_intsV t]; rfl
end
/-- of a row that rises just the same: a row in which all stand in order, none twice -/
theorem sorted_uniq : ∀ {xs ys : List Int}, xs.Pairwise (· < ·) → ys.Pairwise (· < ·) → (∀ k, k ∈ xs ↔ k ∈ ys) → xs = ys
  | [], [], _, _, _ => rfl
  | [], y :: ys, _, _, h => by have := (h y).mpr List.mem_cons_self; simp at this
  | x :: xs, [], _, _, h => by have := (h x).mp List.mem_cons_self; simp at this
  | x :: xs, y :: ys, h1, h2, h => by
    rw [List.pairwise_cons] at h1 h2
    have e : x = y := by
      rcases List.mem_cons.mp ((h x).mp List.mem_cons_self) with e | e
      · exact e
      · rcases List.mem_cons.mp ((h y).mpr List.mem_cons_self) with e2 | e2
        · exact e2.symm
        · have := h2.1 x e; have := h1.1 y e2; omega
    subst e
    have : xs = ys := sorted_uniq h1.2 h2.2 fun k => by
      constructor
      · intro hk
        rcases List.mem_cons.mp ((h k).mp (List.mem_cons_of_mem _ hk)) with e | e
        · have := h1.1 k hk; omega
        · exact e
      · intro hk
        rcases List.mem_cons.mp ((h k).mpr (List.mem_cons_of_mem _ hk)) with e | e
        · have := h2.1 k hk; omega
        · exact e
    rw [this]
theorem eqv_ints : ∀ xs ys : List Int, PyData.eqv (.list (xs.map PyData.int)) (.list (ys.map PyData.int)) = decide (xs = ys)
  | [], [] => rfl
  | [], _ :: _ => rfl
  | _ :: _, [] => rfl
  | x :: xs, y :: ys => by
    have ih := eqv_ints xs ys
    show (PyData.eqv (.int x) (.int y) && PyData.eqvAll (xs.map PyData.int) (ys.map PyData.int)) = _
    rw [show PyData.eqvAll (xs.map PyData.int) (ys.map PyData.int) = decide (xs = ys) from ih]
    show ((x == y) && _) = _
    by_cases h : x = y
    · subst h; simp
    · simp [h]
/-- thing == sorted(set(thing)): just where it rises -/
theorem eq_sorted {ns zs : List Int} (h : zs.Pairwise (· < ·)) (m : ∀ k, k ∈ zs ↔ k ∈ ns) : decide (ns = zs) = risI ns := by
  by_cases e : ns = zs
  · rw [decide_eq_true e, e]; exact (risI_pair.mpr h).symm
  · rw [decide_eq_false e]
    cases hr : risI ns with
    | false => rfl
    | true => exact absurd (sorted_uniq (risI_pair.mp hr) h fun k => (m k).symm) e
theorem nodup_60 {ks : List Int} (h : ks.Nodup) (b : ∀ k ∈ ks, 0 ≤ k ∧ k ≤ 60) : ks.length < 64 := by
  have := nodup_le (l := (List.range 61).map fun (i : Nat) => (i : Int)) h fun k hk => by
    obtain ⟨h0, h1⟩ := b k hk
    exact List.mem_map.mpr ⟨k.toNat, List.mem_range.mpr (by omega), by omega⟩
  rw [List.length_map, List.length_range] at this
  omega
end Pot
namespace Pot
open PySem PySem.Spec PyProof.Rows L2
/-! ### a comprehension that changes nothing that stood: out i is what is told up to turn i -/
def PvL (H1 : Hp) (D : Addr) (out : Nat → List V) (i : Nat) (H2 : Hp) : Prop := Same H1 H2 ∧ H2 D = some (.lst (out i))
section
variable {H1 H2 H3 : Hp} {D : Addr} {out : Nat → List V} {i : Nat} {y : V}
theorem pv_start (nD : H1 D = none) (e : out 0 = []) : PvL H1 D out 0 (upd H1 D (.lst [])) := ⟨same_upd nD, by rw [e]; exact upd_same⟩
theorem pv_put (nD : H1 D = none) (p : PvL H1 D out i H2) (s : Same H2 H3) (e : out (i + 1) = out i ++ [y]) (l : (out i).length < sizeLine) : ∃ acc, H3 D = some (.lst acc) ∧ acc.length < sizeLine ∧ PvL H1 D out (i + 1) (upd H3 D (.lst (acc ++ [y]))) :=
  ⟨out i, s _ _ p.2, l, same_put (p.1.trans s) nD, by rw [e]; exact upd_same⟩
theorem pv_skip (p : PvL H1 D out i H2) (s : Same H2 H3) (e : out (i + 1) = out i) : PvL H1 D out (i + 1) H3 := ⟨p.1.trans s, by rw [e]; exact s _ _ p.2⟩
end
theorem take_map {α : Type} (f : α → V) {l : List α} {i : Nat} {x : α} (h : l[i]? = some x) : (l.take (i + 1)).map f = (l.take i).map f ++ [f x] := by
  rw [List.take_add_one, h, List.map_append]; rfl
theorem take_len_lt {α : Type} {f : α → V} {l : List α} {i : Nat} (h : i < 100000) : ((l.take i).map f).length < sizeLine := by
  rw [List.length_map, List.length_take, sizeLine_eq]; omega
theorem take_len_le {α : Type} {f : α → V} {l : List α} {i : Nat} (h : l.length < 100000) : ((l.take i).map f).length < sizeLine := by
  rw [List.length_map, List.length_take, sizeLine_eq]; omega
/-- each below the next -/
def rb : List Int → List Bool
  | a :: b :: r => decide (a < b) :: rb (b :: r)
  | _ => []
theorem rb_all : ∀ ns : List Int, (rb ns).all id = risI ns
  | [] => rfl
  | [_] => rfl
  | a :: b :: r => by show (decide (a < b) && (rb (b :: r)).all id) = _; rw [rb_all (b :: r)]; rfl
theorem rb_len : ∀ ns : List Int, (rb ns).length = ns.length - 1
  | [] => rfl
  | [_] => rfl
  | a :: b :: r => by show (rb (b :: r)).length + 1 = _; rw [rb_len (b :: r)]; simp
theorem rb_at : ∀ {ns : List Int} {i : Nat} {x y : Int}, ns[i]? = some x → ns[i + 1]? = some y → (rb ns)[i]? = some (decide (x < y))
  | [], _, _, _, h, _ => by simp at h
  | [_], i, _, _, _, h => by simp at h
  | a :: b :: r, 0, x, y, h, k => by
    have e1 : a = x := by simpa using h
    have e2 : b = y := by simpa using k
    subst e1 e2; rfl
  | a :: b :: r, i + 1, x, y, h, k => rb_at (ns := b :: r) (i := i) (by simpa using h) (by simpa using k)
/-- what is told of each of some data -/
theorem all_map {ds : List PyData} {f : PyData → Bool} : (ds.map f).all id = ds.all f := by
  rw [List.all_map]; rfl
end Pot
namespace Pot
open PySem PySem.Spec PyProof.Rows L2
theorem pv_end {H1 H2 : Hp} {D : Addr} {out : Nat → List V} {n : Nat} {zs : List V} (p : PvL H1 D out n H2) (e : out n = zs) : Same H1 H2 ∧ H2 D = some (.lst zs) := ⟨p.1, by rw [← e]; exact p.2⟩
theorem take_all {α : Type} {f : α → V} {l : List α} {n : Nat} (h : l.length ≤ n) : (l.take n).map f = l.map f := by rw [List.take_of_length_le h]
end Pot

namespace Pot
open PySem PySem.Spec PyProof.Rows L2
/-! ### palettes as data -/
abbrev Col := Str × Int × Int × Int
abbrev Wsh := Str × Str × Option Int
def colD (c : Col) : PyData := .tuple [.str c.1, .int c.2.1, .int c.2.2.1, .int c.2.2.2]
def optD : Option Int → PyData
  | none => .none
  | some i => .int i
def washD (r : Wsh) : PyData := .tuple [.str r.1, .str r.2.1, optD r.2.2]
def palD (cs : List Col) (ws : List Wsh) : PyData := .tuple [.tuple (cs.map colD), .tuple (ws.map washD)]
def optV : Option Int → V
  | none => .non
  | some i => .int i
def namV : Option Str → V
  | none => .non
  | some z => .str z
/-- the washing between two: the first row that tells -/
def washF (ws : List Wsh) (a : Option Str) (b : Str) : Option Int := match ws with
  | [] => some 0
  | r :: ws => if some r.1 = a ∧ r.2.1 = b then r.2.2 else washF ws a b
/-- the washing of a row -/
def sumF (ws : List Wsh) : Option Str → List Str → Int → Option Int
  | _, [], h => some h
  | a, b :: r, h => match washF ws a b with
    | none => none
    | some k => sumF ws (some b) r (h + k)
section
variable {K : PySem.W.Frag} {H : Hp}
theorem dp_tup {v : V} {ds : List PyData} (h : Dp K H v (.tuple ds)) : ∃ a xs, v = .ref a ∧ SqT K H a xs ∧ DpAll K H xs ds := by
  cases h with
  | tup h a => exact ⟨_, _, rfl, h, a⟩
theorem dp_lst {v : V} {ds : List PyData} (h : Dp K H v (.list ds)) : ∃ a xs, v = .ref a ∧ SqL K H a xs ∧ DpAll K H xs ds := by
  cases h with
  | lst h a => exact ⟨_, _, rfl, h, a⟩
theorem dp_str {v : V} {z : Str} (h : Dp K H v (.str z)) : v = .str z := by cases h; rfl
theorem dp_int {v : V} {z : Int} (h : Dp K H v (.int z)) : v = .int z := by cases h; rfl
theorem dp_opt {v : V} : ∀ {z : Option Int}, Dp K H v (optD z) → v = optV z
  | none, h => by cases h; rfl
  | some i, h => by cases h; rfl
theorem opt_dp : ∀ (z : Option Int), Dp K H (optV z) (optD z)
  | none => .non
  | some i => .int i
theorem dp_two {xs : List V} {d e : PyData} (h : DpAll K H xs [d, e]) : ∃ x y, xs = [x, y] ∧ Dp K H x d ∧ Dp K H y e := by
  cases h with
  | cons h1 t => cases t with
    | cons h2 t => cases t; exact ⟨_, _, rfl, h1, h2⟩
theorem dp_three {xs : List V} {d e f : PyData} (h : DpAll K H xs [d, e, f]) : ∃ x y z, xs = [x, y, z] ∧ Dp K H x d ∧ Dp K H y e ∧ Dp K H z f := by
  cases h with
  | cons h1 t => obtain ⟨y, z, rfl, h2, h3⟩ := dp_two t; exact ⟨_, _, _, rfl, h1, h2, h3⟩
theorem dp_four {xs : List V} {d e f g : PyData} (h : DpAll K H xs [d, e, f, g]) : ∃ x y z u, xs = [x, y, z, u] ∧ Dp K H x d ∧ Dp K H y e ∧ Dp K H z f ∧ Dp K H u g := by
  cases h with
  | cons h1 t => obtain ⟨y, z, u, rfl, h2, h3, h4⟩ := dp_three t; exact ⟨_, _, _, _, rfl, h1, h2, h3, h4⟩
/-- a colour's tuple -/
theorem col_dp {v : V} {c : Col} (h : Dp K H v (colD c)) : ∃ a, v = .ref a ∧ SqT K H a [.str c.1, .int c.2.1, .int c.2.2.1, .int c.2.2.2] := by
  obtain ⟨a, xs, rfl, hs, ha⟩ := dp_tup h
  obtain ⟨x, y, z, u, rfl, h1, h2, h3, h4⟩ := dp_four ha
  rw [dp_str h1, dp_int h2, dp_int h3, dp_int h4] at hs
  exact ⟨a, rfl, hs⟩
theorem wash_dp {v : V} {r : Wsh} (h : Dp K H v (washD r)) : ∃ a, v = .ref a ∧ SqT K H a [.str r.1, .str r.2.1, optV r.2.2] := by
  obtain ⟨a, xs, rfl, hs, ha⟩ := dp_tup h
  obtain ⟨x, y, z, rfl, h1, h2, h3⟩ := dp_three ha
  rw [dp_str h1, dp_str h2, dp_opt h3] at hs
  exact ⟨a, rfl, hs⟩
/-- a palette in the heap -/
theorem pal_dp {v : V} {cs : List Col} {ws : List Wsh} (h : Dp K H v (palD cs ws)) :
    ∃ p c w xs ys, v = .ref p ∧ SqT K H p [.ref c, .ref w] ∧ SqT K H c xs ∧ DpAll K H xs (cs.map colD) ∧ SqT K H w ys ∧ DpAll K H ys (ws.map washD) := by
  obtain ⟨p, zs, rfl, hp, hz⟩ := dp_tup h
  obtain ⟨x, y, rfl, h1, h2⟩ := dp_two hz
  obtain ⟨c, xs, rfl, hc, hx⟩ := dp_tup h1
  obtain ⟨w, ys, rfl, hw, hy⟩ := dp_tup h2
  exact ⟨p, c, w, xs, ys, rfl, hp, hc, hx, hw, hy⟩
theorem dpAll_map_at {α : Type} {f : α → PyData} {xs : List V} {l : List α} {i : Nat} {x : V} (h : DpAll K H xs (l.map f)) (e : xs[i]? = some x) : ∃ y, l[i]? = some y ∧ Dp K H x (f y) := by
  obtain ⟨d, g, p⟩ := dpAll_at h e
  rw [List.getElem?_map] at g
  obtain ⟨y, hy, rfl⟩ := Option.map_eq_some_iff.mp g
  exact ⟨y, hy, p⟩
theorem dpAll_map_len {α : Type} {f : α → PyData} {xs : List V} {l : List α} (h : DpAll K H xs (l.map f)) : xs.length = l.length := by
  rw [dpAll_len h, List.length_map]
end
theorem decS {a b : Str} : decide (V.str a = V.str b) = decide (a = b) := by
  by_cases h : a = b
  · subst h; rw [decide_eq_true rfl, decide_eq_true rfl]
  · rw [decide_eq_false h, decide_eq_false fun z => h (V.str.inj z)]
/-- behind rows that don't tell -/
theorem washF_skip {a : Option Str} {b : Str} : ∀ {ws : List Wsh} {i : Nat}, (∀ j r, j < i → ws[j]? = some r → ¬ (some r.1 = a ∧ r.2.1 = b)) → washF ws a b = washF (ws.drop i) a b
  | ws, 0, _ => rfl
  | [], i + 1, _ => rfl
  | r :: ws, i + 1, h => by
    show (if some r.1 = a ∧ r.2.1 = b then r.2.2 else washF ws a b) = washF (ws.drop i) a b
    rw [if_neg (h 0 r (Nat.succ_pos _) rfl)]
    exact washF_skip (a := a) (b := b) (ws := ws) (i := i) fun j q hj e => h (j + 1) q (Nat.succ_lt_succ hj) e
theorem washF_at {a : Option Str} {b : Str} {ws : List Wsh} {i : Nat} {r : Wsh} (h : ∀ j r, j < i → ws[j]? = some r → ¬ (some r.1 = a ∧ r.2.1 = b)) (e : ws[i]? = some r) (hr : some r.1 = a ∧ r.2.1 = b) : washF ws a b = r.2.2 := by
  rw [washF_skip h, List.drop_eq_getElem_cons (List.getElem?_eq_some_iff.mp e).1, (List.getElem?_eq_some_iff.mp e).2]
  unfold washF
  rw [if_pos hr]
theorem washF_none {a : Option Str} {b : Str} {ws : List Wsh} (h : ∀ j r, j < ws.length → ws[j]? = some r → ¬ (some r.1 = a ∧ r.2.1 = b)) : washF ws a b = some 0 := by
  rw [washF_skip h, List.drop_length]
  rfl
/-! ### data without lists stays while the law draws -/
def noLAll : List PyData → Prop
  | [] => True
  | x :: xs => noL x ∧ noLAll xs
where noL : PyData → Prop
  | .list _ => False
  | .dict _ => False
  | .tuple xs => noLAll xs
  | _ => True
section
variable {K : PySem.W.Frag}
theorem kp_tup {d c : Addr} {H H' : Hp} {n : Nat} {a : Addr} {xs : List V} (st : StAt H d c n) (k : Kp d c H H') (h : SqT K H a xs) : SqT K H' a xs := by
  obtain ⟨_, ys, t, h1, h2, _⟩ := st
  have go : ∀ o, (H a = some (.tup xs) ∨ H a = some (.frz o (.tup xs))) → a ≠ d ∧ a ≠ c := fun o e => by
    constructor
    · intro z; subst z; rw [h1] at e; rcases e with e | e <;> cases e
    · intro z; subst z; rw [h2] at e; rcases e with e | e <;> cases e
  rcases h with (h | ⟨o, h⟩) | h
  · have g := go ⟨.none, none, .fields #[], #[]⟩ (.inl h); exact .inl (.inl (k _ _ g.1 g.2 h))
  · have g := go o (.inr h); exact .inl (.inr ⟨o, k _ _ g.1 g.2 h⟩)
  · exact .inr h
mutual
theorem dp_kp {d c : Addr} {H H' : Hp} {n : Nat} (st : StAt H d c n) (k : Kp d c H H') : ∀ {v : V} {e : PyData}, noLAll.noL e → Dp K H v e → Dp K H' v e
  | _, _, _, .non => .non
  | _, _, _, .bl b => .bl b
  | _, _, _, .int i => .int i
  | _, _, _, .str x => .str x
  | _, _, h, .lst _ _ => h.elim
  | _, _, h, .tup s a => .tup (kp_tup st k s) (dpAll_kp st k h a)
theorem dpAll_kp {d c : Addr} {H H' : Hp} {n : Nat} (st : StAt H d c n) (k : Kp d c H H') : ∀ {vs : List V} {es : List PyData}, noLAll es → DpAll K H vs es → DpAll K H' vs es
  | _, _, _, .nil => .nil
  | _, _, h, .cons x t => .cons (dp_kp st k h.1 x) (dpAll_kp st k h.2 t)
end
mutual
theorem dp_go {H H' : Hp} (go : ∀ a us, SqT K H a us → SqT K H' a us) : ∀ {v : V} {e : PyData}, noLAll.noL e → Dp K H v e → Dp K H' v e
  | _, _, _, .non => .non
  | _, _, _, .bl b => .bl b
  | _, _, _, .int i => .int i
  | _, _, _, .str x => .str x
  | _, _, h, .lst _ _ => h.elim
  | _, _, h, .tup s a => .tup (go _ _ s) (dpAll_go go h a)
theorem dpAll_go {H H' : Hp} (go : ∀ a us, SqT K H a us → SqT K H' a us) : ∀ {vs : List V} {es : List PyData}, noLAll es → DpAll K H vs es → DpAll K H' vs es
  | _, _, _, .nil => .nil
  | _, _, h, .cons x t => .cons (dp_go go h.1 x) (dpAll_go go h.2 t)
end
theorem noL_map {α : Type} {f : α → PyData} (h : ∀ x, noLAll.noL (f x)) : ∀ l : List α, noLAll (l.map f)
  | [] => trivial
  | x :: r => ⟨h x, noL_map h r⟩
theorem noL_col (c : Col) : noLAll.noL (colD c) := ⟨trivial, trivial, trivial, trivial, trivial⟩
theorem noL_wash (r : Wsh) : noLAll.noL (washD r) := ⟨trivial, trivial, by cases r.2.2 <;> trivial, trivial⟩
theorem noL_pal (cs : List Col) (ws : List Wsh) : noLAll.noL (palD cs ws) := ⟨noL_map noL_col cs, noL_map noL_wash ws, trivial⟩
theorem dpAll_app {H : Hp} : ∀ {xs ys : List V} {ds es : List PyData}, DpAll K H xs ds → DpAll K H ys es → DpAll K H (xs ++ ys) (ds ++ es)
  | _, _, _, _, .nil, h => h
  | _, _, _, _, .cons h t, h2 => .cons h (dpAll_app t h2)
end
/-! ### how long a palette's text may be -/
structure PalOk (cs : List Col) (ws : List Wsh) : Prop where
  nc : cs.length ≤ 20
  nw : ws.length ≤ 60
  cn : ∀ c ∈ cs, c.1.length ≤ 9 ∧ (∀ x ∈ c.1.cps.toList, x < 1114112) ∧ c.2.1.natAbs < 10000 ∧ c.2.2.1.natAbs < 10000 ∧ c.2.2.2.natAbs < 10000
  wn : ∀ r ∈ ws, (r.1.length ≤ 9 ∧ ∀ x ∈ r.1.cps.toList, x < 1114112) ∧ (r.2.1.length ≤ 9 ∧ ∀ x ∈ r.2.1.cps.toList, x < 1114112) ∧ ∀ i, r.2.2 = some i → i.natAbs < 10000
theorem PalOk.addC {cs : List Col} {ws : List Wsh} {c : Col} (h : PalOk cs ws) (n : cs.length < 20) (ok : c.1.length ≤ 9 ∧ (∀ x ∈ c.1.cps.toList, x < 1114112) ∧ c.2.1.natAbs < 10000 ∧ c.2.2.1.natAbs < 10000 ∧ c.2.2.2.natAbs < 10000) : PalOk (cs ++ [c]) ws :=
  ⟨by rw [List.length_append]; exact n, h.nw, fun x hx => (List.mem_append.mp hx).elim (h.cn x) fun z => by rw [List.mem_singleton.mp z]; exact ok, h.wn⟩
theorem PalOk.addW {cs : List Col} {ws : List Wsh} {r : Wsh} (h : PalOk cs ws) (n : ws.length < 60) (ok : (r.1.length ≤ 9 ∧ ∀ x ∈ r.1.cps.toList, x < 1114112) ∧ (r.2.1.length ≤ 9 ∧ ∀ x ∈ r.2.1.cps.toList, x < 1114112) ∧ ∀ i, r.2.2 = some i → i.natAbs < 10000) : PalOk cs (ws ++ [r]) :=
  ⟨h.nc, by rw [List.length_append]; exact n, h.cn, fun x hx => (List.mem_append.mp hx).elim (h.wn x) fun z => by rw [List.mem_singleton.mp z]; exact ok⟩
theorem log_small {i : Int} (h : i.natAbs < 10000) : i.natAbs.log2 < 1920 := by
  by_cases z : i.natAbs = 0
  · rw [z]; decide
  · have := (Nat.log2_lt z).mpr (show i.natAbs < 2 ^ 14 from Nat.lt_of_lt_of_le h (by decide))
    omega
theorem fineAll_map {α : Type} {f : α → PyData} : ∀ {l : List α}, (∀ x ∈ l, fineAll.fine (f x)) → fineAll (l.map f)
  | [], _ => trivial
  | x :: r, h => ⟨h x List.mem_cons_self, fineAll_map fun y hy => h y (List.mem_cons_of_mem _ hy)⟩
theorem costAll_map {α : Type} {f : α → PyData} {b : Nat} : ∀ {l : List α}, (∀ x ∈ l, costAll.cost (f x) ≤ b) → costAll (l.map f) ≤ l.length * (b + 2)
  | [], _ => Nat.zero_le _
  | x :: r, h => by
    have h1 := h x List.mem_cons_self
    have h2 := costAll_map (l := r) fun y hy => h y (List.mem_cons_of_mem _ hy)
    show costAll.cost (f x) + 2 + costAll (r.map f) ≤ (r.length + 1) * (b + 2)
    rw [Nat.succ_mul]
    omega
theorem depthAll_map {α : Type} {f : α → PyData} {b : Nat} : ∀ {l : List α}, (∀ x ∈ l, (f x).depth ≤ b) → PyData.depthAll (l.map f) ≤ b
  | [], _ => Nat.zero_le _
  | x :: r, h => by
    show max (f x).depth (PyData.depthAll (r.map f)) ≤ b
    exact Nat.max_le.mpr ⟨h x List.mem_cons_self, depthAll_map fun y hy => h y (List.mem_cons_of_mem _ hy)⟩
theorem fine_col {c : Col} (h : c.1.length ≤ 9 ∧ (∀ x ∈ c.1.cps.toList, x < 1114112) ∧ c.2.1.natAbs < 10000 ∧ c.2.2.1.natAbs < 10000 ∧ c.2.2.2.natAbs < 10000) : fineAll.fine (colD c) :=
  ⟨fun x hx => Nat.lt_trans (h.2.1 x hx) (by decide), log_small h.2.2.1, log_small h.2.2.2.1, log_small h.2.2.2.2, trivial⟩
theorem fine_opt {o : Option Int} (h : ∀ i, o = some i → i.natAbs < 10000) : fineAll.fine (optD o) := by
  cases o with
  | none => trivial
  | some i => exact log_small (h i rfl)
theorem pal_fine {cs : List Col} {ws : List Wsh} (h : PalOk cs ws) : fineAll.fine (palD cs ws) :=
  ⟨fineAll_map fun c hc => fine_col (h.cn c hc), fineAll_map fun r hr => ⟨fun x hx => Nat.lt_trans ((h.wn r hr).1.2 x hx) (by decide), fun x hx => Nat.lt_trans ((h.wn r hr).2.1.2 x hx) (by decide), fine_opt (h.wn r hr).2.2, trivial⟩, trivial⟩
theorem cost_opt (o : Option Int) : costAll.cost (optD o) ≤ 1921 := by
  cases o with
  | none => decide
  | some i => exact Nat.le_refl _
theorem pal_cost {cs : List Col} {ws : List Wsh} (h : PalOk cs ws) : costAll.cost (palD cs ws) ≤ 1000000 := by
  have h1 : costAll (cs.map colD) ≤ cs.length * (10000 + 2) := costAll_map fun c hc => by
    have := (h.cn c hc).1
    show (10 * c.1.length + 2) + 2 + (1921 + 2 + (1921 + 2 + (1921 + 2 + 0))) + 3 ≤ 10000
    omega
  have h2 : costAll (ws.map washD) ≤ ws.length * (10000 + 2) := costAll_map fun r hr => by
    have a := (h.wn r hr).1.1
    have b := (h.wn r hr).2.1.1
    have c := cost_opt r.2.2
    show (10 * r.1.length + 2) + 2 + ((10 * r.2.1.length + 2) + 2 + (costAll.cost (optD r.2.2) + 2 + 0)) + 3 ≤ 10000
    omega
  have h3 := Nat.mul_le_mul_right 10002 h.nc
  have h4 := Nat.mul_le_mul_right 10002 h.nw
  show (costAll (cs.map colD) + 3) + 2 + ((costAll (ws.map washD) + 3) + 2 + 0) + 3 ≤ 1000000
  omega
theorem depth_opt (o : Option Int) : (optD o).depth = 0 := by cases o <;> rfl
theorem pal_depth (cs : List Col) (ws : List Wsh) : (palD cs ws).depth ≤ 3 := by
  have h1 : PyData.depthAll (cs.map colD) ≤ 1 := depthAll_map fun c _ => by show 1 ≤ 1; decide
  have h2 : PyData.depthAll (ws.map washD) ≤ 1 := depthAll_map fun r _ => by
    show max 0 (max 0 (max (optD r.2.2).depth 0)) + 1 ≤ 1
    rw [depth_opt]
    decide
  show max (PyData.depthAll (cs.map colD) + 1) (max (PyData.depthAll (ws.map washD) + 1) 0) + 1 ≤ 3
  omega
end Pot

namespace Pot
open PySem PySem.Spec PyProof.Rows L2
/-! ### a box of three numbers whose last is at most n -/
def Bq (H : Hp) (b : Addr) (n : Nat) : Prop := ∃ x y z : Int, H b = some (.lst [.int x, .int y, .int z]) ∧ 0 ≤ z ∧ z ≤ n
section
variable {H H' : Hp} {b p : Addr} {n m : Nat} {o : HO}
theorem Bq.bx (B : Bq H b n) : Bx H b := by
  obtain ⟨x, y, z, h, _⟩ := B
  exact ⟨x, y, z, h⟩
theorem Bq.same (B : Bq H b n) (s : Same H H') : Bq H' b n := by
  obtain ⟨x, y, z, h, h2⟩ := B
  exact ⟨x, y, z, s _ _ h, h2⟩
theorem Bq.put (B : Bq H b n) (h : H p = none) : Bq (upd H p o) b n := B.same (same_upd h)
theorem Bq.wr (B : Bq H b n) (h : p ≠ b) : Bq (upd H p o) b n := by
  obtain ⟨x, y, z, e, h2⟩ := B
  exact ⟨x, y, z, by rw [upd_ne h.symm]; exact e, h2⟩
theorem Bq.mono (B : Bq H b n) (h : n ≤ m) : Bq H b m := by
  obtain ⟨x, y, z, e, h1, h2⟩ := B
  exact ⟨x, y, z, e, h1, by omega⟩
theorem Bq.ne (B : Bq H b n) (h : H p = none) : p ≠ b := B.bx.ne h
theorem Live.q (B : Bq H b n) : Live [b] H := Live.one B.bx
end
theorem b01 (k : Bool) : -(2 ^ 64 : Int) < (if k = true then 1 else 0) ∧ (if k = true then 1 else 0) < (2 ^ 64 : Int) := by cases k <;> decide
theorem CDivW.of {i j : Int} (h0 : 0 < j) (h1 : j < 2 ^ 64) : CDivW i j := by
  refine ⟨h0, ?_⟩
  have z : j.natAbs ≠ 0 := by omega
  have := (Nat.log2_lt z).mpr (show j.natAbs < 2 ^ 64 by omega)
  omega
mutual
theorem gd_lay {m : Nat} : ∀ d : PyData, gd m d → d.canLay0 = true
  | .none, _ => rfl
  | .bool _, _ => rfl
  | .int _, _ => rfl
  | .str x, g => by
    show x.cps.all (fun c => decide (c < 0x110000)) = true
    rw [← Array.all_toList, List.all_eq_true]
    exact fun c hc => decide_eq_true (g.2 c hc)
  | .list xs, g => gdAll_lay xs g
  | .tuple xs, g => gdAll_lay xs g
  | .dict _, g => g.elim
theorem gdAll_lay {m : Nat} : ∀ ds : List PyData, gdAll m ds → PyData.canLayAll0 ds = true
  | [], _ => rfl
  | x :: xs, g => by
    show (x.canLay0 && PyData.canLayAll0 xs) = true
    rw [gd_lay x g.1, gdAll_lay xs g.2]; rfl
end
theorem Th.shaped {m C D W : Nat} {d : PyData} (h : Th m C D W d) (hD : D ≤ 64) : SeqAt.shaped d = true := by
  unfold SeqAt.shaped
  rw [gd_lay d h.g, decide_eq_true (Nat.le_trans h.d hD)]; rfl
theorem gd_shaped {m : Nat} {d : PyData} (h : gd m d) (hD : d.depth ≤ 64) : SeqAt.shaped d = true := by
  unfold SeqAt.shaped
  rw [gd_lay d h, decide_eq_true hD]; rfl
end Pot

set_option maxHeartbeats 2000000
namespace RLam
open PySem PySem.Spec PyProof.Rows L2 PySem.Calls
/-! ### a lambda with one value by place, its answer the first part of a row of a captured list, turned -/
section
variable {prog : Program} {w : World} {B : Around} {s : Shared}
theorem ld_captured {E : Value → Shared → Prop} {env : Env} {o : Str} {co : Addr} {v : Value} {Q : Value → Shared → Prop} {p : Pos} (hk : env.scope.kind = .function) (hl : env.kindOf o = some .free) (hc : env.cells.lookup o = some co) (hv : s.heap.IsCell co (some v))
    (h : Q v s) (hd : (o == ("__debug__" : Str)) = false) (hcd : (o == ("__classdict__" : Str)) = false) : wpAny (model prog w) B (eval (.Name o p) env) Q E s :=
  wpAny_Name (wpAny_loadName_free hk hl hc hv h hcd) hd
theorem ld_own {E : Value → Shared → Prop} {env : Env} {o : Str} {m : Str → Option Value} {v : Value} {Q : Value → Shared → Prop} {p : Pos} (hk : env.scope.kind = .function) (hl : env.kindOf o = some .local) (hn : s.heap.Ns env.locals m) (hv : m o = some v)
    (h : Q v s) (hd : (o == ("__debug__" : Str)) = false) : wpAny (model prog w) B (eval (.Name o p) env) Q E s :=
  wpAny_Name (wpAny_loadName_local hk hl hn hv h) hd
theorem turn_neg {f c' co L tp : Addr} {q o n : Str} {params : Arguments} {scope : Scope} {cl : List (Str × Addr)} {pm ctv : Value} {its us : List Value} {i : Nat} {t0 t1 : Tok} {r : Int} {p1 p2 p3 p4 p5 p6 : Pos} {j : Nat}
    (hf : s.heap.get? f = some (PySem.W.kla_obj "<lambda>" q params (.UnaryOp .USub (.Subscript (.Subscript (.Name o p1) (.Name n p2) p3) (.Constant (.int 0) j p4) p5) p6) scope cl pm c' ctv))
    (hcd : ∃ (oc : Obj) (vs : Array Value) (t : Tok), s.heap.get? c' = some oc ∧ oc.data = .fields vs ∧ vs[1]? = some (.str q t))
    (hroom : B.depth < recursionLimit) (lim : s.heap.NoLimit) (hco : scope.isCoroutine = false) (hge : scope.isGenerator = false) (hk : scope.kind = .function) (hnc : ∀ x ∈ scope.names, x.2 ≠ .cell)
    (hn : scope.names.lookup n = some .local) (ho : scope.names.lookup o = some .free)
    (hbind : ∀ (u v : Value), bindArgs (PySem.W.kla_fn "<lambda>" q params (.UnaryOp .USub (.Subscript (.Subscript (.Name o p1) (.Name n p2) p3) (.Constant (.int 0) j p4) p5) p6) scope cl pm u ctv) ⟨[v], []⟩ = pure [(n, v)])
    (hcl : cl.lookup o = some co) (hcell : s.heap.IsCell co (some (.ref L))) (hL : s.heap.IsList L its.toArray) (hi : its[i]? = some (.ref tp)) (hi63 : i < 2 ^ 63) (hT : IsTup s.heap tp us.toArray) (hu : us[0]? = some (.int r t1)) (hus : us.length < 2 ^ 63)
    (hd1 : (o == ("__debug__" : Str)) = false := by decide) (hd2 : (o == ("__classdict__" : Str)) = false := by decide) (hd3 : (n == ("__debug__" : Str)) = false := by decide) :
    wpAny (model prog w) B (call (.ref f) [.int (i : Int) t0]) (PySem.W.KeyPure (.int (-r)) s) (fun _ _ => False) s := by
  refine wpAny_call (PySem.W.kla_callFunE hroom hf rfl hco hge rfl ?_ ?_)
  · obtain ⟨oc, vs, t, a, b, c⟩ := hcd
    exact ⟨c', oc, vs, t, rfl, a, b, c⟩
  rw [hbind]
  refine wpAny_pure (wpAny_newFunctionEnv hnc (fun y hy => ?_) (fun h₁ hns hsb => ⟨lim.fresh _ hsb, ?_⟩) hk)
  · rw [List.mem_singleton] at hy
    rw [hy]
    exact hn
  have kp : ∀ b o, s.heap.get? b = some o → h₁.get? b = some o := fun b o e => hsb.extBut b o (Nat.ne_of_lt (Heap.lt_size e)) (Heap.get?_push_of_some _ e)
  have hcell' : h₁.IsCell co (some (.ref L)) := by
    obtain ⟨oc, e1, e2⟩ := hcell
    exact ⟨oc, kp _ _ e1, e2⟩
  have hL' : h₁.IsList L its.toArray := by
    obtain ⟨oc, e1, e2⟩ := hL
    exact ⟨oc, kp _ _ e1, e2⟩
  have hT' : IsTup h₁ tp us.toArray := hT.keeps kp
  refine PySem.W.kla_codeExpr ?_
  refine UnaryOp_ (Subscript_ (Subscript_ (ld_captured hk ho hcl hcell' (ld_own (v := .int (i : Int) t0) hk hn hns ?_ ?_ hd3) hd1 hd2)))
  · show ([(n, Value.int (i : Int) t0)] : List (Str × Value)).reverse.lookup n = _
    simp [List.lookup]
  · have l63 := line63
    refine item_listR (x := .ref tp) hL' (by omega) (by omega) (by simpa using hi) ?_ (by with_unfolding_all rfl)
    refine wpAny_Constant_int ?_
    refine subscriptTail_builtinR (x := .int r t1) hT'.typeIs slot_tuple_getitem.lookup (getItem_tuple (j := 0) (x := .int r t1) (Q := fun u s' => u = .int r t1 ∧ _) hT' (by omega) (by omega) ?_ ?_ ⟨rfl, ?_⟩) (by with_unfolding_all rfl)
    · rw [List.size_toArray]
      have hz : 0 < us.length := (List.getElem?_eq_some_iff.mp hu).1
      exact seqIndex_of (by omega) (by omega)
    · simpa using hu
    · exact neg_int ⟨_, _, rfl, fun b o e => kp b o e, .int _ _⟩
end

/-! ### lists of values -/
theorem each_of {β : Type} {f : β → V} : ∀ {bs : List β} {us : List Value}, Vals (bs.map f) us → PySem.W.EachIs (fun u b => RelV (f b) u) us bs
  | [], _, r => by
    cases r
    exact .nil
  | b :: bs, _, r => by
    cases r with
    | cons a r => exact .cons a (each_of r)
theorem of_each {β : Type} {f : β → V} : ∀ {bs : List β} {us : List Value}, PySem.W.EachIs (fun u b => RelV (f b) u) us bs → Vals (bs.map f) us
  | _, _, .nil => .nil
  | _, _, .cons a r => .cons a (of_each r)
theorem sqL_ext {K : PySem.W.Frag} {H H' : Hp} {a : Addr} {xs : List V} (h : SqL K H a xs) (e : LamX.ExtN H H') : SqL K H' a xs := by
  rcases h with (h | ⟨o, h⟩) | h
  · exact .inl (.inl (e _ _ h fun ps z => by cases z))
  · exact .inl (.inr ⟨o, e _ _ h fun ps z => by cases z⟩)
  · exact .inr h
theorem sqT_ext {K : PySem.W.Frag} {H H' : Hp} {a : Addr} {xs : List V} (h : SqT K H a xs) (e : LamX.ExtN H H') : SqT K H' a xs := by
  rcases h with (h | ⟨o, h⟩) | h
  · exact .inl (.inl (e _ _ h fun ps z => by cases z))
  · exact .inl (.inr ⟨o, e _ _ h fun ps z => by cases z⟩)
  · exact .inr h
/-- the names of a lambda with the parameter n that reads o -/
structure LamN (sc scope : Scope) (n o : Str) : Prop where
  kind : scope.kind = .function
  co : scope.isCoroutine = false
  gen : scope.isGenerator = false
  cells : ∀ x ∈ scope.names, x.2 ≠ .cell
  par : scope.names.lookup n = some .local
  free : scope.names.lookup o = some .free
  up : ∀ y ∈ scope.names, y.2 = .free → sc.names.lookup y.1 = some .cell ∨ sc.names.lookup y.1 = some .free
theorem cr_range1 {X : Cx} : CallR X (.type "range") (fun vs H Q => ∃ i, vs = [V.int i] ∧ ∀ p, H p = none → Q (.ref p) (upd H p (.rng 0 i))) := by
  intro pins s σ H vs us Q I r h
  obtain ⟨i, rfl, q⟩ := h
  obtain ⟨u1, rfl, ri⟩ := vals1 r
  obtain ⟨t, rfl⟩ := ri
  refine call_range_1 ⟨.ref s.heap.objs.size, upd H s.heap.objs.size (.rng 0 i), I.laid (t' := s.toks + 2) (fun b o e => Heap.get?_push_of_some _ e) (Nat.le_refl _) ?_, rfl, q _ (I.hok.fresh (Nat.le_refl _))⟩
  exact ⟨_, _, _, Heap.get?_push_size _ rfl⟩
/-- sorted(range(m), key=lambda n: -o[n][0]) -/
def tSortLam (K : PySem.W.Frag) (T : List (Addr × Str)) (io : Nat) (ta : TA) : TE := fun σ H Q => ta σ H fun vs H1 => ∃ (p L : Addr) (m : Nat) (xs : List V) (rk : Nat → Int), vs = [V.ref p] ∧ H1 p = some (.rng 0 (m : Int)) ∧ m ≤ 2 ^ 24 ∧ LamX.Tabs T H1 ∧
  σ[io]? = some (some (.ref L)) ∧ SqL K H1 L xs ∧ (∀ i, i < m → ∃ (tp : Addr) (us : List V), xs[i]? = some (.ref tp) ∧ SqT K H1 tp us ∧ us[0]? = some (.int (rk i))) ∧
  ∀ H2, LamX.ExtN H1 H2 → LamX.Tabs T H2 → ∀ q, H2 q = none → Q (.ref q) (upd H2 q (.lst (((List.range m).mergeSort fun i j => decide (-rk i ≤ -rk j)).map fun i : Nat => V.int (i : Int))))
section
variable {X : Cx} {k : Nat} {T : List (Addr × Str)} {io : Nat} {ta : TA} {e : Expr} {n o : Str} {c P : Addr} {params : Arguments} {scope : Scope} {p kpos lpos pos p1 p2 p3 p4 p5 p6 : Pos} {j : Nat}
theorem pe_sortLam (hc : X.calm = true) (hg : Gl X "sorted") (hm : X.mg "sorted" = none) (ha : PA X [e] ta) (TB : LamX.TabB X.base X.mg c P) (hcode : X.env.code = .ref c) (hmT : (P, X.env.qual ++ "<lambda>") ∈ T) (hu : ∀ p ∈ T, p.1 = P → p.2 = X.env.qual ++ "<lambda>")
    (hr : Room (k + 1) X.A) (L : LamN X.env.scope scope n o) (hN : X.N[io]? = some o) (hdef : defaultsOf params X.env = ([], []))
    (hbind : ∀ (q : Str) (cl : List (Str × Addr)) (pm ctv u v : Value), bindArgs (PySem.W.kla_fn "<lambda>" q params (.UnaryOp .USub (.Subscript (.Subscript (.Name o p1) (.Name n p2) p3) (.Constant (.int 0) j p4) p5) p6) scope cl pm u ctv) ⟨[v], []⟩ = pure [(n, v)])
    (hd1 : (o == ("__debug__" : Str)) = false := by decide) (hd2 : (o == ("__classdict__" : Str)) = false := by decide) (hd3 : (n == ("__debug__" : Str)) = false := by decide)
    (he : backTo pos (starEach [e] X.env) = (false, eval e X.env) :: backTo pos (starEach [] X.env) := by rfl) (hpl : (backTo pos (starEach [e] X.env)).any (·.1) = false := by rfl) :
    PE X (.Call (.Name "sorted" p) [e] [⟨some "key", .Lambda params (.UnaryOp .USub (.Subscript (.Subscript (.Name o p1) (.Name n p2) p3) (.Constant (.int 0) j p4) p5) p6) scope lpos, kpos⟩] pos) (tSortLam X.K T io ta) := by
  refine ⟨fun pins s σ H Q I h => ?_⟩
  refine wpAny_Call_Name_kw (ld_blt I hg hm (by rfl) ?_)
  refine PyProof.Rows.callWith_kw (thn (ha.run pos pins s σ H _ I h) fun us s1 ⟨vs, H1, I1, r1, q1⟩ => ?_) he hpl (by rfl) (by rfl)
  obtain ⟨pr, La, m, xs, rk, rfl, hpr, hm24, hT, hσ, hL, hrow, q⟩ := q1
  obtain rfl := Vals.ref1 r1
  have hfree : ∀ y ∈ scope.names, y.2 = .free → ∃ c, X.env.cells.lookup y.1 = some c := fun y hy e => by
    rcases L.up y hy e with k | k
    · exact I1.ok.has _ (.inl k)
    · exact I1.ok.has _ (.inr k)
  show wpAny _ _ (evalAll [do let v ← eval _ X.env; standAt pos; pure v]) _ _ s1
  refine wpAny_evalAll_cons (wpAny_bind (LamX.lam_make2 I1 TB hcode hmT hu hT hdef hfree fun f c' pm ctv H2 s2 I2 eN T2 hf hfn hfr hco => wpAny_bind (wpAny_standAt (wpAny_pure (wpAny_evalAll_nil ?_)))))
  show wpAny _ _ (call (.builtin "sorted") [.ref pr] [(Str.ofString "key", .ref f)]) _ _ _
  obtain ⟨tr, tr2, tr3, hrg⟩ := I2.hok pr _ (eN _ _ hpr fun ps z => by cases z)
  obtain ⟨⟨oc, vsc, tc, hoc, hdc, hvc⟩, _, _⟩ := I2.hok c' _ hco
  obtain ⟨its, rv, pl, hz⟩ := I2.list (sqL_ext hL eN)
  have hup := L.up (o, .free) (PySem.mem_of_lookup L.free) rfl
  obtain ⟨mm, hns, hlk⟩ := I2.loc
  obtain ⟨u0, ru0, hlook⟩ := hlk io o (.ref La) hN hσ (hup.elim (fun z => .inr (.inl z)) (fun z => .inr (.inr z)))
  obtain rfl : u0 = Value.ref La := ru0
  obtain ⟨co, hcc, hcell⟩ : ∃ co, X.env.cells.lookup o = some co ∧ s2.heap.IsCell co (some (.ref La)) := by
    rcases hlook with ⟨z, _⟩ | ⟨_, z⟩
    · have z : X.env.scope.names.lookup o = some .local := z
      rcases hup with y | y <;> rw [show X.env.scope.names.lookup o = _ from y] at z <;> cases z
    · exact z
  have hcl : (cloFrom X.env.cells scope.names []).lookup o = some co := by
    obtain ⟨c1, e1⟩ := mem_lookup (cloFrom_has (cells := X.env.cells) (acc := []) (PySem.mem_of_lookup L.free))
    rcases cloFrom_mem (PySem.mem_of_lookup e1) with hm | ⟨h1, h2⟩
    · cases hm
    · rw [e1, h2, hcc]
      rfl
  have lim2 := I2.nolimit
  refine PyProof.Rows.call_function_entry_kw PyProof.Rows.kind_sorted PyProof.Rows.plain_sorted PyProof.Rows.entry_sorted (PyProof.Rows.ksk_s1 _ _) ?_
  unfold Builtin.«sorted»
  refine wpAny_bind (m := checkCount "sorted" 1 1 _) (wpAny_pure ?_)
  refine wpAny_bind (L2.collect_range (A := X.A.in1) (a := 0) (b := (m : Int)) (c := 1) (n := m) (I2.ok.hd hc) hrg (small_one (by omega) (by omega) (by omega) (by omega)) (by have e := rangeSize_nat 0 (m : Int); rw [e]; omega) hm24 fun h' tk acc hk hacc => ?_)
  have I3 : Inv X pins σ H2 { s2 with heap := h', toks := tk } := I2.kept hk
  have hal : acc.toList.length = m := by rw [Array.length_toList]; exact hacc.1
  refine wpAny_bind (wpAny_newList ?_ (by rw [hal, sizeLine_eq]; omega))
  have hoL : (h'.push (seqObj "list" acc.toList.toArray 0)).get? h'.objs.size = some (seqObj "list" acc.toList.toArray 0) := Heap.get?_push_size _ rfl
  show wpAny _ _ _ _ _ { s2 with heap := h'.push (seqObj "list" acc.toList.toArray 0), toks := tk }
  have hE : PySem.W.EachIs (fun (u : Value) (i : Nat) => RelV (V.int (i : Int)) u) acc.toList (List.range m) := by
    refine each_of ?_
    rw [← hal]
    refine vals_of_get acc.toList _ fun j u hj => ?_
    obtain ⟨t, rfl⟩ := hacc.2 j u (by rw [← hj, Array.getElem?_toList])
    exact ⟨t, by rw [Int.mul_one, Int.zero_add]⟩
  have old : ∀ b o, s2.heap.get? b = some o → b ≠ h'.objs.size ∧ (h'.push (seqObj "list" acc.toList.toArray 0)).get? b = some o := fun b o e => ⟨Nat.ne_of_lt (Heap.lt_size (hk b o e)), Heap.get?_push_of_some _ (hk b o e)⟩
  refine wpAny_bind (wpAny_holding (PySem.W.list_sort_key_data (b := false) (s := { s2 with heap := h'.push (seqObj "list" acc.toList.toArray 0), toks := tk }) (fun i : Nat => PyData.int (-rk i)) hoL hE (PySem.W.AllAlike.of fun _ _ => rfl) (PySem.W.Sortable.others fun b => ⟨fun z => (nomatch z), fun xs z => (nomatch z)⟩) (by rw [List.length_range, sizeLine_eq]; omega)
    (fun x _ => ?_) (PyProof.Rows.ksk_l1 _ _) (PyProof.Rows.ksk_t1 _ _) (fun v i hv hi hh tk2 kp => ?_) fun out cc hh tk2 kp hD hlen eo => ?_))
  · have := hr.un
    show X.A.units + 1 + 1 + 0 < _
    omega
  · obtain ⟨t0, rfl⟩ := hv
    have hi' : i < m := List.mem_range.mp hi
    obtain ⟨tp, us, hx, hS, hu0⟩ := hrow i hi'
    have kp2 : ∀ b o, s2.heap.get? b = some o → hh.get? b = some o := fun b o e => kp b o (old b o e).1 (old b o e).2
    obtain ⟨w1, ew, rw1⟩ := rv.get hx
    obtain rfl : w1 = Value.ref tp := rw1
    obtain ⟨us', rv', pl', hz'⟩ := I2.tuple (sqT_ext hS eN)
    obtain ⟨w2, ew2, rw2⟩ := rv'.get hu0
    obtain ⟨t3, rfl⟩ := rw2
    have l63 := line63
    have hpL : hh.IsList La its.toArray := by
      obtain ⟨oc, e1, e2⟩ := pl.isList
      exact ⟨oc, kp2 _ _ e1, e2⟩
    have hpC : hh.IsCell co (some (.ref La)) := by
      obtain ⟨oc, e1, e2⟩ := hcell
      exact ⟨oc, kp2 _ _ e1, e2⟩
    exact turn_neg (s := { s2 with heap := hh, toks := tk2 }) (kp2 _ _ hf) ⟨oc, vsc, tc, kp2 _ _ hoc, hdc, hvc⟩ hr.depth (lim2.keeps kp2) L.co L.gen L.kind L.cells L.par L.free (fun u v => hbind _ _ _ _ _ _) hcl hpC hpL ew (by omega) (pl'.keeps kp2) ew2 (by have := rv'.length; omega) hd1 hd2 hd3
  · rw [PySem.W.dataLe_int] at eo
    have hE2 : Vals (((List.range m).mergeSort fun i j => decide (-rk i ≤ -rk j)).map fun i : Nat => V.int (i : Int)) out := of_each eo
    refine wpAny_pure ⟨_, rfl, .ref h'.objs.size, upd H2 h'.objs.size (.lst _), I3.laid (t' := tk2) (fun b u e => ?_) (Nat.le_refl _) ⟨?_, out, cc, hE2, hD⟩, rfl, q H2 eN T2 _ (I3.hok.fresh (Nat.le_refl _))⟩
    · exact kp b u (Nat.ne_of_lt (Heap.lt_size e)) (Heap.get?_push_of_some _ e)
    · rw [List.length_map, List.length_mergeSort, List.length_range, sizeLine_eq]
      omega
end
end RLam

namespace Pot
open PySem PySem.Spec PyProof.Rows L2
theorem up_by {sc scope : Scope} (h : (scope.names.all fun y => !decide (y.2 = .free) || (decide (sc.names.lookup y.1 = some .cell) || decide (sc.names.lookup y.1 = some .free))) = true) : ∀ y ∈ scope.names, y.2 = .free → sc.names.lookup y.1 = some .cell ∨ sc.names.lookup y.1 = some .free := fun y hy e => by
  have z := List.all_eq_true.mp h y hy
  simp only [Bool.or_eq_true, Bool.not_eq_true', decide_eq_true_eq, decide_eq_false_iff_not] at z
  exact z.resolve_left fun n => n e
/-! ### a def whose code object is known -/
theorem okC {P : Program} {w : World} {K : PySem.W.Frag} {mg : Str → Option Value} {base : Heap} {x qual : Str} {st : Stmt} {f c : Addr} {fd : FuncData} {N ps : List Str} {k : Nat} {sp : Sp} (F : Fun K x qual st f fd) (hc : fd.code = .ref c)
    (S : FnScope N ps (defScope st)) (many : ∀ vs H Q E, sp vs H Q E → vs.length = ps.length)
    (body : ∀ (A : Around) (outer : List Env) (s : Shared) (H : Hp) (vs : List V) (Q : VK) (E : XK), Room k (A.deeper (envOfC qual (defScope st) s.heap.objs.size f (.ref c))) → sp vs H Q E →
      ∃ t, PSs (cxOf CX0 P w K mg base N qual (defScope st) f (.ref c) A outer s H E).nox (defBody st) t ∧ t { nx := fun _ H' => Q .non H', rt := Q } (start N vs) H) : FnOk P w K mg base CX0 (k + 1) f fd ps sp := by
  obtain ⟨oc, od, kV, doc, pm, an, cdv, ct, osl, rfl, at_, code⟩ := F.ex
  have e : cdv = .ref c := hc
  subst e
  refine fn_of at_ code S many fun A outer s H vs Q E room want => ?_
  obtain ⟨t, ht, hq⟩ := body A outer s H vs Q E room want
  exact ⟨t, ht.nox, hq⟩
/-! ### the law's own call, where tables of code objects grow -/
theorem law_callGT {P : Program} {w : World} {K : PySem.W.Frag} {mg mb : Str → Option Value} {k : Nat} {fa a : Addr} {cs : List (Addr × Addr)} {fd : FuncData} {x : Str} {sp : Sp} {s : Shared} {vs : List Value} {ns : List Int}
    (kin : K.In s.heap) (glob : s.heap.Ns mainGlobals mg) (blt : s.heap.Ns builtinsNs mb) (boot : ∀ y : Str, y ≠ "__name__" → mb y = bootBuiltins y) (lim : s.heap.NoLimit) (gens : s.gens = #[])
    (tabs : ∀ p ∈ cs, s.heap.get? p.2 = some (PySem.W.tabObj #[])) (out : ∀ p ∈ cs, K.lookup p.2 = none) (code : ∀ p ∈ cs, PySem.W.CodeHd s.heap p.1 p.2)
    (bmain : ∃ (bm : Addr) (ob : Obj), mg "__builtins__" = some (.ref bm) ∧ bm ≠ builtinsNs ∧ s.heap.get? bm = some ob ∧ ob.cls = .type "module" ∧ ob.dict = some builtinsNs ∧ ob.data = .plain)
    (obj : s.heap.get? a = some { cls := .type "list", data := .seq vs.toArray }) (whole : IntsAre vs ns) (small : ns.length ≤ sizeLine) (room : Room k callerA)
    (F : ∀ base : Heap, K.In base → base.Ns mainGlobals mg → (∀ p ∈ cs, LamX.TabB base mg p.1 p.2) → FnG P w K mg base k fa fd [x] sp) (bind : ∀ (s : Shared) (u : Value), BindsTo s fd ⟨[u], []⟩ [(x, u)])
    (want : ∀ H : Hp, (∀ p ∈ cs, H p.2 = some (.tbl #[])) → SqL K H a (ns.map V.int) → sp [.ref a] H (fun v _ => v = .bl true) E0) :
    codeAny (model P w) callerA (.call (.ref fa) ⟨[.ref a], []⟩) (fun r s' => r = .ok (.ret (.bool true)) ∧ OldK s.heap s'.heap ∧ s'.os = s.os ∧ AllBare s'.gens) s := by
  have rv := vals_ints whole
  have nv := whole.length
  obtain ⟨isT, eT⟩ : ∃ isT : Addr → Prop, isT = fun b => ∃ p ∈ cs, p.2 = b := ⟨_, rfl⟩
  have inT : ∀ p ∈ cs, isT p.2 := fun p hp => by rw [eT]; exact ⟨p, hp, rfl⟩
  have atT : ∀ {b}, isT b → s.heap.get? b = some (PySem.W.tabObj #[]) := fun {b} h => by
    rw [eT] at h
    obtain ⟨p, hp, rfl⟩ := h
    exact tabs p hp
  have outT : ∀ {b}, isT b → K.lookup b = none := fun {b} h => by
    rw [eT] at h
    obtain ⟨p, hp, rfl⟩ := h
    exact out p hp
  have ofT : ∀ {b}, isT b → ∃ p ∈ cs, p.2 = b := fun {b} h => by rw [eT] at h; exact h
  have aT : ¬ isT a := fun h => by
    have z := (atT h).symm.trans obj
    have z2 : Data.fields #[] = Data.seq vs.toArray _ := congrArg Obj.data (Option.some.inj z)
    cases z2
  clear eT
  -- the tables, and the script where it isn't one of the written part
  obtain ⟨H, H1, H2, H3, H4⟩ : ∃ H : Hp, (∀ b, isT b → H b = some (.tbl #[])) ∧ SqL K H a (ns.map V.int) ∧ HOk P w H s.heap ∧ (∀ b u, H b = some u → (isT b ∧ u = .tbl #[]) ∨ (b = a ∧ K.lookup a = none ∧ ∃ ob xs, u = .frz ob (.lst xs))) := by
    have cl := fun b => Classical.propDecidable (isT b)
    cases lk : K.lookup a with
    | some o =>
      have same := kin a o lk
      rw [obj] at same
      cases same
      have hit : ∀ b u, (if isT b then some (HO.tbl #[]) else none) = some u → isT b ∧ u = .tbl #[] := fun b u z => by
        split at z
        · cases z; exact ⟨‹_›, rfl⟩
        · cases z
      refine ⟨fun b => if isT b then some (.tbl #[]) else none, fun b h => if_pos h, .inr ⟨_, vs.toArray, _, lk, rfl, rfl, rfl, by rw [List.size_toArray, nv]; exact small, by simpa using rv⟩, fun b u z => ?_, fun b u z => .inl (hit b u z)⟩
      obtain ⟨h, rfl⟩ := hit b u z
      exact atT h
    | none =>
      have hit : ∀ b u, (if isT b then some (HO.tbl #[]) else if b = a then some (HO.frz { cls := .type "list", data := .seq vs.toArray } (.lst (ns.map V.int))) else none) = some u → (isT b ∧ u = .tbl #[]) ∨ (b = a ∧ u = .frz { cls := .type "list", data := .seq vs.toArray } (.lst (ns.map V.int))) := fun b u z => by
        split at z
        · cases z; exact .inl ⟨‹_›, rfl⟩
        · split at z
          · cases z; exact .inr ⟨‹_›, rfl⟩
          · cases z
      refine ⟨fun b => if isT b then some (.tbl #[]) else if b = a then some (.frz { cls := .type "list", data := .seq vs.toArray } (.lst (ns.map V.int))) else none, fun b h => if_pos h, .inl (.inr ⟨{ cls := .type "list", data := .seq vs.toArray }, (if_neg aT).trans (if_pos rfl)⟩), fun b u z => ?_, fun b u z => (hit b u z).imp id fun h => ⟨h.1, rfl, _, _, h.2⟩⟩
      rcases hit b u z with ⟨h, rfl⟩ | ⟨rfl, rfl⟩
      · exact atT h
      · exact ⟨obj, by rw [List.length_map]; exact small, vs, _, rv, obj⟩
  have hid : ∀ {b : Addr} {o : Obj}, s.heap.get? b = some o → H b = none → (hidT s.heap H).get? b = some o := fun e n => hidT_get e n
  have no : ∀ {b : Addr} {o : Obj}, s.heap.get? b = some o → (∀ us n, o.data ≠ .seq us n) → o.data ≠ .fields #[] → H b = none := fun {b o} e n1 n2 => by
    cases q : H b with
    | none => rfl
    | some u =>
      rcases H4 b u q with ⟨h, _⟩ | ⟨rfl, _⟩
      · rw [atT h] at e
        cases e
        exact absurd rfl n2
      · rw [obj] at e
        cases e
        exact absurd rfl (n1 _ _)
  have kinB : K.In (hidT s.heap H) := fun b o e => hid (kin b o e) (by
    cases q : H b with
    | none => rfl
    | some u =>
      rcases H4 b u q with ⟨h, _⟩ | ⟨rfl, h, _⟩
      · rw [outT h] at e; cases e
      · rw [h] at e; cases e)
  have ns_ : ∀ {b : Addr} {m : Str → Option Value}, s.heap.Ns b m → (hidT s.heap H).Ns b m := fun {b m} h => by
    obtain ⟨o, es, ep, e, d, r⟩ := h
    exact ⟨o, es, ep, hid e (no e (fun us n z => by rw [d] at z; cases z) fun z => by rw [d] at z; cases z), d, r⟩
  have md : Mod K mg (hidT s.heap H) := ⟨kinB, ns_ glob, ⟨mb, ns_ blt, boot⟩, by obtain ⟨mc, h1, h2⟩ := lim; exact ⟨mc, ns_ h1, h2⟩⟩
  have globNe : ∀ {b : Addr} {o : Obj}, s.heap.get? b = some o → (∀ es ep, o.data ≠ .dict es ep) → b ≠ mainGlobals := fun {b o} e n z => by
    obtain ⟨o2, es, ep, e2, d, _⟩ := glob
    rw [z, e2] at e
    cases e
    exact n _ _ d
  have tb : ∀ p ∈ cs, LamX.TabB (hidT s.heap H) mg p.1 p.2 := fun p hp => by
    have hTp := tabs p hp
    refine ⟨?_, ?_, fun z => globNe hTp (fun es ep q => by cases q) z.symm⟩
    · obtain ⟨o, us, file, tf, flags, tg, inF, text, tt, e1, r1, r2, r3, r⟩ := code p hp
      exact ⟨o, us, file, tf, flags, tg, inF, text, tt, hid e1 (no e1 (fun us n z => by rw [r2] at z; cases z) fun z => by rw [r2] at z; cases z; simp at r3), r1, r2, r3, r⟩
    · obtain ⟨bm, ob, b1, b2, b3, b4, b5, b6⟩ := bmain
      refine ⟨bm, ob, b1, b2, globNe b3 (fun es ep q => by rw [b6] at q; cases q), fun q => ?_, hid b3 (no b3 (fun us n z => by rw [b6] at z; cases z) fun z => by rw [b6] at z; cases z), b4, b5, b6⟩
      rw [q, hTp] at b3
      cases b3
      cases b6
  have e0 : Env0 P w K mg (hidT s.heap H) callerA [] s H := ⟨rfl, md, fun b o e => of_hidT e, Nat.le_of_eq (hidT_size _ _), trivial, (fun b hb => nomatch (show b ∈ ([] : List Addr) from hb)), H3, .of_eq gens⟩
  refine codeAny_mono ((F _ kinB (ns_ glob) tb).does callerA [] s H ⟨[.ref a], []⟩ [.ref a] [.ref a] _ rfl room e0 (bind s (.ref a)) (.cons rfl .nil) (want H (fun p hp => H1 _ (inT p hp)) H2)) fun res s' h => ?_
  rcases res with _ | fl
  case error => exact (show False from h).elim
  cases fl <;> first | exact (show False from h).elim | skip
  obtain ⟨v, H', os, bare, un, fine', rel, q⟩ := h
  cases (show v = .bl true from q)
  cases (show _ = Value.bool true from rel)
  have key : ∀ b o, ¬ isT b → s.heap.get? b = some o → s'.heap.get? b = some o := fun b o nb e => by
    cases q : H b with
    | none => exact un.keep b o e q (fun z => nomatch (show b ∈ ([] : List Addr) from z)) (fun z => nomatch z)
    | some u =>
      rcases H4 b u q with ⟨h, _⟩ | ⟨rfl, _, ob, xs, rfl⟩
      · exact absurd h nb
      · have e1 := (H3 _ _ q).1
        have e2 := (fine' _ _ (un.frzs _ ob _ q)).1
        rw [e] at e1; cases e1
        exact e2
  have grow : ∀ {b}, isT b → ∃ more : Array Value, s'.heap.get? b = some (PySem.W.tabObj more) := fun {b} h => by
    obtain ⟨more, z⟩ := un.tbls b #[] (H1 b h)
    exact ⟨_, fine' b _ z⟩
  refine ⟨rfl, ⟨fun b o e => ?_, fun b o e => ?_⟩, os, bare⟩
  · by_cases hb : isT b
    · obtain ⟨more, hm⟩ := grow hb
      obtain ⟨p, hp, rfl⟩ := ofT hb
      rw [tabs p hp] at e
      cases e
      exact .inr (.inl ⟨((code p hp).tab (tabs p hp)).isCodeTable, rfl, #[], more, rfl, (by rw [Array.empty_append]; exact hm)⟩)
    · exact .inl (key b o hb e)
  · by_cases hb : isT b
    · exact (grow hb).elim fun more hm => ⟨_, hm⟩
    · exact ⟨o, key b o hb e⟩
theorem walkGT {l : PySem.W.OpenLaw} {n k : Nat} {q : Program} {loose : List Str} {XP : (Str → Option Value) → Heap → Prop} {YP : World → Heap → Prop} {d : DefRec} {K : Params → PySem.W.Frag} {x : Str}
    (most : l.most = some n) (fits : n ≤ sizeLine) (plain : d.params.defaults = []) (room : Room k callerA) (part : ∀ (w : World) (h : Heap), YP w h → (K w.params).In h)
    (F : ∀ (w : World) (mg : Str → Option Value) (fa : Addr) (h : Heap), YP w h → (K w.params).In h → h.Ns mainGlobals mg → mg d.name = some (.ref fa) →
      ∃ (fd : FuncData) (cs : List (Addr × Addr)) (sp : Sp), (∀ p ∈ cs, h.get? p.2 = some (PySem.W.tabObj #[])) ∧ (∀ p ∈ cs, (K w.params).lookup p.2 = none) ∧ (∀ p ∈ cs, PySem.W.CodeHd h p.1 p.2) ∧ (∀ (s : Shared) (u : Value), BindsTo s fd ⟨[u], []⟩ [(x, u)]) ∧
        (∀ (H : Hp) (a : Addr) (ns : List Int), ns.length ≤ n → (∀ p ∈ cs, H p.2 = some (.tbl #[])) → SqL (K w.params) H a (ns.map V.int) → sp [.ref a] H (fun v _ => v = .bl true) E0) ∧
        ∀ base : Heap, (K w.params).In base → base.Ns mainGlobals mg → (∀ p ∈ cs, LamX.TabB base mg p.1 p.2) → FnG l.prog w (K w.params) mg base k fa fd [x] sp) :
    PySem.W.WalkO q loose XP YP l.row.toRowW d [] (fun f vs => PySem.call f vs) := by
  refine Att.attach_call most plain fun w s₀ s₁ mg mb fa o pm cd doc a vs ns G Y _ _ _ named obj whole len gens => ?_
  obtain ⟨fd, cs, sp, hT, nT, C, bind, want, hF⟩ := F w mg fa _ Y (part w _ Y) G.T.g named
  exact law_callGT (part w _ Y) G.T.g G.T.b G.T.builtins G.T.nolimit gens hT nT C G.T.bmain obj whole (Nat.le_trans len fits) room hF bind fun H hH seq => want H a ns len hH seq
end Pot

set_option maxHeartbeats 2000000
namespace RLam
open PySem PySem.Spec PyProof.Rows L2 PySem.Calls
/-! ### a lambda with one value by place, its answer the pair of the first part of a row of a captured list and the value itself -/
section
variable {prog : Program} {w : World} {B : Around} {s : Shared}
theorem turn_pair {f c' co L tp : Addr} {q o n : Str} {params : Arguments} {scope : Scope} {cl : List (Str × Addr)} {pm ctv : Value} {its us : List Value} {i : Nat} {t0 t1 : Tok} {r : Int} {p1 p2 p3 p4 p5 p6 p7 : Pos} {x1 : Nat} {j : Nat}
    (hf : s.heap.get? f = some (PySem.W.kla_obj "<lambda>" q params (.Tuple [.Subscript (.Subscript (.Name o p1) (.Name n p2) p3) (.Constant (.int 0) j p4) p5, .Name n p6] x1 p7) scope cl pm c' ctv))
    (hcd : ∃ (oc : Obj) (vs : Array Value) (t : Tok), s.heap.get? c' = some oc ∧ oc.data = .fields vs ∧ vs[1]? = some (.str q t))
    (hroom : B.depth < recursionLimit) (lim : s.heap.NoLimit) (hco : scope.isCoroutine = false) (hge : scope.isGenerator = false) (hk : scope.kind = .function) (hnc : ∀ x ∈ scope.names, x.2 ≠ .cell)
    (hn : scope.names.lookup n = some .local) (ho : scope.names.lookup o = some .free)
    (hbind : ∀ (u v : Value), bindArgs (PySem.W.kla_fn "<lambda>" q params (.Tuple [.Subscript (.Subscript (.Name o p1) (.Name n p2) p3) (.Constant (.int 0) j p4) p5, .Name n p6] x1 p7) scope cl pm u ctv) ⟨[v], []⟩ = pure [(n, v)])
    (hcl : cl.lookup o = some co) (hcell : s.heap.IsCell co (some (.ref L))) (hL : s.heap.IsList L its.toArray) (hi : its[i]? = some (.ref tp)) (hi63 : i < 2 ^ 63) (hT : IsTup s.heap tp us.toArray) (hu : us[0]? = some (.int r t1)) (hus : us.length < 2 ^ 63)
    (hd1 : (o == ("__debug__" : Str)) = false := by decide) (hd2 : (o == ("__classdict__" : Str)) = false := by decide) (hd3 : (n == ("__debug__" : Str)) = false := by decide) :
    wpAny (model prog w) B (call (.ref f) [.int (i : Int) t0]) (PySem.W.KeyPure (.tuple [.int r, .int (i : Int)]) s) (fun _ _ => False) s := by
  refine wpAny_call (PySem.W.kla_callFunE hroom hf rfl hco hge rfl ?_ ?_)
  · obtain ⟨oc, vs, t, a, b, c⟩ := hcd
    exact ⟨c', oc, vs, t, rfl, a, b, c⟩
  rw [hbind]
  refine wpAny_pure (wpAny_newFunctionEnv hnc (fun y hy => ?_) (fun h₁ hns hsb => ⟨lim.fresh _ hsb, ?_⟩) hk)
  · rw [List.mem_singleton] at hy
    rw [hy]
    exact hn
  have kp : ∀ b o, s.heap.get? b = some o → h₁.get? b = some o := fun b o e => hsb.extBut b o (Nat.ne_of_lt (Heap.lt_size e)) (Heap.get?_push_of_some _ e)
  have hcell' : h₁.IsCell co (some (.ref L)) := by
    obtain ⟨oc, e1, e2⟩ := hcell
    exact ⟨oc, kp _ _ e1, e2⟩
  have hL' : h₁.IsList L its.toArray := by
    obtain ⟨oc, e1, e2⟩ := hL
    exact ⟨oc, kp _ _ e1, e2⟩
  have hT' : IsTup h₁ tp us.toArray := hT.keeps kp
  refine PySem.W.kla_codeExpr ?_
  refine wpAny_Tuple_spliced ?_
  refine Calls.spliced_cons ?_
  refine Subscript_ (Subscript_ (ld_captured hk ho hcl hcell' (ld_own (v := .int (i : Int) t0) hk hn hns ?_ ?_ hd3) hd1 hd2))
  · show ([(n, Value.int (i : Int) t0)] : List (Str × Value)).reverse.lookup n = _
    simp [List.lookup]
  · have l63 := line63
    refine item_listR (x := .ref tp) hL' (by omega) (by omega) (by simpa using hi) ?_ (by with_unfolding_all rfl)
    refine wpAny_Constant_int ?_
    refine subscriptTail_builtinR (x := .int r t1) hT'.typeIs slot_tuple_getitem.lookup (getItem_tuple (j := 0) (x := .int r t1) (Q := fun u s' => u = .int r t1 ∧ _) hT' (by omega) (by omega) ?_ ?_ ⟨rfl, ?_⟩) (by with_unfolding_all rfl)
    · rw [List.size_toArray]
      have hz : 0 < us.length := (List.getElem?_eq_some_iff.mp hu).1
      exact seqIndex_of (by omega) (by omega)
    · simpa using hu
    · refine Calls.spliced_cons (ld_own (v := .int (i : Int) t0) hk hn hns ?_ (Calls.spliced_nil ?_) hd3)
      · show ([(n, Value.int (i : Int) t0)] : List (Str × Value)).reverse.lookup n = _
        simp [List.lookup]
      · refine ⟨by show 2 ≤ sizeLine; decide, _, _, rfl, fun b o e => Heap.get?_push_of_some _ (kp b o e), ?_⟩
        exact .tuple (Heap.get?_push_size _ rfl) rfl rfl (.cons (.int _ _) (.cons (.int _ _) .nil))
end
/-- sorted(range(m), key=lambda n: (o[n][0], n)) -/
def tSortLamP (K : PySem.W.Frag) (T : List (Addr × Str)) (io : Nat) (ta : TA) : TE := fun σ H Q => ta σ H fun vs H1 => ∃ (p L : Addr) (m : Nat) (xs : List V) (rk : Nat → Int), vs = [V.ref p] ∧ H1 p = some (.rng 0 (m : Int)) ∧ m ≤ 2 ^ 24 ∧ LamX.Tabs T H1 ∧
  σ[io]? = some (some (.ref L)) ∧ SqL K H1 L xs ∧ (∀ i, i < m → ∃ (tp : Addr) (us : List V), xs[i]? = some (.ref tp) ∧ SqT K H1 tp us ∧ us[0]? = some (.int (rk i))) ∧
  ∀ H2, LamX.ExtN H1 H2 → LamX.Tabs T H2 → ∀ q, H2 q = none → Q (.ref q) (upd H2 q (.lst (((List.range m).mergeSort fun i j => decide (rk i < rk j ∨ (rk i = rk j ∧ (i : Int) ≤ (j : Int)))).map fun i : Nat => V.int (i : Int))))
section
variable {X : Cx} {k : Nat} {T : List (Addr × Str)} {io : Nat} {ta : TA} {e : Expr} {n o : Str} {c P : Addr} {params : Arguments} {scope : Scope} {p kpos lpos pos p1 p2 p3 p4 p5 p6 p7 : Pos} {x1 : Nat} {j : Nat}
theorem pe_sortLamP (hc : X.calm = true) (hg : Gl X "sorted") (hm : X.mg "sorted" = none) (ha : PA X [e] ta) (TB : LamX.TabB X.base X.mg c P) (hcode : X.env.code = .ref c) (hmT : (P, X.env.qual ++ "<lambda>") ∈ T) (hu : ∀ p ∈ T, p.1 = P → p.2 = X.env.qual ++ "<lambda>")
    (hr : Room (k + 1) X.A) (L : LamN X.env.scope scope n o) (hN : X.N[io]? = some o) (hdef : defaultsOf params X.env = ([], []))
    (hbind : ∀ (q : Str) (cl : List (Str × Addr)) (pm ctv u v : Value), bindArgs (PySem.W.kla_fn "<lambda>" q params (.Tuple [.Subscript (.Subscript (.Name o p1) (.Name n p2) p3) (.Constant (.int 0) j p4) p5, .Name n p6] x1 p7) scope cl pm u ctv) ⟨[v], []⟩ = pure [(n, v)])
    (hd1 : (o == ("__debug__" : Str)) = false := by decide) (hd2 : (o == ("__classdict__" : Str)) = false := by decide) (hd3 : (n == ("__debug__" : Str)) = false := by decide)
    (he : backTo pos (starEach [e] X.env) = (false, eval e X.env) :: backTo pos (starEach [] X.env) := by rfl) (hpl : (backTo pos (starEach [e] X.env)).any (·.1) = false := by rfl) :
    PE X (.Call (.Name "sorted" p) [e] [⟨some "key", .Lambda params (.Tuple [.Subscript (.Subscript (.Name o p1) (.Name n p2) p3) (.Constant (.int 0) j p4) p5, .Name n p6] x1 p7) scope lpos, kpos⟩] pos) (tSortLamP X.K T io ta) := by
  refine ⟨fun pins s σ H Q I h => ?_⟩
  refine wpAny_Call_Name_kw (ld_blt I hg hm (by rfl) ?_)
  refine PyProof.Rows.callWith_kw (thn (ha.run pos pins s σ H _ I h) fun us s1 ⟨vs, H1, I1, r1, q1⟩ => ?_) he hpl (by rfl) (by rfl)
  obtain ⟨pr, La, m, xs, rk, rfl, hpr, hm24, hT, hσ, hL, hrow, q⟩ := q1
  obtain rfl := Vals.ref1 r1
  have hfree : ∀ y ∈ scope.names, y.2 = .free → ∃ c, X.env.cells.lookup y.1 = some c := fun y hy e => by
    rcases L.up y hy e with k | k
    · exact I1.ok.has _ (.inl k)
    · exact I1.ok.has _ (.inr k)
  show wpAny _ _ (evalAll [do let v ← eval _ X.env; standAt pos; pure v]) _ _ s1
  refine wpAny_evalAll_cons (wpAny_bind (LamX.lam_make2 I1 TB hcode hmT hu hT hdef hfree fun f c' pm ctv H2 s2 I2 eN T2 hf hfn hfr hco => wpAny_bind (wpAny_standAt (wpAny_pure (wpAny_evalAll_nil ?_)))))
  show wpAny _ _ (call (.builtin "sorted") [.ref pr] [(Str.ofString "key", .ref f)]) _ _ _
  obtain ⟨tr, tr2, tr3, hrg⟩ := I2.hok pr _ (eN _ _ hpr fun ps z => by cases z)
  obtain ⟨⟨oc, vsc, tc, hoc, hdc, hvc⟩, _, _⟩ := I2.hok c' _ hco
  obtain ⟨its, rv, pl, hz⟩ := I2.list (sqL_ext hL eN)
  have hup := L.up (o, .free) (PySem.mem_of_lookup L.free) rfl
  obtain ⟨mm, hns, hlk⟩ := I2.loc
  obtain ⟨u0, ru0, hlook⟩ := hlk io o (.ref La) hN hσ (hup.elim (fun z => .inr (.inl z)) (fun z => .inr (.inr z)))
  obtain rfl : u0 = Value.ref La := ru0
  obtain ⟨co, hcc, hcell⟩ : ∃ co, X.env.cells.lookup o = some co ∧ s2.heap.IsCell co (some (.ref La)) := by
    rcases hlook with ⟨z, _⟩ | ⟨_, z⟩
    · have z : X.env.scope.names.lookup o = some .local := z
      rcases hup with y | y <;> rw [show X.env.scope.names.lookup o = _ from y] at z <;> cases z
    · exact z
  have hcl : (cloFrom X.env.cells scope.names []).lookup o = some co := by
    obtain ⟨c1, e1⟩ := mem_lookup (cloFrom_has (cells := X.env.cells) (acc := []) (PySem.mem_of_lookup L.free))
    rcases cloFrom_mem (PySem.mem_of_lookup e1) with hm | ⟨h1, h2⟩
    · cases hm
    · rw [e1, h2, hcc]
      rfl
  have lim2 := I2.nolimit
  refine PyProof.Rows.call_function_entry_kw PyProof.Rows.kind_sorted PyProof.Rows.plain_sorted PyProof.Rows.entry_sorted (PyProof.Rows.ksk_s1 _ _) ?_
  unfold Builtin.«sorted»
  refine wpAny_bind (m := checkCount "sorted" 1 1 _) (wpAny_pure ?_)
  refine wpAny_bind (L2.collect_range (A := X.A.in1) (a := 0) (b := (m : Int)) (c := 1) (n := m) (I2.ok.hd hc) hrg (small_one (by omega) (by omega) (by omega) (by omega)) (by have e := rangeSize_nat 0 (m : Int); rw [e]; omega) hm24 fun h' tk acc hk hacc => ?_)
  have I3 : Inv X pins σ H2 { s2 with heap := h', toks := tk } := I2.kept hk
  have hal : acc.toList.length = m := by rw [Array.length_toList]; exact hacc.1
  refine wpAny_bind (wpAny_newList ?_ (by rw [hal, sizeLine_eq]; omega))
  have hoL : (h'.push (seqObj "list" acc.toList.toArray 0)).get? h'.objs.size = some (seqObj "list" acc.toList.toArray 0) := Heap.get?_push_size _ rfl
  show wpAny _ _ _ _ _ { s2 with heap := h'.push (seqObj "list" acc.toList.toArray 0), toks := tk }
  have hE : PySem.W.EachIs (fun (u : Value) (i : Nat) => RelV (V.int (i : Int)) u) acc.toList (List.range m) := by
    refine each_of ?_
    rw [← hal]
    refine vals_of_get acc.toList _ fun j u hj => ?_
    obtain ⟨t, rfl⟩ := hacc.2 j u (by rw [← hj, Array.getElem?_toList])
    exact ⟨t, by rw [Int.mul_one, Int.zero_add]⟩
  have old : ∀ b o, s2.heap.get? b = some o → b ≠ h'.objs.size ∧ (h'.push (seqObj "list" acc.toList.toArray 0)).get? b = some o := fun b o e => ⟨Nat.ne_of_lt (Heap.lt_size (hk b o e)), Heap.get?_push_of_some _ (hk b o e)⟩
  refine wpAny_bind (wpAny_holding (PySem.W.list_sort_key_data (b := false) (s := { s2 with heap := h'.push (seqObj "list" acc.toList.toArray 0), toks := tk }) (fun i : Nat => PyData.tuple [.int (rk i), .int (i : Int)]) hoL hE (PySem.W.AllAlike.of fun _ _ => rfl) (PySem.W.Sortable.tuples fun b => ⟨_, _, rfl⟩) (by rw [List.length_range, sizeLine_eq]; omega)
    (fun x _ => ?_) (PyProof.Rows.ksk_l1 _ _) (PyProof.Rows.ksk_t1 _ _) (fun v i hv hi hh tk2 kp => ?_) fun out cc hh tk2 kp hD hlen eo => ?_))
  · have := hr.un
    have hd : (PyData.tuple [.int (rk x), .int (x : Int)]).depth ≤ 3 := by simp [PyData.depth, PyData.depthAll]
    show X.A.units + 1 + 1 + _ < _
    omega
  · obtain ⟨t0, rfl⟩ := hv
    have hi' : i < m := List.mem_range.mp hi
    obtain ⟨tp, us, hx, hS, hu0⟩ := hrow i hi'
    have kp2 : ∀ b o, s2.heap.get? b = some o → hh.get? b = some o := fun b o e => kp b o (old b o e).1 (old b o e).2
    obtain ⟨w1, ew, rw1⟩ := rv.get hx
    obtain rfl : w1 = Value.ref tp := rw1
    obtain ⟨us', rv', pl', hz'⟩ := I2.tuple (sqT_ext hS eN)
    obtain ⟨w2, ew2, rw2⟩ := rv'.get hu0
    obtain ⟨t3, rfl⟩ := rw2
    have l63 := line63
    have hpL : hh.IsList La its.toArray := by
      obtain ⟨oc, e1, e2⟩ := pl.isList
      exact ⟨oc, kp2 _ _ e1, e2⟩
    have hpC : hh.IsCell co (some (.ref La)) := by
      obtain ⟨oc, e1, e2⟩ := hcell
      exact ⟨oc, kp2 _ _ e1, e2⟩
    exact turn_pair (s := { s2 with heap := hh, toks := tk2 }) (kp2 _ _ hf) ⟨oc, vsc, tc, kp2 _ _ hoc, hdc, hvc⟩ hr.depth (lim2.keeps kp2) L.co L.gen L.kind L.cells L.par L.free (fun u v => hbind _ _ _ _ _ _) hcl hpC hpL ew (by omega) (pl'.keeps kp2) ew2 (by have := rv'.length; omega) hd1 hd2 hd3
  · rw [PySem.W.dataLe_ii] at eo
    have hE2 : Vals (((List.range m).mergeSort fun i j => decide (rk i < rk j ∨ (rk i = rk j ∧ (i : Int) ≤ (j : Int)))).map fun i : Nat => V.int (i : Int)) out := of_each eo
    refine wpAny_pure ⟨_, rfl, .ref h'.objs.size, upd H2 h'.objs.size (.lst _), I3.laid (t' := tk2) (fun b u e => ?_) (Nat.le_refl _) ⟨?_, out, cc, hE2, hD⟩, rfl, q H2 eN T2 _ (I3.hok.fresh (Nat.le_refl _))⟩
    · exact kp b u (Nat.ne_of_lt (Heap.lt_size e)) (Heap.get?_push_of_some _ e)
    · rw [List.length_map, List.length_mergeSort, List.length_range, sizeLine_eq]
      omega
end
end RLam

set_option maxHeartbeats 2000000
namespace RLam
open PySem PySem.Spec PyProof.Rows L2 PySem.Calls
/-! ### max(list, key=lambda n: e), where e may read n and one captured name, and call defs of the module -/
/-- one parameter, the other names captured or of the module -/
structure LamP (sc scope : Scope) (n : Str) : Prop where
  kind : scope.kind = .function
  co : scope.isCoroutine = false
  gen : scope.isGenerator = false
  own : ∀ y ∈ scope.names, y.2 ≠ .cell ∧ (y.2 = .local → y.1 = n)
  par : scope.names.lookup n = some .local
  free : ∀ y ∈ scope.names, y.2 = .free → sc.names.lookup y.1 = some .cell ∨ sc.names.lookup y.1 = some .free
theorem lamP_by {sc scope : Scope} {n : Str} (h : (decide (scope.kind = .function) && (!scope.isCoroutine && (!scope.isGenerator && (decide (scope.names.lookup n = some .local) &&
    scope.names.all fun y => !decide (y.2 = .cell) && ((!decide (y.2 = .local) || decide (y.1 = n)) && (!decide (y.2 = .free) || (decide (sc.names.lookup y.1 = some .cell) || decide (sc.names.lookup y.1 = some .free)))))))) = true) : LamP sc scope n := by
  simp only [Bool.and_eq_true, Bool.or_eq_true, Bool.not_eq_true', decide_eq_true_eq, decide_eq_false_iff_not, List.all_eq_true] at h
  obtain ⟨h1, h2, h3, h4, h5⟩ := h
  exact ⟨h1, h2, h3, fun y hy => ⟨(h5 y hy).1, fun e => (h5 y hy).2.1.resolve_left fun z => z e⟩, h4, fun y hy e => (h5 y hy).2.2.resolve_left fun z => z e⟩
abbrev envP (X : Cx) (scope : Scope) (L f c' : Addr) : Env := PySem.W.envX (X.env.qual ++ "<lambda>") scope L f (.ref c') (cloFrom X.env.cells scope.names [])
/-- the lambda's body, entered at s -/
def cxP (X : Cx) (A : Around) (s : Shared) (H : Hp) (scope : Scope) (f c' : Addr) (n o : Str) (xe : Value → Shared → Prop) : Cx where
  prog := X.prog
  w := X.w
  K := X.K
  mg := X.mg
  base := X.base
  A := A.deeper (envP X scope s.heap.objs.size f c')
  N := [n, o]
  s_0 := s
  H_0 := H
  env := envP X scope s.heap.objs.size f c'
  outer := X.stack
  stack := envP X scope s.heap.objs.size f c' :: X.stack
  ex := []
  fn := fun _ => false
  calm := true
  pn := []
  xe := xe
section
variable {X : Cx} {pins : List (Addr × Obj)} {σ : L2.St} {H : Hp} {s : Shared}
theorem cxP_start {A : Around} {scope : Scope} {f c' : Addr} {n o : Str} {v wv : V} {u : Value} {io : Nat} {h₁ : Heap} {tk : Nat} {xe : Value → Shared → Prop} (I : Inv X pins σ H s) (L : LamP X.env.scope scope n) (hno : o ≠ n) (e0 : Env0 X.prog X.w X.K X.mg X.base A X.stack s H) (hd : A.handled = none)
    (hN : X.N[io]? = some o) (hσ : σ[io]? = some (some wv)) (rv : RelV v u) (hns : h₁.Ns s.heap.objs.size fun y => ([(n, u)] : List (Str × Value)).reverse.lookup y) (kp : ∀ b o, s.heap.get? b = some o → h₁.get? b = some o) :
    Inv (cxP X A s H scope f c' n o xe) [] [some v, some wv] H { s with heap := h₁, toks := tk } := by
  have hfree : ∀ y ∈ scope.names, y.2 = .free → ∃ c, X.env.cells.lookup y.1 = some c := fun y hy e => by
    rcases L.free y hy e with k | k
    · exact I.ok.has _ (.inl k)
    · exact I.ok.has _ (.inr k)
  have cm : ∀ {y c}, (cloFrom X.env.cells scope.names []).lookup y = some c → X.env.cells.lookup y = some c := fun {y c} e => by
    rcases cloFrom_mem (PySem.mem_of_lookup e) with hm | ⟨h1, h2⟩
    · cases hm
    · obtain ⟨c1, hc⟩ := hfree _ h1 rfl
      have hc : X.env.cells.lookup y = some c1 := hc
      have e2 : c = c1 := by
        rw [h2, hc] <;> rfl
      rw [e2]
      exact hc
  have look : ∀ {y}, scope.names.lookup y = some .free → ∃ c, (cloFrom X.env.cells scope.names []).lookup y = some c := fun {y} hl =>
    mem_lookup (cloFrom_has (cells := X.env.cells) (acc := []) (PySem.mem_of_lookup hl))
  have cellK : ∀ {c : Addr} {v : Option Value}, s.heap.IsCell c v → h₁.IsCell c v := fun {c v} ⟨o, ho, hd⟩ => ⟨_, kp _ _ ho, hd⟩
  have noA : ∀ b : Addr, b ∉ (cxP X A s H scope f c' n o xe).ex := fun b z => absurd (show b ∈ ([] : List Addr) from z) (by simp)
  refine ⟨⟨e0.mod, L.kind, rfl, rfl, Nat.le_refl _, fun y z c e1 e2 => I.ok.inj y z c (cm e1) (cm e2), fun y hy => ?_, fun y c z _ => ?_, fun _ => hd, Around.frames_deeper e0.frames, .inr ⟨rfl, rfl⟩, fun b z => absurd z (noA b), e0.bs, e0.bsz, fun b _ _ => noA b,
      fun b z => absurd z (noA b), e0.funs, e0.frf⟩,
    rfl, e0.bare, Un.kept kp, ⟨_, hns, fun i y x e1 e2 e3 => ?_⟩, fun y c e => ?_, e0.hok.fresh (Nat.le_refl _), fun y c e => ?_, fun q hq => absurd (show q ∈ ([] : List (Addr × Obj)) ++ [] from hq) (by simp), e0.hok.kept kp, rfl⟩
  · have hy : scope.names.lookup y = some .cell ∨ scope.names.lookup y = some .free := hy
    rcases hy with hy | hy
    · exact absurd rfl (L.own _ (PySem.mem_of_lookup hy)).1
    · exact look hy
  · have z : false = true := z
    cases z
  · have e1 : ([n, o] : List Str)[i]? = some y := e1
    have e3 : Vis scope y := e3
    match i with
    | 0 =>
      obtain rfl : n = y := Option.some.inj e1
      have e2 : some (some v) = some (some x) := e2
      obtain rfl : v = x := Option.some.inj (Option.some.inj e2)
      refine ⟨u, rv, .inl ⟨L.par, ?_⟩⟩
      show ([(n, u)] : List (Str × Value)).reverse.lookup n = _
      simp [List.lookup]
    | 1 =>
      obtain rfl : o = y := Option.some.inj e1
      have e2 : some (some wv) = some (some x) := e2
      obtain rfl : wv = x := Option.some.inj (Option.some.inj e2)
      rcases e3 with k | k | k
      · exact absurd ((L.own _ (PySem.mem_of_lookup k)).2 rfl) hno
      · exact absurd rfl (L.own _ (PySem.mem_of_lookup k)).1
      · obtain ⟨m, hn, hl⟩ := I.loc
        have hvis : Vis X.env.scope o := (L.free _ (PySem.mem_of_lookup k) rfl).elim (fun k => .inr (.inl k)) (fun k => .inr (.inr k))
        obtain ⟨w', r, q⟩ := hl io o wv hN hσ hvis
        obtain ⟨c2, h2⟩ := look k
        refine ⟨w', r, .inr ⟨.inr k, c2, h2, ?_⟩⟩
        have c1 := cm h2
        rcases q with ⟨k', _⟩ | ⟨_, c3, e', z⟩
        · have k' : X.env.scope.names.lookup o = some .local := k'
          rcases L.free _ (PySem.mem_of_lookup k) rfl with k2 | k2 <;> rw [show X.env.scope.names.lookup o = _ from k2] at k' <;> cases k'
        · rw [c1] at e'
          cases e'
          exact cellK z
    | i + 2 =>
      have : ([n, o] : List Str)[i + 2]? = none := rfl
      rw [this] at e1
      cases e1
  · obtain ⟨w', z⟩ := I.cell y c (cm e)
    exact ⟨w', cellK z⟩
  · obtain ⟨v, o, ho, hd⟩ := I.cell y c (cm e)
    exact I.freeC y c (cm e)
/-- the first of the greatest -/
theorem argBest_gt (rk : Nat → Int) : ∀ k, argBest (fun i j => decide (rk i > rk j)) k ≤ k ∧ ∀ j, j ≤ k → rk j ≤ rk (argBest (fun i j => decide (rk i > rk j)) k) ∧ (j < argBest (fun i j => decide (rk i > rk j)) k → rk j < rk (argBest (fun i j => decide (rk i > rk j)) k))
  | 0 => ⟨Nat.le_refl _, fun j hj => by
    obtain rfl : j = 0 := by omega
    exact ⟨Int.le_refl _, fun z => absurd z (Nat.lt_irrefl 0)⟩⟩
  | k + 1 => by
    obtain ⟨h1, h2⟩ := argBest_gt rk k
    show (if decide (rk (k + 1) > rk _) = true then k + 1 else _) ≤ k + 1 ∧ ∀ j, j ≤ k + 1 → rk j ≤ rk (if decide (rk (k + 1) > rk _) = true then k + 1 else _) ∧ (j < (if decide (rk (k + 1) > rk _) = true then k + 1 else _) → rk j < rk (if decide (rk (k + 1) > rk _) = true then k + 1 else _))
    generalize argBest (fun i j => decide (rk i > rk j)) k = b at h1 h2 ⊢
    by_cases c : rk (k + 1) > rk b
    · rw [if_pos (decide_eq_true c)]
      refine ⟨Nat.le_refl _, fun j hj => ?_⟩
      by_cases e : j = k + 1
      · subst e; exact ⟨Int.le_refl _, fun z => absurd z (Nat.lt_irrefl _)⟩
      · have := (h2 j (by omega)).1
        exact ⟨by omega, fun _ => by omega⟩
    · rw [if_neg (fun z => c (of_decide_eq_true z))]
      refine ⟨by omega, fun j hj => ?_⟩
      by_cases e : j = k + 1
      · subst e; exact ⟨by omega, fun z => by omega⟩
      · exact h2 j (by omega)
/-- what max wants of the list, of the lambda's reading at each place, and of what follows -/
def tMaxLam (T : List (Addr × Str)) (io : Nat) (ta : TA) (tb : TE) : TE := fun σ H Q => ta σ H fun vs H1 => ∃ (p : Addr) (xs : List V) (rk : Nat → Int) (wv : V), vs = [V.ref p] ∧ H1 p = some (.lst xs) ∧ 0 < xs.length ∧ LamX.Tabs T H1 ∧ σ[io]? = some (some wv) ∧
  (∀ H2, LamX.ExtN H1 H2 → ∀ od, ∀ i x, xs[i]? = some x → tb [some x, some wv] (upd H2 p (.frz od (.lst xs))) fun v H3 => v = .int (rk i) ∧ H3 = upd H2 p (.frz od (.lst xs))) ∧
  ∀ H2, LamX.ExtN H1 H2 → LamX.Tabs T H2 → H2 p = some (.lst xs) → ∀ i x, xs[i]? = some x → (∀ j, j < xs.length → rk j ≤ rk i ∧ (j < i → rk j < rk i)) → Q x H2
variable {k : Nat} {T : List (Addr × Str)} {io : Nat} {ta : TA} {tb : TE} {e body : Expr} {n o : Str} {c P : Addr} {params : Arguments} {scope : Scope} {p kpos lpos pos : Pos}
theorem pe_maxLam (hc : X.calm = true) (hg : Gl X "max") (hm : X.mg "max" = none) (ha : PA X [e] ta) (TB : LamX.TabB X.base X.mg c P) (hcode : X.env.code = .ref c) (hmT : (P, X.env.qual ++ "<lambda>") ∈ T) (hu : ∀ p ∈ T, p.1 = P → p.2 = X.env.qual ++ "<lambda>")
    (hr : Room (k + 2) X.A) (L : LamP X.env.scope scope n) (hno : o ≠ n) (hN : X.N[io]? = some o) (hdef : defaultsOf params X.env = ([], []))
    (hbind : ∀ (q : Str) (cl : List (Str × Addr)) (pm ctv u v : Value), bindArgs (PySem.W.kla_fn "<lambda>" q params body scope cl pm u ctv) ⟨[v], []⟩ = pure [(n, v)])
    (hbody : ∀ (A : Around) (s : Shared) (H : Hp) (f c' : Addr) (xe : Value → Shared → Prop), Room k (cxP X A s H scope f c' n o xe).A → PE (cxP X A s H scope f c' n o xe) body tb)
    (he : backTo pos (starEach [e] X.env) = (false, eval e X.env) :: backTo pos (starEach [] X.env) := by rfl) (hpl : (backTo pos (starEach [e] X.env)).any (·.1) = false := by rfl) :
    PE X (.Call (.Name "max" p) [e] [⟨some "key", .Lambda params body scope lpos, kpos⟩] pos) (tMaxLam T io ta tb) := by
  refine ⟨fun pins s σ H Q I h => ?_⟩
  refine wpAny_Call_Name_kw (ld_blt I hg hm (by rfl) ?_)
  refine PyProof.Rows.callWith_kw (thn (ha.run pos pins s σ H _ I h) fun us s1 ⟨vs, H1, I1, r1, q1⟩ => ?_) he hpl (by rfl) (by rfl)
  obtain ⟨pr, xs, rk, wv, rfl, hpr, hpos, hT, hσ, hb, q⟩ := q1
  obtain rfl := Vals.ref1 r1
  have hfree : ∀ y ∈ scope.names, y.2 = .free → ∃ c, X.env.cells.lookup y.1 = some c := fun y hy e => by
    rcases L.free y hy e with k | k
    · exact I1.ok.has _ (.inl k)
    · exact I1.ok.has _ (.inr k)
  show wpAny _ _ (evalAll [do let v ← eval _ X.env; standAt pos; pure v]) _ _ s1
  refine wpAny_evalAll_cons (wpAny_bind (LamX.lam_make2 I1 TB hcode hmT hu hT hdef hfree fun f c' pm ctv H2 s2 I2 eN T2 hf hfn hfr hco => wpAny_bind (wpAny_standAt (wpAny_pure (wpAny_evalAll_nil ?_)))))
  show wpAny _ _ (call (.builtin "max") [.ref pr] [(Str.ofString "key", .ref f)]) _ _ _
  have hp2 := eN _ _ hpr (fun ps z => by cases z)
  have mu : Mut (some (HO.lst xs)) := trivial
  obtain ⟨od, I3⟩ := I2.lock hp2 mu
  have nfz := I2.nofrz hp2 mu
  have hpF : upd H2 pr (.frz od (.lst xs)) pr = some (.frz od (.lst xs)) := upd_same
  have hb := hb H2 eN od
  have hcoF : upd H2 pr (.frz od (.lst xs)) c' = some (LamX.CodeO c' (X.env.qual ++ "<lambda>")) := by
    rw [upd_ne (fun z => by rw [z, hp2] at hco; unfold LamX.CodeO at hco; cases hco)]; exact hco
  have hfF : upd H2 pr (.frz od (.lst xs)) f = none := by
    rw [upd_ne (fun z => by rw [z, hp2] at hfn; cases hfn)]; exact hfn
  have back : upd (upd H2 pr (.frz od (.lst xs))) pr (.lst xs) = H2 := by
    funext b
    by_cases hb : b = pr
    · rw [hb, upd_same, hp2]
    · rw [upd_ne hb, upd_ne hb]
  have eq := q H2 eN T2 hp2
  generalize hHF : upd H2 pr (.frz od (.lst xs)) = HF at I3 hpF hb hcoF hfF back
  obtain ⟨its, rv, pl, hz⟩ := I3.list (a := pr) (xs := xs) (.inl (.inr ⟨od, hpF⟩))
  have hlen : its.toArray.size = xs.length := by rw [List.size_toArray, rv.length]
  refine PySem.call_max_walkK (PySem.W.iter_listW (A := X.A.in1) (I2.ok.hd hc) pl.isList fun s₂ es W st hfp hw hk => ?_)
  have I4 : Inv X pins σ HF s₂ := by rw [es]; exact I3.kept fun b o e => Heap.get?_push_of_some _ e
  have sz4 : s2.heap.objs.size < s₂.heap.objs.size := hfp _ List.mem_cons_self
  have fpI : FpOk X pins HF s2.heap.objs.size := I3.fpOk (Nat.le_refl _) (I3.hok.fresh (Nat.le_refl _))
  have fpS : FpOk X pins HF s₂.heap.objs.size := I4.fpOk (Nat.le_refl _) (I4.hok.fresh (Nat.le_refl _))
  have fpL : ∀ b ∈ [s₂.heap.objs.size, s2.heap.objs.size], FpOk X pins HF b := fun b hb => by
    rcases List.mem_cons.mp hb with e | e
    · rw [e]; exact fpS
    · rw [List.mem_singleton.mp e]; exact fpI
  have hfl : f < s2.heap.objs.size := Heap.lt_size hf
  have noF : ∀ {b : Addr}, FpOk X pins HF b → b ∉ frs X.stack := fun fo hb => by
    rcases List.mem_cons.mp (I4.stkSub _ hb) with e | e
    · exact fo.2.1 e
    · exact fo.2.2.1 e
  have hil : ∀ i, i < its.toArray.size → ∃ x u, xs[i]? = some x ∧ its.toArray[i]? = some u ∧ RelV x u := fun i hi => by
    have hx : i < xs.length := by omega
    obtain ⟨u, e1, e2⟩ := rv.get (List.getElem?_eq_getElem hx)
    exact ⟨_, u, List.getElem?_eq_getElem hx, by rw [List.getElem?_toArray]; exact e1, e2⟩
  refine ⟨_, _, _, _, _, _, _, (fun s' => Inv X pins σ HF s' ∧ s'.heap.get? f = s2.heap.get? f ∧ s'.heap.get? f = some (PySem.W.kla_obj "<lambda>" (X.env.qual ++ "<lambda>") params body scope (cloFrom X.env.cells scope.names []) pm c' ctv)), (fun i kx _ => ∃ t, kx = .int (rk i) t), (fun i j => decide (rk i > rk j)), rfl, W, st, hfp, by omega, ?_, ⟨I4, ?_, hk _ _ hf⟩, fun v s' hP hJ => ?_⟩
  · refine ⟨fun s' s'' ⟨J, j1, j2⟩ m => ?_, fun i kx s' s'' h _ => h, fun i v s' ob Q' E' hi hP hJ hst hS hQ => ?_, fun i j ki kj s' Q' E' _ hi hj hq => ?_⟩
    · have nf : f ∉ [s₂.heap.objs.size, s2.heap.objs.size] := fun hb => by
        rcases List.mem_cons.mp hb with e | e
        · exact Nat.ne_of_lt (Nat.lt_trans hfl sz4) e
        · exact Nat.ne_of_lt hfl (List.mem_singleton.mp e)
      have e2 := m.heap f _ nf j2
      refine ⟨?_, by rw [e2, hf], e2⟩
      have I5 := J.turnedL (h' := s''.heap) (t' := s''.toks) m.heap fpL
      obtain ⟨hp, g, d, tk, os⟩ := s''
      have h1 : g = s'.gens := m.gens
      have h2 : d = s'.drawn := m.drawn
      have h3 : os = s'.os := m.os
      subst h1 h2 h3
      exact I5
    · obtain ⟨J, j1, j2⟩ := hJ
      obtain ⟨x, u, hx, hu', rxu⟩ := hil i hi
      have hP : its.toArray[i]? = some v := hP
      rw [hu'] at hP
      obtain rfl : u = v := Option.some.inj hP
      have hroom : Room (k + 1) X.A.in1 := hr.in1
      have e0 : Env0 X.prog X.w X.K X.mg X.base X.A.in1 X.stack s' HF := J.env0.in1
      obtain ⟨⟨oc, vsc, tc, hoc, hdc, hvc⟩, _, _⟩ := J.hok c' _ hcoF
      refine wpAny_call (PySem.W.kla_callFunE hroom.depth j2 rfl L.co L.gen rfl ⟨c', oc, vsc, tc, rfl, hoc, hdc, hvc⟩ ?_)
      rw [hbind]
      refine wpAny_pure (wpAny_newFunctionEnv (fun y hy => (L.own y hy).1) (fun y hy => ?_) (fun h₁ hns hsb => ⟨J.nolimit.fresh _ hsb, ?_⟩) L.kind)
      · rw [List.mem_singleton] at hy
        rw [hy]
        exact L.par
      have kp : ∀ b o, s'.heap.get? b = some o → h₁.get? b = some o := fun b o e => hsb.extBut b o (Nat.ne_of_lt (Heap.lt_size e)) (Heap.get?_push_of_some _ e)
      refine PySem.W.kla_codeExpr (wpAny_mono ((hbody X.A.in1 s' HF f c' _ (hroom.deeper _)).run [] _ _ HF _ (cxP_start J L hno e0 hroom.hd hN hσ rxu hns kp) (hb i x hx)) (fun kx s'' hq => ?_) fun e s'' hq => hq)
      obtain ⟨w', H', J', rkx, rfl, rfl⟩ := hq
      have un : Un (frs X.stack) [] H' H' s'.heap s''.heap := J'.base
      have kpU : ∀ {b : Addr}, FpOk X pins H' b → ∀ {ob : Obj}, s'.heap.get? b = some ob → s''.heap.get? b = some ob := fun fo ob e => un.keep _ _ e fo.1 (noF fo) (by simp)
      have I6 := J.call (h' := s''.heap) (g' := s''.gens) (d' := s''.drawn) (t' := s''.toks) (ch := []) un J'.hok J'.bare (fun b z => absurd z (by simp))
      have os6 : s''.os = s'.os := J'.os
      have I7 : Inv X pins σ H' s'' := by
        obtain ⟨hp, g, d, tk, os⟩ := s''
        obtain rfl : os = s'.os := os6
        exact I6
      have f6 : s''.heap.get? f = _ := un.keep f _ j2 hfF hfr (by simp)
      have pF : s''.heap.get? pr = some od := (I7.hok pr _ hpF).1
      have pF0 : s'.heap.get? pr = some od := (J.hok pr _ hpF).1
      obtain ⟨⟨oi, a1, a2, a3⟩, ⟨ol, b1, b2⟩⟩ := id hst
      rw [pF0] at b1
      obtain rfl := Option.some.inj b1
      exact hQ kx s'' ⟨I7, by rw [f6, hf], f6⟩ ⟨⟨oi, kpU fpI a1, a2, a3⟩, ⟨_, pF, b2⟩⟩ (kpU fpS hS) (by obtain ⟨t, ht⟩ := rkx; exact ⟨t, ht⟩) fun j k' z => z
    · exact CmpOf.ints_gt (P := fun i v => ∃ t, v = .int (rk i) t) rk (fun i v h => h) i j ki kj _ _ _ hi hj hq
  · rw [hk _ _ hf, hf]
  · obtain ⟨J, _, _⟩ := hJ
    have hP : its.toArray[_]? = some v := hP
    obtain ⟨g1, g2⟩ := argBest_gt rk (its.toArray.size - 1)
    obtain ⟨x, u, hx, hu', rxu⟩ := hil (argBest (fun i j => decide (rk i > rk j)) (its.toArray.size - 1)) (by omega)
    rw [hu'] at hP
    obtain rfl : u = v := Option.some.inj hP
    have I8 := J.unlock hpF nfz
    rw [back] at I8
    exact ⟨x, H2, I8, rxu, eq _ x hx fun j hj => g2 j (by omega)⟩
end
end RLam

namespace Pot
open PySem PySem.Spec PyProof.Rows L2
section
variable {X : Cx} {K : PySem.W.Frag}
/-- len of a set of ints -/
def rLenSet (w : World) : List V → Hp → VK → Prop := fun xs H Q => ∃ (a : Addr) (S : Int → Bool) (n : Nat), xs = [V.ref a] ∧ H a = some (SetO w a S n) ∧ Q (.int n) H
theorem cr_lenSet : CallR X (.builtin "len") (rLenSet X.w) := by
  intro pins s σ H vs us Q I r h
  obtain ⟨a, S, n, rfl, ha, q⟩ := h
  rw [Vals.ref1 r]
  obtain ⟨o, es, ep, t, ho, hex, hd, _, _, _, hb, hf, rfl, _⟩ := setO_get I ha
  exact PySem.call_len_set ho hex hd hf (by unfold scanBound at hb; omega) ⟨.int _, H, I.tok _, ⟨_, rfl⟩, q⟩
theorem kc_lenSet {w : World} (hw : X.w = w := by rfl) : CallR X (.builtin "len") (rLenSet w) := by subst hw; exact cr_lenSet
/-- repr of any data -/
def rReprA (K : PySem.W.Frag) : List V → Hp → VK → Prop := fun xs H Q => ∃ (x : V) (d : PyData), xs = [x] ∧ Dp K H x d ∧ fineAll.fine d ∧ d.depth ≤ 60 ∧ costAll.cost d ≤ 16777216 ∧ Q (.str d.shown) H
theorem cr_reprA (gd : X.A.guards = some []) (hu : X.A.units + 64 < cLine) : CallR X (.builtin "repr") (rReprA X.K) := by
  intro pins s σ H vs us Q I r h
  obtain ⟨x, d, rfl, dp, sh, dep, sz, q⟩ := h
  obtain ⟨u, rfl, rx⟩ := vals1 r
  have sz2 := Nat.le_trans (shown_len d sh) (by rw [sizeLine_eq]; exact sz : costAll.cost d ≤ sizeLine)
  cases x with
  | ref a =>
    cases rx
    obtain ⟨as, rd⟩ := Dp.reads I d (.ref a) (.ref a) dp rfl
    refine repr_of_reads' rd (fine_show d sh) (fun z => ?_) gd (by omega) (fun _ _ e => e) (fun h' u tk k => ⟨.str d.shown, H, I.kept k, ⟨u, rfl⟩, q⟩) sz2
    rw [dp_noDict dp] at z
    cases z
  | int i =>
    cases dp
    obtain ⟨t, rfl⟩ := rx
    exact PySem.P.repr_of_int sh ⟨.str _, H, I.tok _, ⟨_, rfl⟩, q⟩
  | str z =>
    cases dp
    obtain ⟨t, rfl⟩ := rx
    exact PySem.P.repr_of_str ⟨.str _, H, I.tok _, ⟨_, rfl⟩, q⟩ sz2
  | bl b =>
    cases dp
    cases rx
    refine PySem.P.repr_of_bool ⟨.str _, H, I.tok _, ⟨_, rfl⟩, ?_⟩
    exact q
  | non =>
    cases dp
    cases rx
    exact PySem.P.repr_of_none ⟨.str _, H, I.tok _, ⟨_, rfl⟩, q⟩
  | _ => cases dp
theorem kc_reprA (gd : X.A.guards = some []) (hu : X.A.units + 64 < cLine) (h : X.K = K := by rfl) : CallR X (.builtin "repr") (rReprA K) := h ▸ cr_reprA gd hu
end
theorem short_of {α : Type} [DecidableEq α] : ∀ {ns : List α}, ¬ ns.Nodup → ∃ ns' : List α, ns'.length < ns.length ∧ ∀ k ∈ ns, k ∈ ns'
  | [], h => (h List.nodup_nil).elim
  | x :: ns, h => by
    by_cases hx : x ∈ ns
    · exact ⟨ns, by simp, fun k hk => by
        rcases List.mem_cons.mp hk with e | e
        · rw [e]; exact hx
        · exact e⟩
    · obtain ⟨ns', l, s⟩ := short_of (ns := ns) fun hn => h (List.nodup_cons.mpr ⟨hx, hn⟩)
      exact ⟨x :: ns', by simp only [List.length_cons]; omega, fun k hk => by
        rcases List.mem_cons.mp hk with e | e
        · rw [e]; exact List.mem_cons_self
        · exact List.mem_cons_of_mem _ (s k e)⟩
theorem set_count {ks ns : List Int} (hk : ks.Nodup) (h : ∀ k, k ∈ ks ↔ k ∈ ns) : ks.length ≤ ns.length ∧ (ks.length = ns.length ↔ ns.Nodup) := by
  have le := nodup_le hk fun k x => (h k).mp x
  refine ⟨le, fun e => ?_, fun hn => Nat.le_antisymm le (nodup_le hn fun k x => (h k).mpr x)⟩
  by_cases hn : ns.Nodup
  · exact hn
  · obtain ⟨ns', l, s⟩ := short_of hn
    have := nodup_le hk fun k x => s k ((h k).mp x)
    omega
end Pot

namespace Pot
open PySem PySem.Spec PyProof.Rows L2
section
variable {X : Cx} {K : PySem.W.Frag}
theorem ko_inD (hu : X.A.units + 65 < cLine) (h : X.K = K := by rfl) : OpR X (compareOp .In) (rInD K) := h ▸ op_inD hu
theorem ko_notInD (hu : X.A.units + 65 < cLine) (h : X.K = K := by rfl) : OpR X (compareOp .NotIn) (rNotInD K) := h ▸ op_notInD hu
/-- a text thrice -/
def rRep3 : R2 := fun x y H Q => ∃ z : Str, x = .str z ∧ y = .int 3 ∧ z.length ≤ 100000 ∧ ∀ z' : Str, z'.length ≤ 3 * z.length → (∀ c ∈ z'.cps.toList, c ∈ z.cps.toList) → Q (.str z') H
theorem mul3_len (z : Str) : (Txt.mul z 3).length ≤ 3 * z.length ∧ ∀ c ∈ (Txt.mul z 3).cps.toList, c ∈ z.cps.toList := by
  unfold Txt.mul
  rw [if_neg (show ¬ (3 : Int) < 1 by decide)]
  split
  · exact ⟨by omega, fun c h => h⟩
  · constructor
    · show Array.size _ ≤ _
      simp [List.replicate]
      show z.cps.size + (z.cps.size + z.cps.size) ≤ 3 * z.cps.size
      omega
    · intro c h
      simp [List.replicate] at h
      simpa using h
theorem op_rep3 : OpR X (binaryOp .Mult) rRep3 := by
  intro pins sh sg H xv yv v1 u1 Q I r1 r2 h
  obtain ⟨z, rfl, rfl, hz, q⟩ := h
  obtain ⟨tk1, rfl⟩ := r1
  obtain ⟨tk2, rfl⟩ := r2
  have m3 := mul3_len z
  refine SB.mul ⟨by decide, fun _ _ hh => ?_, fun _ _ => ?_⟩ (fun tt kk => ⟨.str (Txt.mul z 3), H, I.tok _, ⟨_, rfl⟩, q _ m3.1 m3.2⟩)
  · have : ((2 : Int) ^ 63 - 1) / 3 = 3074457345618258602 := by decide
    omega
  · have e : (3 : Int).toNat = 3 := rfl
    rw [e]
    show decide _ = false
    refine decide_eq_false ?_
    have := sizeLine_eq
    omega
end
end Pot

namespace Pot
open PySem PySem.Spec PyProof.Rows L2
/-! ### dict of a list of pairs, a text thrice to the letter -/
section
variable {X : Cx} {K : PySem.W.Frag}
def Dct (mg : Str → Option Value) : Prop := mg "dict" = none
def rDictP (K : PySem.W.Frag) : List V → Hp → VK → Prop := fun xs H Q => ∃ (a : Addr) (ps : List Addr) (kvs : List (Key × V)), xs = [.ref a] ∧ SqL K H a (ps.map V.ref) ∧ Paired (fun p kv => SqT K H p [kV kv.1, kv.2]) ps kvs ∧ ∀ p, H p = none → Q (.ref p) (upd H p (.dK (mergeK [] kvs)))
theorem kc_dictP (hc : X.calm = true := by rfl) (h : X.K = K := by rfl) : CallR X (.type "dict") (rDictP K) := by subst h; exact call_dictP hc
def rRepE : R2 := fun x y H Q => ∃ z : Str, x = .str z ∧ y = .int 3 ∧ z.length ≤ 100000 ∧ Q (.str (Txt.mul z 3)) H
theorem op_repE : OpR X (binaryOp .Mult) rRepE := by
  intro pins sh sg H xv yv v1 u1 Q I r1 r2 h
  obtain ⟨z, rfl, rfl, hz, q⟩ := h
  obtain ⟨tk1, rfl⟩ := r1
  obtain ⟨tk2, rfl⟩ := r2
  refine SB.mul ⟨by decide, fun _ _ hh => ?_, fun _ _ => ?_⟩ (fun tt kk => ⟨.str (Txt.mul z 3), H, I.tok _, ⟨_, rfl⟩, q⟩)
  · have : ((2 : Int) ^ 63 - 1) / 3 = 3074457345618258602 := by decide
    omega
  · have e : (3 : Int).toNat = 3 := rfl
    rw [e]
    show decide _ = false
    refine decide_eq_false ?_
    have := sizeLine_eq
    omega
end
/-! ### pairs as keys and values -/
theorem putK_new {kvs : List (Key × V)} {k : Key} {v : V} (h : ∀ p ∈ kvs, p.1 ≠ k) : putK kvs k v = kvs ++ [(k, v)] := by
  unfold putK
  rw [if_neg]
  intro z
  obtain ⟨p, hp, e⟩ := List.any_eq_true.mp z
  exact h p hp (of_decide_eq_true e)
theorem merge_nd : ∀ (more kvs : List (Key × V)), ((kvs ++ more).map (·.1)).Nodup → mergeK kvs more = kvs ++ more
  | [], kvs, _ => by show kvs = kvs ++ []; rw [List.append_nil]
  | p :: more, kvs, nd => by
    show mergeK (putK kvs p.1 p.2) more = kvs ++ p :: more
    rw [putK_new]
    · rw [merge_nd more (kvs ++ [(p.1, p.2)]) (by rw [List.append_assoc]; exact nd), List.append_assoc]; rfl
    · intro q hq e
      rw [List.map_append, List.nodup_append] at nd
      exact nd.2.2 q.1 (List.mem_map.mpr ⟨q, hq, rfl⟩) p.1 (List.mem_map.mpr ⟨p, List.mem_cons_self, rfl⟩) e
end Pot

namespace Pot
open PySem PySem.Spec PyProof.Rows L2
/-! ### calls by names alone -/
section
variable {X : Cx} {CX : CXT} {k : Nat} {f : Addr} {fd : FuncData} {ps ks : List Str} {sp : Sp} {E : XK} {x : Str} {p pos : Pos} {kws : List Keyword} {tk : TA} {g : List Value → List Value → List Value} {gV : List V → List V → List V}
theorem pe_callK0 (F : FnOk X.prog X.w X.K X.mg X.base CX k f fd ps sp) (hr : Room k X.A) (hg : Gl X x) (hm : X.mg x = some (.ref f)) (hk : PySem.W.keepIn X.K (.ref f) = true) (hb : KBinds X.K fd ps ks g gV) (hx : Passes CX X E)
    (hkw : PK X kws tk) (hall : (backToKw pos (keywordEach kws X.env)).all (·.1.isSome) = true := by rfl) (hks : (backToKw pos (keywordEach kws X.env)).filterMap (·.1) = ks := by rfl)
    (hdb : (x == ("__debug__" : Str)) = false := by decide)
    (hpl : ((backTo pos (starEach [] X.env)).any (·.1) || (backToKw pos (keywordEach kws X.env)).any (·.1.isNone)) = false := by rfl) :
    PE X (.Call (.Name x p) [] kws pos) (tCallK sp gV E tNil tk) := by
  refine ⟨fun pins s σ H Q I h => ?_⟩
  refine wpAny_Call_Name_kw (ld_glob I hg hm ?_ hdb)
  refine PySem.W.callWith_KW0 (h₀ := X.base) I.ok.mod.kin hk hall (thn (hkw.run pos pins s σ H _ I h) fun ws s2 ⟨zs, H2, I2, rz, q2⟩ => ⟨I2.kIn, ?_⟩) hpl
  rw [hks]
  exact run_fnk F hr hb hx I2 .nil rz q2
end
def ClK (P : Program) (w : World) (K : PySem.W.Frag) (mg : Str → Option Value) (base : Heap) (k : Nat) (x : Str) (ks : List Str) (gV : List V → List V → List V) (sp : Sp) : Prop :=
  ∃ (f : Addr) (fd : FuncData) (ps : List Str) (g : List Value → List Value → List Value), FnOk P w K mg base CX0 k f fd ps sp ∧ mg x = some (.ref f) ∧ PySem.W.keepIn K (.ref f) = true ∧ KBinds K fd ps ks g gV
theorem pe_ck {X : Cx} {k j : Nat} {x : Str} {ks : List Str} {gV : List V → List V → List V} {sp : Sp} {kws : List Keyword} {t : TA} {p pos : Pos} (c : ClK X.prog X.w X.K X.mg X.base k x ks gV sp) (hr : Room j X.A) (hk : k ≤ j) (hg : Gl X x) (ha : PK X kws t)
    (hall : (backToKw pos (keywordEach kws X.env)).all (·.1.isSome) = true := by rfl) (hks : (backToKw pos (keywordEach kws X.env)).filterMap (·.1) = ks := by rfl) (hdb : (x == ("__debug__" : Str)) = false := by decide)
    (hpl : ((backTo pos (starEach [] X.env)).any (·.1) || (backToKw pos (keywordEach kws X.env)).any (·.1.isNone)) = false := by rfl) : PE X (.Call (.Name x p) [] kws pos) (tCallK sp gV E0 tNil t) := by
  obtain ⟨f, fd, ps, g, G, hm, kp, b⟩ := c
  exact pe_callK0 G (hr.mono hk) hg hm kp b pass0 ha hall hks hdb hpl
/-- three, handed in from the last to the first -/
def rev3 {α : Type} : List α → List α → List α
  | [], [a, b, c] => [c, b, a]
  | _, _ => []
theorem kb_rev3 {K : PySem.W.Frag} {x qual : Str} {st : Stmt} {f : Addr} {fd : FuncData} {k1 k2 k3 : Str} (F : Fun K x qual st f fd)
    (h : ∀ (kV doc pm : Value) (an : Option Addr) (cdv ct a b c : Value), bindArgs (PySem.W.fnOf x qual (defArgs st) (defBody st) (defScope st) .none kV doc pm an cdv ct) ⟨[], [(k3, a), (k2, b), (k1, c)]⟩ = pure [(k1, c), (k2, b), (k3, a)]) : KBinds K fd [k1, k2, k3] [k3, k2, k1] rev3 rev3 := by
  obtain ⟨oc, od, kV, doc, pm, an, cdv, ct, osl, rfl, lk, hcd⟩ := F.ex
  refine ⟨fun s us ws _ hl => ?_, fun {vs us zs ws} r rz => ?_⟩
  · match us, ws, hl with
    | [], [a, b, c], _ => exact .of_eq (h kV doc pm an cdv ct a b c)
    | [], [], hl => cases hl
    | [], [_], hl => cases hl
    | [], [_, _], hl => cases hl
    | [], _ :: _ :: _ :: _ :: _, hl => cases hl
    | _ :: _, _, hl => cases hl
  · cases r with
    | nil =>
      cases rz with
      | nil => exact .nil
      | cons a rz =>
        cases rz with
        | nil => exact .nil
        | cons b rz =>
          cases rz with
          | nil => exact .nil
          | cons c rz =>
            cases rz with
            | nil => exact .cons c (.cons b (.cons a .nil))
            | cons _ _ => exact .nil
    | cons _ _ => exact .nil
/-- four, from the last to the first, of a def with defaults -/
def rev4 {α : Type} : List α → List α → List α
  | [], [a, b, c, d] => [d, c, b, a]
  | _, _ => []
theorem kb_rev4D {K : PySem.W.Frag} {x : Str} {st : Stmt} {dvs : List V} {f : Addr} {fd : FuncData} {k1 k2 k3 k4 : Str} (F : FunV K x st dvs f fd) (hd : dvs ≠ [])
    (h : ∀ (T : Addr) (kV doc pm : Value) (an : Option Addr) (cdv ct a b c d : Value) (its : List Value), its.length = dvs.length → ∃ k, bindArgs (PySem.W.fnOf x x (defArgs st) (defBody st) (defScope st) (.ref T) kV doc pm an cdv ct) ⟨[], [(k4, a), (k3, b), (k2, c), (k1, d)]⟩ = seqItems? (.ref T) >>= k ∧ k (some its.toArray) = pure [(k1, d), (k2, c), (k3, b), (k4, a)]) : KBinds K fd [k1, k2, k3, k4] [k4, k3, k2, k1] rev4 rev4 := by
  obtain ⟨oc, od, dV, kV, doc, pm, an, cdv, ct, osl, rfl, lk, hcd, hD, hK⟩ := F.ex
  refine ⟨fun s us ws X hl => ?_, fun {vs us zs ws} r rz => ?_⟩
  · rcases hD with ⟨e, _⟩ | ⟨_, T, o, its, m, rfl, lT, oT, rT⟩
    · exact absurd e hd
    · match us, ws, hl with
      | [], [a, b, c, d], _ =>
        obtain ⟨k, e1, e2⟩ := h T kV doc pm an cdv ct a b c d its rT.length.symm
        refine BindsTo.of_looks fun M => ?_
        show PySem.W.Looks M s.heap (bindArgs _ ⟨[], [(k4, a), (k3, b), (k2, c), (k1, d)]⟩) _
        rw [e1]
        exact looks_items X lT oT (.of_pure e2)
      | [], [], hl => cases hl
      | [], [_], hl => cases hl
      | [], [_, _], hl => cases hl
      | [], [_, _, _], hl => cases hl
      | [], _ :: _ :: _ :: _ :: _ :: _, hl => cases hl
      | _ :: _, _, hl => cases hl
  · cases r with
    | nil =>
      cases rz with
      | nil => exact .nil
      | cons a rz =>
        cases rz with
        | nil => exact .nil
        | cons b rz =>
          cases rz with
          | nil => exact .nil
          | cons c rz =>
            cases rz with
            | nil => exact .nil
            | cons d rz =>
              cases rz with
              | nil => exact .cons d (.cons c (.cons b (.cons a .nil)))
              | cons _ _ => exact .nil
    | cons _ _ => exact .nil
/-! ### a list or a tuple walked -/
def iAnyS (K : PySem.W.Frag) (tl : TE) : TI := fun σ H R => iList K tl σ H R ∨ iTup K tl σ H R
theorem ki_anyS {X : Cx} {K : PySem.W.Frag} {tg l : Expr} {tl : TE} (hl : PE X l tl) (h : X.K = K := by rfl) : PI X tg l (iAnyS K tl) :=
  ⟨fun pins s σ H R I z => z.elim (fun z => (ki_list hl h).run pins s σ H R I z) (fun z => (ki_tup hl h).run pins s σ H R I z)⟩
end Pot

namespace Pot
open PySem PySem.Spec PyProof.Rows L2
/-! ### calls by places and names of a def with five values, two of them with defaults -/
def mix5 {α : Type} : List α → List α → List α
  | [], [a, b, c, d, e] => [e, c, a, d, b]
  | _, _ => []
def pl32 {α : Type} : List α → List α → List α
  | [a, b, c], [d, e] => [a, b, c, d, e]
  | _, _ => []
def pl31 {α : Type} (x : α) : List α → List α → List α
  | [a, b, c], [d] => [a, b, c, x, d]
  | _, _ => []
section
variable {K : PySem.W.Frag} {x : Str} {st : Stmt} {dvs : List V} {f : Addr} {fd : FuncData} {k1 k2 k3 k4 k5 : Str}
theorem kb_mix5 (F : FunV K x st dvs f fd) (hd : dvs ≠ [])
    (h : ∀ (T : Addr) (kV doc pm : Value) (an : Option Addr) (cdv ct a b c d e : Value) (its : List Value), its.length = dvs.length → ∃ k, bindArgs (PySem.W.fnOf x x (defArgs st) (defBody st) (defScope st) (.ref T) kV doc pm an cdv ct) ⟨[], [(k3, a), (k5, b), (k2, c), (k4, d), (k1, e)]⟩ = seqItems? (.ref T) >>= k ∧ k (some its.toArray) = pure [(k1, e), (k2, c), (k3, a), (k4, d), (k5, b)]) : KBinds K fd [k1, k2, k3, k4, k5] [k3, k5, k2, k4, k1] mix5 mix5 := by
  obtain ⟨oc, od, dV, kV, doc, pm, an, cdv, ct, osl, rfl, lk, hcd, hD, hK⟩ := F.ex
  refine ⟨fun s us ws X hl => ?_, fun {vs us zs ws} r rz => ?_⟩
  · rcases hD with ⟨e, _⟩ | ⟨_, T, o, its, m, rfl, lT, oT, rT⟩
    · exact absurd e hd
    · match us, ws, hl with
      | [], [a, b, c, d, e], _ =>
        obtain ⟨k, e1, e2⟩ := h T kV doc pm an cdv ct a b c d e its rT.length.symm
        refine BindsTo.of_looks fun M => ?_
        show PySem.W.Looks M s.heap (bindArgs _ ⟨[], [(k3, a), (k5, b), (k2, c), (k4, d), (k1, e)]⟩) _
        rw [e1]
        exact looks_items X lT oT (.of_pure e2)
      | [], [], hl => cases hl
      | [], [_], hl => cases hl
      | [], [_, _], hl => cases hl
      | [], [_, _, _], hl => cases hl
      | [], [_, _, _, _], hl => cases hl
      | [], _ :: _ :: _ :: _ :: _ :: _ :: _, hl => cases hl
      | _ :: _, _, hl => cases hl
  · match r, rz with
    | .nil, .cons a (.cons b (.cons c (.cons d (.cons e .nil)))) => exact .cons e (.cons c (.cons a (.cons d (.cons b .nil))))
    | .nil, .nil => exact .nil
    | .nil, .cons _ .nil => exact .nil
    | .nil, .cons _ (.cons _ .nil) => exact .nil
    | .nil, .cons _ (.cons _ (.cons _ .nil)) => exact .nil
    | .nil, .cons _ (.cons _ (.cons _ (.cons _ .nil))) => exact .nil
    | .nil, .cons _ (.cons _ (.cons _ (.cons _ (.cons _ (.cons _ _))))) => exact .nil
    | .cons _ _, _ => exact .nil
theorem kb_pl32 (F : FunV K x st dvs f fd) (hd : dvs ≠ [])
    (h : ∀ (T : Addr) (kV doc pm : Value) (an : Option Addr) (cdv ct a b c d e : Value) (its : List Value), its.length = dvs.length → ∃ k, bindArgs (PySem.W.fnOf x x (defArgs st) (defBody st) (defScope st) (.ref T) kV doc pm an cdv ct) ⟨[a, b, c], [(k4, d), (k5, e)]⟩ = seqItems? (.ref T) >>= k ∧ k (some its.toArray) = pure [(k1, a), (k2, b), (k3, c), (k4, d), (k5, e)]) : KBinds K fd [k1, k2, k3, k4, k5] [k4, k5] pl32 pl32 := by
  obtain ⟨oc, od, dV, kV, doc, pm, an, cdv, ct, osl, rfl, lk, hcd, hD, hK⟩ := F.ex
  refine ⟨fun s us ws X hl => ?_, fun {vs us zs ws} r rz => ?_⟩
  · rcases hD with ⟨e, _⟩ | ⟨_, T, o, its, m, rfl, lT, oT, rT⟩
    · exact absurd e hd
    · match us, ws, hl with
      | [a, b, c], [d, e], _ =>
        obtain ⟨k, e1, e2⟩ := h T kV doc pm an cdv ct a b c d e its rT.length.symm
        refine BindsTo.of_looks fun M => ?_
        show PySem.W.Looks M s.heap (bindArgs _ ⟨[a, b, c], [(k4, d), (k5, e)]⟩) _
        rw [e1]
        exact looks_items X lT oT (.of_pure e2)
  · match r, rz with
    | .cons a (.cons b (.cons c .nil)), .cons d (.cons e .nil) => exact .cons a (.cons b (.cons c (.cons d (.cons e .nil))))
    | .nil, _ => exact .nil
    | .cons _ .nil, _ => exact .nil
    | .cons _ (.cons _ .nil), _ => exact .nil
    | .cons _ (.cons _ (.cons _ (.cons _ _))), _ => exact .nil
    | .cons _ (.cons _ (.cons _ .nil)), .nil => exact .nil
    | .cons _ (.cons _ (.cons _ .nil)), .cons _ .nil => exact .nil
    | .cons _ (.cons _ (.cons _ .nil)), .cons _ (.cons _ (.cons _ _)) => exact .nil
theorem kb_pl31 {d1 d2 : V} (F : FunV K x st [d1, d2] f fd)
    (h : ∀ (T : Addr) (kV doc pm : Value) (an : Option Addr) (cdv ct a b c d e1 e2 : Value), ∃ k, bindArgs (PySem.W.fnOf x x (defArgs st) (defBody st) (defScope st) (.ref T) kV doc pm an cdv ct) ⟨[a, b, c], [(k5, d)]⟩ = seqItems? (.ref T) >>= k ∧ k (some #[e1, e2]) = pure [(k1, a), (k2, b), (k3, c), (k4, e1), (k5, d)]) : ∃ g, KBinds K fd [k1, k2, k3, k4, k5] [k5] g (pl31 d1) := by
  obtain ⟨oc, od, dV, kV, doc, pm, an, cdv, ct, osl, rfl, lk, hcd, hD, hK⟩ := F.ex
  rcases hD with ⟨e, _⟩ | ⟨_, T, o, its, m, rfl, lT, oT, rT⟩
  · cases e
  · match its, rT with
    | [e1, e2], .cons r1 (.cons r2 .nil) =>
      refine ⟨pl31 e1, fun s us ws X hl => ?_, fun {vs us zs ws} r rz => ?_⟩
      · match us, ws, hl with
        | [a, b, c], [d], _ =>
          obtain ⟨k, e3, e4⟩ := h T kV doc pm an cdv ct a b c d e1 e2
          refine BindsTo.of_looks fun M => ?_
          show PySem.W.Looks M s.heap (bindArgs _ ⟨[a, b, c], [(k5, d)]⟩) _
          rw [e3]
          exact looks_items X lT oT (.of_pure e4)
      · match r, rz with
        | .cons a (.cons b (.cons c .nil)), .cons d .nil => exact .cons a (.cons b (.cons c (.cons r1 (.cons d .nil))))
        | .nil, _ => exact .nil
        | .cons _ .nil, _ => exact .nil
        | .cons _ (.cons _ .nil), _ => exact .nil
        | .cons _ (.cons _ (.cons _ (.cons _ _))), _ => exact .nil
        | .cons _ (.cons _ (.cons _ .nil)), .nil => exact .nil
        | .cons _ (.cons _ (.cons _ .nil)), .cons _ (.cons _ _) => exact .nil
end
/-- a call by places and names -/
theorem pe_ckP {X : Cx} {k j : Nat} {x : Str} {ks : List Str} {gV : List V → List V → List V} {sp : Sp} {e : Expr} {es : List Expr} {kws : List Keyword} {t tk : TA} {p pos : Pos} (c : ClK X.prog X.w X.K X.mg X.base k x ks gV sp) (hr : Room j X.A) (hk : k ≤ j) (hg : Gl X x) (ha : PA X (e :: es) t) (hkw : PK X kws tk)
    (hall : (backToKw pos (keywordEach kws X.env)).all (·.1.isSome) = true := by rfl) (hks : (backToKw pos (keywordEach kws X.env)).filterMap (·.1) = ks := by rfl) (hdb : (x == ("__debug__" : Str)) = false := by decide) (he : starEach (e :: es) X.env = (false, eval e X.env) :: starEach es X.env := by rfl)
    (hpl : ((backTo pos (starEach (e :: es) X.env)).any (·.1) || (backToKw pos (keywordEach kws X.env)).any (·.1.isNone)) = false := by rfl) : PE X (.Call (.Name x p) (e :: es) kws pos) (tCallK sp gV E0 t tk) := by
  obtain ⟨f, fd, ps, g, G, hm, kp, b⟩ := c
  exact pe_callK G (hr.mono hk) hg hm kp b pass0 ha hkw hall hks hdb he hpl
def rSortedD : List V → Hp → VK → Prop := fun xs H Q => ∃ (a : Addr) (kvs : List (Key × V)) (ks : List Str), xs = [.ref a] ∧ Rd H a (.dK kvs) ∧ kvs.map (·.1) = ks.map Sum.inr ∧ ks.length < 64 ∧
    ∀ ys p, ys.Perm ks → sortedS ys = true → H p = none → Q (.ref p) (upd H p (.lst (ys.map V.str)))
theorem kc_sortedD {X : Cx} (hc : X.calm = true := by rfl) : CallR X (.builtin "sorted") rSortedD := call_sortedD hc
end Pot

namespace Pot
open PySem PySem.Spec PyProof.Rows L2
open Sem (wp)
/-! ### enumerate of a list or a tuple -/
set_option maxHeartbeats 1000000 in
theorem en_new {v : Value} {ob : Obj} {Ok : Heap → Prop} (B : Begins v ob Ok) :
    Meets (Builtin.«enumerate.__new__» ⟨[.type "enumerate", v], []⟩) (fun _ R s => Ok s.heap ∧ R (.ok (.ret (.ref (s.heap.push ob).objs.size))) { s with heap := (s.heap.push ob).push { cls := .type "enumerate", data := .fields #[.none, .bool false, .ref s.heap.objs.size, rawInt 0, .none, .none] } }) :=
  .of_wp fun prog w A R st hst => by
    obtain ⟨hp, gl, dd, tt, oo⟩ := st; obtain ⟨ok1, fin⟩ := hst; have isub := sub_enumerate
    have go : ∀ {A1 : Around} {E1 : Value → Shared → Prop} {Q1 : Value → Shared → Prop}, Q1 (.ref hp.objs.size) ⟨hp.push ob, gl, dd, tt, oo⟩ → wpAny (model prog w) A1 (pyIter v) Q1 E1 ⟨hp, gl, dd, tt, oo⟩ := fun z => B.iter prog w _ _ ⟨hp, gl, dd, tt, oo⟩ _ ok1 z
    wp_walk using go
    refine wpAny_stack_any fun stk => wpAny_pure ?_
    split
    · rename_i cc _ _ _ _ _; cases (cc == Value.type "enumerate") <;> (wp_walk using go; exact ⟨_, rfl, fin⟩)
    · wp_walk using go; exact ⟨_, rfl, fin⟩
/-- some untracked cells written, nothing new -/
theorem inv_ch {X : Cx} {pins : List (Addr × Obj)} {σ : L2.St} {H : Hp} {s : Shared} {h2 : Heap} {tk : Nat} {ch : List Addr} (I : Inv X pins σ H s) (kp : ∀ b o, b ∉ ch → s.heap.get? b = some o → h2.get? b = some o) (fo : ∀ b ∈ ch, FpOk X pins H b) :
    Inv X pins σ H { s with heap := h2, toks := tk } := by
  have out : ∀ c u, H c = some u → c ∉ ch := fun c u e z => by have := (fo c z).1; rw [this] at e; cases e
  refine I.step (g' := s.gens) (d' := s.drawn) (ch := ch) (fun c hc => let ⟨_, a2, _, a4, a5, a6⟩ := fo c hc; ⟨a4, a2, a5, a6⟩) (fun c o _ _ n e _ => kp c o n e) (fun c o _ _ n e _ => ⟨o.slots, kp c o n e⟩) (fun _ _ _ _ z => z) (fun c o n e => ⟨o, kp c o n e⟩) (fun _ _ z => z) (fun _ _ _ z => z) (fun c ps e => ⟨#[], by rw [e]; simp⟩) (fun mm hm => ?_) (fun c u e => ?_) I.bare
  · obtain ⟨o, e1, e2, ho, rest⟩ := hm; exact ⟨o, e1, e2, kp _ o (fun z => (fo _ z).2.1 rfl) ho, rest⟩
  · refine (I.hok c u e).stay (fun c2 v hc q => kp c2 v ?_ q) (fun _ z => z) fun _ _ z => z
    rcases hc with z | z
    · rw [z]; exact out c u e
    · exact out c2 _ z
def ItT (K : PySem.W.Frag) (a : Addr) : It :=
  ⟨fun i H => ∃ (xs : List V) (x : V), SqT K H a xs ∧ xs[i]? = some x, fun i H v H' => ∃ T x, v = .ref T ∧ H T = none ∧ H' = upd H T (.tup [.int (i : Nat), x]) ∧ ∀ xs, SqT K H a xs → xs[i]? = some x, fun i H => ∃ xs : List V, SqT K H a xs ∧ xs.length ≤ i⟩
/-- an iterator of a tuple that has come to its end -/
theorem drawsEnd {prog : Program} {w : World} {A : Around} (hh : A.handled = none) (it t : Addr) (items : Array Value) (i : Nat) (hi : items[i]? = none) :
    Draws prog w A it [it, t] i (fun _ _ => False) (fun j h => j = i ∧ h.IsTupleIter it t j ∧ h.IsTuple t items) where
  live := fun _ _ st => let ⟨o, ho, _⟩ := st.2.1; ⟨o, ho⟩
  frame := fun _ _ _ st hk => ⟨st.1, st.2.1.at fun o e => hk it (by simp) o e, st.2.2.at fun o e => hk t (by simp) o e⟩
  item := fun j _ _ _ hj st _ => absurd st.1 (Nat.ne_of_lt hj)
  done := fun s Q E st hE => wpAny_nextOf_tuple_end hh st.2.1 st.2.2 hi hE
theorem turn_enT {P : Program} {w : World} {K : PySem.W.Frag} {elts : List Expr} {kk : Nat} {tpos : Pos} (a e it : Addr) (ne1 : e ≠ it) :
    Turn P w K (.Tuple elts kk tpos) (ItT K a) [e, it] e (fun i h => (∃ old, IsEnum h e it (0 + ((i : Nat) : Int)) old) ∧ h.IsTupleIter it a i) where
  mem := by simp
  obj := fun i h st b hb => by
    obtain ⟨⟨old, he⟩, ⟨o, ho, hc, hd⟩⟩ := st
    rcases List.mem_cons.mp hb with z | z
    · rw [z]; exact ⟨_, he, fun v q => nomatch q⟩
    · rw [List.mem_singleton.mp z]; exact ⟨o, ho, fun v q => by rw [hd] at q; cases q⟩
  keep := fun i h h' st k => let ⟨⟨old, he⟩, hi⟩ := st; ⟨⟨old, k e (by simp) _ he⟩, hi.at fun o q => k it (by simp) o q⟩
  item := by
    intro X q1 q2 q3 hc i pins s σ H E I hf st hg; subst q1 q2 q3
    obtain ⟨⟨old, he⟩, hit⟩ := st
    obtain ⟨xs, x, hq, hx⟩ := hg
    obtain ⟨its, vals_, p, _⟩ := I.tuple hq
    obtain ⟨u, hu, ru⟩ := vals_.get hx
    have at_ : its.toArray[i]? = some u := by simpa using hu
    have hlt : i < its.toArray.size := (Array.getElem?_eq_some_iff.mp at_).1
    have nt : ∀ b ∈ [e, it], a ≠ b := fun b hb z => by
      obtain ⟨o, ho, cl, _⟩ := p
      rcases List.mem_cons.mp hb with y | y
      · rw [z, y] at ho
        rw [show s.heap.get? e = _ from he] at ho; cases ho; injection cl with cl; exact absurd cl (by decide)
      · rw [z, List.mem_singleton.mp y] at ho
        obtain ⟨o2, ho2, cl2, _⟩ := hit
        rw [ho2] at ho; cases ho
        rw [cl2] at cl; injection cl with cl; exact absurd cl (by decide)
    have G := GoesN.enumFrom (elts := elts) (x1 := kk) (pos := tpos) 0 (Draws.tuple (prog := X.prog) (w := X.w) (A := X.A.in1) (I.ok.hd hc) it a (nt it (by simp)) its.toArray) e ne1 (by simp [ne1, (nt e (by simp)).symm]) (by simp)
    refine G.goes i s _ _ hlt ⟨⟨old, he⟩, hit, p⟩ fun v h2 tk hY st2 hk _ => ?_
    obtain ⟨T, t, u2, rfl, hn, hu2, hT⟩ := hY
    have eu : u2 = u := Option.some.inj (hu2.symm.trans at_)
    subst eu
    rw [Int.zero_add] at hT
    have new : ObjOk X.prog X.w (upd H T (.tup [.int (i : Nat), x])) h2 T (.tup [.int (i : Nat), x]) := ⟨by show 2 ≤ sizeLine; decide, [.int i t, u2], .cons ⟨_, rfl⟩ (.cons ru .nil), hT⟩
    have I1 : Inv X pins σ (upd H T (.tup [.int (i : Nat), x])) { s with heap := h2, toks := tk } := I.turnedNew (ch := [e, it]) (fun b ob hb q => hk b ob hb q) hf hn new
    refine ⟨.ref T, _, I1, rfl, ⟨T, x, rfl, I.hok.fresh hn, rfl, fun ys hy => by rw [I.tuple_inj hy hq]; exact hx⟩, ⟨st2.1, st2.2.1⟩, fun b hb => ?_⟩
    have hb0 := (hf b hb).1
    have hbT : b ≠ T := by
      rcases List.mem_cons.mp hb with y | y
      · rw [y]; exact Nat.ne_of_lt (Nat.lt_of_lt_of_le (Heap.lt_size he) hn)
      · rw [List.mem_singleton.mp y]
        obtain ⟨o2, ho2, _⟩ := hit
        exact Nat.ne_of_lt (Nat.lt_of_lt_of_le (Heap.lt_size ho2) hn)
    rw [upd_ne hbT]; exact hb0
  done := by
    intro X q1 q2 q3 hc i pins s σ H E I hf st hg; subst q1 q2 q3
    obtain ⟨⟨old, he⟩, hit⟩ := st
    obtain ⟨xs, hq, hx⟩ := hg
    obtain ⟨its, vals_, p, _⟩ := I.tuple hq
    have hl := vals_.length
    have nt : ∀ b ∈ [e, it], a ≠ b := fun b hb z => by
      obtain ⟨o, ho, cl, _⟩ := p
      rcases List.mem_cons.mp hb with y | y
      · rw [z, y] at ho
        rw [show s.heap.get? e = _ from he] at ho; cases ho; injection cl with cl; exact absurd cl (by decide)
      · rw [z, List.mem_singleton.mp y] at ho
        obtain ⟨o2, ho2, cl2, _⟩ := hit
        rw [ho2] at ho; cases ho
        rw [cl2] at cl; injection cl with cl; exact absurd cl (by decide)
    have G := GoesN.enumFrom (elts := elts) (x1 := kk) (pos := tpos) 0 (drawsEnd (prog := X.prog) (w := X.w) (A := X.A.in1) (I.ok.hd hc) it a its.toArray i (by simp; omega)) e ne1 (by simp [ne1, (nt e (by simp)).symm]) (by simp)
    exact G.stops s _ _ ⟨⟨old, he⟩, rfl, hit, p⟩ fun h2 tk hk _ => inv_ch I hk hf
  self := fun _ _ _ _ _ st fin => let ⟨⟨_, he⟩, _⟩ := st; wpAny_pyIter_enum he fin
/-- enumerate(v), v a list or a tuple -/
def iEnA (K : PySem.W.Frag) (ta : TA) : TI := fun σ H R => ta σ H fun vs H1 => ∃ a xs, vs = [.ref a] ∧ ((SqL K H1 a xs ∧ R (Ite K a) H1) ∨ (SqT K H1 a xs ∧ R (ItT K a) H1))
theorem pi_enA {X : Cx} {e : Expr} {ta : TA} {p pos tpos : Pos} {elts : List Expr} {kk : Nat} (hg : Gl X "enumerate") (hm : X.mg "enumerate" = none) (ha : PA X [e] ta) (hs : starEach [e] X.env = [(false, eval e X.env)] := by rfl) :
    PI X (.Tuple elts kk tpos) (.Call (.Name "enumerate" p) [e] [] pos) (iEnA X.K ta) := by
  refine ⟨fun pins s σ H R I hi => ?_⟩
  refine Call_ (ld_blt I hg hm boot_enumerate (PyProof.Rows.callWith_type1 (thn (ha.run pos pins s σ H _ I hi) fun us s1 ⟨vs, H1, I1, r1, q1⟩ => ?_) hs rfl))
  obtain ⟨a, xs, ex, q⟩ := q1
  subst ex
  cases r1 with
  | cons r rr =>
    cases rr; cases r
    rcases q with ⟨hq, q⟩ | ⟨hq, q⟩
    · obtain ⟨its, rv, p2, hz⟩ := I1.list hq
      refine call_enumerate_list p2.isList fun h2 he hit hsz hk => wpAny_pyIter_enum he ?_
      refine ⟨s1.heap.objs.size + 1, [s1.heap.objs.size + 1, s1.heap.objs.size], _, _, H1, rfl, I1.kept (t' := s1.toks) hk, turn_enum a (s1.heap.objs.size + 1) s1.heap.objs.size, ⟨⟨.none, he⟩, hit, Nat.succ_ne_self _⟩, fun b hb => ?_, q⟩
      have hge : s1.heap.objs.size ≤ b := by
        rcases List.mem_cons.mp hb with z | z
        · rw [z]; exact Nat.le_add_right _ _
        · rw [List.mem_singleton.mp z]; exact Nat.le_refl _
      exact I1.fpOk hge (I1.hok.fresh hge)
    · obtain ⟨its, rv, p2, hz⟩ := I1.tuple hq
      refine callType_new F.called_enumerate (by decide) (F.typeCall_enumerate_1 _) (F.newCall_enumerate_1 _) (fun obj => F.args_object_init_2 obj _) F.entry_enumerate_new (en_new (begins_tuple a its.toArray)) ⟨p2, ?_⟩
      have sz : (s1.heap.push { cls := .type "tuple_iterator", data := .fields #[.ref a, .int 0 0] }).objs.size = s1.heap.objs.size + 1 := Heap.size_push ..
      show _ ∧ _
      rw [sz]
      have he : IsEnum ((s1.heap.push { cls := .type "tuple_iterator", data := .fields #[.ref a, .int 0 0] }).push { cls := .type "enumerate", data := .fields #[.none, .bool false, .ref s1.heap.objs.size, rawInt 0, .none, .none] }) (s1.heap.objs.size + 1) s1.heap.objs.size (0 + ((0 : Nat) : Int)) .none := by
        have g := Heap.get?_push_size (s1.heap.push { cls := .type "tuple_iterator", data := .fields #[.ref a, .int 0 0] }) (o := { cls := .type "enumerate", data := .fields #[.none, .bool false, .ref s1.heap.objs.size, rawInt 0, .none, .none] }) rfl
        rw [sz] at g; exact g
      refine ⟨⟨_, he, rfl⟩, wpAny_pyIter_enum he ⟨s1.heap.objs.size + 1, [s1.heap.objs.size + 1, s1.heap.objs.size], _, _, H1, rfl, I1.kept (t' := s1.toks) (fun b o z => Heap.get?_push_of_some _ (Heap.get?_push_of_some _ z)), turn_enT a (s1.heap.objs.size + 1) s1.heap.objs.size (Nat.succ_ne_self _), ⟨⟨.none, he⟩, ⟨_, Heap.get?_push_of_some _ (Heap.get?_push_size _ rfl), rfl, rfl⟩⟩, fun b hb => ?_, q⟩⟩
      have hge : s1.heap.objs.size ≤ b := by
        rcases List.mem_cons.mp hb with z | z
        · rw [z]; exact Nat.le_add_right _ _
        · rw [List.mem_singleton.mp z]; exact Nat.le_refl _
      exact I1.fpOk hge (I1.hok.fresh hge)
theorem walk_enT {K : PySem.W.Frag} {a : Addr} {xs : List V} : Walk (ItT K a) xs.length (fun H => SqT K H a xs) (YPair (fun i => some (.int (i : Nat))) (fun i => xs[i]?)) := by
  refine ⟨fun i _ hi hs => ⟨xs, xs[i], hs, by simp [hi]⟩, fun _ hs => ⟨xs, hs, Nat.le_refl _⟩, fun i H v H2 _ hs y => ?_⟩
  obtain ⟨T, x, e1, e2, e3, e4⟩ := y
  exact ⟨T, .int (i : Nat), x, e1, e2, e3, rfl, e4 xs hs⟩
theorem ko_catA {X : Cx} {K : PySem.W.Frag} (h : X.K = K := by rfl) : OpR X (binaryOp .Add) (rCatA K) := h ▸ op_catA
theorem ki_enA {X : Cx} {K : PySem.W.Frag} {e : Expr} {ta : TA} {p pos tpos : Pos} {elts : List Expr} {kk : Nat} (hg : Gl X "enumerate") (hm : X.mg "enumerate" = none) (ha : PA X [e] ta) (hs : starEach [e] X.env = [(false, eval e X.env)] := by rfl) (h : X.K = K := by rfl)
    : PI X (.Tuple elts kk tpos) (.Call (.Name "enumerate" p) [e] [] pos) (iEnA K ta) := h ▸ pi_enA hg hm ha hs
end Pot

namespace Pot
open PySem PySem.Spec PyProof.Rows L2
open Sem (wp)
/-! ### zip of three lists of one length -/
def It3 (K : PySem.W.Frag) (a b c : Addr) : It :=
  ⟨fun i H => ∃ (xs ys zs : List V) (x y z : V), SqL K H a xs ∧ SqL K H b ys ∧ SqL K H c zs ∧ xs[i]? = some x ∧ ys[i]? = some y ∧ zs[i]? = some z,
   fun i H v H2 => ∃ T x y z, v = .ref T ∧ H T = none ∧ H2 = upd H T (.tup [x, y, z]) ∧ (∀ xs, SqL K H a xs → xs[i]? = some x) ∧ (∀ ys, SqL K H b ys → ys[i]? = some y) ∧ ∀ zs, SqL K H c zs → zs[i]? = some z,
   fun i H => ∃ xs ys zs : List V, SqL K H a xs ∧ SqL K H b ys ∧ SqL K H c zs ∧ xs.length ≤ i ∧ ys.length ≤ i ∧ zs.length ≤ i⟩
/-- an iterator of a list that has come to its end -/
theorem drawsEndL {prog : Program} {w : World} {A : Around} (hh : A.handled = none) (it t : Addr) (items : Array Value) (i : Nat) (hi : items[i]? = none) :
    Draws prog w A it [it, t] i (fun _ _ => False) (fun j h => j = i ∧ h.IsListIter it t j ∧ h.IsList t items) where
  live := fun _ _ st => let ⟨o, ho, _⟩ := st.2.1; ⟨o, ho⟩
  frame := fun _ _ _ st hk => ⟨st.1, st.2.1.at fun o e => hk it (by simp) o e, st.2.2.at fun o e => hk t (by simp) o e⟩
  item := fun j _ _ _ hj st _ => absurd st.1 (Nat.ne_of_lt hj)
  done := fun s Q E st hE => wpAny_nextOf_list_end hh st.2.1 st.2.2 hi hE
theorem turn_z3 {P : Program} {w : World} {K : PySem.W.Frag} {elts : List Expr} {kk : Nat} {tpos : Pos} {a b c z TI TO i1 i2 i3 : Addr} (D : ZipSep3 z TI TO i1 i2 i3 [i1, a] [i2, b] [i3, c]) (n1 : a ≠ i1) (n2 : b ≠ i2) (n3 : c ≠ i3) :
    Turn P w K (.Tuple elts kk tpos) (It3 K a b c) [z, TI, TO, i1, i2, i3] z (fun i h => IsZip h z TI TO .none ∧ IsTupOf3 h TI (.ref i1) (.ref i2) (.ref i3) ∧ (∃ x y u, IsTupOf3 h TO x y u) ∧ h.IsListIter i1 a i ∧ h.IsListIter i2 b i ∧ h.IsListIter i3 c i) where
  mem := by simp
  obj := fun i h st m hm => by
    obtain ⟨hz, hTI, ⟨x, y, u, hTO⟩, ⟨o1, e1, _, d1⟩, ⟨o2, e2, _, d2⟩, ⟨o3, e3, _, d3⟩⟩ := st
    simp only [List.mem_cons, List.not_mem_nil, or_false] at hm
    rcases hm with e | e | e | e | e | e
    · subst e; exact ⟨_, hz, fun v q => nomatch q⟩
    · subst e; exact ⟨_, hTI, fun v q => nomatch q⟩
    · subst e; exact ⟨_, hTO, fun v q => nomatch q⟩
    · subst e; exact ⟨o1, e1, fun v q => by rw [d1] at q; cases q⟩
    · subst e; exact ⟨o2, e2, fun v q => by rw [d2] at q; cases q⟩
    · subst e; exact ⟨o3, e3, fun v q => by rw [d3] at q; cases q⟩
  keep := fun i h h2 st k => by
    obtain ⟨hz, hTI, ⟨x, y, u, hTO⟩, g1, g2, g3⟩ := st
    exact ⟨k z (by simp) _ hz, k TI (by simp) _ hTI, ⟨x, y, u, k TO (by simp) _ hTO⟩, g1.at fun o q => k i1 (by simp) o q, g2.at fun o q => k i2 (by simp) o q, g3.at fun o q => k i3 (by simp) o q⟩
  item := by
    intro X q1 q2 q3 hc i pins s σ H E I hf st hg; subst q1 q2 q3
    obtain ⟨hz, hTI, ⟨x0, y0, u0, hTO⟩, g1, g2, g3⟩ := st
    obtain ⟨xs, ys, us, x, y, u, hqa, hqb, hqc, hx, hy, hu⟩ := hg
    obtain ⟨its1, vs1, p1, _⟩ := I.list hqa
    obtain ⟨its2, vs2, p2, _⟩ := I.list hqb
    obtain ⟨its3, vs3, p3, _⟩ := I.list hqc
    obtain ⟨w1, hw1, r1⟩ := vs1.get hx
    obtain ⟨w2, hw2, r2⟩ := vs2.get hy
    obtain ⟨w3, hw3, r3⟩ := vs3.get hu
    have at1 : its1.toArray[i]? = some w1 := by simpa using hw1
    have at2 : its2.toArray[i]? = some w2 := by simpa using hw2
    have at3 : its3.toArray[i]? = some w3 := by simpa using hw3
    have l1 : i < its1.toArray.size := (Array.getElem?_eq_some_iff.mp at1).1
    have l2 : i < its2.toArray.size := (Array.getElem?_eq_some_iff.mp at2).1
    have l3 : i < its3.toArray.size := (Array.getElem?_eq_some_iff.mp at3).1
    have hh := I.ok.hd hc
    have G := GoesN.zip3 (elts := elts) (x1 := kk) (pos := tpos) D (Draws.list (prog := X.prog) (w := X.w) (A := X.A.in1) hh i1 a n1 its1.toArray) (Draws.list (prog := X.prog) (w := X.w) (A := X.A.in1) hh i2 b n2 its2.toArray) (Draws.list (prog := X.prog) (w := X.w) (A := X.A.in1) hh i3 c n3 its3.toArray)
    refine G.goes i s _ _ (by omega) ⟨hz, hTI, ⟨x0, y0, u0, hTO⟩, ⟨g1, p1.isList⟩, ⟨g2, p2.isList⟩, ⟨g3, p3.isList⟩⟩ fun v h2 tk hY st2 hk _ => ?_
    obtain ⟨T, t1, t2, t3, rfl, hn, e1, e2, e3, hT⟩ := hY
    cases Option.some.inj (e1.symm.trans at1)
    cases Option.some.inj (e2.symm.trans at2)
    cases Option.some.inj (e3.symm.trans at3)
    have new : ObjOk X.prog X.w (upd H T (.tup [x, y, u])) h2 T (.tup [x, y, u]) := ⟨by show 3 ≤ sizeLine; decide, [w1, w2, w3], .cons r1 (.cons r2 (.cons r3 .nil)), hT⟩
    have I1 : Inv X pins σ (upd H T (.tup [x, y, u])) { s with heap := h2, toks := tk } := I.turnedNew (ch := [z, TI, TO, i1, i2, i3]) (fun m ob hm q => hk m ob (fun e => hm (by simp only [List.mem_cons, List.not_mem_nil, or_false] at e ⊢; rcases e with e | e | e | e | e <;> simp [e])) q) hf hn new
    refine ⟨.ref T, _, I1, rfl, ⟨T, x, y, u, rfl, I.hok.fresh hn, rfl, fun l hl => by rw [I.list_inj hl hqa]; exact hx, fun l hl => by rw [I.list_inj hl hqb]; exact hy, fun l hl => by rw [I.list_inj hl hqc]; exact hu⟩, ⟨st2.1, st2.2.1, st2.2.2.1, st2.2.2.2.1.1, st2.2.2.2.2.1.1, st2.2.2.2.2.2.1⟩, fun m hm => ?_⟩
    have hm0 := (hf m hm).1
    have live : ∃ o, s.heap.get? m = some o := by
      obtain ⟨o1, f1, _⟩ := g1
      obtain ⟨o2, f2, _⟩ := g2
      obtain ⟨o3, f3, _⟩ := g3
      simp only [List.mem_cons, List.not_mem_nil, or_false] at hm
      rcases hm with e | e | e | e | e | e
      · subst e; exact ⟨_, hz⟩
      · subst e; exact ⟨_, hTI⟩
      · subst e; exact ⟨_, hTO⟩
      · subst e; exact ⟨_, f1⟩
      · subst e; exact ⟨_, f2⟩
      · subst e; exact ⟨_, f3⟩
    obtain ⟨o, ho⟩ := live
    rw [upd_ne (Nat.ne_of_lt (Nat.lt_of_lt_of_le (Heap.lt_size ho) hn))]; exact hm0
  done := by
    intro X q1 q2 q3 hc i pins s σ H E I hf st hg; subst q1 q2 q3
    obtain ⟨hz, hTI, ⟨x0, y0, u0, hTO⟩, g1, g2, g3⟩ := st
    obtain ⟨xs, ys, us, hqa, hqb, hqc, hx, hy, hu⟩ := hg
    obtain ⟨its1, vs1, p1, _⟩ := I.list hqa
    obtain ⟨its2, vs2, p2, _⟩ := I.list hqb
    obtain ⟨its3, vs3, p3, _⟩ := I.list hqc
    have m1 := vs1.length
    have m2 := vs2.length
    have m3 := vs3.length
    have hh := I.ok.hd hc
    have G := GoesN.zip3 (elts := elts) (x1 := kk) (pos := tpos) D (drawsEndL (prog := X.prog) (w := X.w) (A := X.A.in1) hh i1 a its1.toArray i (by simp; omega)) (drawsEndL (prog := X.prog) (w := X.w) (A := X.A.in1) hh i2 b its2.toArray i (by simp; omega)) (drawsEndL (prog := X.prog) (w := X.w) (A := X.A.in1) hh i3 c its3.toArray i (by simp; omega))
    rw [Nat.min_self, Nat.min_self] at G
    exact G.stops s _ _ ⟨hz, hTI, ⟨x0, y0, u0, hTO⟩, ⟨rfl, g1, p1.isList⟩, ⟨rfl, g2, p2.isList⟩, ⟨rfl, g3, p3.isList⟩⟩ fun h2 tk hk _ => inv_ch (ch := [z, TI, TO, i1, i2, i3]) I (fun m o hm q => hk m o (fun e => hm (by simp only [List.mem_cons, List.not_mem_nil, or_false] at e ⊢; rcases e with e | e | e | e | e <;> simp [e])) q) hf
  self := fun _ _ _ _ _ st fin => wpAny_pyIter_zip st.1 fin
def iZip3 (K : PySem.W.Frag) (ta : TA) : TI := fun σ H R => ta σ H fun vs H1 => ∃ a b c xs ys zs, vs = [.ref a, .ref b, .ref c] ∧ SqL K H1 a xs ∧ SqL K H1 b ys ∧ SqL K H1 c zs ∧ R (It3 K a b c) H1
theorem pi_zip3 {X : Cx} {e e2 e3 : Expr} {ta : TA} {p pos tpos : Pos} {elts : List Expr} {kk : Nat} (hg : Gl X "zip") (hm : X.mg "zip" = none) (ha : PA X [e, e2, e3] ta)
    (hs : starEach [e, e2, e3] X.env = (false, eval e X.env) :: starEach [e2, e3] X.env := by rfl) (hpl : (backTo pos (starEach [e2, e3] X.env)).any (·.1) = false := by rfl) :
    PI X (.Tuple elts kk tpos) (.Call (.Name "zip" p) [e, e2, e3] [] pos) (iZip3 X.K ta) := by
  refine ⟨fun pins s σ H R I hi => ?_⟩
  refine Call_ (ld_blt I hg hm PyProof.Rows.boot_zip (PyProof.Rows.callWith_type1 (thn (ha.run pos pins s σ H _ I hi) fun us s1 ⟨vs, H1, I1, r1, q1⟩ => ?_) hs hpl))
  obtain ⟨a, b, c, xs, ys, zs, ex, qa, qb, qc, q⟩ := q1
  subst ex
  cases r1 with
  | cons ra rr =>
    cases rr with
    | cons rb rr =>
      cases rr with
      | cons rc rr =>
        cases rr; cases ra; cases rb; cases rc
        obtain ⟨its1, _, p1, _⟩ := I1.list qa
        obtain ⟨its2, _, p2, _⟩ := I1.list qb
        obtain ⟨its3, _, p3, _⟩ := I1.list qc
        refine zip_begins3 (begins_list a its1.toArray) (begins_list b its2.toArray) (begins_list c its3.toArray) p1.isList p2.isList p3.isList fun h2 hz hTI hTO f1 f2 f3 hsz hk => wpAny_pyIter_zip hz ?_
        have below : ∀ {l : Addr} {its : List Value} {n : Nat}, s1.heap.get? l = some { cls := .type "list", data := .seq its.toArray n } → ∀ m ∈ [l], m < s1.heap.objs.size := fun h m hm => by rw [List.mem_singleton.mp hm]; exact Heap.lt_size h
        refine ⟨s1.heap.objs.size + 5, [s1.heap.objs.size + 5, s1.heap.objs.size + 3, s1.heap.objs.size + 4, s1.heap.objs.size, s1.heap.objs.size + 1, s1.heap.objs.size + 2], _, _, H1, rfl, I1.kept (t' := s1.toks) hk, turn_z3 (zip_sep3 (N := s1.heap.objs.size) (fp1 := [a]) (fp2 := [b]) (fp3 := [c]) ?_ ?_ ?_) ?_ ?_ ?_, ⟨hz, hTI, ⟨_, _, _, hTO⟩, ⟨_, f1, rfl, rfl⟩, ⟨_, f2, rfl, rfl⟩, ⟨_, f3, rfl, rfl⟩⟩, fun m hm => ?_, q⟩
        · exact fun m hm => by rw [List.mem_singleton.mp hm]; exact p1.lt
        · exact fun m hm => by rw [List.mem_singleton.mp hm]; exact p2.lt
        · exact fun m hm => by rw [List.mem_singleton.mp hm]; exact p3.lt
        · exact Nat.ne_of_lt p1.lt
        · exact Nat.ne_of_lt (Nat.lt_of_lt_of_le p2.lt (Nat.le_add_right _ _))
        · exact Nat.ne_of_lt (Nat.lt_of_lt_of_le p3.lt (Nat.le_add_right _ _))
        · have hge : s1.heap.objs.size ≤ m := by
            simp only [List.mem_cons, List.not_mem_nil, or_false] at hm
            rcases hm with e | e | e | e | e | e <;> (rw [e]; first | exact Nat.le_refl _ | exact Nat.le_add_right _ _)
          exact I1.fpOk hge (I1.hok.fresh hge)
theorem ki_zip3 {X : Cx} {K : PySem.W.Frag} {e e2 e3 : Expr} {ta : TA} {p pos tpos : Pos} {elts : List Expr} {kk : Nat} (hg : Gl X "zip") (hm : X.mg "zip" = none) (ha : PA X [e, e2, e3] ta)
    (hs : starEach [e, e2, e3] X.env = (false, eval e X.env) :: starEach [e2, e3] X.env := by rfl) (hpl : (backTo pos (starEach [e2, e3] X.env)).any (·.1) = false := by rfl) (h : X.K = K := by rfl) :
    PI X (.Tuple elts kk tpos) (.Call (.Name "zip" p) [e, e2, e3] [] pos) (iZip3 K ta) := h ▸ pi_zip3 hg hm ha hs hpl
def Y3 (f g k : Nat → Option V) : Nat → Hp → V → Hp → Prop := fun i H v H2 => ∃ T x y z, v = .ref T ∧ H T = none ∧ H2 = upd H T (.tup [x, y, z]) ∧ f i = some x ∧ g i = some y ∧ k i = some z
theorem walk_z3 {K : PySem.W.Frag} {a b c : Addr} {xs ys zs : List V} (h1 : ys.length = xs.length) (h2 : zs.length = xs.length) : Walk (It3 K a b c) xs.length (fun H => SqL K H a xs ∧ SqL K H b ys ∧ SqL K H c zs) (Y3 (fun i => xs[i]?) (fun i => ys[i]?) (fun i => zs[i]?)) := by
  refine ⟨fun i _ hi hs => ⟨xs, ys, zs, xs[i], ys[i]'(by omega), zs[i]'(by omega), hs.1, hs.2.1, hs.2.2, by simp [hi], by simp [show i < ys.length by omega], by simp [show i < zs.length by omega]⟩, fun _ hs => ⟨xs, ys, zs, hs.1, hs.2.1, hs.2.2, by omega, by omega, by omega⟩, fun i H v H2 _ hs y => ?_⟩
  obtain ⟨T, x, y, z, e1, e2, e3, e4, e5, e6⟩ := y
  exact ⟨T, x, y, z, e1, e2, e3, e4 xs hs.1, e5 ys hs.2.1, e6 zs hs.2.2⟩
end Pot

namespace Pot
open PySem PySem.Spec PyProof.Rows L2
open PySem.Calls
open PySem.W (sortingHeap copyHeap sortLe alike alikeAll keyToks keyToksAll dataLt dataKind KatLex SortsAt sortVals dataType EachIs)
/-! ### sorted of rows that are told apart by parts that can be compared -/
/-- up to the first part in which they differ, that one too, two rows are alike -/
def okCmp : List PyData → List PyData → Bool
  | x :: xs, y :: ys => alike x y && (!PyData.eqv x y || okCmp xs ys)
  | [], [] => true
  | _, _ => false
section
variable {prog : Program} {w : World} {A : Around} {s : Shared}
theorem kat_ok {b fin : Bool} {Q : Bool → Shared → Prop} : ∀ (xs ys : List PyData) (i : Nat) (vs ws : List Value) (as bs : List Addr), ReadsAll s.heap vs xs as → ReadsAll s.heap ws ys bs → okCmp xs ys = true → A.units + min (PyData.depthAll xs) (PyData.depthAll ys) < cLine → (b = true → i = 0 → ∀ x r t, xs = x :: r → x ≠ .tuple t) → fin = decide (xs.length < ys.length) →
    Q (PyProof.Rows.lexLt itemOrd (keyToksAll xs) (keyToksAll ys)) s → KatLex prog w A b fin Q (vs.zip ws) i s := by
  intro xs
  induction xs with
  | nil =>
    intro ys i vs ws as bs ra rb ok hu hb hf hq
    have := PySem.W.katLex_alike (prog := prog) (w := w) (A := A) (s := s) (b := b) (fin := fin) (Q := Q) [] ys i vs ws as bs ra rb
    cases ys with
    | nil => exact this rfl hu hb hf hq
    | cons y ys => cases ok
  | cons x xs ih =>
    intro ys i vs ws as bs ra rb ok hu hb hf hq
    cases ys with
    | nil => cases ok
    | cons y ys =>
      obtain ⟨al, nx⟩ := Bool.and_eq_true_iff.mp ok
      have hf2 : fin = decide (xs.length < ys.length) := by rw [hf]; simp only [List.length_cons, Nat.add_lt_add_iff_right]
      cases ra with
      | cons r rs =>
        cases rb with
        | cons r2 rs2 =>
          rw [List.zip_cons_cons]
          refine PySem.W.kat_cons (PySem.W.eqAt_alike x y A s _ _ _ _ r r2 al (SeqAt.room_head hu) prog w _ _ ?_)
          cases ex : PyData.eqv x y with
          | true =>
            rw [PySem.W.dataLt_all_yes al ex] at hq
            rw [ex] at nx
            exact PySem.W.kat_yes (ih ys (i + 1) _ _ _ _ rs rs2 nx (SeqAt.room_tail hu) (fun _ h0 => absurd h0 (Nat.succ_ne_zero i)) hf2 hq)
          | false =>
            rw [PySem.W.dataLt_all_no al ex] at hq
            refine PySem.W.kat_no (PySem.W.oneLt_alike (fun hbi t => ?_) r r2 al (PySem.W.ne_none_of al ex) (SeqAt.room_head hu) hq)
            obtain ⟨b1, b2⟩ := Bool.and_eq_true_iff.mp hbi
            exact hb b1 (by simpa using b2) x xs t rfl
theorem key_of {h : Heap} {ds : List PyData} {v : Value} {d : PyData} {as : List Addr} (hd : d ∈ ds) (r : Reads h v d as) : (dataKind h ds).keyOf v = some (keyToks d) := by
  have ex : ∃ e, e ∈ ds ∧ ∃ bs, Reads h v e bs := ⟨d, hd, as, r⟩
  have eq1 : (dataKind h ds).keyOf v = some (keyToks ex.choose) := dif_pos ex
  obtain ⟨_, bs, r2⟩ := ex.choose_spec
  rw [eq1, (Reads.unique r2 _ _ r).1]
/-- rows that can be sorted: tuples with a first part, the first parts alike, each two comparable -/
structure RowsCmp (ds : List PyData) : Prop where
  form : ∀ d ∈ ds, ∃ x r, d = .tuple (x :: r)
  first : ∀ x r x2 r2, PyData.tuple (x :: r) ∈ ds → PyData.tuple (x2 :: r2) ∈ ds → alike x x2 = true
  cmp : ∀ xs ys, PyData.tuple xs ∈ ds → PyData.tuple ys ∈ ds → okCmp xs ys = true
theorem sorts_rows {vs : List Value} {ds : List PyData} (e : EachIs (fun v d => ∃ as, Reads s.heap v d as) vs ds) (W : RowsCmp ds) (hu : ∀ d, d ∈ ds → A.units + d.depth < cLine) : SortsAt prog w A s (dataKind s.heap ds) vs := by
  refine ⟨fun v hv => ?_, ?_⟩
  · obtain ⟨d, hd, as, r⟩ := e.left v hv
    exact ⟨_, key_of hd r⟩
  · cases hds : ds with
    | nil =>
      rw [hds] at e
      cases e
      exact ⟨general', fun E x y a b Q ha _ _ => (by obtain ⟨d, _, hd, _⟩ := PySem.W.dataKind_inv ha; exact absurd hd (by simp)), fun h2 => absurd h2 (by simp)⟩
    | cons d0 ds0 =>
      rw [← hds]
      have m0 : d0 ∈ ds := by rw [hds]; exact List.mem_cons_self
      obtain ⟨x0, r0, e0⟩ := W.form d0 m0
      have m0 : PyData.tuple (x0 :: r0) ∈ ds := by rw [← e0]; exact m0
      refine ⟨tuples' (dataType x0 != Value.type "tuple"), ?_, fun h2 E Q hq => ?_⟩
      · intro E x y a b Q ha hb hq
        obtain ⟨d, as, hd, ra, rfl⟩ := PySem.W.dataKind_inv ha
        obtain ⟨d2, as2, hd2, rb, rfl⟩ := PySem.W.dataKind_inv hb
        obtain ⟨x1, r1, rfl⟩ := W.form d hd
        obtain ⟨x2, r2, rfl⟩ := W.form d2 hd2
        have room : A.units + min (PyData.tuple (x1 :: r1)).depth (PyData.tuple (x2 :: r2)).depth < cLine := Nat.lt_of_le_of_lt (Nat.add_le_add_left (Nat.min_le_left _ _) _) (hu _ hd)
        have hq2 : Q (dataLt (.tuple (x1 :: r1)) (.tuple (x2 :: r2))) s := hq
        rw [PySem.W.dataLt_tuple] at hq2
        cases ra with
        | @tuple l o us n _ _ h1 h2 h3 h4 =>
          cases rb with
          | @tuple l2 o2 us2 n2 _ _ k1 k2 k3 k4 =>
            have z1 : us.size = (x1 :: r1).length := by simpa using SeqAt.ReadsAll.length _ _ _ h4
            have z2 : us2.size = (x2 :: r2).length := by simpa using SeqAt.ReadsAll.length _ _ _ k4
            refine PySem.W.kat_lt h1 h3 k1 k3 (kat_ok (prog := prog) (w := w) (A := A) (s := s) (x1 :: r1) (x2 :: r2) 0 _ _ _ _ h4 k4 (W.cmp _ _ hd hd2) (by have := SeqAt.room_in room; omega) (fun hb1 _ xx rr t ex => ?_) (by rw [z1, z2]) hq2)
            obtain ⟨rfl, rfl⟩ := List.cons.inj ex
            rw [← PySem.W.dataType_alike (W.first _ _ _ _ hd m0)] at hb1
            exact PySem.W.dataType_tuple hb1 t
      · obtain ⟨fs, t1, t2, t3⟩ := PySem.W.each_katTups e W.form
        refine PySem.W.kat_kind (T := dataType x0) t1 (by omega) (fun f hf => ?_) (beq_self_eq_true _) hq
        obtain ⟨xx, rr, as, m1, m2⟩ := t3 f hf
        rw [← PySem.W.dataType_alike (W.first _ _ _ _ m1 m0)]
        exact PySem.W.looks_reads m2
end
theorem perm_lift {α β : Type} (f : α → β) {out l : List β} (h : out.Perm l) : ∀ L : List α, L.map f = l → ∃ L2 : List α, L2.Perm L ∧ L2.map f = out := by
  induction h with
  | nil => intro L e; exact ⟨L, .refl _, e⟩
  | cons x _ ih =>
    intro L e
    cases L with
    | nil => cases e
    | cons y L =>
      obtain ⟨e1, e2⟩ := List.cons.inj e
      obtain ⟨L2, p2, m2⟩ := ih L e2
      exact ⟨y :: L2, p2.cons y, by rw [List.map_cons, m2, e1]⟩
  | swap x y l =>
    intro L e
    match L, e with
    | a :: b :: L, e =>
      obtain ⟨e1, e2⟩ := List.cons.inj e
      obtain ⟨e2, e3⟩ := List.cons.inj e2
      exact ⟨b :: a :: L, .swap a b L, by rw [List.map_cons, List.map_cons, e1, e2, e3]⟩
  | trans _ _ ih1 ih2 =>
    intro L e
    obtain ⟨L2, p2, m2⟩ := ih2 L e
    obtain ⟨L3, p3, m3⟩ := ih1 L2 m2
    exact ⟨L3, p3.trans p2, m3⟩
section
variable {X : Cx} {K : PySem.W.Frag}
theorem each_reads {pins : List (Addr × Obj)} {σ : L2.St} {H : Hp} {s : Shared} (I : Inv X pins σ H s) : ∀ {xs : List V} {its : List Value} {ds : List PyData}, Vals xs its → DpAll X.K H xs ds → ∃ L : List (Value × V × PyData), L.map (·.1) = its ∧ L.map (·.2.1) = xs ∧ L.map (·.2.2) = ds ∧ ∀ t ∈ L, RelV t.2.1 t.1 ∧ Dp X.K H t.2.1 t.2.2
  | _, _, _, .nil, .nil => ⟨[], rfl, rfl, rfl, fun _ h => (List.not_mem_nil h).elim⟩
  | _, _, _, .cons (a := x) (b := u) r rs, .cons (d := d) p ps => by
    obtain ⟨L, h1, h2, h3, h4⟩ := each_reads I rs ps
    refine ⟨(u, x, d) :: L, by rw [List.map_cons, h1], by rw [List.map_cons, h2], by rw [List.map_cons, h3], fun t ht => ?_⟩
    rcases List.mem_cons.mp ht with e | e
    · rw [e]; exact ⟨r, p⟩
    · exact h4 t e
/-- sorted of a list of rows: a new list of the same ones -/
def rSortedR (K : PySem.W.Frag) : List V → Hp → VK → Prop := fun vs H Q => ∃ (a : Addr) (xs : List V) (ds : List PyData), vs = [V.ref a] ∧ SqL K H a xs ∧ DpAll K H xs ds ∧ RowsCmp ds ∧ (∀ d ∈ ds, d.depth ≤ 60) ∧
  ∀ (zs : List V) (es : List PyData) (p : Addr), DpAll K H zs es → es.Perm ds → H p = none → Q (.ref p) (upd H p (.lst zs))
theorem cr_sortedR (hu : X.A.units + 70 < cLine) : CallR X (.builtin "sorted") (rSortedR X.K) := by
  intro pins s σ H vs0 us0 Q I r h
  obtain ⟨a, xs, ds, rfl, hs, da, W, dep, q⟩ := h
  obtain ⟨its, rv, hl, hz⟩ := I.list hs
  rw [Vals.ref1 r]
  obtain ⟨L, e1, e2, e3, all⟩ := each_reads I rv da
  have er : EachIs (fun v d => ∃ as, Reads s.heap v d as) its ds := by
    rw [← e1, ← e3]
    clear e1 e2 e3
    induction L with
    | nil => exact .nil
    | cons t L ih =>
      have ht := all t List.mem_cons_self
      exact .cons (Dp.reads I _ _ _ ht.2 ht.1) (ih fun x hx => all x (List.mem_cons_of_mem _ hx))
  have ll : its.length = xs.length := by rw [← e1, ← e2, List.length_map, List.length_map]
  have ln : its.length ≤ sizeLine := by rw [ll]; exact hz
  have er' : EachIs (fun v d => ∃ as, Reads (sortingHeap (copyHeap s.heap its) (s.heap.objs.size + 1) its) v d as) its ds := er.mono fun _ _ ⟨as, r⟩ => ⟨as, PyProof.Rows.Reads.keeps (fun _ _ => PySem.W.sorting_copy_old) r⟩
  have S := sorts_rows (prog := X.prog) (w := X.w) (A := X.A.in1.in1) (s := { s with heap := sortingHeap (copyHeap s.heap its) (s.heap.objs.size + 1) its }) er' W (fun d hd => by have := dep d hd; simp only [Around.in1]; omega)
  refine PySem.W.sorted_vals hl.isList S ln ?_
  generalize eo : sortVals _ false its its = out
  have po : out.Perm its := by
    rw [← eo]
    unfold sortVals
    have := (List.mergeSort_perm (its.zip its) (sortLe (dataKind (sortingHeap (copyHeap s.heap its) (s.heap.objs.size + 1) its) ds).toKeyOrd false fun p : Keyed => PySem.W.keyD (dataKind (sortingHeap (copyHeap s.heap its) (s.heap.objs.size + 1) its) ds) p.1)).map Prod.snd
    rw [List.map_snd_zip (Nat.le_refl _)] at this
    exact this
  obtain ⟨L2, p2, m2⟩ := perm_lift (·.1) po L e1
  have rv2 : Vals (L2.map (·.2.1)) out := by
    rw [← m2]
    clear m2
    have hh : ∀ t ∈ L2, RelV t.2.1 t.1 := fun t ht => (all t (p2.mem_iff.mp ht)).1
    clear p2
    induction L2 with
    | nil => exact .nil
    | cons t L2 ih => exact .cons (hh t List.mem_cons_self) (ih fun x hx => hh x (List.mem_cons_of_mem _ hx))
  have dp2 : DpAll X.K H (L2.map (·.2.1)) (L2.map (·.2.2)) := by
    have hh : ∀ t ∈ L2, Dp X.K H t.2.1 t.2.2 := fun t ht => (all t (p2.mem_iff.mp ht)).2
    clear p2 m2 rv2
    induction L2 with
    | nil => exact .nil
    | cons t L2 ih => exact .cons (hh t List.mem_cons_self) (ih fun x hx => hh x (List.mem_cons_of_mem _ hx))
  have pd : (L2.map (·.2.2)).Perm ds := by rw [← e3]; exact p2.map _
  obtain ⟨ep, hat⟩ := PyProof.Rows.sortedAll_at s.heap its out.toArray
  have fr : H (s.heap.objs.size + 1) = none := I.hok.fresh (Nat.le_succ _)
  exact ⟨.ref _, upd H (s.heap.objs.size + 1) (.lst (L2.map (·.2.1))), I.laid (t' := s.toks) (fun _ _ => PyProof.Rows.sortedAll_old) (Nat.le_succ _) ⟨by rw [List.length_map, p2.length_eq, ← List.length_map (f := fun x : Value × V × PyData => x.1), e1]; exact ln, out, ep, rv2, hat⟩, rfl, q _ _ _ dp2 pd fr⟩
theorem kc_sortedR (hu : X.A.units + 70 < cLine) (h : X.K = K := by rfl) : CallR X (.builtin "sorted") (rSortedR K) := h ▸ cr_sortedR hu
end
end Pot

namespace Pot
open PySem PySem.Spec PyProof.Rows L2
/-! ### dicts whose keys are tuples: one written with one pair, the greatest of the values -/
def tDispT (tk tv : TE) : TE := fun σ H Q => ∀ p, H p = none → tk σ (upd H p (.dT [])) fun x H1 => tv σ H1 fun y H2 => ∃ (b : Addr) (k : List Key), x = .ref b ∧ H2 b = some (.tup (k.map kV)) ∧ H2 p = some (.dT []) ∧ Q (.ref p) (upd H2 p (.dT [(k, y)]))
def rValsT : V → List V → Hp → VK → Prop := fun x xs H Q => ∃ (a : Addr) (kvs : List (List Key × V)), x = .ref a ∧ xs = [] ∧ H a = some (.dT kvs) ∧ ∀ p, H p = none → Q (.ref p) (upd H p (viewO "dict_values" p a))
def rMaxT : List V → Hp → VK → Prop := fun xs H Q => ∃ (p a : Addr) (kvs : List (List Key × V)) (ns : List Int), xs = [.ref p] ∧ H p = some (viewO "dict_values" p a) ∧ H a = some (.dT kvs) ∧ kvs.map Prod.snd = ns.map V.int ∧ 0 < ns.length ∧ ∀ m, m ∈ ns → (∀ y, y ∈ ns → y ≤ m) → Q (.int m) H
section
variable {X : Cx}
theorem pe_dispT {k v : Expr} {pos : Pos} {tk tv : TE} (hu : X.A.units + 1 < cLine) (hk : PE X k tk) (hv : PE X v tv) : PE X (.Dict [some k] [v] pos) (tDispT tk tv) := by
  refine ⟨fun pins s σ H Q I q => ?_⟩
  have fresh := I.hok.fresh (Nat.le_refl s.heap.objs.size)
  have J := I.laid (t' := s.toks) (a := s.heap.objs.size) (o := .dT []) (h' := s.heap.push { cls := .type "dict", data := .dict #[] }) (fun _ _ z => Heap.get?_push_of_some _ z) (Nat.le_refl _) (dt_empty s.heap I.big)
  have two : PPs X pos [some k] [v] [(tk, tv)] := pps_cons hk hv pps_nil
  rw [arm_eval_Dict, zip_pairTrees [some k] [v] X.env pos rfl rfl, dictDisplay_pairs _ (by exact List.cons_ne_nil _ _) (by exact Nat.le_of_ble_eq_true rfl)]
  have go := two.run pins _ σ _ (fun ps H2 => match ps with
    | [(x, y)] => ∃ (b : Addr) (k : List Key), x = .ref b ∧ H2 b = some (.tup (k.map kV)) ∧ H2 s.heap.objs.size = some (.dT []) ∧ Q (.ref s.heap.objs.size) (upd H2 s.heap.objs.size (.dT [(k, y)]))
    | _ => False) J (q _ fresh)
  refine wpAny_bind (wpAny_standAt (wpAny_bind (wpAny_subDictH (knd := tupleKind (mixKind X.prog X.w)) (Q := fun d s2 => wpAny (model X.prog X.w) X.A (pure (Value.ref d)) (EP X pins σ Q) X.xe s2) (show X.A.units < cLine by omega) (by exact Nat.le_of_ble_eq_true rfl) (thn go fun ws s2 res => ?_))))
  obtain ⟨ps, H2, I2, rel, z⟩ := res
  cases rel with
  | nil => exact z.elim
  | @cons a0 b0 as bs r0 t =>
    cases t with
    | cons _ _ => exact z.elim
    | nil =>
      obtain ⟨x, y⟩ := a0
      obtain ⟨u, r⟩ := b0
      obtain ⟨r1, r2⟩ := r0
      obtain ⟨b, ks, rfl, hb, hd, z⟩ := z
      obtain rfl : u = Value.ref b := r1
      obtain ⟨small, sys, xs, kt, dd⟩ := dt_of I2.hok hd
      cases kt
      refine ⟨[(ks, b, r)], ⟨rfl, rfl, L2.key_of I2.hok hb, trivial⟩, dd, fun h2 tk dd2 only => wpAny_pure ?_⟩
      obtain ⟨o, es, ep, at_, c1, c2, c3, c4, c5⟩ := dd2
      have J2 := d_write (t' := tk) I2 (by rw [hd]; exact True.intro) only ⟨o, at_⟩ (ob := .dT [(ks, y)]) ⟨by show 1 ≤ sizeLine; decide, sys, _, .cons ⟨rfl, by rw [upd_ne (ne_of hb hd (fun w => nomatch w))]; exact hb, r2⟩ .nil, o, es, ep, at_, c1, c2, c3, c5⟩
      exact ⟨.ref _, _, J2, rfl, z⟩
theorem mt_valuesT : MtR X "dict.values" rValsT := by
  intro pins s σ H x xs v us Q I rx rxs h
  obtain ⟨a, kvs, rfl, rfl, at_, q⟩ := h
  cases rx
  cases rxs
  obtain ⟨_, sys, xs, _, dd⟩ := dt_of I.hok at_
  obtain ⟨o, es, ep, lies, c1, c2, _⟩ := id dd
  refine call_meetsIn PySem.F.slot_dict_values dd.typeIs PySem.F.entry_dict_values (PySem.F.args_dict_values_1 _) (meets_dict_values_raw a sys) ⟨⟨es, ep, o, lies, c1, c2⟩, ?_⟩
  exact ⟨.ref s.heap.objs.size, _, I.laid (t' := s.toks) (fun _ _ z => Heap.get?_push_of_some _ z) (Nat.le_refl _) (viewO_ok (Heap.get?_push_size _ rfl)), rfl, q _ (I.hok.fresh (Nat.le_refl _))⟩
theorem mates {α β : Type} {F : α → β → Prop} : ∀ {l : List α} {m : List β} {i : Nat} {y : β}, Paired F l m → m[i]? = some y → ∃ x, l[i]? = some x ∧ F x y
  | _, _, i, y, .nil, g => by simp at g
  | _, _, 0, y, .cons (a := x) f _, g => ⟨x, rfl, by cases g; exact f⟩
  | _, _, i + 1, y, .cons _ t, g => mates (i := i) t g
theorem cr_maxT (hc : X.calm = true) : CallR X (.builtin "max") rMaxT := by
  intro pins s σ H xs us Q I rx h
  obtain ⟨p, a, kvs, ns, rfl, view, at_, vals, some_, q⟩ := h
  rw [Vals.ref1 rx]
  have hv : s.heap.get? p = some (DSub.viewOb "dict_values" a) := (show ObjOk X.prog X.w H s.heap p (viewO "dict_values" p a) from I.hok p _ view).1
  obtain ⟨_, sys, xs, kt, dd⟩ := dt_of I.hok at_
  obtain ⟨o, es, ep, lies, c1, c2, c3, c4, c5⟩ := id dd
  have n1 : kvs.length = ns.length := by simpa using congrArg List.length vals
  have n2 : xs.length = kvs.length := (Paired.length kt).symm
  have n3 : es.size = ns.length := by rw [size_of_entries c3]; omega
  have val : ∀ (i : Nat) (e : DictEntry), es[i]? = some e → ∃ t, e.val = .int (ns.getD i 0) t := fun i e g => by
    rw [entry_at c3, Option.map_eq_some_iff] at g
    obtain ⟨y, gy, rfl⟩ := g
    obtain ⟨x, gx, f⟩ := mates kt gy
    have g2 : (kvs.map Prod.snd)[i]? = some x.2 := by rw [List.getElem?_map, gx]; rfl
    rw [vals, List.getElem?_map, Option.map_eq_some_iff] at g2
    obtain ⟨n, gn, ex⟩ := g2
    have r := f.2.2
    rw [← ex] at r
    obtain ⟨t, et⟩ := r
    refine ⟨t, ?_⟩
    rw [List.getD_eq_getElem?_getD, gn]
    exact et
  have la : a < s.heap.objs.size := Heap.lt_size lies
  refine call_max_walk (DSub.iter_vals hv lies c2 ?_)
  refine ⟨s.heap.objs.size, [s.heap.objs.size, a], [s.heap.objs.size], es.size, fun i v => ∃ t, v = .int (ns.getD i 0) t, _, fun i j => decide (ns.getD i 0 > ns.getD j 0), rfl, DSub.walksVal (a := a) (show X.A.in1.handled = none from I.ok.hd hc) (Nat.ne_of_lt la) c2 val, ⟨Heap.get?_push_size _ rfl, Heap.get?_push_of_some _ lies⟩, fun b hb => ?_, by omega, CmpOf.ints_gt (fun i => ns.getD i 0) (fun i v z => z), fun v h2 tk is_ keep => ?_⟩
  · show b < (s.heap.push _).objs.size
    rw [Heap.size_push]
    rcases List.mem_cons.mp hb with e | e
    · exact e ▸ Nat.lt_succ_self _
    · exact List.mem_singleton.mp e ▸ Nat.lt_succ_of_lt la
  · obtain ⟨t, rfl⟩ := is_
    obtain ⟨b1, b2⟩ := argBest_gt (fun i => ns.getD i 0) (es.size - 1)
    refine ⟨.int _, H, I.kept (t' := tk) fun b u g => keep b u (fun m => ?_) (Heap.get?_push_of_some _ g), ⟨t, rfl⟩, q _ ?_ fun y hy => ?_⟩
    · rw [List.mem_singleton.mp m] at g
      exact absurd (Heap.lt_size g) (Nat.lt_irrefl _)
    · have lb : argBest (fun i j => decide (ns.getD i 0 > ns.getD j 0)) (es.size - 1) ≤ es.size - 1 := b1
      exact PySem.getD_mem (by omega)
    · obtain ⟨j, lj, e⟩ := List.mem_iff_getElem.mp hy
      have top : ns.getD j 0 ≤ ns.getD (argBest (fun i j => decide (ns.getD i 0 > ns.getD j 0)) (es.size - 1)) 0 := b2 j (by omega)
      have g : ns.getD j 0 = y := by rw [List.getD_eq_getElem?_getD, List.getElem?_eq_getElem lj, ← e]; rfl
      rw [g] at top
      exact top
end
end Pot

namespace Pot
open PySem PySem.Spec PyProof.Rows L2
/-! ### the least and the greatest of a list of numbers -/
section
variable {X : Cx} {K : PySem.W.Frag}
theorem kc_min (hc : X.calm = true := by rfl) (h : X.K = K := by rfl) : CallR X (.builtin "min") (rMin K) := h ▸ cr_min hc
theorem kc_max (hc : X.calm = true := by rfl) (h : X.K = K := by rfl) : CallR X (.builtin "max") (rMax K) := h ▸ cr_max hc
end
end Pot

namespace Pot
open PySem PySem.Spec PyProof.Rows L2
/-! ### the least of a list of rows; the greatest of whole numbers, or another thing where there is none -/
theorem reads_of {h : Heap} : ∀ {L : List (Value × V × PyData)}, (∀ t ∈ L, ∃ as, Reads h t.1 t.2.2 as) → ∃ as, ReadsAll h (L.map (·.1)) (L.map (·.2.2)) as
  | [], _ => ⟨_, .nil⟩
  | t :: L, H => by
    obtain ⟨as, r⟩ := H t List.mem_cons_self
    obtain ⟨bs, rs⟩ := reads_of fun x hx => H x (List.mem_cons_of_mem _ hx)
    exact ⟨_, .cons r rs⟩
section
variable {X : Cx} {K : PySem.W.Frag}
def rMinD (K : PySem.W.Frag) : List V → Hp → VK → Prop := fun vs H Q => ∃ (a : Addr) (xs : List V) (d : PyData) (ds : List PyData), vs = [V.ref a] ∧ SqL K H a xs ∧ DpAll K H xs (d :: ds) ∧ PySem.W.AlikeAll (d :: ds) ∧ PyData.depthAll (d :: ds) ≤ 60 ∧
  ∀ (v : V) (i : Nat), xs[i]? = some v → (d :: ds)[i]? = some (PySem.W.minD d ds) → Q v H
theorem cr_minD (hc : X.calm = true) (hu : X.A.units + 64 < cLine) : CallR X (.builtin "min") (rMinD X.K) := by
  intro pins s σ H vs0 us0 Q I r h
  obtain ⟨a, xs, d, ds, rfl, hs, da, al, dep, q⟩ := h
  obtain ⟨its, rv, hl, hz⟩ := I.list hs
  rw [Vals.ref1 r]
  obtain ⟨L, e1, e2, e3, all⟩ := each_reads I rv da
  obtain ⟨as, rd⟩ := reads_of (h := s.heap) fun t ht => Dp.reads I _ _ _ (all t ht).2 (all t ht).1
  rw [e1, e3] at rd
  have rd : ReadsAll s.heap its.toArray.toList (d :: ds) as := rd
  have hn : its.toArray.size = ds.length + 1 := PySem.W.readsAll_len rd
  have hh : X.A.handled = none := I.ok.hd hc
  refine PySem.call_min_walkH (PySem.W.iter_listW (A := X.A.in1) hh hl.isList fun s₂ e W st hfp hw hk => ?_)
  refine ⟨_, _, _, _, _, _, _, s.heap, _, rfl, W, st, hfp, by omega, hw, hk, PySem.W.cmpIn_lt (A := X.A.in1) rd al (by show X.A.units + 1 + _ < _; omega), fun v s' hP m => ?_⟩
  obtain ⟨h', tk, rfl, hk'⟩ := PySem.W.moved_old e rfl m
  have e4 : its.toArray.size - 1 = ds.length := by omega
  obtain ⟨b1, b2⟩ := PySem.W.argBest_fold PySem.W.dataLt PyData.none d ds ds.length (Nat.le_refl _)
  rw [List.take_length] at b2
  rw [e4] at hP
  generalize PySem.argBest (fun i j => PySem.W.dataLt ((d :: ds).getD i PyData.none) ((d :: ds).getD j PyData.none)) ds.length = i at hP b1 b2
  have hv : its[i]? = some v := by rw [List.getElem?_toArray] at hP; exact hP
  rw [← e1, List.getElem?_map] at hv
  obtain ⟨t, ht, rfl⟩ := Option.map_eq_some_iff.mp hv
  have tm := List.mem_of_getElem? ht
  refine ⟨t.2.1, H, I.kept hk', (all t tm).1, q t.2.1 i ?_ ?_⟩
  · rw [← e2, List.getElem?_map, ht]; rfl
  · have hi : i < (d :: ds).length := Nat.lt_succ_of_le b1
    rw [List.getD_eq_getElem?_getD, List.getElem?_eq_getElem hi] at b2
    rw [List.getElem?_eq_getElem hi]
    exact congrArg some b2
theorem kc_minD (hu : X.A.units + 64 < cLine) (hc : X.calm = true := by rfl) (h : X.K = K := by rfl) : CallR X (.builtin "min") (rMinD K) := h ▸ cr_minD hc hu
def rMaxO (K : PySem.W.Frag) : List V → List V → Hp → VK → Prop := fun vs zs H Q => ∃ (a : Addr) (ns : List Int) (m : Int), vs = [V.ref a] ∧ zs = [V.int m] ∧ SqL K H a (ns.map V.int) ∧ (ns = [] → Q (.int m) H) ∧ ∀ y ∈ ns, (∀ z ∈ ns, z ≤ y) → Q (.int y) H
theorem max_of : ∀ (ns : List Int) (n : Int), (ns.foldl max n ∈ n :: ns) ∧ ∀ z ∈ n :: ns, z ≤ ns.foldl max n
  | [], n => ⟨List.mem_cons_self, fun z hz => by rw [List.mem_singleton.mp hz]; exact Int.le_refl _⟩
  | k :: ns, n => by
    obtain ⟨h1, h2⟩ := max_of ns (max n k)
    rw [List.foldl_cons]
    refine ⟨?_, fun z hz => ?_⟩
    · rcases List.mem_cons.mp h1 with e | e
      · rw [e]
        by_cases c : n ≤ k
        · rw [show max n k = k by omega]; exact List.mem_cons_of_mem _ List.mem_cons_self
        · rw [show max n k = n by omega]; exact List.mem_cons_self
      · exact List.mem_cons_of_mem _ (List.mem_cons_of_mem _ e)
    · have hm := h2 (max n k) List.mem_cons_self
      rcases List.mem_cons.mp hz with rfl | hz
      · omega
      · rcases List.mem_cons.mp hz with rfl | hz
        · omega
        · exact h2 z (List.mem_cons_of_mem _ hz)
theorem dep_ints : ∀ ns : List Int, PyData.depthAll (ns.map PyData.int) = 0
  | [] => rfl
  | n :: ns => by show max 0 (PyData.depthAll (ns.map PyData.int)) = 0; rw [dep_ints ns]; rfl
theorem cr_maxO (hc : X.calm = true) (hu : X.A.units + 64 < cLine) : CallRK X (.builtin "max") ["default"] (rMaxO X.K) := by
  intro pins s σ H vs0 zs0 us0 ws0 Q I r r2 h
  obtain ⟨a, ns, m, rfl, rfl, hs, q0, q⟩ := h
  obtain ⟨its, rv, hl, hz⟩ := I.list hs
  rw [Vals.ref1 r]
  cases r2 with
  | cons r2 r3 =>
  cases r3
  obtain ⟨t, rfl⟩ := r2
  obtain ⟨L, e1, e2, e3, all⟩ := each_reads I rv (dp_ints ns)
  obtain ⟨as, rd⟩ := reads_of (h := s.heap) fun t ht => Dp.reads I _ _ _ (all t ht).2 (all t ht).1
  rw [e1, e3] at rd
  have rd : ReadsAll s.heap its.toArray.toList (ns.map PyData.int) as := rd
  have hh : X.A.handled = none := I.ok.hd hc
  have al : PySem.W.AlikeAll (ns.map PyData.int) := ⟨fun x hx y hy => by
    obtain ⟨i, _, rfl⟩ := List.mem_map.mp hx
    obtain ⟨j, _, rfl⟩ := List.mem_map.mp hy
    rfl, fun x hx e => by
    obtain ⟨i, _, rfl⟩ := List.mem_map.mp hx
    cases e⟩
  have dp := dep_ints ns
  refine PySem.W.max_list_default hh hl.isList rd al (by rw [dp]; omega) (fun e h' tk hk => ⟨.int m, H, I.kept hk, ⟨t, rfl⟩, q0 (List.map_eq_nil_iff.mp e)⟩) fun y ys i v h' tk bs e hv rr hk => ?_
  cases ns with
  | nil => cases e
  | cons n ns =>
    obtain ⟨rfl, rfl⟩ := List.cons.inj e
    rw [PySem.W.maxD_ints] at rr
    obtain ⟨h1, h2⟩ := max_of ns n
    cases rr
    exact ⟨.int _, H, I.kept hk, ⟨_, rfl⟩, q _ h1 h2⟩
theorem kc_maxO (hu : X.A.units + 64 < cLine) (hc : X.calm = true := by rfl) (h : X.K = K := by rfl) : CallRK X (.builtin "max") ["default"] (rMaxO K) := h ▸ cr_maxO hc hu
end
end Pot

namespace Pot
open PySem PySem.Spec PyProof.Rows L2
/-! ### the lesser of two rows -/
section
variable {X : Cx} {K : PySem.W.Frag}
theorem min_pairH {prog : Program} {w : World} {A : Around} {E : Value → Shared → Prop} {s : Shared} {a b : Value} {da db : PyData} {Q : Value → Shared → Prop} (hh : A.handled = none) (ra : ∃ as, Reads s.heap a da as) (rb : ∃ as, Reads s.heap b db as)
    (al : PySem.W.AlikeAll [da, db]) (hu : A.units + 1 + PyData.depthAll [da, db] < cLine)
    (q : ∀ h' tk, (∀ c o, s.heap.get? c = some o → h'.get? c = some o) → Q (if PySem.W.dataLt db da = true then b else a) { s with heap := h', toks := tk }) : wpAny (model prog w) A (call (.builtin "min") [a, b]) Q E s := by
  have nm : (toString "min" ++ toString ".loop" : String) = "min.loop" := by decide
  refine call_function_tree F.kind_min F.plain_min F.entry_min (F.args_min2 _ _) ?_
  show wpAny _ A.in1 (Builtin.Builtins.bindParams "min" ["key", "default"] 0 ⟨[], []⟩ >>= _) _ _ s
  refine wpAny_bind (wpAny_of_eq (show Builtin.Builtins.bindParams "min" ["key", "default"] 0 ⟨[], []⟩ = pure [none, none] from rfl) ?_)
  show wpAny _ A.in1 (newTuple [a, b] >>= _) _ _ s
  have k1 : ∀ c o, s.heap.get? c = some o → (s.heap.push { cls := .type "tuple", data := .seq #[a, b] }).get? c = some o := fun c o e => Heap.get?_push_of_some _ e
  have hT : (s.heap.push { cls := .type "tuple", data := .seq #[a, b] }).IsTuple s.heap.objs.size #[a, b] := ⟨_, Heap.get?_push_size _ rfl, rfl, 0, rfl⟩
  obtain ⟨as, ra⟩ := ra
  obtain ⟨bs, rb⟩ := rb
  refine wpAny_bind (wpAny_newObj_type (wpAny_bind (PySem.W.iter_tupleW (A := A.in1) hh hT fun s₂ es W st hfp hw hk => ?_)))
  refine wpAny_bind (wpAny_newObj_type ?_)
  have rd : ReadsAll (s.heap.push { cls := .type "tuple", data := .seq #[a, b] }) (#[a, b] : Array Value).toList [da, db] _ := .cons (PySem.W.reads_keeps k1 ra) (.cons (PySem.W.reads_keeps k1 rb) .nil)
  rw [nm]
  have C := PySem.W.cmpIn_lt (prog := prog) (w := w) (A := A.in1) (s := { s with heap := s.heap.push { cls := .type "tuple", data := .seq #[a, b] } }) rd al hu
  refine wpAny_pure ⟨plainId_quiet F.plain_min_loop _, PySem.codeAny_min_loop_firstH W _ (fun b o e => hw b o e) _ C s₂.heap.objs.size (fun z => Nat.lt_irrefl _ (hfp _ z)) (PySem.fresh_in hk) _ (Nat.zero_lt_succ 1) (fun c o e => Heap.get?_push_of_some _ (hk c o e))
    (W.frame 0 s₂ _ s₂.toks st (Nat.le_refl _) fun c _ o e => Heap.get?_push_of_some _ e) (Heap.get?_push_size _ rfl) fun v s' hP hm => ?_⟩
  obtain ⟨h', tk, rfl, hk'⟩ := PySem.W.moved_old es rfl (Moved.drop_new (tk := s₂.toks) hm (Nat.le_refl _))
  have hP : (#[a, b] : Array Value)[argBest (fun i j => PySem.W.dataLt ([da, db].getD i .none) ([da, db].getD j .none)) 1]? = some v := hP
  have ev : v = if PySem.W.dataLt db da = true then b else a := by
    by_cases c : PySem.W.dataLt db da = true
    · have e1 : argBest (fun i j => PySem.W.dataLt ([da, db].getD i .none) ([da, db].getD j .none)) 1 = 1 := if_pos c
      rw [e1] at hP
      rw [if_pos c]
      exact (Option.some.inj hP).symm
    · have e1 : argBest (fun i j => PySem.W.dataLt ([da, db].getD i .none) ([da, db].getD j .none)) 1 = 0 := if_neg c
      rw [e1] at hP
      rw [if_neg c]
      exact (Option.some.inj hP).symm
  rw [ev]
  exact q h' tk fun c o e => hk' c o (k1 c o e)
def rMin2D (K : PySem.W.Frag) : List V → Hp → VK → Prop := fun vs H Q => ∃ (v1 v2 : V) (d1 d2 : PyData), vs = [v1, v2] ∧ Dp K H v1 d1 ∧ Dp K H v2 d2 ∧ PySem.W.AlikeAll [d1, d2] ∧ PyData.depthAll [d1, d2] ≤ 60 ∧ Q (if PySem.W.dataLt d2 d1 = true then v2 else v1) H
theorem cr_min2D (hc : X.calm = true) (hu : X.A.units + 64 < cLine) : CallR X (.builtin "min") (rMin2D X.K) := by
  intro pins s σ H vs0 us0 Q I r h
  obtain ⟨v1, v2, d1, d2, rfl, p1, p2, al, dep, q⟩ := h
  obtain ⟨u1, u2, rfl, r1, r2⟩ := vals2 r
  refine min_pairH (I.ok.hd hc) (Dp.reads I _ _ _ p1 r1) (Dp.reads I _ _ _ p2 r2) al (by omega) fun h' tk k => ⟨_, H, I.kept k, ?_, q⟩
  by_cases c : PySem.W.dataLt d2 d1 = true
  · rw [if_pos c, if_pos c]; exact r2
  · rw [if_neg c, if_neg c]; exact r1
theorem kc_min2D (hu : X.A.units + 64 < cLine) (hc : X.calm = true := by rfl) (h : X.K = K := by rfl) : CallR X (.builtin "min") (rMin2D K) := h ▸ cr_min2D hc hu
end
end Pot

set_option maxHeartbeats 2000000
namespace Pot
open PySem PySem.Spec PyProof.Rows L2
/-! ### d.update(a list of pairs) -/
theorem call_upd_list {prog : Program} {w : World} {A : Around} {E : Value → Shared → Prop} {s : Shared} {d l : Addr} {ol : Obj} {items : Array Value} {n : Nat} {acc prs : List (Key × Value)} {Q : Value → Shared → Prop} (hh : A.handled = none) (hl : s.heap.get? l = some ol) (hc : ol.cls = .type "list") (hd : ol.dict = none)
    (hdat : ol.data = .seq items n) (hsz : items.size = prs.length) (hln : acc.length + prs.length ≤ sizeLine) (hm : s.heap.DictOf (mixKind prog w) d acc) (hld : l ≠ d)
    (ht : ∀ (j : Nat) (q : Key × Value), prs[j]? = some q → ∃ (b : Addr) (u : Value), items[j]? = some (.ref b) ∧ b ≠ d ∧ IsTup s.heap b #[u, q.2] ∧ keyIs q.1 u = true)
    (h : ∀ h' tk, h'.DictOf (mixKind prog w) d (merged acc prs) → (∀ b o, b ≠ d → s.heap.get? b = some o → h'.get? b = some o) → Q .none { s with heap := h', toks := tk }) :
    wpAny (model prog w) A (call (.builtin "dict.update") [.ref d, .ref l]) Q E s := by
  refine call_meetsIn F.slot_dict_update hm.typeIs F.entry_dict_update (F.args_dict_update_2 _ _)
    (S := fun A' R s' => A' = A ∧ s' = s ∧ ∀ h' tk, h'.DictOf (mixKind prog w) d (merged acc prs) → (∀ b o, b ≠ d → s.heap.get? b = some o → h'.get? b = some o) → R (.ok (.ret .none)) { s with heap := h', toks := tk })
    (fun A' R s' hS => ?_) ⟨rfl, rfl, h⟩
  obtain ⟨rfl, rfl, hq⟩ := hS
  refine meets_dict_update_arg hm.typeIs ?_
  unfold Builtin.Dict.updateFrom
  refine wpAny_bind (wpAny_typeOf (T := "list") ⟨ol, hl, hc⟩ ?_)
  rw [if_pos (by first | decide | rfl | simp)]
  refine wpAny_bind (miss_list hl hc hdat hd hh fun h1 tk1 hk1 => ?_)
  rw [if_pos (show (none : Option Value).isNone = true from rfl)]
  refine wpAny_bind (wpAny_rule ?_)
  have ll : h1.IsList l items := ⟨ol, hk1 _ _ hl, hc, n, hdat⟩
  have dlt : d < h1.objs.size := by
    obtain ⟨q, _, _, hq, _⟩ := id hm
    exact Heap.lt_size (hk1 _ _ hq)
  have llt : l < h1.objs.size := Heap.lt_size (hk1 _ _ hl)
  refine wpAny_bind (wpAny_pyIter_list ll ?_)
  have k2 : ∀ b o, h1.get? b = some o → (h1.push { cls := .type "list_iterator", data := .fields #[.ref l, .int 0 0] }).get? b = some o := fun b o e => Heap.get?_push_of_some _ e
  have key := upd_loop (prog := prog) (w := w) (A := A') (R := R) (S := d) (I := h1.objs.size) (l := l) (items := items) (res := Value.none) hh
    (Nat.ne_of_lt llt) (Nat.ne_of_lt dlt) hld.symm prs 0 acc 0 0
    { s' with heap := h1.push { cls := .type "list_iterator", data := .fields #[.ref l, .int 0 0] }, toks := tk1 } (by rw [hsz, Nat.zero_add]) hln
    (fun j q e => by
      obtain ⟨b, u, e1, e2, e3, e4⟩ := ht j q e
      exact ⟨b, u, by rw [Nat.zero_add]; exact e1, e2, Nat.ne_of_lt (e3.keeps fun c o z => hk1 _ _ z).lt, e3.keeps fun c o z => k2 _ _ (hk1 _ _ z), e4⟩)
    ⟨_, Heap.get?_push_size _ rfl, rfl, rfl⟩ (ll.at fun o e => k2 _ _ e) ((hm.at fun o e => hk1 _ _ e).at fun o e => k2 _ _ e)
    (fun h' tk hd' k => hq h' tk hd' fun b o bd e => k b o bd (Nat.ne_of_lt (Heap.lt_size (hk1 _ _ e))) (k2 _ _ (hk1 _ _ e)))
  first
    | exact wpAny_pure ⟨plainId_quiet ud_plain _, key⟩
    | exact wpAny_bind (wpAny_pure (wpAny_pure ⟨plainId_quiet ud_plain _, key⟩))
section
variable {X : Cx} {K : PySem.W.Frag}
def rUpdP (K : PySem.W.Frag) : V → List V → Hp → VK → Prop := fun x vs H Q => ∃ (d a : Addr) (kvs0 : List (Key × V)) (ps : List Addr) (kvs : List (Key × V)), x = .ref d ∧ vs = [.ref a] ∧ H d = some (.dK kvs0) ∧ SqL K H a (ps.map V.ref) ∧ Paired (fun p kv => SqT K H p [kV kv.1, kv.2]) ps kvs ∧ a ≠ d ∧ (∀ p ∈ ps, p ≠ d) ∧ kvs0.length + kvs.length ≤ sizeLine ∧
  Q .non (upd H d (.dK (mergeK kvs0 kvs)))
theorem mt_updP (hc : X.calm = true := by rfl) : MtM X "dict.update" (rUpdP X.K) := by
  intro pins s σ H x vs v us Q I rx rvs h
  obtain ⟨d, a, kvs0, ps, kvs, rfl, rfl, hd, hS, hp, had, hpd, hln, q⟩ := h
  cases rx
  obtain ⟨u, rfl, ru⟩ := rvs.one
  cases ru
  obtain ⟨z0, hdm, vs0, rel0, dd⟩ := dk_of I.hok hd
  obtain ⟨its, rv, pl, hz⟩ := I.list hS
  have ei := refs_at rv
  subst ei
  obtain ⟨prs, rel, hl, hpr⟩ := pairs_of I hp
  obtain ⟨o, n, ho, hcl, hdd, hdat⟩ := pl
  have lk : kvs.length = prs.length := rel.length
  have l0 : kvs0.length = vs0.length := rel0.length
  refine call_upd_list (I.ok.hd hc) ho hcl hdd hdat (by rw [List.size_toArray, List.length_map, hl]) (by omega) dd had (fun j q' e => ?_) fun h' tk hd' k => ?_
  · obtain ⟨b, u, e1, e2, e3⟩ := hpr j q' e
    exact ⟨b, u, by simp [e1], hpd b (List.mem_of_getElem? e1), e2, e3⟩
  · have hlen : (mergeK kvs0 kvs).length ≤ sizeLine := Nat.le_trans (length_mergeK kvs kvs0) hln
    have he : ∃ u, h'.get? d = some u := by
      obtain ⟨q, _, _, hq, _⟩ := id hd'
      exact ⟨q, hq⟩
    exact ⟨.non, upd H d (.dK (mergeK kvs0 kvs)), I.write (t' := tk) (by rw [hd]; exact True.intro) (.inl rfl) (fun b u nb e => k b u nb e) he (show ObjOk X.prog X.w _ _ _ (.dK (mergeK kvs0 kvs)) from ⟨hlen, hdm, merged vs0 prs, KV.merge rel rel0, hd'⟩), rfl, q⟩
theorem kt_updP (hc : X.calm = true := by rfl) (h : X.K = K := by rfl) : MtM X "dict.update" (rUpdP K) := h ▸ mt_updP hc
end
end Pot

/-! own classes: len(x) by an own __len__, x == y and x != y by an own __eq__ -/
namespace OwnR
open PySem PySem.Spec PyProof.Rows PySem.Calls
section
variable {prog : Program} {w : World} {A : Around} {E : Value → Shared → Prop} {s : Shared} {K : PySem.W.Frag} {x C f : Addr} {ox : Obj} {odd : Option Obj} {b tb : Value}
theorem len_own {Q : Value → Shared → Prop} (X : K.In s.heap) (I : PySem.W.InstAt s.heap x ox C odd) (hs : PySem.W.findIn K (.ref C) "__len__" = some (some (.ref f))) (hf : PySem.W.isFn K (.ref f) = true)
    (h : wpAny (model prog w) A.in1 (call (.ref f) [.ref x]) (fun r s₁ => ∃ (n : Int) (t : Tok), r = Value.int n t ∧ 0 ≤ n ∧ n < 2 ^ 63 ∧ Q (.int n s₁.toks) { s₁ with toks := s₁.toks + 1 }) E s) : wpAny (model prog w) A (call (.builtin "len") [.ref x]) Q E s := by
  refine call_function_entry kind_len plain_len entry_len (args_len1 _) ?_
  unfold Builtin.«len»
  refine wpAny_bind (m := oneArg "len" _) (wpAny_pure ?_)
  refine wpAny_bind (m := callSpecial? (.ref x) (Str.ofString "__len__")) (PySem.W.special_fn X I hs (beq_iff_eq.mp hf) (wpAny_mono h (fun r s' hr => ?_) fun _ _ y => y))
  obtain ⟨n, t, rfl, h0, h1, hq⟩ := hr
  refine wpAny_bind (wpAny_holding (wpAny_pure ?_))
  refine wpAny_bind (wpAny_letGo ?_)
  show wpAny _ _ (if n < 0 then _ else _) _ _ _
  rw [if_neg (by omega)]
  show wpAny _ _ (if n ≥ 2 ^ 63 then _ else _) _ _ _
  rw [if_neg (by omega)]
  exact wpAny_bind (wpAny_mkInt (wpAny_pure ⟨_, rfl, hq⟩))
theorem ifBound_ne {M : Model} {args : List Value} {Q : Option Value → Shared → Prop} {od : Option Obj} (X : K.In s.heap) (I : PySem.W.InstAt s.heap x ox C od) (hs : PySem.W.findIn K (.ref C) "__ne__" = some (some (.builtin "object.__ne__")))
    (h : wpAny M A (call (.builtin "object.__ne__") (.ref x :: args)) (fun v => Q (some v)) E s) : wpAny M A (callSpecialIfBound? (.ref x) "__ne__" args) Q E s := by
  simp only [callSpecialIfBound?, bindSpecialIfBound?]
  refine wpAny_holding (wpAny_bind (wpAny_bind (wpAny_bind (I.type.here ((PySem.W.looks_findIn X hs).here ?_)))))
  refine wpAny_bind (wpAny_askSetting (wpAny_ite ?_))
  have ends : wpAny M A (call (.builtin "object.__ne__") ([.ref x] ++ args) >>= fun v => pure (some v)) Q E s := wpAny_bind (wpAny_mono h (fun v s' h' => wpAny_pure h') fun _ _ h' => h')
  split
  · exact wpAny_bind (wpAny_of_eq (F.cmp_object.ne.bind _) (wpAny_pure (by exact ends)))
  · exact wpAny_tryCatch (wpAny_bind (wpAny_of_eq (F.cmp_object.ne.bind _) (wpAny_pure (by exact ends))))
theorem obj_ne {Q : Value → Shared → Prop} {od : Option Obj} {y : Value} (hu : A.in1.units < cLine) (X : K.In s.heap) (I : PySem.W.InstAt s.heap x ox C od) (hm : PySem.W.mroIn K C (.type "object") = some true) (he : PySem.W.findIn K (.ref C) "__eq__" = some (some (.ref f))) (hf : PySem.W.isFn K (.ref f) = true)
    (h : wpAny (model prog w) A.in1 (call (.ref f) [.ref x, y]) (fun v s' => ∃ b, v = .bool b ∧ Q (.bool (!b)) s') E s) : wpAny (model prog w) A (call (.builtin "object.__ne__") [.ref x, y]) Q E s := by
  refine wpAny_call (codeAny_call_builtin F.cmp_object.ne.plain F.cmpEntry_ne (PySem.W.check_slot F.cmpKind_ne F.cmpSplit_ne (I.type.andThen (PySem.W.looks_mroIn X hm)) (F.cmpArgs_ne _ _) ?_))
  unfold Builtin.«object.__ne__»
  refine wpAny_bind (m := slotArgs "__ne__" 1 _) (wpAny_pure ?_)
  refine wpAny_bind (m := cRoomFor _ _) (wpAny_cRoomFor hu ?_)
  refine wpAny_bind (m := callSpecialIfBound? (.ref x) (Str.ofString "__eq__") _) (PySem.W.ifBound_K X I he hf (wpAny_mono h (fun r s' hq => ?_) fun _ _ y => y))
  obtain ⟨b, rfl, q⟩ := hq
  exact wpAny_bind (m := truthy (.bool _)) (wpAny_truthy_bool (wpAny_pure q))
theorem cmp_ne {Q : Value → Shared → Prop} {od : Option Obj} {h₀ : Heap} {L : Addr} {m : Str → Option Value} (hu : A.units + 2 < cLine) (F : Fr h₀ L s.heap m) (X₀ : K.In h₀) (I : PySem.W.InstAt s.heap x ox C od) (hb : PySem.W.Looks (model prog w) s.heap (typeOf b) tb) (hn : PySem.W.notFirst K C tb = true)
    (hm : PySem.W.mroIn K C (.type "object") = some true) (hs : PySem.W.findIn K (.ref C) "__ne__" = some (some (.builtin "object.__ne__"))) (he : PySem.W.findIn K (.ref C) "__eq__" = some (some (.ref f))) (hf : PySem.W.isFn K (.ref f) = true)
    (h : wpAny (model prog w) A.in1 (call (.ref f) [.ref x, b]) (fun v s' => ∃ b, v = .bool b ∧ Q (.bool (!b)) s') E s) : wpAny (model prog w) A (richCompare .NotEq (.ref x) b) Q E s := by
  have X := X₀.keeps F.keep
  have one : wpAny (model prog w) A (tryCompare (.ref x) "__ne__" b) (fun r s' => ∃ v, r = some v ∧ Q v s') E s := by
    unfold tryCompare
    refine wpAny_bind (ifBound_ne X I hs (obj_ne (by show A.units + 1 < cLine; omega) X I hm he hf (wpAny_mono h (fun v s' hv => ?_) fun _ _ e => e)))
    obtain ⟨c, rfl, q⟩ := hv
    exact ⟨c, rfl, wpAny_pure ⟨_, rfl, q⟩⟩
  unfold richCompare
  simp only [oneThing_ref]
  refine wpAny_holding (wpAny_bind (wpAny_cRoomFor (by omega) ?_))
  refine wpAny_bind (I.type.here (wpAny_bind (hb.here ?_)))
  rw [cmpInfo_NotEq]
  dsimp only
  split
  · rename_i q
    have e : PySem.W.subIn K tb (.ref C) = some false := by
      rcases Bool.or_eq_true_iff.mp hn with e | e
      · rw [beq_iff_eq.mp e] at q; simp at q
      · exact beq_iff_eq.mp e
    refine wpAny_bind ((PySem.W.looks_subIn X e).here ?_)
    simp only [Bool.false_eq_true, if_false]
    refine wpAny_bind (wpAny_mono one (fun r s' z => ?_) fun _ _ e => e)
    obtain ⟨v, rfl, hq⟩ := z
    exact wpAny_pure hq
  · refine wpAny_bind (wpAny_pure ?_)
    simp only [Bool.false_eq_true, if_false]
    refine wpAny_bind (wpAny_mono one (fun r s' z => ?_) fun _ _ e => e)
    obtain ⟨v, rfl, hq⟩ := z
    exact wpAny_pure hq
end
end OwnR
namespace L2
open PySem PySem.Spec PyProof.Rows
section
variable {X : Cx} {CX : CXT} {C g : Addr} {n : Nat} {sp : Sp} {E : XK}
/-- len(x), x of the class at C, whose __len__ is at g -/
def rLenI (C : Addr) (sp : Sp) (E : XK) : List V → Hp → VK → Prop := fun xs H Q => ∃ (a dx : Addr) (fs : List (Str × V)), xs = [V.ref a] ∧ H a = some (.ins C dx fs) ∧ sp [.ref a] H (fun z H' => ∃ m : Nat, z = .int (m : Nat) ∧ m < 2 ^ 40 ∧ Q z H') E
theorem call_lenI (hs : PySem.W.findIn X.K (.ref C) "__len__" = some (some (.ref g))) (hf : PySem.W.isFn X.K (.ref g) = true) (F : FnR X.prog X.w X.K X.mg X.base CX n g sp) (hr : Room (n + 1) X.A) (hx : Passes CX X E) : CallR X (.builtin "len") (rLenI C sp E) := by
  intro pins s σ H xs us Q I r h
  obtain ⟨a, dx, fs, rfl, ha, q⟩ := h
  obtain ⟨u, rfl, ru⟩ := r.one
  cases (show u = Value.ref a from ru)
  obtain ⟨mA, J, _⟩ := ins_get I.hok ha
  obtain ⟨od, J, _⟩ := J.look
  have hr2 : Room n X.A.in1 := hr.in1
  refine OwnR.len_own I.kIn J hs hf (wpAny_mono (wpAny_call (SlX.run_at (us := [.ref a]) (ws := [.ref a]) F hr2 I.env0.in1 hx I (.cons rfl .nil) q)) (fun w s' z => ?_) fun _ _ x => x)
  obtain ⟨z', H', I', rz, i, ei, hi, qz⟩ := z
  subst ei
  obtain ⟨t, e⟩ := (show ∃ t, w = Value.int _ t from rz)
  cases e
  exact ⟨_, t, rfl, by omega, by omega, .int _, H', I'.tok _, ⟨_, rfl⟩, qz⟩
/-- x == y, x of the class at C, whose __eq__ is at g; y an instance, not of a class below C -/
def rEqI (K : PySem.W.Frag) (C : Addr) (sp : Sp) (E : XK) : R2 := fun x y H Q => ∃ (a dx : Addr) (fs : List (Str × V)) (b C' dy : Addr) (gs : List (Str × V)), x = .ref a ∧ y = .ref b ∧ H a = some (.ins C dx fs) ∧ H b = some (.ins C' dy gs) ∧ PySem.W.notFirst K C (.ref C') = true ∧ sp [x, y] H (fun z H' => ∃ c, z = .bl c ∧ Q (.bl c) H') E
theorem op_eqI (hs : PySem.W.findIn X.K (.ref C) "__eq__" = some (some (.ref g))) (hf : PySem.W.isFn X.K (.ref g) = true) (F : FnR X.prog X.w X.K X.mg X.base CX n g sp)
    (hr : Room n X.A) (hx : Passes CX X E) : OpR X (compareOp .Eq) (rEqI X.K C sp E) := by
  intro pins s σ H x y v u Q I rx ry h
  obtain ⟨a, dx, fs, b, C', dy, gs, rfl, rfl, ha, hb, hn, q⟩ := h
  cases (show v = Value.ref a from rx)
  cases (show u = Value.ref b from ry)
  obtain ⟨mA, J, _⟩ := ins_get I.hok ha
  obtain ⟨od, J, _⟩ := J.look
  obtain ⟨mB, J', _⟩ := ins_get I.hok hb
  obtain ⟨od', J', _⟩ := J'.look
  obtain ⟨m, hF⟩ := I.fr
  show wpAny (model X.prog X.w) X.A (richCompare .Eq (.ref a) (.ref b)) (EP X pins σ Q) X.xe s
  refine PySem.W.cmp_K (op := .Eq) (tb := .ref C') hr.units0 hF I.ok.mod.kin J J'.type hn hs hf ?_
  refine wpAny_mono (wpAny_call (run_fnR (us := [.ref a, .ref b]) (vs := [.ref a, .ref b]) F hr hx I (.cons rfl (.cons rfl .nil)) q)) (fun w s' z => ?_) fun _ _ x => x
  obtain ⟨z', H', I', rz, c, ec, qz⟩ := z
  subst ec
  exact SlX.cmpback rz ⟨.bl c, H', I', rz, qz⟩
/-- what != asks of a class with an __eq__ alone -/
structure NeK (K : PySem.W.Frag) (C : Addr) : Prop where
  ob : PySem.W.mroIn K C (.type "object") = some true
  ne : PySem.W.findIn K (.ref C) "__ne__" = some (some (.builtin "object.__ne__"))
theorem op_neI (hN : NeK X.K C) (hs : PySem.W.findIn X.K (.ref C) "__eq__" = some (some (.ref g))) (hf : PySem.W.isFn X.K (.ref g) = true) (F : FnR X.prog X.w X.K X.mg X.base CX n g sp)
    (hr : Room (n + 1) X.A) (hu : X.A.units + 2 < cLine) (hx : Passes CX X E) : OpR X (compareOp .NotEq) (rEqI X.K C (fun vs H Q E => sp vs H (fun z H' => ∃ c, z = .bl c ∧ Q (.bl (!c)) H') E) E) := by
  intro pins s σ H x y v u Q I rx ry h
  obtain ⟨a, dx, fs, b, C', dy, gs, rfl, rfl, ha, hb, hn, q⟩ := h
  cases (show v = Value.ref a from rx)
  cases (show u = Value.ref b from ry)
  obtain ⟨mA, J, _⟩ := ins_get I.hok ha
  obtain ⟨od, J, _⟩ := J.look
  obtain ⟨mB, J', _⟩ := ins_get I.hok hb
  obtain ⟨od', J', _⟩ := J'.look
  obtain ⟨m, hF⟩ := I.fr
  show wpAny (model X.prog X.w) X.A (richCompare .NotEq (.ref a) (.ref b)) (EP X pins σ Q) X.xe s
  refine OwnR.cmp_ne (tb := .ref C') hu hF I.ok.mod.kin J J'.type hn hN.ob hN.ne hs hf ?_
  refine wpAny_mono (wpAny_call (SlX.run_at (us := [.ref a, .ref b]) (ws := [.ref a, .ref b]) F hr.in1 I.env0.in1 hx I (.cons rfl (.cons rfl .nil)) q)) (fun w s' z => ?_) fun _ _ x => x
  obtain ⟨z', H', I', rz, c, ec, c2, ec2, qz⟩ := z
  subst ec
  cases (show w = Value.bool c from rz)
  cases ec2
  exact ⟨c, rfl, .bl (!c), H', I', rfl, qz⟩
end
/-- the class at C has a method m of its own, with a promise -/
structure Own (P : Program) (w : World) (K : PySem.W.Frag) (mg : Str → Option Value) (base : Heap) (k : Nat) (C : Addr) (m : Str) (sp : Sp) : Prop where
  ex : ∃ g : Addr, PySem.W.findIn K (.ref C) m = some (some (.ref g)) ∧ PySem.W.isFn K (.ref g) = true ∧ FnR P w K mg base CX0 k g sp
theorem own_of {P : Program} {w : World} {K : PySem.W.Frag} {mg : Str → Option Value} {base : Heap} {k : Nat} {C g : Addr} {m : Str} {sp : Sp} {fd : FuncData} {ps : List Str} (M : Meth K C m g) (F : FnOk P w K mg base CX0 k g fd ps sp) (b : Binds K fd ps []) : Own P w K mg base k C m sp :=
  ⟨g, M.at_, M.fn, by
    have z := F.raw b .nil

    exact z.imp fun vs H Q E h => (by show sp (vs ++ []) H Q E; rw [List.append_nil]; exact h)⟩
section
variable {X : Cx} {k j : Nat} {C : Addr} {sp : Sp}
theorem kc_lenI (c : Own X.prog X.w X.K X.mg X.base k C "__len__" sp) (hr : Room j X.A) (hk : k + 1 ≤ j) : CallR X (.builtin "len") (rLenI C sp E0) := by
  obtain ⟨g, h1, h2, F⟩ := c.ex
  exact call_lenI h1 h2 F (hr.mono hk) pass0
theorem ko_eqI (c : Own X.prog X.w X.K X.mg X.base k C "__eq__" sp) (hr : Room j X.A) (hk : k ≤ j) : OpR X (compareOp .Eq) (rEqI X.K C sp E0) := by
  obtain ⟨g, h1, h2, F⟩ := c.ex
  exact op_eqI h1 h2 F (hr.mono hk) pass0
theorem ko_neI (c : Own X.prog X.w X.K X.mg X.base k C "__eq__" sp) (hN : NeK X.K C) (hr : Room j X.A) (hk : k + 1 ≤ j) (hu : X.A.units + 64 < cLine) : OpR X (compareOp .NotEq) (rEqI X.K C (fun vs H Q E => sp vs H (fun z H' => ∃ c, z = .bl c ∧ Q (.bl (!c)) H') E) E0) := by
  obtain ⟨g, h1, h2, F⟩ := c.ex
  exact op_neI hN h1 h2 F (hr.mono hk) (by omega) pass0
end
/-- the class at C may be made by its name x; its __init__ promises sp; dvs fill up what is left out -/
structure OMak (P : Program) (w : World) (K : PySem.W.Frag) (mg : Str → Option Value) (base : Heap) (k : Nat) (x : Str) (C : Addr) (sp : Sp) (dvs : List V) : Prop where
  parts : ∃ (g : Addr) (fd : FuncData) (ps : List Str) (ds : List Value), Mk K C g ∧ FnOk P w K mg base CX0 k g fd ps sp ∧ mg x = some (.ref C) ∧ Binds K fd ps ds ∧ Vals dvs ds
/-- a method m of the class at C may be called -/
structure OMet (P : Program) (w : World) (K : PySem.W.Frag) (mg : Str → Option Value) (base : Heap) (k : Nat) (C : Addr) (m : Str) (sp : Sp) (dvs : List V) : Prop where
  parts : ∃ (g : Addr) (fd : FuncData) (ps : List Str) (ds : List Value), Cls K C ∧ Meth K C m g ∧ FnOk P w K mg base CX0 k g fd ps sp ∧ Binds K fd ps ds ∧ Vals dvs ds
section
variable {X : Cx} {k j : Nat} {C : Addr} {x m : Str} {sp : Sp} {dvs : List V} {p pos apos : Pos} {a e o : Expr} {es : List Expr} {ta : TE} {t : TA}
theorem pe_omk (c : OMak X.prog X.w X.K X.mg X.base k x C sp dvs) (room : Room j X.A) (le : k + 1 ≤ j) (gl : Gl X x) (args : PA X (a :: es) t) (nodb : (x == ("__debug__" : Str)) = false := by decide)
    (star : starEach (a :: es) X.env = (false, eval a X.env) :: starEach es X.env := by rfl) (plain : (backTo pos (starEach es X.env)).any (·.1) = false := by rfl) : PE X (.Call (.Name x p) (a :: es) [] pos) (tMake C sp dvs E0 t) := by
  obtain ⟨g, fd, ps, ds, M, F, hm, b, v⟩ := c.parts
  exact pe_make M F (room.mono le) gl hm b v pass0 args nodb star plain
theorem pe_omt {pl : Sem Bool} (c : OMet X.prog X.w X.K X.mg X.base k C m sp dvs) (room : Room j X.A) (le : k ≤ j) (ho : PE X o ta) (args : PA X (a :: es) t)
    (star : starEach (a :: es) X.env = (false, eval a X.env) :: starEach es X.env := by rfl) (plain : (backTo pos (starEach es X.env)).any (·.1) = false := by rfl)
    (way : eval (.Call (.Attribute o m apos) (a :: es) [] pos) X.env = (do let ov ← eval o X.env; standAt apos.atName; let (g, first) ← holding [ov] (getMethod ov m pl); callWith pos g first (backTo pos (starEach (a :: es) X.env)) (backToKw pos (keywordEach [] X.env))) := by rfl) :
    PE X (.Call (.Attribute o m apos) (a :: es) [] pos) (tMeth C m sp dvs E0 ta t) := by
  obtain ⟨g, fd, ps, ds, hc, hm, F, b, v⟩ := c.parts
  exact pe_meth (pl := pl) ho hc hm F (room.mono le) b v pass0 args star plain way
theorem pe_omt0 {pl : Sem Bool} (c : OMet X.prog X.w X.K X.mg X.base k C m sp dvs) (room : Room j X.A) (le : k ≤ j) (ho : PE X o ta)
    (way : eval (.Call (.Attribute o m apos) [] [] pos) X.env = (do let ov ← eval o X.env; standAt apos.atName; let (g, first) ← holding [ov] (getMethod ov m pl); callWith pos g first (backTo pos (starEach [] X.env)) (backToKw pos (keywordEach [] X.env))) := by rfl) :
    PE X (.Call (.Attribute o m apos) [] [] pos) (tMeth C m sp dvs E0 ta tNil) := by
  obtain ⟨g, fd, ps, ds, hc, hm, F, b, v⟩ := c.parts
  exact pe_meth0 (pl := pl) ho hc hm F (room.mono le) b v pass0 way
theorem ke_fld {K : PySem.W.Frag} {f : Str} (ho : PE X o ta) (hb : attributeBase o f X.env (eval o X.env) = eval o X.env := by rfl) (h : X.K = K := by rfl) : PE X (.Attribute o f pos) (tFld K ta f) := h ▸ pe_fld ho hb
end
end L2

namespace Pot
open PySem PySem.Spec PyProof.Rows L2
open PySem.W (sortingHeap copyHeap sortLe alike alikeAll dataLt dataLe EachIs AllAlike Sortable)
section
variable {X : Cx} {K : PySem.W.Frag}
/-! ### two data of one form told apart by their order -/
theorem op_ltD (hu : X.A.units + 70 < cLine) : OpR X (compareOp .Lt) (fun x y H Q => ∃ da db, Dp X.K H x da ∧ Dp X.K H y db ∧ alike da db = true ∧ da ≠ .none ∧ da.depth ≤ 60 ∧ Q (.bl (dataLt da db)) H) := by
  intro pins s σ H x y v u Q I rx ry h
  obtain ⟨da, db, d1, d2, al, nn, dep, q⟩ := h
  obtain ⟨as, r1⟩ := Dp.reads I _ _ _ d1 rx
  obtain ⟨bs, r2⟩ := Dp.reads I _ _ _ d2 ry
  exact PySem.W.lt_data r1 r2 al nn (Nat.lt_of_le_of_lt (Nat.add_le_add_left (Nat.min_le_left _ _) _) (by omega)) ⟨.bl _, H, I, rfl, q⟩
theorem ko_ltD (hu : X.A.units + 70 < cLine) (h : X.K = K := by rfl) : OpR X (compareOp .Lt) (fun x y H Q => ∃ da db, Dp K H x da ∧ Dp K H y db ∧ alike da db = true ∧ da ≠ .none ∧ da.depth ≤ 60 ∧ Q (.bl (dataLt da db)) H) := h ▸ op_ltD hu
/-! ### sorted of rows, told by what they stand for -/
def rSortedE {β : Type} (K : PySem.W.Frag) (enc : β → PyData) : List V → Hp → VK → Prop := fun vs H Q => ∃ (a : Addr) (xs : List V) (bs : List β), vs = [V.ref a] ∧ SqL K H a xs ∧ DpAll K H xs (bs.map enc) ∧
  ∀ (zs : List V) (p : Addr), DpAll K H zs ((bs.mergeSort (dataLe false enc)).map enc) → H p = none → Q (.ref p) (upd H p (.lst zs))
theorem each_dp {β : Type} {enc : β → PyData} {pins : List (Addr × Obj)} {σ : L2.St} {H : Hp} {s : Shared} (I : Inv X pins σ H s) : ∀ {bs : List β} {xs : List V} {its : List Value}, Vals xs its → DpAll X.K H xs (bs.map enc) →
    EachIs (fun v b => ∃ x, RelV x v ∧ Dp X.K H x (enc b)) its bs ∧ EachIs (fun v b => ∃ as, Reads s.heap v (enc b) as) its bs
  | [], _, _, r, d => by
    cases d
    cases r
    exact ⟨.nil, .nil⟩
  | b :: bs, _, _, r, d => by
    cases d with
    | cons p ps =>
      cases r with
      | cons q qs =>
        obtain ⟨e1, e2⟩ := each_dp I qs ps
        exact ⟨.cons ⟨_, q, p⟩ e1, .cons (Dp.reads I _ _ _ p q) e2⟩
theorem dp_each {β : Type} {enc : β → PyData} {H : Hp} : ∀ {bs : List β} {its : List Value}, EachIs (fun v b => ∃ x, RelV x v ∧ Dp K H x (enc b)) its bs → ∃ xs, Vals xs its ∧ DpAll K H xs (bs.map enc)
  | _, _, .nil => ⟨[], .nil, .nil⟩
  | _, _, .cons ⟨x, r, d⟩ e => by
    obtain ⟨xs, rs, ds⟩ := dp_each e
    exact ⟨x :: xs, .cons r rs, .cons d ds⟩
theorem cr_sortedE {β : Type} {enc : β → PyData} (hu : X.A.units + 70 < cLine) (al : ∀ b b', alike (enc b) (enc b') = true) (tp : ∀ b, ∃ x r, enc b = .tuple (x :: r)) (dep : ∀ b, (enc b).depth ≤ 60) : CallR X (.builtin "sorted") (rSortedE X.K enc) := by
  intro pins s σ H vs0 us0 Q I r h
  obtain ⟨a, xs, bs, rfl, hs, da, q⟩ := h
  obtain ⟨its, rv, hl, hz⟩ := I.list hs
  rw [Vals.ref1 r]
  obtain ⟨e, er⟩ := each_dp I rv da
  have ln : bs.length ≤ sizeLine := by rw [← e.length, ← rv.length]; exact hz
  refine PySem.W.sorted_data hl.isList e er (AllAlike.of al) (Sortable.tuples tp) ln (fun b _ => by have := dep b; omega) fun out lo eo => ?_
  obtain ⟨zs, rz, dz⟩ := dp_each eo
  obtain ⟨ep, hat⟩ := PyProof.Rows.sortedAll_at s.heap its out.toArray
  exact ⟨.ref _, upd H (s.heap.objs.size + 1) (.lst zs), I.laid (t' := s.toks) (fun _ _ => PyProof.Rows.sortedAll_old) (Nat.le_succ _) ⟨by rw [rz.length, lo]; exact ln, out, ep, rz, hat⟩, rfl, q _ _ dz (I.hok.fresh (Nat.le_succ _))⟩
theorem kc_sortedE {β : Type} {enc : β → PyData} (hu : X.A.units + 70 < cLine) (al : ∀ b b', alike (enc b) (enc b') = true) (tp : ∀ b, ∃ x r, enc b = .tuple (x :: r)) (dep : ∀ b, (enc b).depth ≤ 60) (h : X.K = K := by rfl) : CallR X (.builtin "sorted") (rSortedE K enc) := h ▸ cr_sortedE hu al tp dep
/-! ### a[i] op= e of a list -/
def rGetL (K : PySem.W.Frag) : V → V → Hp → VK → Prop := fun x y H Q => ∃ (a : Addr) (xs : List V) (i : Nat) (v : V), x = .ref a ∧ y = .int (i : Int) ∧ SqL K H a xs ∧ xs[i]? = some v ∧ Q v H
theorem get_list : PGet X (rGetL X.K) := by
  intro pins s σ H x y ov iv Q I rx ry h
  obtain ⟨a, xs, i, v, rfl, rfl, hs, g, q⟩ := h
  cases rx
  obtain ⟨t, rfl⟩ := ry
  obtain ⟨its, r, pl, hz⟩ := I.list hs
  obtain ⟨u, eu, ru⟩ := r.get g
  have hi := (List.getElem?_eq_some_iff.mp g).1
  have := line63
  exact wpAny_getItem_list pl.isList (by omega) (by omega) (by simpa using eu) ⟨v, H, I, ru, q⟩
theorem kget_list (h : X.K = K := by rfl) : PGet X (rGetL K) := h ▸ get_list
end
end Pot

set_option maxHeartbeats 3900000
/-! own: exceptions whose __init__ says super().__init__(..), over any built-in base -/
namespace RSup
open PySem PySem.W PySem.Calls PyProof.Rows Builtin Builtin.ObjectAttr
section
variable {prog : Program} {w : World} {A : Around} {E : Value → Shared → Prop} {R : Result → Shared → Prop} {hp : Heap} {g : Array GenState} {d : Drawn} {t : Nat} {os : OsState} {B : String} {bmB : List Value}
theorem taker_none {K : Frag} {C : Addr} {name : Str} (h : findIn K (.ref C) name = some none) : takerIn K C name = some none := by
  unfold takerIn
  rw [h]; rfl
/-- the first field of an exception -/
theorem osa_first {K : Frag} {namew : Str} {tkw : Tok} {vw : Value} {xw C : Addr} {fvw : Array Value} {cdw : ClassData} (SF : StoreFacts B bmB "object.__setattr__" "object")
    (X : K.In heap) (stands : heap.get? xw = some { cls := .ref C, data := .fields fvw }) (isClass : clsIn K C = some cdw) (over : excOver K C bmB = true) (hasDict_ : cdw.hasDict = true) (unfound : findIn K (.ref C) namew = some none)
    (go : ∀ h'w tk'w dxw, (∀ bw ow, bw ≠ xw → heap.get? bw = some ow → h'w.get? bw = some ow) → heap.objs.size ≤ dxw → dxw ≠ xw → h'w.get? xw = some { cls := .ref C, dict := some dxw, data := .fields fvw } →
      h'w.Ns1 dxw (fun yw => if yw = namew then some vw else none) → R (.ok (.ret .none)) ⟨h'w, gw, dw, tk'w, osw⟩) :
    codeAny (model prog w) A (.call (.builtin "object.__setattr__") ⟨[.ref xw, .str namew tkw, vw], []⟩) R ⟨heap, gw, dw, tw, osw⟩ := by
  have I : InstAt heap xw { cls := .ref C, data := .fields fvw } C none := ⟨stands, rfl, rfl, trivial⟩
  have apart : xw ≠ heap.objs.size := Nat.ne_of_lt (Heap.lt_size stands)
  have looks : Looks (model prog w) heap (classData C) cdw := looks_clsIn X isClass
  refine osa_openX SF X I over (taker_none unfound) fun bbw => ?_
  show wpAny _ _ (storeInOwnDict (.ref xw) (.ref C) (.str namew tkw) namew vw bbw) _ _ _
  obtain ⟨nmw, bsw, mrow, nsw, qnw, hdw, snw, sbw, abw, colw, delw⟩ := cdw
  dsimp only at hasDict_
  subst hasDict_
  unfold storeInOwnDict
  unfold ownDictForStores
  repeat (first | with_reducible refine HandSPX.store_in_new ?_ ?_ | with_reducible refine wpAny_loadPart_at stands ?_ | with_reducible refine looks.at ?_ | wp_step)
  · exact ⟨_, #[], _, (Heap.get?_update_ne _ _ _ _ apart.symm).trans (Heap.get?_push_at rfl rfl), rfl, fun ew hew => absurd hew (by simp), fun _ => rfl⟩
  · intro h'w tk'w hn'w hsw
    have hx₁ : (heap.push { cls := .type "dict", data := .dict #[] }).get? xw = some { cls := .ref C, data := .fields fvw } := Heap.get?_push_of_some _ stands
    refine go h'w tk'w heap.objs.size (fun bw ow hbw how => ?_) (Nat.le_refl _) apart.symm ?_ hn'w
    · exact (hsw.2 bw (Nat.ne_of_lt (Heap.lt_size how))).trans ((Heap.get?_update_ne _ _ _ _ hbw).trans (Heap.get?_push_of_some _ how))
    · exact (hsw.2 xw apart).trans (Heap.get?_update_self _ hx₁ rfl)
/-- a further one -/
theorem osa_more {K : Frag} {namew : Str} {tkw : Tok} {vw : Value} {xw C dxw : Addr} {fvw : Array Value} {cdw : ClassData} {m0w : Str → Option Value} {nlw : List Str} (SF : StoreFacts B bmB "object.__setattr__" "object")
    (X : K.In heap) (stands : heap.get? xw = some { cls := .ref C, dict := some dxw, data := .fields fvw }) (keeps_ : heap.Ns1 dxw m0w) (hww : Within m0w nlw) (hzw : nlw.length ≤ 1000) (isClass : clsIn K C = some cdw) (over : excOver K C bmB = true) (hasDict_ : cdw.hasDict = true)
    (unfound : findIn K (.ref C) namew = some none)
    (go : ∀ h'w tk'w, (∀ bw ow, bw ≠ dxw → heap.get? bw = some ow → h'w.get? bw = some ow) → h'w.Ns1 dxw (fun yw => if yw = namew then some vw else m0w yw) → R (.ok (.ret .none)) ⟨h'w, gw, dw, tk'w, osw⟩) :
    codeAny (model prog w) A (.call (.builtin "object.__setattr__") ⟨[.ref xw, .str namew tkw, vw], []⟩) R ⟨heap, gw, dw, tw, osw⟩ := by
  obtain ⟨oDw, esDw, epDw, hoDw, hdDw, _⟩ := keeps_.count hww
  have I : InstAt heap xw { cls := .ref C, dict := some dxw, data := .fields fvw } C (some oDw) := ⟨stands, rfl, rfl, hoDw⟩
  have looks : Looks (model prog w) heap (classData C) cdw := looks_clsIn X isClass
  refine osa_openX SF X I over (taker_none unfound) fun bbw => ?_
  show wpAny _ _ (storeInOwnDict (.ref xw) (.ref C) (.str namew tkw) namew vw bbw) _ _ _
  obtain ⟨nmw, bsw, mrow, nsw, qnw, hdw, snw, sbw, abw, colw, delw⟩ := cdw
  dsimp only at hasDict_
  subst hasDict_
  unfold storeInOwnDict
  unfold ownDictForStores
  repeat (first | with_reducible refine OEX.store_in_old keeps_ hww hzw ?_ | with_reducible refine wpAny_loadPart_at stands ?_ | with_reducible refine looks.at ?_ | wp_step)
  intro h'w tk'w hn'w hsw
  exact go h'w tk'w (fun bw ow hbw how => (hsw.2 bw hbw).trans how) hn'w
end
end RSup
namespace RSup
open PySem PySem.Spec PyProof.Rows L2
/-- the class at C, over the built-in base with that newId and that mro -/
structure OexB (K : PySem.W.Frag) (C : Addr) (newId : String) (bmB : List Value) : Prop where
  cls : ∃ nm q N bs bm sn sub ab col dd k0 k1 k2 k3 k5, K.lookup C = some (excClassObj nm q C N bs bm true sn sub ab col dd k0 k1 k2 k3 k5 newId) ∧ PySem.W.excTail bmB bm = true
  sets : PySem.W.findIn K (.ref C) ("__setattr__" : Str) = some (some (Value.builtin "object.__setattr__"))
  excs : PySem.W.subIn K (.ref C) (Value.type "BaseException") = some true
  kind : PySem.W.typeIn K (.ref C) = some (Value.type "type")
  kept : PySem.W.keepIn K (Value.ref C) = true
theorem OexB.over {K : PySem.W.Frag} {C : Addr} {newId : String} {bmB : List Value} (T : OexB K C newId bmB) : PySem.W.excOver K C bmB = true := by
  obtain ⟨_, _, _, _, bm, _, _, _, _, _, _, _, _, _, _, hC, hbm⟩ := T.cls
  unfold PySem.W.excOver PySem.W.clsIn
  rw [hC]
  show (C == C && PySem.W.excTail bmB bm) = true
  rw [hbm, beq_self_eq_true]; rfl
theorem OexB.init {K : PySem.W.Frag} {C : Addr} {newId : String} {bmB : List Value} (T : OexB K C newId bmB) : PySem.W.excInitIn K C bmB newId = true := by
  obtain ⟨_, _, _, _, bm, _, _, _, _, _, _, _, _, _, _, hC, hbm⟩ := T.cls
  unfold PySem.W.excInitIn
  rw [hC]
  show (C == C && newId == newId && !false && PySem.W.excTail bmB bm) = true
  rw [hbm, beq_self_eq_true, beq_self_eq_true]; rfl
section
variable {X : Cx} {pins : List (Addr × Obj)} {σ : L2.St} {H : Hp} {s : Shared} {a C dx : Addr} {f : Str} {y : V} {u : Value} {fs : List (Str × V)} {Q : Unit → Shared → Prop} {E : Value → Shared → Prop} {A : Around} {B newId initId : String} {bmB : List Value}
/-- the first field of one that is being made -/
theorem ost_first (SF : StoreFacts B bmB "object.__setattr__" "object") (T : OexB X.K C newId bmB) (I : Inv X pins σ H s) (ew : H a = some (exo a C none)) (hnow : PySem.W.findIn X.K (.ref C) f = some none) (ryw : L2.RelV y u)
    (hw : ∀ dxw s', H dxw = none → dxw ≠ a → Inv X pins σ (upd (upd H dxw (exd dxw [(f, y)])) a (exo a C (some dxw))) s' → Q () s') : wpAny (model X.prog X.w) A (setAttr (.ref a) f u) Q E s := by
  obtain ⟨nmw, qw, N, bsw, bmw, snw, subw, abw, colw, ddw, k0w, k1w, k2w, k3w, k5w, hCw, hbmw⟩ := T.cls
  have hclw : PySem.W.clsIn X.K C = some { name := nmw, bases := bsw, mro := .ref C :: bmw, ns := N, qualname := qw, hasDict := true, slotNames := snw, subclasses := subw, abstract := abw, collection := colw, hasDel := false } := by unfold PySem.W.clsIn; rw [hCw] <;> rfl
  obtain ⟨t1w, how⟩ := exo_at I.hok ew
  obtain ⟨heap, gw, dw, tw, osw⟩ := s
  refine PySem.W.set_plain I.kIn (ox := { cls := .ref C, dict := none, data := .fields #[.ref t1w, .none, .none, .none, .bool false, .none] }) (od := none) ⟨how, rfl, rfl, trivial⟩ T.sets ?_
  refine osa_first SF I.kIn how hclw T.over rfl hnow (fun h'w tk'w dxw kw dnw dnew stands hnw => ?_)
  have hndw : H dxw = none := I.hok.fresh dnw
  have ndw : ∀ {bw : Addr} {ow : Obj}, heap.get? bw = some ow → bw ≠ dxw := fun {bw ow} qw => Nat.ne_of_lt (Nat.lt_of_lt_of_le (Heap.lt_size qw) dnw)
  have naw : ∀ {bw : Addr}, H bw = none → bw ≠ a := fun {bw} nw zw => by
    rw [zw, ew] at nw
    cases nw
  have Un1 : Un X.fs [] H (upd (upd H dxw (exd dxw [(f, y)])) a (exo a C (some dxw))) heap h'w := {
    keep := fun bw ow qw nw _ _ => kw bw ow (naw nw) qw
    slot := fun bw ow qw nw _ _ => ⟨ow.slots, kw bw ow (naw nw) qw⟩
    free := fun bw ow qw nw _ => by rw [upd_ne (naw nw), upd_ne (ndw qw)]; exact nw
    there := fun bw ow qw _ => by
      by_cases hb : bw = a
      · exact ⟨_, by rw [hb]; exact stands⟩
      · exact ⟨ow, kw bw ow hb qw⟩
    tups := fun bw xsw qw => by rw [upd_ne (at_ne ew qw exo_tup), upd_ne (ne_of_none qw hndw)]; exact qw
    frzs := fun bw ow vw qw => by rw [upd_ne (at_ne ew qw exo_frz), upd_ne (ne_of_none qw hndw)]; exact qw
    tbls := fun bw psw qw => ⟨#[], by rw [upd_ne (at_ne ew qw exo_tbl), upd_ne (ne_of_none qw hndw), qw]; simp⟩ }
  refine hw dxw _ hndw dnew (I.un (t' := tk'w) Un1 fun bw ow qw => ?_)
  by_cases hb : bw = a
  · subst hb
    rw [upd_same] at qw
    cases qw
    exact exo_ok stands
  · rw [upd_ne hb] at qw
    by_cases hdw : bw = dxw
    · subst hdw
      rw [upd_same] at qw
      cases qw
      exact exd_ok hnw (relO_put (fs := []) ryw fun gw => True.intro)
    · rw [upd_ne hdw] at qw
      exact (I.hok bw ow qw).stay (fun cw vw hcw zw => kw cw vw (by
          rcases hcw with hcw | hcw
          · rw [hcw]
            exact hb
          · exact at_ne ew hcw exo_own) zw)
        (fun cw hcw => by rw [upd_ne (at_ne ew hcw exo_own), upd_ne (ne_of_none hcw hndw)]; exact hcw) (fun cw xsw hcw => by rw [upd_ne (at_ne ew hcw exo_tup), upd_ne (ne_of_none hcw hndw)]; exact hcw)
/-- a further field -/
theorem ost_more (SF : StoreFacts B bmB "object.__setattr__" "object") (T : OexB X.K C newId bmB) (I : Inv X pins σ H s) (ew : H a = some (exo a C (some dxw))) (edw : H dxw = some (exd dxw fsw)) (hlw : fsw.length ≤ 900) (hnow : PySem.W.findIn X.K (.ref C) f = some none) (ryw : L2.RelV y u)
    (hw : ∀ s', Inv X pins σ (upd H dxw (exd dxw ((f, y) :: fsw))) s' → Q () s') : wpAny (model X.prog X.w) A (setAttr (.ref a) f u) Q E s := by
  obtain ⟨nmw, qw, N, bsw, bmw, snw, subw, abw, colw, ddw, k0w, k1w, k2w, k3w, k5w, hCw, hbmw⟩ := T.cls
  have hclw : PySem.W.clsIn X.K C = some { name := nmw, bases := bsw, mro := .ref C :: bmw, ns := N, qualname := qw, hasDict := true, slotNames := snw, subclasses := subw, abstract := abw, collection := colw, hasDel := false } := by unfold PySem.W.clsIn; rw [hCw] <;> rfl
  obtain ⟨t1w, how⟩ := exo_at I.hok ew
  obtain ⟨mAw, keeps_, relw⟩ := exd_at I.hok edw
  have hww := within_of relw
  obtain ⟨heap, gw, dw, tw, osw⟩ := s
  obtain ⟨oDw, _, _, hoDw, _, _⟩ := keeps_.count hww
  refine PySem.W.set_plain I.kIn (ox := { cls := .ref C, dict := some dxw, data := .fields #[.ref t1w, .none, .none, .none, .bool false, .none] }) (od := some oDw) ⟨how, rfl, rfl, hoDw⟩ T.sets ?_
  refine osa_more SF I.kIn how keeps_ hww (by rw [List.length_map]; omega) hclw T.over rfl hnow (fun h'w tk'w kw hnw => ?_)
  have hdw : ∃ ow, h'w.get? dxw = some ow := by
    obtain ⟨ow, _, _, e'w, _⟩ := hnw
    exact ⟨ow, e'w⟩
  exact hw _ (I.write (t' := tk'w) (x := dxw) (e := dxw) (o := exd dxw ((f, y) :: fsw)) (by rw [edw]; exact True.intro) (.inl rfl) kw hdw (exd_ok hnw (relO_put ryw relw)))
end
/-- self.f = e -/
def tOstB (K : PySem.W.Frag) (newId : String) (bmB : List Value) (f : Str) (to te : TE) : TS := fun D σ H => te σ H fun y H1 => to σ H1 fun x H2 => ∃ a C : Addr, x = .ref a ∧ OexB K C newId bmB ∧ PySem.W.findIn K (.ref C) f = some none ∧
  ((H2 a = some (exo a C none) ∧ ∀ d, H2 d = none → d ≠ a → D.nx σ (upd (upd H2 d (exd d [(f, y)])) a (exo a C (some d)))) ∨
    ∃ (d : Addr) (rs : List (Str × V)), H2 a = some (exo a C (some d)) ∧ H2 d = some (exd d rs) ∧ rs.length ≤ 900 ∧ D.nx σ (upd H2 d (exd d ((f, y) :: rs))))
section
variable {X : Cx} {o e : Expr} {to te : TE} {f : Str} {p' pos : Pos} {B newId : String} {bmB : List Value}
theorem ps_ostB (SF : StoreFacts B bmB "object.__setattr__" "object") (how : PE X o to) (hew : PE X e te) (hsw : swapsWith e (some (.Attribute o f p')) pos.line X.env = pure false := by rfl) : PS X (.Assign [.Attribute o f p'] e pos) (tOstB X.K newId bmB f to te) := by
  refine ⟨fun pins sw σ H D I hw => ?_⟩
  refine plainObj_wpAny_Assign_Attribute (thn (hew.run pins sw σ H _ I hw) fun vw s1w ⟨yw, H1, I1, r1w, q1w⟩ => thn (how.run pins s1w σ H1 _ I1 q1w) fun uw s2w ⟨xw, H2, I2, r2w, aw, C, exw, T, hnow, qw⟩ => ?_) hsw
  subst exw
  obtain rfl : uw = Value.ref aw := r2w
  rcases qw with ⟨ea, qw⟩ | ⟨dxw, fs, ea, ed, hl, qw⟩
  · exact ost_first SF T I2 ea hnow r1w fun dxw s'w nw new J => ⟨σ, _, J, qw dxw nw new⟩
  · exact ost_more SF T I2 ea ed hl hnow r1w fun s'w J => ⟨σ, _, J, qw⟩
end
/-! ### super().__init__(..) -/
section
variable {X : Cx} {pins : List (Addr × Obj)} {σ : L2.St} {H : Hp} {s : Shared} {a C u : Addr} {E : Value → Shared → Prop} {A : Around} {B newId i : String} {bmB : List Value}
/-- the bound __init__ called: nothing of it is told -/
theorem sup_call {usw : List Value} {Q : Value → Shared → Prop} (FB : ExcBaseFacts B newId i bmB) (T : OexB X.K C newId bmB) (I : Inv X ((u, PySem.W.kxs_mw i a) :: pins) σ H sw) (ew : H a = some (exo a C none)) (hlw : usw.length ≤ sizeLine) (hw : ∀ s', Inv X pins σ H s' → Q .none s') :
    wpAny (model X.prog X.w) A (call (.ref u) usw) Q E sw := by
  obtain ⟨nmw, qw, N, bsw, bmw, snw, subw, abw, colw, ddw, k0w, k1w, k2w, k3w, k5w, hCw, hbmw⟩ := T.cls
  obtain ⟨t1w, how⟩ := exo_at I.hok ew
  have huw := (I.pin (u, PySem.W.kxs_mw i a) (List.mem_append_right _ List.mem_cons_self)).1
  have I0 : Inv X pins σ H sw := I.pins_of fun pw heap => I.pin pw (List.mem_append_right _ (List.mem_cons_of_mem _ heap))
  have finw : ∀ h'w, (∀ b ow, b ≠ a → sw.heap.get? b = some ow → h'w.get? b = some ow) → (∃ t2w : Addr, h'w.get? a = some ({ cls := .ref C, dict := none, data := .fields #[.ref t2w, .none, .none, .none, .bool false, .none] } : Obj)) → Q .none { sw with heap := h'w } := fun h'w kw ⟨t2w, stands⟩ => by
    have J := I0.write (t' := sw.toks) (x := a) (e := a) (o := exo a C none) (h' := h'w) (by rw [ew]; exact True.intro) (.inl rfl) kw ⟨_, stands⟩ (exo_ok stands)
    have euw : upd H a (exo a C none) = H := by
      funext b
      by_cases hb : b = a
      · rw [hb, upd_same, ew]
      · rw [upd_ne hb]
    rw [euw] at J
    exact hw _ J
  have hCsw := I.kIn _ _ hCw
  obtain ⟨hasDict_, gw, dw, tkw, osw⟩ := sw
  refine wpAny_call ?_
  refine codeAny_of_tree ?_
  show wpAny _ A.in1 (callAny (.ref u) ⟨usw, []⟩) _ _ _
  simp only [callAny]
  refine wpAny_bind (wpAny_load huw ?_)
  simp only [PySem.W.kxs_mw, show (Value.type "method-wrapper" == Value.type "method" || Value.type "method-wrapper" == Value.type "builtin_function_or_method" || Value.type "method-wrapper" == Value.type "method-wrapper") = true by decide, if_true]
  refine (PySem.W.KFB.if_so (by decide +kernel) ?_)
  refine wpAny_bind (PySem.W.check_bound_init FB.toExcCallFacts hCsw how rfl ?_)
  refine wpAny_bind (wpAny_pure (wpAny_pure ⟨plainId_quiet FB.init.plain _, codeAny_builtin FB.initEntry ?_⟩))
  exact PySem.W.exc_init_tree (cls := .ref C) (t0 := t1w) (dv := none) (c2 := .none) (c3 := .none) (b4 := .bool false) how hlw fun h'w kw e'w _ => finw h'w kw ⟨_, e'w⟩
/-- what super() finds, of a def in the class at C -/
structure SupK (X : Cx) (C : Addr) (i : String) (B : String) (fd : FuncData) (ar : Arg) : Prop where
  kf : PySem.W.KxsFacts B i
  sup : PySem.W.ks_superIn X.K C C "__init__" = some (some (.builtin i))
  isB : PySem.W.subIn X.K (.ref C) (.type B) = some true
  self : PySem.W.mroIn X.K C (.ref C) = some true
  any : PySem.W.nsIn X.K cStatics "thirdparty.any" = some none
  mg : X.mg "super" = none
  fn : ∃ (f : Addr) (oc : Value) (od : Option Addr) (osl : Array (Option Value)), X.env.func = some f ∧ X.K.lookup f = some ⟨oc, od, .func fd, osl⟩
  first : (fd.params.posonlyargs ++ fd.params.args).head? = some ar
  code : ∃ (cda : Addr) (ccl : Value) (cdd : Option Addr) (vs : Array Value) (ccs : Array (Option Value)) (file : Str) (tf : Tok), X.env.code = .ref cda ∧ X.K.lookup cda = some ⟨ccl, cdd, .fields vs, ccs⟩ ∧ vs[2]? = some (.str file tf) ∧ ((X.prog.main.file : Str) == file) = true
  top : (X.prog.main.scope.names.lookup ("super" : Str)).isSome = false
  cell : ∃ (cc : Addr) (cl : Value) (cld : Option Addr) (csl : Array (Option Value)), X.env.cells.lookup ("__class__" : Str) = some cc ∧ X.K.lookup cc = some ⟨cl, cld, .cell (some (.ref C)), csl⟩
  ks : X.env.kindOf "super" = some .globalImplicit
  kc : X.env.kindOf "__class__" = some .free
  ka : X.env.kindOf ar.arg = some .local
  at0 : X.N[0]? = some ar.arg
  vis : Vis X.env.scope ar.arg
theorem sup_base {fdw : FuncData} {arw : Arg} {body : List Stmt} {p0w p1w : Pos} {whole : Sem Value} {Q : Value → Shared → Prop} (S : SupK X C i B fdw arw) (T : OexB X.K C newId bmB) (I : Inv X pins σ H sw) (hwσ : σ[0]? = some (some (.ref aw))) (ew : H aw = some (exo aw C none))
    (hw : ∀ sow h'w, h'w.get? sow = some (PySem.W.ks_superObj C aw C) → H sow = none → Inv X pins σ H { sw with heap := h'w } → Q (.ref sow) { sw with heap := h'w }) :
    PySem.wpAt (model X.prog X.w) X.A (.func body X.env) (attributeBase (.Call (.Name "super" p0w) [] [] p1w) "__init__" X.env whole) Q E sw := by
  obtain ⟨fw, ocw, odw, oslw, hfuw, hfw⟩ := S.fn
  obtain ⟨cdaw, cclw, cddw, vsw, ccsw, filew, tfw, hcow, hcodew, hvsw, hfilew⟩ := S.code
  obtain ⟨ccw, clw, cldw, cslw, hccw, hcellw⟩ := S.cell
  obtain ⟨t1w, how⟩ := exo_at I.hok ew
  obtain ⟨mw, keeps_, locw⟩ := I.loc
  obtain ⟨nmw, qw, N, bsw, bmw, snw, subw, abw, colw, ddw, k0w, k1w, k2w, k3w, k5w, hCw, hbmw⟩ := T.cls
  obtain ⟨v0w, rvw, lkw⟩ := locw 0 arw.arg (.ref aw) S.at0 hwσ S.vis
  have hvw : mw arw.arg = some (.ref aw) := by
    cases rvw
    rcases lkw with ⟨_, over⟩ | ⟨hk, _⟩
    · exact over
    · rw [S.ka] at hk
      rcases hk with zw | zw <;> cases zw
  have XK := I.kIn
  refine ks_wpAt_super_base (env := X.env) S.ks S.kc (by decide) hfuw (XK _ _ hfw) rfl S.first hcow (XK _ _ hcodew) rfl hvsw hfilew S.top ?_
  obtain ⟨mbw, b1w, b2w⟩ := I.mod.blt
  refine PySem.W.ks_loadName_global I.ok.kind S.ks (Calls.loadGlobal_builtin (by rw [I.ok.glob]; exact I.mod.glob.keeps I.bk) S.mg (by rw [I.ok.blt]; exact b1w.keeps I.bk) ((b2w _ (by decide)).trans (by decide +kernel : bootBuiltins "super" = some (.type "super"))) ⟨rfl, ?_⟩)
  refine wpAny_loadName_free I.ok.kind S.kc hccw ⟨_, XK _ _ hcellw, rfl⟩ ?_
  refine wpAny_loadName_local I.ok.kind S.ka keeps_ hvw ?_
  refine ks_wpAny_isType_cls (XK _ _ hCw) rfl ⟨rfl, ?_⟩
  obtain ⟨hasDict_, gw, dw, tkw, osw⟩ := sw
  refine ks_wpAny_call_super (XK _ _ hCw) rfl how rfl (fun cw zw => by cases zw) (PySem.W.looks_mroIn XK S.self) (fun h'w e'w kw => ?_)
  exact hw _ _ e'w (I.hok.fresh (Nat.le_refl _)) (I.kept (t' := tkw) kw)
theorem sup_row {fdw : FuncData} {arw : Arg} {body : List Stmt} {p0w p1w apos pos spos : Pos} {arg : Expr} {es : List Expr} {taw : TA} {plw : Sem Bool} {Qn : Hp → Prop} (FB : ExcBaseFacts B newId i bmB) (S : SupK X C i B fdw arw) (T : OexB X.K C newId bmB) (I : Inv X pins σ H sw) (hwσ : σ[0]? = some (some (.ref aw))) (ew : H aw = some (exo aw C none))
    (unfound : PA X (arg :: es) taw) (go : taw σ H fun vsw H1 => vsw.length ≤ 1000 ∧ H1 aw = some (exo aw C none) ∧ Qn H1)
    (hcw : eval (.Call (.Attribute (.Call (.Name "super" p0w) [] [] p1w) "__init__" apos) (arg :: es) [] pos) X.env = (do
      let ov ← attributeBase (.Call (.Name "super" p0w) [] [] p1w) "__init__" X.env (eval (.Call (.Name "super" p0w) [] [] p1w) X.env)
      standAt apos.atName
      let (fw, first) ← holding [ov] (getMethod ov "__init__" plw)
      callWith pos fw first (backTo pos (starEach (arg :: es) X.env)) []) := by rfl)
    (hew : starEach (arg :: es) X.env = (false, eval arg X.env) :: starEach es X.env := by rfl) (hplw : (backTo pos (starEach es X.env)).any (·.1) = false := by rfl)
    (hsw : swapsWith (.Call (.Attribute (.Call (.Name "super" p0w) [] [] p1w) "__init__" apos) (arg :: es) [] pos) none spos.line X.env = pure false := by rfl) :
    PySem.wpAt (model X.prog X.w) X.A (.func body X.env) (exec (.Expr (.Call (.Attribute (.Call (.Name "super" p0w) [] [] p1w) "__init__" apos) (arg :: es) [] pos) spos) X.env) (fun fw s'w => fw = .next ∧ ∃ H', Inv X pins σ H' s'w ∧ Qn H') X.xe sw := by
  refine ks_wpAt_Expr_any (ks_wpAt_MethodCall (pl := plw) (sup_base S T I hwσ ew fun sow h'w hsow nsow I1 => ?_) hcw) I.quiet hsw
  obtain ⟨nmw, qw, N, bsw, bmw, snw, subw, abw, colw, ddw, k0w, k1w, k2w, k3w, k5w, hCw, hbmw⟩ := T.cls
  obtain ⟨t1w, how⟩ := exo_at I1.hok ew
  have XK := I1.kIn
  have hclw : PySem.W.clsIn X.K C = some { name := nmw, bases := bsw, mro := .ref C :: bmw, ns := N, qualname := qw, hasDict := true, slotNames := snw, subclasses := subw, abstract := abw, collection := colw, hasDel := false } := by unfold PySem.W.clsIn; rw [hCw] <;> rfl
  have over := S.sup
  unfold PySem.W.ks_superIn at over
  rw [hclw] at over
  have IA : PySem.W.InstAt h'w aw { cls := .ref C, dict := none, data := .fields #[.ref t1w, .none, .none, .none, .bool false, .none] } C none := ⟨how, rfl, rfl, trivial⟩
  have hIw : PySem.W.Looks (model X.prog X.w) h'w (isInstance (.ref aw) (.type B)) true := IA.type.andThen (PySem.W.looks_subIn XK S.isB)
  have hxCw : aw ≠ C := PySem.W.ks_ne XK IA hclw
  obtain ⟨hasDict_, gw, dw, tkw, osw⟩ := sw
  refine PySem.W.kxs_getMethod S.kf hsow (PySem.W.looks_opaque XK S.any) (l₀ := .ref C :: bmw) (fun A Q E sw kw qw => wpAny_bind ((PySem.W.looks_clsIn XK hclw) A _ E sw kw (wpAny_pure qw))) rfl XK over hIw hxCw (by decide) ?_
  have huw : (h'w.push (PySem.W.kxs_mw i aw)).get? h'w.objs.size = some (PySem.W.kxs_mw i aw) := Heap.get?_push_size _ rfl
  have fuw := I1.fpOk (b := h'w.objs.size) (Nat.le_refl _) (I1.hok.fresh (Nat.le_refl _))
  have I2 : Inv X pins σ H ⟨h'w.push (PySem.W.kxs_mw i aw), gw, dw, tkw + 1, osw⟩ := I1.kept (t' := tkw + 1) fun bw ow zw => Heap.get?_push_of_some _ zw
  have I3 : Inv X ((h'w.objs.size, PySem.W.kxs_mw i aw) :: pins) σ H ⟨h'w.push (PySem.W.kxs_mw i aw), gw, dw, tkw + 1, osw⟩ := I2.pins_of fun pw heap => by
    rcases List.mem_cons.mp heap with rfl | heap
    · exact ⟨huw, fuw.1, fuw.2.1, fuw.2.2.1, fun vw zw => by cases zw⟩
    · exact I2.pin pw (List.mem_append_right _ heap)
  show wpAny _ _ (callWith pos (.ref h'w.objs.size) [] (backTo pos (starEach (arg :: es) X.env)) []) _ _ _
  rw [hew]
  refine PySem.W.kxs_callWith (i := i) (x := aw) (by show (false || (backTo pos (starEach es X.env)).any (·.1)) = false; rw [hplw]; rfl) ?_
  refine Calls.evalArgs_plain ?_
  have hrw := unfound.run pos ((h'w.objs.size, PySem.W.kxs_mw i aw) :: pins) _ σ H _ I3 go
  rw [hew] at hrw
  refine thn hrw fun usw s1w ⟨vsw, H1, J, rvw, hlw, e1w, qnw⟩ => ⟨(J.pin (h'w.objs.size, PySem.W.kxs_mw i aw) (List.mem_append_right _ List.mem_cons_self)).1, ?_⟩
  refine sup_call FB T J e1w ?_ fun s'w J' => ⟨rfl, H1, J', qnw⟩
  show usw.length ≤ sizeLine
  rw [← Paired.length rvw, sizeLine_eq]
  omega
end
/-! ### a def whose only free name is __class__ -/
def cxS (CX : CXT) (P : Program) (w : World) (K : PySem.W.Frag) (mg : Str → Option Value) (base : Heap) (N : List Str) (qual : Str) (scope : Scope) (f cda cc : Addr) (A : Around) (outer : List Env) (s : Shared) (H : Hp) (E : XK) : Cx where
  prog := P
  w := w
  K := K
  mg := mg
  base := base
  A := A.deeper (PySem.W.ksEnv qual scope s.heap.objs.size f (.ref cda) cc)
  N := N
  s_0 := s
  H_0 := H
  env := PySem.W.ksEnv qual scope s.heap.objs.size f (.ref cda) cc
  outer := outer
  stack := PySem.W.ksEnv qual scope s.heap.objs.size f (.ref cda) cc :: outer
  ex := []
  calm := true
  fn := fun _ => false
  pn := []
  xe := fun e s' => wpAny (model P w) (A.deeper (PySem.W.ksEnv qual scope s.heap.objs.size f (.ref cda) cc)) (leaving (PySem.W.ksEnv qual scope s.heap.objs.size f (.ref cda) cc) e) (fun _ s'' => CX outer H s E e s'') (fun e' s'' => CX outer H s E e' s'') s'
structure ScopeS (N ps : List Str) (sc : Scope) : Prop where
  kind : sc.kind = .function
  co : sc.isCoroutine = false
  gen : sc.isGenerator = false
  nd : N.Nodup
  pre : N.take ps.length = ps
  par : ∀ p ∈ ps, sc.names.lookup p = some NameKind.local
  nocell : ∀ n ∈ sc.names, n.2 ≠ NameKind.cell
  free : ∀ n ∈ sc.names, n.2 = NameKind.free → n.1 = ("__class__" : Str)
theorem lookup_nd {β : Type} {k : Str} {v : β} : ∀ {l : List (Str × β)}, (l.map (·.1)).Nodup → (k, v) ∈ l → l.lookup k = some v
  | [], _, h => (List.not_mem_nil h).elim
  | (k', v') :: l, nd, h => by
    obtain ⟨out, nd2⟩ := List.nodup_cons.mp nd
    rw [List.lookup_cons]
    rcases List.mem_cons.mp h with here | e
    · cases here
      rw [beq_self_eq_true]
    · have ne : (k == k') = false := by
        rw [beq_eq_false_iff_ne]
        intro z
        subst z
        exact out (List.mem_map.mpr ⟨_, e, rfl⟩)
      rw [ne]
      exact lookup_nd nd2 e
theorem inv_startS {CX : CXT} {P : Program} {ww : World} {K : PySem.W.Frag} {mg : Str → Option Value} {base : Heap} {N psw : List Str} {qual : Str} {scope : Scope} {fw cdaw ccw C : Addr} {A : Around} {outerw : List Env} {sw : Shared} {H : Hp} {E : XK} {usw : List Value} {vsw : List V} {h1w : Heap} {tkw : Nat} {clw : Value} {cldw : Option Addr} {cslw : Array (Option Value)}
    (S : ScopeS N psw scope) (hdw : A.handled = none) (e0w : Env0 P ww K mg base A outerw sw H) (hlw : vsw.length = psw.length) (rw : Vals vsw usw) (hccw : K.lookup ccw = some ⟨clw, cldw, .cell (some (.ref C)), cslw⟩)
    (nsw : h1w.Ns sw.heap.objs.size (fun xw => (psw.zip usw).reverse.lookup xw)) (hkw : ∀ bw ow, sw.heap.get? bw = some ow → h1w.get? bw = some ow) :
    Inv (cxS CX P ww K mg base N qual scope fw cdaw ccw A outerw sw H E) [] (start N vsw) H { sw with heap := h1w, toks := tkw } := by
  have hplw : psw.length ≤ N.length := by have := congrArg List.length S.pre; rw [List.length_take] at this; omega
  have noAw : ∀ bw : Addr, bw ∉ (cxS CX P ww K mg base N qual scope fw cdaw ccw A outerw sw H E).ex := fun bw zw => absurd (show bw ∈ ([] : List Addr) from zw) (by simp)
  have hcbw := e0w.mod.kin _ _ hccw
  have hcsw := e0w.bs _ _ hcbw
  have cell1w : ∀ {xw : Str} {cw : Addr}, (cxS CX P ww K mg base N qual scope fw cdaw ccw A outerw sw H E).env.cells.lookup xw = some cw → xw = ("__class__" : Str) ∧ cw = ccw := fun {xw cw} hw => by
    have hw : ([(("__class__" : Str), ccw)] : List (Str × Addr)).lookup xw = some cw := hw
    rw [List.lookup_cons] at hw
    cases ew : xw == ("__class__" : Str) with
    | true => rw [ew] at hw; exact ⟨beq_iff_eq.mp ew, (Option.some.inj hw).symm⟩
    | false => rw [ew] at hw; cases hw
  refine ⟨⟨e0w.mod, S.kind, rfl, rfl, Nat.le_refl _, fun yw zw cw h1w h2w => ?_, fun yw hyw => ?_, fun yw cw zw hw => ?_, fun _ => hdw, Around.frames_deeper e0w.frames, .inr ⟨rfl, rfl⟩, fun bw zw => absurd zw (noAw bw), e0w.bs, e0w.bsz, fun bw _ _ => noAw bw, fun bw zw => absurd zw (noAw bw), e0w.funs, e0w.frf⟩,
    rfl, e0w.bare, Un.kept hkw, ⟨_, nsw, fun iw yw vw h1w h2w h3w => ?_⟩, fun yw cw hw => ?_, e0w.hok.fresh (Nat.le_refl _), fun yw cw hw => ?_, fun pw heap => absurd (show pw ∈ ([] : List (Addr × Obj)) from heap) (by simp), e0w.hok.kept hkw, ?_⟩
  · rw [(cell1w h1w).1, (cell1w h2w).1]
  · have hyw : scope.names.lookup yw = some .cell ∨ scope.names.lookup yw = some .free := hyw
    rcases hyw with hyw | hyw
    · exact absurd rfl (S.nocell _ (PySem.mem_of_lookup hyw))
    · rw [show yw = ("__class__" : Str) from S.free _ (PySem.mem_of_lookup hyw) rfl]
      exact ⟨ccw, show ([(("__class__" : Str), ccw)] : List (Str × Addr)).lookup ("__class__" : Str) = some ccw by rw [List.lookup_cons, beq_self_eq_true]⟩
  · cases zw
  · have hiw : iw < vsw.length := by
      unfold L2.start at h2w
      by_cases hiw : iw < vsw.length
      · exact hiw
      · rw [List.getElem?_append_right (by simpa using hiw)] at h2w
        rw [List.getElem?_replicate] at h2w
        split at h2w <;> cases h2w
    have unfound : vsw[iw]? = some vw := by
      unfold L2.start at h2w
      rw [List.getElem?_append_left (by simpa using hiw), List.getElem?_map] at h2w
      cases ew : vsw[iw]? with
      | none => rw [ew] at h2w; cases h2w
      | some a => rw [ew] at h2w; cases h2w; rfl
    obtain ⟨uw, huw, rvw⟩ := rw.get unfound
    have heap : psw[iw]? = some yw := by
      rw [← S.pre, List.getElem?_take_of_lt (by omega)]; exact h1w
    have ndPw : psw.Nodup := by rw [← S.pre]; exact S.nd.sublist (List.take_sublist _ _)
    have lvw := Paired.length rw
    refine ⟨uw, rvw, .inl ⟨S.par yw (List.mem_of_getElem? heap), ?_⟩⟩
    refine lookup_nd ?_ (List.mem_reverse.mpr (List.mem_of_getElem? (i := iw) ?_))
    · rw [List.map_reverse, List.map_fst_zip (by omega)]
      exact (List.reverse_perm psw).nodup_iff.mpr ndPw
    · exact (List.getElem?_zip_eq_some (z := (yw, uw))).mpr ⟨heap, huw⟩
  · rw [(cell1w hw).2]
    exact ⟨_, _, hkw _ _ hcsw.1, rfl⟩
  · rw [(cell1w hw).2]
    exact hcsw.2
  · unfold L2.start
    show _ = N.length
    rw [List.length_append, List.length_replicate, List.length_map]
    omega
/-- a def whose first row is super().__init__(..) -/
theorem fn_sup {CX : CXT} {P : Program} {ww : World} {K : PySem.W.Frag} {mg : Str → Option Value} {base : Heap} {kw : Nat} {fw cdaw ccw C : Addr} {name qual : Str} {params : Arguments} {body : List Stmt} {scope : Scope} {kVw docw pmw ctw ocw : Value} {anw odw : Option Addr} {oslw : Array (Option Value)} {N psw : List Str} {sp : Sp} {clw : Value} {cldw : Option Addr} {cslw : Array (Option Value)}
    (lkw : K.lookup fw = some ⟨ocw, odw, .func (PySem.W.ksFn name qual params body scope .none kVw docw pmw anw (.ref cdaw) ctw ccw), oslw⟩) (isClass : PySem.W.codeIn K (.ref cdaw) qual = true) (hccw : K.lookup ccw = some ⟨clw, cldw, .cell (some (.ref C)), cslw⟩) (S : ScopeS N psw scope)
    (many : ∀ vsw H Q E, sp vsw H Q E → vsw.length = psw.length)
    (run : ∀ (A : Around) (outerw : List Env) (sw : Shared) (H : Hp) (vsw : List V) (Q : VK) (E : XK), Room kw (A.deeper (PySem.W.ksEnv qual scope sw.heap.objs.size fw (.ref cdaw) ccw)) → sp vsw H Q E →
      ∀ s1, Inv (cxS CX P ww K mg base N qual scope fw cdaw ccw A outerw sw H E) [] (L2.start N vsw) H s1 →
        PySem.wpAt (model P ww) (A.deeper (PySem.W.ksEnv qual scope sw.heap.objs.size fw (.ref cdaw) ccw)) (.func body (PySem.W.ksEnv qual scope sw.heap.objs.size fw (.ref cdaw) ccw)) (execs body (PySem.W.ksEnv qual scope sw.heap.objs.size fw (.ref cdaw) ccw))
          (SP (cxS CX P ww K mg base N qual scope fw cdaw ccw A outerw sw H E) [] { nx := fun _ H' => Q .non H', rt := Q }) (cxS CX P ww K mg base N qual scope fw cdaw ccw A outerw sw H E).xe s1) :
    FnOk P ww K mg base CX (kw + 1) fw (PySem.W.ksFn name qual params body scope .none kVw docw pmw anw (.ref cdaw) ctw ccw) psw sp := by
  refine ⟨many, fun A outerw sw H argsw usw vsw Q E hrw e0w hbw rw hspw => ?_⟩
  have hlw := many _ _ _ _ hspw
  have KX : K.In sw.heap := e0w.mod.kin.keeps fun bw ow ew => (e0w.bs bw ow ew).1
  have limw : sw.heap.NoLimit := e0w.mod.nolimit.keeps fun bw ow ew => (e0w.bs bw ow ew).1
  refine ks_codeAny_call_defAt (fd := PySem.W.ksFn name qual params body scope .none kVw docw pmw anw (.ref cdaw) ctw ccw) (body := body) (binds := psw.zip usw) hrw.depth (KX _ _ lkw) rfl limw (PySem.W.codeRec_of KX isClass) rfl hbw S.nocell (fun ⟨nw, vw⟩ hyw => S.par nw (List.of_mem_zip hyw).1) (fun h1w nsw hkw => ?_) S.co S.gen S.kind
  have I := inv_startS (CX := CX) (P := P) (ww := ww) (mg := mg) (qual := qual) (fw := fw) (cdaw := cdaw) (E := E) (tkw := sw.toks + (psw.zip usw).length) S hrw.hd e0w hlw rw hccw nsw hkw
  refine ks_wpAt_mono (run A outerw sw H vsw Q E (hrw.deeper _) hspw _ I) (fun flw s'w hsw => ?_) fun ew s'w hsw => hsw
  have finw : ∀ {σ' : L2.St} {H' : Hp} {vw : V} {uw : Value}, Inv (cxS CX P ww K mg base N qual scope fw cdaw ccw A outerw sw H E) [] σ' H' s'w → L2.RelV vw uw → Q vw H' → CE outerw P ww H sw Q uw s'w :=
    fun {σ' H' vw uw} J rvw qw => ⟨vw, H', J.os, J.bare, J.base, J.hok, rvw, qw⟩
  cases flw with
  | ret uw =>
    obtain ⟨vw, σ', H', J, rvw, qw⟩ := hsw
    exact finw J rvw qw
  | next =>
    obtain ⟨σ', H', J, qw⟩ := hsw
    exact finw (vw := V.non) (uw := Value.none) J rfl qw
  | brk =>
    obtain ⟨_, _, _, qw⟩ := hsw
    exact False.elim qw
  | cont =>
    obtain ⟨_, _, _, qw⟩ := hsw
    exact False.elim qw
/-- a def of a class that has super() in it, as it stands behind the top -/
structure FunS (P : Program) (K : PySem.W.Frag) (x qual : Str) (st : Stmt) (f C : Addr) (fd : FuncData) : Prop where
  ex : ∃ (cda cc : Addr) (oc : Value) (od : Option Addr) (kV doc pm : Value) (an : Option Addr) (ct : Value) (osl : Array (Option Value)) (cl : Value) (cld : Option Addr) (csl : Array (Option Value)) (ccl : Value) (cdd : Option Addr) (ws : Array Value) (ccs : Array (Option Value)) (file : Str) (tf : Tok),
    fd = PySem.W.ksFn x qual (defArgs st) (defBody st) (defScope st) .none kV doc pm an (.ref cda) ct cc ∧ K.lookup f = some ⟨oc, od, .func fd, osl⟩ ∧ PySem.W.codeIn K (.ref cda) qual = true ∧ K.lookup cc = some ⟨cl, cld, .cell (some (.ref C)), csl⟩ ∧
    K.lookup cda = some ⟨ccl, cdd, .fields ws, ccs⟩ ∧ ws[2]? = some (.str file tf) ∧ ((P.main.file : Str) == file) = true
/-- what of the class super() wants -/
structure SupC (P : Program) (K : PySem.W.Frag) (mg : Str → Option Value) (C : Addr) (i B : String) : Prop where
  kf : PySem.W.KxsFacts B i
  sup : PySem.W.ks_superIn K C C "__init__" = some (some (.builtin i))
  isB : PySem.W.subIn K (.ref C) (.type B) = some true
  self : PySem.W.mroIn K C (.ref C) = some true
  any : PySem.W.nsIn K cStatics "thirdparty.any" = some none
  mg : mg "super" = none
  top : (P.main.scope.names.lookup ("super" : Str)).isSome = false
theorem fn_supr {CX : CXT} {P : Program} {w : World} {K : PySem.W.Frag} {mg : Str → Option Value} {base : Heap} {k : Nat} {f C : Addr} {x qual : Str} {st : Stmt} {fd : FuncData} {N ps : List Str} {sp : Sp} {B newId i : String} {bmB : List Value} {ar : Arg} {p0 p1 apos pos spos : Pos} {arg : Expr} {es : List Expr} {rest : List Stmt}
    (F : FunS P K x qual st f C fd) (FB : ExcBaseFacts B newId i bmB) (T : OexB K C newId bmB) (U : SupC P K mg C i B) (S : ScopeS N ps (defScope st))
    (hb : defBody st = .Expr (.Call (.Attribute (.Call (.Name "super" p0) [] [] p1) "__init__" apos) (arg :: es) [] pos) spos :: rest)
    (hp : ((defArgs st).posonlyargs ++ (defArgs st).args).head? = some ar) (hks : (defScope st).names.lookup ("super" : Str) = some .globalImplicit) (hkc : (defScope st).names.lookup ("__class__" : Str) = some .free) (hka : (defScope st).names.lookup ar.arg = some .local) (h0 : N[0]? = some ar.arg)
    (many : ∀ vs H Q E, sp vs H Q E → vs.length = ps.length)
    (run : ∀ (cda cc : Addr) (A : Around) (outer : List Env) (s : Shared) (H : Hp) (vs : List V) (Q : VK) (E : XK), Room k (A.deeper (PySem.W.ksEnv qual (defScope st) s.heap.objs.size f (.ref cda) cc)) → sp vs H Q E →
      ∃ (a : Addr) (ta : TA) (tr : TS), (L2.start N vs)[0]? = some (some (.ref a)) ∧ H a = some (exo a C none) ∧ PA (cxS CX P w K mg base N qual (defScope st) f cda cc A outer s H E) (arg :: es) ta ∧ PSs (cxS CX P w K mg base N qual (defScope st) f cda cc A outer s H E) rest tr ∧
        ta (L2.start N vs) H fun ws H1 => ws.length ≤ 1000 ∧ H1 a = some (exo a C none) ∧ tr { nx := fun _ H' => Q .non H', rt := Q } (L2.start N vs) H1)
    (hc : ∀ env, ∃ pl : Sem Bool, eval (.Call (.Attribute (.Call (.Name "super" p0) [] [] p1) "__init__" apos) (arg :: es) [] pos) env = (do
      let ov ← attributeBase (.Call (.Name "super" p0) [] [] p1) "__init__" env (eval (.Call (.Name "super" p0) [] [] p1) env)
      standAt apos.atName
      let (m, first) ← holding [ov] (getMethod ov "__init__" pl)
      callWith pos m first (backTo pos (starEach (arg :: es) env)) []) := by intro _; exact ⟨_, rfl⟩)
    (he : ∀ env, starEach (arg :: es) env = (false, eval arg env) :: starEach es env := by intro _; rfl) (hpl : ∀ env, (backTo pos (starEach es env)).any (·.1) = false := by intro _; rfl) :
    FnOk P w K mg base CX (k + 1) f fd ps sp := by
  obtain ⟨cda, cc, oc, od, kV, doc, pm, an, ct, osl, cl, cld, csl, ccl, cdd, ws, ccs, file, tf, rfl, lk, hcd, hcc, hcode, hws, hfile⟩ := F.ex
  refine fn_sup lk hcd hcc S many fun A outer s H vs Q E hr hsp s1 I => ?_
  obtain ⟨a, ta, tr, hσ, e, ha, hrest, hq⟩ := run cda cc A outer s H vs Q E hr hsp
  rw [hb]
  obtain ⟨pl, hc⟩ := hc (cxS CX P w K mg base N qual (defScope st) f cda cc A outer s H E).env
  refine ks_wpAt_execs_cons (ks_wpAt_mono (sup_row (X := cxS CX P w K mg base N qual (defScope st) f cda cc A outer s H E) (arw := ar) (Qn := fun H1 => tr { nx := fun _ H' => Q .non H', rt := Q } (L2.start N vs) H1) FB
    { kf := U.kf, sup := U.sup, isB := U.isB, self := U.self, any := U.any, mg := U.mg, fn := ⟨f, oc, od, osl, rfl, lk⟩, first := hp, code := ⟨cda, ccl, cdd, ws, ccs, file, tf, rfl, hcode, hws, hfile⟩, top := U.top, cell := ⟨cc, cl, cld, csl, rfl, hcc⟩, ks := hks, kc := hkc, ka := hka, at0 := h0, vis := .inl hka }
    T I hσ e ha hq hc (he _) (hpl _) rfl) (fun fl s' hs => ?_) fun _ _ z => z)
  obtain ⟨rfl, H', J, q⟩ := hs
  exact PySem.wpAt_of_wpAny (hrest.run [] s' _ H' _ J q)
section
variable {X : Cx} {e : Expr} {es : List Expr} {ta : TA} {p pos : Pos}
theorem pmk_oexB {CX : CXT} {xw : Str} {C fIw : Addr} {kw : Nat} {fdw : FuncData} {psw : List Str} {sp : Sp} {dsw : List Value} {dvsw : List V} {B newIdw initIdw : String} {bmBw : List Value} (FB : ExcBaseFacts B newIdw initIdw bmBw) (T : OexB X.K C newIdw bmBw) (iCw : PySem.W.findIn X.K (.ref C) "__init__" = some (some (.ref fIw))) (tIw : PySem.W.typeIn X.K (.ref fIw) = some (.type "function"))
    (F1 : FnOk X.prog X.w X.K X.mg X.base CX kw fIw fdw psw sp) (hrw : Room (kw + 1) X.A) (hbw : Binds X.K fdw psw dsw) (hdw : Vals dvsw dsw) (stands : Passes CX X (fun _ _ _ => False)) (hgw : Gl X xw) (over : X.mg xw = some (.ref C)) (unfound : PA X (ew :: es) ta)
    (hdbw : (xw == ("__debug__" : Str)) = false := by decide) (hew : starEach (ew :: es) X.env = (false, eval ew X.env) :: starEach es X.env := by rfl) (hplw : (backTo pos (starEach es X.env)).any (·.1) = false := by rfl) :
    PMk X (.Call (.Name xw p) (ew :: es) [] pos) (tMkO C sp dvsw ta) := by
  intro pins s σ H Q I h
  obtain ⟨nmw, qw, N, bsw, bmw, snw, subw, abw, colw, ddw, k0w, k1w, k2w, k3w, k5w, hCw, hbmw⟩ := T.cls
  refine wpAny_Call_Name_kw (ld_glob I hgw over ?_ hdbw)
  refine PySem.W.callWith_K (h₀ := X.base) I.ok.mod.kin T.kept (thn (unfound.run pos pins s σ H _ I h) fun usw s1w ⟨vsw, H1, I1, r1w, hzw, q1w⟩ => ⟨I1.kIn, ?_⟩) hew hplw
  show wpAny _ _ (call (.ref C) usw) _ _ _
  obtain ⟨heap, gw, drw, tkw, osw⟩ := s1w
  have hszw : heap.objs.size ≤ heap.objs.size + 1 := Nat.le_succ _
  have hnw : H1 (heap.objs.size + 1) = none := I1.hok.fresh hszw
  have go := q1w (heap.objs.size + 1) hnw
  have kkw : ∀ bw ow, heap.get? bw = some ow → ((heap.push (PySem.W.kdv_tup usw)).push (PySem.HandSPX.excO C heap.objs.size)).get? bw = some ow := fun bw ow ew => Heap.get?_push_of_some _ (Heap.get?_push_of_some _ ew)
  have hgetw : ((heap.push (PySem.W.kdv_tup usw)).push (PySem.HandSPX.excO C heap.objs.size)).get? (heap.objs.size + 1) = some (PySem.HandSPX.excO C heap.objs.size) := by heap_get
  have I2 : Inv X pins σ (upd H1 (heap.objs.size + 1) (exo (heap.objs.size + 1) C none)) ⟨(heap.push (PySem.W.kdv_tup usw)).push (PySem.HandSPX.excO C heap.objs.size), gw, drw, tkw, osw⟩ :=
    I1.laid (t' := tkw) (a := heap.objs.size + 1) (o := exo (heap.objs.size + 1) C none) (h' := (heap.push (PySem.W.kdv_tup usw)).push (PySem.HandSPX.excO C heap.objs.size)) kkw hszw (exo_ok hgetw)
  have r2w : Vals (V.ref (heap.objs.size + 1) :: (vsw ++ dvsw)) (Value.ref (heap.objs.size + 1) :: (usw ++ dsw)) := .cons rfl (r1w.append hdw)
  have hlw : (Value.ref (heap.objs.size + 1) :: usw ++ dsw).length = psw.length := by
    have ew := r2w.length
    rw [F1.len _ _ _ _ go] at ew
    exact ew.symm
  have husw : usw.length ≤ sizeLine := by
    rw [← Paired.length r1w, sizeLine_eq]
    omega
  refine wpAny_call (PySem.HandSPX.call_own FB (fun Y => PySem.W.excTail_contains Y bmw hbmw) (I1.kIn _ _ hCw) (PySem.W.looks_findIn I1.kIn iCw) (fun selfw => PySem.W.bind_fn I1.kIn selfw tIw) husw
    (codeAny_mono (F1.run _ X.stack _ _ ⟨Value.ref (heap.objs.size + 1) :: usw, []⟩ (Value.ref (heap.objs.size + 1) :: (usw ++ dsw)) _ _ (fun _ _ _ => False) (hrw.make C usw []) (I2.env0.make C usw []) (hbw _ (Value.ref (heap.objs.size + 1) :: usw) I2.kIn hlw) r2w go) fun rw s'w hq'w => ?_))
  cases rw with
  | error er => exact stands pins σ _ _ er s'w I2 hq'w
  | ok fl =>
    cases fl with
    | ret u =>
      obtain ⟨vw, H2, os2w, bare2w, un2w, hok2w, rvw, evw, dw, fsw, eaw, edw, hd1w, q2w⟩ := hq'w
      subst evw
      obtain ⟨h2w, g2w, d2w, t2w, os'w⟩ := s'w
      exact ⟨rvw, mk_end (raises_own T.excs T.kind) I1 hszw kkw un2w hok2w os2w bare2w eaw edw hd1w q2w⟩
    | next => exact False.elim hq'w
    | brk => exact False.elim hq'w
    | cont => exact False.elim hq'w
end
end RSup

/-! An exception that stays in a variable behind its except suite. -/
namespace Pot
open PySem PySem.Spec PyProof.Rows L2
/-- an exception of the class cls that was caught and is kept, at a -/
def CauO (cls : Value) (d : Option Addr) (a : Addr) : HO := .ext fun h => ∃ (oe : Obj) (vs : Array Value), h.get? a = some oe ∧ Zc cls d oe ∧ oe.data = .fields vs
section
variable {X : Cx} {pins : List (Addr × Obj)} {σ : L2.St} {H : Hp} {s : Shared}
/-- an object that is in hand, and that wasn't there at the entry, is tracked from now on -/
theorem keepIt {a : Addr} {oe : Obj} {vs : Array Value} {cls : Value} {d : Option Addr} (I : Inv X pins σ H s) (e : s.heap.get? a = some oe) (hz : Zc cls d oe) (hd : oe.data = .fields vs) (na : H a = none)
    (nL : a ≠ X.env.locals) (n0 : X.s_0.heap.get? a = none) (np : ∀ p ∈ X.pn ++ pins, p.1 ≠ a) : Inv X pins σ (upd H a (CauO cls d a)) s := by
  have ne0 : ∀ b o, X.s_0.heap.get? b = some o → b ≠ a := fun b o q z => by rw [z, n0] at q; cases q
  have neS : ∀ b o, H b = some o → b ≠ a := fun b o q z => by rw [z, na] at q; cases q
  refine ⟨I.ok, I.os, I.bare, ⟨I.base.keep, I.base.slot, fun b o q n hb => ?_, I.base.there, fun b xs q => ?_, fun b o u q => ?_, fun b ps q => ?_⟩, I.loc, I.cell, ?_, fun x c q => ?_, fun p hp => ?_, fun b u q => ?_, I.len⟩
  · rw [upd_ne (ne0 b o q)]; exact I.base.free b o q n hb
  · have z := I.base.tups b xs q
    rw [upd_ne (neS b _ z)]; exact z
  · have z := I.base.frzs b o u q
    rw [upd_ne (neS b _ z)]; exact z
  · obtain ⟨m, z⟩ := I.base.tbls b ps q
    exact ⟨m, by rw [upd_ne (neS b _ z)]; exact z⟩
  · rw [upd_ne (Ne.symm nL)]; exact I.free
  · have nc : c ≠ a := fun z => by
      obtain ⟨v, o, ho, hc⟩ := I.cell x c q
      rw [z, e] at ho
      cases ho
      rw [hd] at hc
      cases hc
    rw [upd_ne nc]; exact I.freeC x c q
  · obtain ⟨p1, p2, p3⟩ := I.pin p hp
    exact ⟨p1, by rw [upd_ne (np p hp)]; exact p2, p3⟩
  · by_cases hb : b = a
    · subst hb
      rw [upd_same] at q
      cases q
      exact ⟨⟨oe, vs, e, hz, hd⟩, ⟨oe, e⟩, fun _ _ ⟨o, v, z, r⟩ k => ⟨o, v, k o z, r⟩⟩
    · rw [upd_ne hb] at q
      exact (I.hok b u q).stay (fun c v _ z => z) (fun c z => by rw [upd_ne (neS c _ z)]; exact z) fun c xs z => by rw [upd_ne (neS c _ z)]; exact z
end
/-- what 'except x as n: m = n' wishes of an exception of the body: slot i is n's, and what it's bound to is kept -/
def wKeep (K : PySem.W.Frag) (c : Value) (i : Nat) (ts : Addr → TS) (D : Ends) : WX := fun cls d σ H =>
  PySem.W.exmOne K cls c = some true ∧ ∀ a, H a = none → ts a { nx := fun σ' H' => D.nx (σ'.set i none) (upd H' a (CauO cls d a)), rt := fun _ _ => False, bk := fun _ _ => False, ct := fun _ _ => False } (σ.set i (some (.ref a))) H
section
variable {X : Cx} {x n : Str} {c : Value} {i : Nat} {body suite : List Stmt} {b₀ : Stmt} {np pos pos' : Pos} {tb : WX → TS} {ts : Addr → TS}
theorem ps_try_keep (hx : X.ex = []) (hs : X.stack = X.env :: X.outer) (hf : X.env.frame = some X.env.locals) (hN : X.N.Nodup) (hi : X.N[i]? = some n) (hln : X.env.kindOf n = some .local) (hc : Names X x c)
    (hb : ∀ (W : WX) (pn : List (Addr × Obj)) (xe : Value → Shared → Prop), Takes (X.tr pn xe) W → PassesOwn (model X.prog X.w) X.A X.env xe → PSs (X.tr pn xe) body (tb W))
    (hsu : ∀ (a : Addr) (pn : List (Addr × Obj)), PSs (X.suite a pn) (b₀ :: suite) (ts a)) :
    PS X (.Try body [.ExceptHandler (some (.Name x np)) (some n) (b₀ :: suite) pos'] [] [] pos) (fun D σ H => tb (wKeep X.K c i ts D) D σ H) := by
  refine ⟨fun pins s σ H D I h => ?_⟩
  have ok := I.ok
  have hfr : X.A.frames = some (X.env :: X.outer) := by rw [ok.frames, hs]
  refine wpAny_Try_except (wpAny_mono ((hb (wKeep X.K c i ts D) (X.pn ++ pins) _ (fun u s' xx => ?_) PassesOwn.looking).run [] s σ H D (I.toTry _) h) (fun f s1 hsp => ?_) (fun e s1 he => he))
  · obtain ⟨a, B, sI, pins', σ', H', cls, d, rfl, J', nb, up, sky, na, os, ag, hb1, hyes⟩ := xx
    have J : Inv X pins σ' H' sI := J'.ofTry ok
    rw [show X.stack = X.env :: X.outer from hs] at sky
    refine Sky.land Zc.steady hfr hf sky fun h3 fl3 up3 => ?_
    have J3 : Inv X pins σ' H' { s' with heap := h3 } := J.landed nb fl3.1 (up.trans up3) os ag
    obtain ⟨oe3, vs3, he3, hz3, hd3⟩ := fl3.there
    have nfr : a ∉ frs (X.env :: X.outer) := fun hm => by
      obtain ⟨_, o', e', hnf⟩ := fl3.2.2.1.mem hm
      rw [he3] at e'; cases e'
      exact hnf _ hd3
    have nL : a ≠ X.env.locals := fun z => nfr (List.mem_filterMap.mpr ⟨X.env, List.mem_cons_self, by rw [hf, z]⟩)
    have nF : a ∉ X.fs := fun hm => by
      obtain ⟨e, he, q⟩ := List.mem_filterMap.mp hm
      exact nfr (List.mem_filterMap.mpr ⟨e, List.mem_cons_of_mem _ he, q⟩)
    have nI : sI.heap.get? a = none := by
      cases q : sI.heap.get? a with
      | none => rfl
      | some o =>
        have z := nb a o q (by rw [hs]; exact nfr)
        rw [fl3.2.1] at z; cases z
    have n0 : X.s_0.heap.get? a = none := by
      cases q : X.s_0.heap.get? a with
      | none => rfl
      | some o =>
        obtain ⟨o', z⟩ := J.base.there a o q (by rw [hx]; exact fun z => nomatch z)
        rw [nI] at z; cases z
    have npin : ∀ p ∈ X.pn ++ pins, p.1 ≠ a := fun p hp z => by
      have q := (J.pin p hp).1
      rw [z, nI] at q; cases q
    have S3 := J3.suite he3 hd3 na nL nF
    refine wpAny_handleBy_cons (codeAny_handlers_test ?_) (by intro q; cases q)
    have LM := PySem.W.exm_one (M := model X.prog X.w) (J3.kIn) (fun A Q E s k q => wpAny_typeOf_ref (k _ _ he3) (by rw [hz3.1]; exact q)) hb1
    have test : ∀ {Q : Value → Shared → Prop} {E : Value → Shared → Prop}, Q c { s' with heap := h3 } → wpAny (model X.prog X.w) (X.A.mark (some (.ref a))) (eval (.Name x np) X.env) Q E { s' with heap := h3 } := fun {Q E} q => by
      obtain ⟨hg, hdbg, hm | ⟨hm, hv, hnn⟩⟩ := hc
      · exact ld_glob (X := X.suite a ((a, oe3) :: (X.pn ++ pins))) S3 hg hm q hdbg
      · exact ld_blt (X := X.suite a ((a, oe3) :: (X.pn ++ pins))) S3 hg hm hv q hnn hdbg
    refine test (LM.here (codeAny_handlers_suite_as (HandSPX.lands_againZ fl3 fun h4 fl4 up4 => ?_)))
    have J4 : Inv X pins σ' H' { s' with heap := h4 } := J.landed nb fl4.1 ((up.trans up3).trans up4) os ag
    obtain ⟨oe4, vs4, he4, hz4, hd4⟩ := fl4.there
    refine store_ok (X := X.suite a ((a, oe4) :: (X.pn ++ pins))) (v := .ref a) (J4.suite he4 hd4 na nL nF) hN hi (.inl hln) rfl (fun s5 S5 => ?_) (.inr hln)
    refine wpAny_mono ((hsu a ((a, oe4) :: (X.pn ++ pins))).run [] s5 _ H' _ S5 (hyes a na)) (fun f s6 hsp => ?_) (fun _ _ z => False.elim z)
    cases f with
    | next =>
      obtain ⟨σ6, H6, S6, q6⟩ := hsp
      obtain ⟨g1, g2, _⟩ := S6.pin (a, oe4) (List.mem_append.mpr (.inl List.mem_cons_self))
      exact gone_ok (keepIt (S6.unsuite ok) g1 hz4 hd4 g2 nL n0 npin) hN hi hln fun s7 J7 => ⟨_, _, J7, q6⟩
    | brk => obtain ⟨_, _, _, z⟩ := hsp; exact z.elim
    | cont => obtain ⟨_, _, _, z⟩ := hsp; exact z.elim
    | ret u => obtain ⟨_, _, _, _, _, z⟩ := hsp; exact z.elim
  · cases f with
    | next =>
      obtain ⟨σ', H', J', q⟩ := hsp
      exact wpAny_execs_nil ⟨σ', H', J'.ofTry ok, q⟩
    | brk =>
      obtain ⟨σ', H', J', q⟩ := hsp
      exact ⟨σ', H', J'.ofTry ok, q⟩
    | cont =>
      obtain ⟨σ', H', J', q⟩ := hsp
      exact ⟨σ', H', J'.ofTry ok, q⟩
    | ret u =>
      obtain ⟨v, σ', H', J', r, q⟩ := hsp
      exact ⟨v, σ', H', J'.ofTry ok, r, q⟩
end
/-- isinstance(e, c), isinstance(e, (c1, ..)) of a kept exception without a dict -/
def rIsK (K : PySem.W.Frag) : List V → Hp → VK → Prop := fun xs H Q => ∃ (a D : Addr) (c : V) (u : Value) (b : Bool), xs = [.ref a, c] ∧ H a = some (CauO (.ref D) none a) ∧ ExcC K D ∧ ClsV c u ∧ PySem.W.kitOne K (.ref D) u = some b ∧ Q (.bl b) H
def rIsKT (K : PySem.W.Frag) : List V → Hp → VK → Prop := fun xs H Q => ∃ (a D tp : Addr) (cs : List V) (us : List Value) (b : Bool), xs = [.ref a, .ref tp] ∧ H a = some (CauO (.ref D) none a) ∧ ExcC K D ∧ H tp = some (.tup cs) ∧ Paired ClsV cs us ∧ PySem.W.kitAny K (.ref D) us = some b ∧ Q (.bl b) H
theorem cau_inst {X : Cx} {pins : List (Addr × Obj)} {σ : L2.St} {H : Hp} {s : Shared} {a D : Addr} (I : Inv X pins σ H s) (h : H a = some (CauO (.ref D) none a)) : ∃ oe, PySem.W.InstAt s.heap a oe D none := by
  obtain ⟨⟨oe, vs, hget, hz, hv⟩, _, _⟩ := (show ObjOk X.prog X.w H s.heap a (CauO (.ref D) none a) from I.hok a _ h)
  obtain ⟨oc, od, oda, osl⟩ := oe
  obtain ⟨h1, h2⟩ := hz
  dsimp only at h1 h2 hv
  subst h1 h2 hv
  exact ⟨_, hget, rfl, rfl, trivial⟩
theorem kc_isK {X : Cx} {K : PySem.W.Frag} (hK : X.K = K := by rfl) : CallR X (.builtin "isinstance") (rIsK K) := by
  subst hK
  intro pins s σ H xs us Q I r h
  obtain ⟨a, D, c, u, b, rfl, hA, C, k, e, q⟩ := h
  obtain ⟨u1, u2, rfl, r1, r2⟩ := vals2 r
  have e2 := k.eq r2
  subst e2
  cases (show u1 = Value.ref a from r1)
  obtain ⟨oe, J⟩ := cau_inst I hA
  exact PySem.W.kia_one (PySem.W.handS_kitx_exc C.hg C.hk C.hs C.hd C.ha C.hn C.ht C.hm) I.kIn J e (fun z => nomatch z) fun tk => ⟨.bl b, H, I.tok tk, rfl, q⟩
theorem kc_isKT {X : Cx} {K : PySem.W.Frag} (hK : X.K = K := by rfl) : CallR X (.builtin "isinstance") (rIsKT K) := by
  subst hK
  intro pins s σ H xs us Q I r h
  obtain ⟨a, D, tp, cs, ws, b, rfl, hA, C, hT, k, e, q⟩ := h
  obtain ⟨u1, u2, rfl, r1, r2⟩ := vals2 r
  cases (show u2 = Value.ref tp from r2)
  cases (show u1 = Value.ref a from r1)
  obtain ⟨oe, J⟩ := cau_inst I hA
  obtain ⟨_, its, rv, o, h1, h2, n, h3⟩ := (show ObjOk X.prog X.w H s.heap tp (.tup cs) from I.hok tp _ hT)
  have e3 := ClsV.all k rv
  subst e3
  obtain ⟨oc, od, dt, sl⟩ := o
  simp only at h2 h3
  subst h2 h3
  exact PySem.W.kia_tup (PySem.W.handS_kitx_exc C.hg C.hk C.hs C.hd C.ha C.hn C.ht C.hm) I.kIn J h1 e (fun z => nomatch z) fun tk => ⟨.bl b, H, I.tok tk, rfl, q⟩
end Pot

/-! A kept exception that has a dict of its own: its class asked about, its fields read. -/
namespace Pot
open PySem PySem.Spec PyProof.Rows L2
section
variable {X : Cx} {pins : List (Addr × Obj)} {σ : L2.St} {H : Hp} {s : Shared} {a C dx : Addr} {fs : List (Str × V)}
theorem cauD_inst (I : Inv X pins σ H s) (h : H a = some (CauO (.ref C) (some dx) a)) (hd : H dx = some (.xd fs)) : ∃ oe od, PySem.W.InstAt s.heap a oe C (some od) ∧ s.heap.get? dx = some od := by
  obtain ⟨⟨oe, vs, hget, hz, hv⟩, _, _⟩ := (show ObjOk X.prog X.w H s.heap a (CauO (.ref C) (some dx) a) from I.hok a _ h)
  obtain ⟨mA, hns, hr⟩ := (show ObjOk X.prog X.w H s.heap dx (.xd fs) from I.hok dx _ hd)
  obtain ⟨od, ho, hl⟩ := lookIn_ns hns
  exact ⟨oe, od, ⟨hget, hz.1, by unfold PySem.W.notCls; rw [hv] <;> rfl, by rw [hz.2]; exact ho⟩, ho⟩
theorem exc_kit {K : PySem.W.Frag} {oe : Obj} {od : Option Obj} (E : ExcC K C) : PySem.W.KitX K (.ref a) (.ref C) (fun h => PySem.W.InstAt h a oe C od) := by
  obtain ⟨cd, hc, _⟩ := PySem.W.any_some E.hd
  exact PySem.W.kitx_exc (by rw [hc]; rfl) E.hg E.hk E.hs E.ha E.hn E.ht E.hm
end
/-- isinstance(e, c), isinstance(e, (c1, ..)) of a kept exception with a dict -/
def rIsD (K : PySem.W.Frag) : List V → Hp → VK → Prop := fun xs H Q => ∃ (a D dx : Addr) (fs : List (Str × V)) (c : V) (u : Value) (b : Bool), xs = [.ref a, c] ∧ H a = some (CauO (.ref D) (some dx) a) ∧ H dx = some (.xd fs) ∧ ExcC K D ∧ ClsV c u ∧ PySem.W.kitOne K (.ref D) u = some b ∧ Q (.bl b) H
def rIsDT (K : PySem.W.Frag) : List V → Hp → VK → Prop := fun xs H Q => ∃ (a D dx tp : Addr) (fs : List (Str × V)) (cs : List V) (us : List Value) (b : Bool), xs = [.ref a, .ref tp] ∧ H a = some (CauO (.ref D) (some dx) a) ∧ H dx = some (.xd fs) ∧ ExcC K D ∧ H tp = some (.tup cs) ∧ Paired ClsV cs us ∧ PySem.W.kitAny K (.ref D) us = some b ∧ Q (.bl b) H
theorem kc_isD {X : Cx} {K : PySem.W.Frag} (hK : X.K = K := by rfl) : CallR X (.builtin "isinstance") (rIsD K) := by
  subst hK
  intro pins s σ H xs us Q I r h
  obtain ⟨a, D, dx, fs, c, u, b, rfl, hA, hd, C, k, e, q⟩ := h
  obtain ⟨u1, u2, rfl, r1, r2⟩ := vals2 r
  have e2 := k.eq r2
  subst e2
  cases (show u1 = Value.ref a from r1)
  obtain ⟨oe, od, J, _⟩ := cauD_inst I hA hd
  exact PySem.W.kia_one (exc_kit C) I.kIn J e (fun z => nomatch z) fun tk => ⟨.bl b, H, I.tok tk, rfl, q⟩
theorem kc_isDT {X : Cx} {K : PySem.W.Frag} (hK : X.K = K := by rfl) : CallR X (.builtin "isinstance") (rIsDT K) := by
  subst hK
  intro pins s σ H xs us Q I r h
  obtain ⟨a, D, dx, tp, fs, cs, ws, b, rfl, hA, hd, C, hT, k, e, q⟩ := h
  obtain ⟨u1, u2, rfl, r1, r2⟩ := vals2 r
  cases (show u2 = Value.ref tp from r2)
  cases (show u1 = Value.ref a from r1)
  obtain ⟨oe, od, J, _⟩ := cauD_inst I hA hd
  obtain ⟨_, its, rv, o, h1, h2, n, h3⟩ := (show ObjOk X.prog X.w H s.heap tp (.tup cs) from I.hok tp _ hT)
  have e3 := ClsV.all k rv
  subst e3
  obtain ⟨oc, odd, dt, sl⟩ := o
  simp only at h2 h3
  subst h2 h3
  exact PySem.W.kia_tup (exc_kit C) I.kIn J h1 e (fun z => nomatch z) fun tk => ⟨.bl b, H, I.tok tk, rfl, q⟩
/-- e.f, e a kept exception of the class at C -/
def tKf (C : Addr) (f : Str) (te : TE) : TE := fun σ H Q => te σ H fun x H1 => ∃ (a dd : Addr) (fs : List (Str × V)) (v : V), x = .ref a ∧ H1 a = some (CauO (.ref C) (some dd) a) ∧ H1 dd = some (.xd fs) ∧ fs.lookup f = some v ∧ Q v H1
theorem pe_kf {X : Cx} {C : Addr} {e : Expr} {te : TE} {pos : Pos} {n : Str} (T : XfC X.K C) (hno : PySem.W.findIn X.K (.ref C) n = some none) (he : PE X e te) (hb : attributeBase e n X.env (eval e X.env) = eval e X.env := by rfl) :
    PE X (.Attribute e n pos) (tKf C n te) := by
  refine ⟨fun pins s σ H Q I h => attr_of hb (thn (he.run pins s σ H _ I h) fun u s1 hh => ?_)⟩
  obtain ⟨x, H1, I1, rx, a, dd, fs, v, ex, hA, hd, l, q⟩ := hh
  subst ex
  cases (show u = Value.ref a from rx)
  obtain ⟨⟨oe, vs, hget, hz, hv⟩, _, _⟩ := (show ObjOk X.prog X.w H1 s1.heap a (CauO (.ref C) (some dd) a) from I1.hok a _ hA)
  obtain ⟨mA, hns, hr⟩ := (show ObjOk X.prog X.w H1 s1.heap dd (.xd fs) from I1.hok dd _ hd)
  obtain ⟨od, ho, hl⟩ := lookIn_ns hns
  obtain ⟨w, hw, rw'⟩ := RelO.some_of (v := v) (o := mA n) (l ▸ hr n)
  have J : PySem.W.InstAt s1.heap a oe C (some od) := ⟨hget, hz.1, by unfold PySem.W.notCls; rw [hv] <;> rfl, by rw [hz.2]; exact ho⟩
  refine HandSPX.exc_get I1.kIn J T.ga T.gg T.exC (PySem.W.findObj_own T.hdC hno rfl ?_) (handed_of rw') ⟨v, H1, I1.tok _, rw', q⟩
  rw [hl, hw]
end Pot

/-! a method that may raise, what is raised being wished for at the caller's slots -/
namespace L2
open PySem PySem.Spec PyProof.Rows
/-- a method m of the class at C that may raise -/
structure OMetX (P : Program) (w : World) (K : PySem.W.Frag) (mg : Str → Option Value) (base : Heap) (k : Nat) (C : Addr) (m : Str) (sp : Sp) (dvs : List V) : Prop where
  parts : ∃ (g : Addr) (fd : FuncData) (ps : List Str) (ds : List Value), Cls K C ∧ Meth K C m g ∧ FnOk P w K mg base (L2.CX P w) k g fd ps sp ∧ Binds K fd ps ds ∧ Vals dvs ds
def tMethX (C : Addr) (m : Str) (sp : Sp) (dvs : List V) (E : L2.St → XK) (ta : TE) (t : TA) : TE := fun σ H Q => ta σ H fun x H1 => ∃ a dx fs, x = .ref a ∧ H1 a = some (.ins C dx fs) ∧ fs.lookup m = none ∧
  t σ H1 fun vs H2 => sp (x :: (vs ++ dvs)) H2 Q (E σ)
section
variable {X : Cx} {W : WX} {k j : Nat} {C : Addr} {m : Str} {sp : Sp} {dvs : List V} {p pos apos : Pos} {a o : Expr} {es : List Expr} {ta : TE} {t : TA}
theorem pe_omx {pl : Sem Bool} (c : OMetX X.prog X.w X.K X.mg X.base k C m sp dvs) (room : Room j X.A) (le : k ≤ j) (tk : Takes X W) (ho : PE X o ta) (args : PA X (a :: es) t)
    (star : starEach (a :: es) X.env = (false, eval a X.env) :: starEach es X.env := by rfl) (plain : (backTo pos (starEach es X.env)).any (·.1) = false := by rfl)
    (way : eval (.Call (.Attribute o m apos) (a :: es) [] pos) X.env = (do let ov ← eval o X.env; standAt apos.atName; let (g, first) ← holding [ov] (getMethod ov m pl); callWith pos g first (backTo pos (starEach (a :: es) X.env)) (backToKw pos (keywordEach [] X.env))) := by rfl) :
    PE X (.Call (.Attribute o m apos) (a :: es) [] pos) (tMethX C m sp dvs (WE W) ta t) := by
  obtain ⟨g, fd, ps, ds, hc, hm, F, b, v⟩ := c.parts
  refine ⟨fun pins s σ H Q I h => ?_⟩
  refine PySem.W.methodCall_KW (pl := pl) (thn (ho.run pins s σ H _ I h) fun u s1 ⟨x, H1, I1, rx, y, dx, fs, ex, ea, l, q⟩ => ?_) way
  subst ex
  obtain rfl : u = Value.ref y := rx
  refine getmeth_ok I1 ea hc hm l ?_
  refine PySem.W.callWith_K (first := [.ref y]) (h₀ := X.base) I.ok.mod.kin hm.kp (thn (args.run pos pins s1 σ H1 _ I1 q) fun us s2 ⟨vs, H2, I2, r, q2⟩ => ⟨I2.kIn, ?_⟩) star plain
  exact run_fnSD (us := .ref y :: us) (vs := .ref y :: vs) F (room.mono le) b v (passAt tk σ) I2 (.cons rfl r) q2
end
end L2

/-! a dict comprehension over what is walked -/
namespace L2
open PySem PySem.Spec PyProof.Rows
theorem dc_it {J : It} {many : Nat} {Gd : Hp → Prop} {Yd : Nat → Hp → V → Hp → Prop} (wk : Walk J many Gd Yd) {tgt : TG} {tst : TT} {kx vx : TE} {own : List Nat} {σ0 : L2.St} {Hs : Hp} {nw : Addr} {Fin : Hp → Prop}
    (Iv : Nat → Hp → Prop) (begin_ : Iv 0 (upd Hs nw (.dK []))) (keeps_ : ∀ j Hj, j ≤ many → Iv j Hj → Gd Hj)
    (turn : ∀ j y Hj Hk, j < many → Iv j Hj → Yd j Hj y Hk → tgt y (wipe σ0 own) Hk fun σt Ht => wipe σt own = wipe σ0 own ∧ tst σt Ht fun yes Hb =>
      if yes = true then kx σt Hb fun ky Hc => vx σt Hc fun vl Hd => ∃ kv k, ky = kV k ∧ Hd nw = some (.dK kv) ∧ kv.length < sizeLine ∧ Iv (j + 1) (upd Hd nw (.dK (putK kv k vl))) else Iv (j + 1) Hb) (end_ : ∀ He, Iv many He → Fin He) :
    ∃ W : Nat → Nat → Hp → Prop, (∃ c, W 0 c (upd Hs nw (.dK []))) ∧ ∀ j c Hj, W j c Hj →
      (J.stop j Hj ∧ Fin Hj) ∨ (J.go j Hj ∧ ∃ More : Hp → Prop, (∀ Hm, More Hm → ∃ c', c' < c ∧ W (j + 1) c' Hm) ∧ ∀ y Hk, J.yld j Hj y Hk → tgt y (wipe σ0 own) Hk fun σt Ht => wipe σt own = wipe σ0 own ∧ tst σt Ht fun yes Hb =>
        if yes = true then kx σt Hb fun ky Hc => vx σt Hc fun vl Hd => ∃ kv k, ky = kV k ∧ Hd nw = some (.dK kv) ∧ kv.length < sizeLine ∧ More (upd Hd nw (.dK (putK kv k vl))) else More Hb) := by
  refine ⟨fun j c Hj => c + j = many ∧ Iv j Hj, ⟨many, Nat.add_zero _, begin_⟩, ?_⟩
  rintro j c Hj ⟨ec, iv⟩
  have gd := keeps_ j Hj (by omega) iv
  rcases Nat.lt_or_ge j many with less | over
  · exact .inr ⟨wk.goes j Hj less gd, Iv (j + 1), fun Hm im => ⟨c - 1, by omega, by omega, im⟩, fun y Hk yk => turn j y Hj Hk less iv (wk.yields j Hj y Hk less gd yk)⟩
  · obtain rfl : j = many := by omega
    exact .inl ⟨wk.stops Hj gd, end_ Hj iv⟩
end L2

/-! sorted of rows that are told apart by parts that can be compared: the very list that comes of it -/
namespace Pot
open PySem PySem.Spec PyProof.Rows L2
open PySem.Calls
open PySem.W (sortingHeap copyHeap sortLe alike alikeAll keyToks keyToksAll dataLt dataKind SortsAt sortVals EachIs)
section
variable {X : Cx} {K : PySem.W.Frag}
def rSortedM (K : PySem.W.Frag) : List V → Hp → VK → Prop := fun vs H Q => ∃ (a : Addr) (xs : List V) (ds : List PyData), vs = [V.ref a] ∧ SqL K H a xs ∧ DpAll K H xs ds ∧ RowsCmp ds ∧ (∀ d ∈ ds, d.depth ≤ 60) ∧
  ∀ (zs : List V) (p : Addr), DpAll K H zs (ds.mergeSort (PySem.W.dataLe false fun d => d)) → H p = none → Q (.ref p) (upd H p (.lst zs))
theorem cr_sortedM (hu : X.A.units + 70 < cLine) : CallR X (.builtin "sorted") (rSortedM X.K) := by
  intro pins s σ H vs0 us0 Q I r h
  obtain ⟨a, xs, ds, rfl, hs, da, W, dep, q⟩ := h
  obtain ⟨its, rv, hl, hz⟩ := I.list hs
  rw [Vals.ref1 r]
  have da' : DpAll X.K H xs (ds.map fun d => d) := by rw [List.map_id']; exact da
  obtain ⟨e, er⟩ := each_dp (enc := fun d : PyData => d) I rv da'
  have ln : its.length ≤ sizeLine := by rw [← rv.length]; exact hz
  have er' : EachIs (fun v d => ∃ as, Reads (sortingHeap (copyHeap s.heap its) (s.heap.objs.size + 1) its) v d as) its ds := er.mono fun _ _ ⟨as, r⟩ => ⟨as, PyProof.Rows.Reads.keeps (fun _ _ => PySem.W.sorting_copy_old) r⟩
  have S := sorts_rows (prog := X.prog) (w := X.w) (A := X.A.in1.in1) (s := { s with heap := sortingHeap (copyHeap s.heap its) (s.heap.objs.size + 1) its }) er' W (fun d hd => by have := dep d hd; simp only [Around.in1]; omega)
  refine PySem.W.sorted_vals hl.isList S ln ?_
  have hk : EachIs (fun v d => (dataKind (sortingHeap (copyHeap s.heap its) (s.heap.objs.size + 1) its) ds).keyOf v = some (keyToks d)) its ds := by
    have key : ∀ {vs : List Value} {ls : List PyData}, EachIs (fun v d => ∃ as, Reads (sortingHeap (copyHeap s.heap its) (s.heap.objs.size + 1) its) v d as) vs ls → (∀ d ∈ ls, d ∈ ds) → EachIs (fun v d => (dataKind (sortingHeap (copyHeap s.heap its) (s.heap.objs.size + 1) its) ds).keyOf v = some (keyToks d)) vs ls := by
      intro vs ls h
      induction h with
      | nil => intro _; exact .nil
      | cons h t ih =>
        intro m
        obtain ⟨as, r⟩ := h
        exact .cons (key_of (m _ List.mem_cons_self) r) (ih fun d hd => m d (List.mem_cons_of_mem _ hd))
    exact key er' fun _ h => h
  have eo := PySem.W.sortVals_each (κ := dataKind (sortingHeap (copyHeap s.heap its) (s.heap.objs.size + 1) its) ds) (rev := false) (fun d : PyData => keyToks d) e hk
  have lo := PySem.W.sortVals_length (κ := dataKind (sortingHeap (copyHeap s.heap its) (s.heap.objs.size + 1) its) ds) false (ks := its) (vs := its) rfl
  generalize sortVals (dataKind (sortingHeap (copyHeap s.heap its) (s.heap.objs.size + 1) its) ds) false its its = out at eo lo ⊢
  obtain ⟨zs, rz, dz⟩ := dp_each eo
  rw [List.map_id'] at dz
  obtain ⟨ep, hat⟩ := PyProof.Rows.sortedAll_at s.heap its out.toArray
  exact ⟨.ref (s.heap.objs.size + 1), upd H (s.heap.objs.size + 1) (.lst zs), I.laid (t' := s.toks) (fun _ _ => PyProof.Rows.sortedAll_old) (Nat.le_succ _) ⟨by rw [rz.length, lo]; exact ln, out, ep, rz, hat⟩, rfl, q _ _ dz (I.hok.fresh (Nat.le_succ _))⟩
theorem kc_sortedM (hu : X.A.units + 70 < cLine) (h : X.K = K := by rfl) : CallR X (.builtin "sorted") (rSortedM K) := h ▸ cr_sortedM hu
end
end Pot

namespace Pot
open L2 PySem PySem.Spec PyProof.Rows
/-! ### xs.extend(ys), ys any list that is to be read -/
def rExtL (K : PySem.W.Frag) : V → List V → Hp → VK → Prop := fun x vs H Q => ∃ (l b : Addr) (xs zs : List V), x = .ref l ∧ vs = [.ref b] ∧ H l = some (.lst xs) ∧ SqL K H b zs ∧ xs.length + zs.length ≤ sizeLine ∧ Q .non (upd H l (.lst (xs ++ zs)))
theorem ext_any (l b : Addr) (us ws : Array Value) (n m : Nat) (sl : Array (Option Value)) (c0 : ¬(!us.isEmpty && Builtin.List.listTooLong (us.size + ws.size)) = true) (c1 : us.size ≤ sizeLine) (c2 : us.size + ws.size ≤ sizeLine + 1) :
    Meets (Builtin.«list.extend» ⟨[.ref l, .ref b], []⟩) (fun _ R s => s.heap.get? l = some { cls := .type "list", dict := none, data := .seq us n, slots := #[] } ∧ s.heap.get? b = some { cls := .type "list", dict := none, data := .seq ws m, slots := sl } ∧ R (.ok (.ret Value.none)) { s with heap := s.heap.update l (Obj.mapSeq fun x => x ++ ws), toks := s.toks }) :=
  .of_wp fun pr wo A R s h => by
    obtain ⟨hp0, gn0, dr0, tk0, os0⟩ := s
    obtain ⟨h1, h2, h⟩ := h
    have e1 := AutoSeq1.idx_int
    have e2 := AutoSeq1.sub_tuple_tuple
    have e3 := AutoSeq1.sub_list_list
    have e4 := AutoSeq1.sub_tuple_list
    have e5 := AutoSeq1.sub_list_tuple
    have sz : (us ++ ws).size ≤ sizeLine + 1 := by rw [Array.size_append]; exact c2
    wp_walk using (wpAny_updateSeq h1 rfl (hz := c1) (_hz' := sz)), AutoSeq1.wpAny_loadPart' h1, AutoSeq1.wpAny_loadPart' h2
    exact ⟨_, rfl, h⟩
section
variable {X : Cx} {K : PySem.W.Frag}
theorem mt_extL (h : X.K = K := by rfl) : MtM X "list.extend" (rExtL K) := by
  subst h
  intro pn0 s sg0 H x vs v us Q I rx rv hyp
  obtain ⟨l, b, xs, zs, rfl, rfl, inH, inB, lens, q⟩ := hyp
  cases rx
  obtain ⟨u, rfl, ru⟩ := rv.one
  cases ru
  obtain ⟨z, its, n, r, ln1, e⟩ := I.lstM inH
  obtain ⟨its2, r2, ⟨o2, n2, e2, k1, k2, k3⟩, hl2⟩ := I.list inB
  have l2 := r2.length
  obtain ⟨cl, di, da, sl⟩ := o2
  have k1 : cl = .type "list" := k1
  have k2 : di = none := k2
  have k3 : da = .seq its2.toArray n2 := k3
  subst k1 k2 k3
  have size : its.toArray.size + its2.toArray.size ≤ sizeLine := by simp only [List.size_toArray]; omega
  have short : ¬ (!its.toArray.isEmpty && Builtin.List.listTooLong (its.toArray.size + its2.toArray.size)) = true := fun w => by
    rw [notLongL size, Bool.and_false] at w
    cases w
  refine call_meets F.slot_list_extend ⟨_, e, rfl⟩ F.entry_list_extend (F.args_list_extend_2 _ _) (ext_any l b its.toArray its2.toArray n n2 sl short (by simp only [List.size_toArray]; omega) (Nat.le_succ_of_le size)) ⟨e, e2, ?_⟩
  refine ⟨V.non, _, I.lset (its' := its ++ its2) inH e (by simp) (r.append r2) ?_, rfl, q⟩
  simp only [List.length_append]
  omega
end
end Pot

namespace Pot
open PySem PySem.Spec PyProof.Rows L2
/-- sum of a tuple of numbers -/
def rSumT (K : PySem.W.Frag) : List V → Hp → VK → Prop := fun vs H Q => ∃ (a : Addr) (ns : List Int), vs = [V.ref a] ∧ SqT K H a (ns.map V.int) ∧ Q (.int ns.sum) H
theorem kc_sumT {X : Cx} {K : PySem.W.Frag} (hc : X.calm = true := by rfl) (h : X.K = K := by rfl) : CallR X (.builtin "sum") (rSumT K) := by
  subst h
  intro pins s σ H vs us Q I r z
  obtain ⟨a, ns, rfl, hs, q⟩ := z
  obtain ⟨its, rv, hl, _⟩ := I.tuple hs
  rw [Vals.ref1 r]
  have hi := rv.ints
  obtain ⟨xs, hx⟩ := hi.allInts.items
  have hn : numsOf its.toArray.toList = ns := by rw [show its.toArray.toList = its from rfl, hi.numsOf]
  have hl : s.heap.IsTuple a its.toArray := hl
  rw [hx] at hl hn
  rw [nums_intItems] at hn
  refine PySem.W.ktm_sumG (I.ok.hd hc) hl fun h' tk t' hk => ?_
  rw [preSum_eq, List.take_of_length_le (by simp), hn]
  exact ⟨.int _, H, I.kept hk, ⟨_, rfl⟩, q⟩
/-- four by names: the last, the third, the first, the second -/
def mix4 {α : Type} : List α → List α → List α
  | [], [a, b, c, d] => [c, d, b, a]
  | _, _ => []
theorem kb_mix4 {K : PySem.W.Frag} {x qual : Str} {st : Stmt} {f : Addr} {fd : FuncData} {k1 k2 k3 k4 : Str} (F : Fun K x qual st f fd)
    (h : ∀ (kV doc pm : Value) (an : Option Addr) (cdv ct a b c d : Value), bindArgs (PySem.W.fnOf x qual (defArgs st) (defBody st) (defScope st) .none kV doc pm an cdv ct) ⟨[], [(k4, a), (k3, b), (k1, c), (k2, d)]⟩ = pure [(k1, c), (k2, d), (k3, b), (k4, a)]) : KBinds K fd [k1, k2, k3, k4] [k4, k3, k1, k2] mix4 mix4 := by
  obtain ⟨oc, od, kV, doc, pm, an, cdv, ct, osl, rfl, lk, hcd⟩ := F.ex
  refine ⟨fun s us ws _ hl => ?_, fun {vs us zs ws} r rz => ?_⟩
  · match us, ws, hl with
    | [], [a, b, c, d], _ => exact .of_eq (h kV doc pm an cdv ct a b c d)
    | [], [], hl => cases hl
    | [], [_], hl => cases hl
    | [], [_, _], hl => cases hl
    | [], [_, _, _], hl => cases hl
    | [], _ :: _ :: _ :: _ :: _ :: _, hl => cases hl
    | _ :: _, _, hl => cases hl
  · cases r with
    | nil =>
      cases rz with
      | nil => exact .nil
      | cons a rz =>
        cases rz with
        | nil => exact .nil
        | cons b rz =>
          cases rz with
          | nil => exact .nil
          | cons c rz =>
            cases rz with
            | nil => exact .nil
            | cons d rz =>
              cases rz with
              | nil => exact .cons c (.cons d (.cons b (.cons a .nil)))
              | cons _ _ => exact .nil
    | cons _ _ => exact .nil
end Pot

namespace Pot
open PySem PySem.Spec PyProof.Rows L2
/-! ### None in d.values(), where all values are numbers -/
theorem vals_contains : typeLookup (.type "dict_values") "__contains__" = pure none := by rw [typeLookup_type, builtinLookup_eq_fast]; kernel_rfl
theorem plain_ci : plainId "proto.contains_iter" = true := by decide +kernel
theorem entry_ci : entryFor table "proto.contains_iter" = some Builtin.«proto.contains_iter» := entryFor_of_fast (by kernel_rfl)
theorem contains_walk {prog : Program} {w : World} {A : Around} {I : Addr} {fp wr : List Addr} {n : Nat} {P : Nat → Value → Prop} {St : Nat → Heap → Prop} (W : Walks prog w A.in1 I fp wr n P St) {x : Value}
    (no : ∀ (i : Nat) (v : Value) (s : Shared), P i v → SeqAt.EqAt A.in1 s v x false) {R : Result → Shared → Prop} : ∀ (r i : Nat) (s : Shared), i + r = n → St i s.heap →
    (∀ h' tk, (∀ b o, b ∉ wr → s.heap.get? b = some o → h'.get? b = some o) → R (.ok (.ret (.bool false))) { s with heap := h', toks := tk }) → codeAny (model prog w) A (.builtin "proto.contains_iter" ⟨[.ref I, x], []⟩) R s
  | 0, i, s, hr, st, hR => by
    obtain rfl : i = n := by omega
    refine codeAny_builtin entry_ci ?_
    rw [Around.under_plainId plain_ci _]
    show wpAny _ A.in1 (pyNext (.ref I) >>= _) _ _ _
    refine wpAny_bind (W.done s _ _ st fun h' tk k => ?_)
    show wpAny _ A.in1 (rule _ >>= _) _ _ _
    refine wpAny_bind (wpAny_rule ?_)
    exact wpAny_pure (hR h' tk k)
  | r + 1, i, s, hr, st, hR => by
    refine codeAny_builtin entry_ci ?_
    rw [Around.under_plainId plain_ci _]
    show wpAny _ A.in1 (pyNext (.ref I) >>= _) _ _ _
    refine wpAny_bind (W.item i s _ _ (by omega) st fun v h' tk pv st' k => ?_)
    show wpAny _ A.in1 (eqBool v x >>= _) _ _ _
    refine wpAny_bind (no i v _ pv prog w _ _ ?_)
    show wpAny _ A.in1 (again _) _ _ _
    refine wpAny_pure ⟨plainId_quiet plain_ci _, contains_walk W no r (i + 1) _ (by omega) st' fun h2 tk2 k2 => ?_⟩
    exact hR h2 tk2 fun b o hb q => k2 b o hb (k b o hb q)
def rValsK : V → List V → Hp → VK → Prop := fun x xs H Q => ∃ (a : Addr) (kvs : List (Key × V)), x = .ref a ∧ xs = [] ∧ H a = some (.dK kvs) ∧ ∀ p, H p = none → Q (.ref p) (upd H p (viewO "dict_values" p a))
def rInVals : R2 := fun x y H Q => ∃ (p a : Addr) (kvs : List (Key × V)) (ns : List Int), x = .non ∧ y = .ref p ∧ H p = some (viewO "dict_values" p a) ∧ H a = some (.dK kvs) ∧ kvs.map Prod.snd = ns.map V.int ∧ Q (.bl false) H
section
variable {X : Cx}
theorem mt_valuesK : MtR X "dict.values" rValsK := by
  intro pins s σ H x xs v us Q I rx rxs h
  obtain ⟨a, kvs, rfl, rfl, at_, q⟩ := h
  cases rx
  cases rxs
  obtain ⟨_, sys, vs, _, dd⟩ := dk_of I.hok at_
  obtain ⟨o, es, ep, lies, c1, c2, _⟩ := id dd
  refine call_meetsIn PySem.F.slot_dict_values dd.typeIs PySem.F.entry_dict_values (PySem.F.args_dict_values_1 _) (meets_dict_values_raw a sys) ⟨⟨es, ep, o, lies, c1, c2⟩, ?_⟩
  exact ⟨.ref s.heap.objs.size, _, I.laid (t' := s.toks) (fun _ _ z => Heap.get?_push_of_some _ z) (Nat.le_refl _) (viewO_ok (Heap.get?_push_size _ rfl)), rfl, q _ (I.hok.fresh (Nat.le_refl _))⟩
theorem pairs_vals {P : Program} {w : World} : ∀ {es : List DictEntry} {vs : List (Key × Value)} {kvs : List (Key × V)} {ns : List Int}, Pairs (mixKind P w) es vs → KV kvs vs → kvs.map Prod.snd = ns.map V.int → ∀ e ∈ es, ∃ i t, e.val = .int i t
  | _, _, _, _, .nil, _, _ => fun e he => absurd he List.not_mem_nil
  | e0 :: es, _ :: vs, kv :: kvs, [], _, _, h => by cases h
  | e0 :: es, _ :: vs, [], _, _, k, _ => by cases k
  | e0 :: es, y :: vs, kv :: kvs, n :: ns, .cons _ ev t, .cons f k, h => fun e he => by
    rw [List.map_cons, List.map_cons] at h
    obtain ⟨h1, h2⟩ := List.cons.inj h
    rcases List.mem_cons.mp he with rfl | he
    · have r := f.2
      rw [h1] at r
      obtain ⟨t2, e2⟩ := r
      exact ⟨n, t2, ev.trans e2⟩
    · exact pairs_vals t k h2 e he
theorem op_inVals (hc : X.calm = true) : OpR X (compareOp .In) rInVals := by
  intro pins s σ H x y v u Q I rx ry h
  obtain ⟨p, a, kvs, ns, rfl, rfl, view, at_, vals, q⟩ := h
  cases rx
  cases ry
  have hv : s.heap.get? p = some (DSub.viewOb "dict_values" a) := (show ObjOk X.prog X.w H s.heap p (viewO "dict_values" p a) from I.hok p _ view).1
  obtain ⟨_, sys, vs, kv, dd⟩ := dk_of I.hok at_
  obtain ⟨o, es, ep, lies, c1, c2, c3, c4, c5⟩ := id dd
  have hT : s.TypeIs (.ref p) "dict_values" := ⟨_, hv, rfl⟩
  have la : a < s.heap.objs.size := Heap.lt_size lies
  have pv := pairs_vals c4 kv vals
  show wpAny _ _ (contains (.ref p) .none >>= fun b => pure (Value.bool b)) _ _ s
  unfold contains
  refine wpAny_bind (wpAny_holding ?_)
  rw [stdlibNamesSay?_of_typeIs hT]
  refine wpAny_bind (wpAny_specialOf hT vals_contains ?_)
  show wpAny _ _ (if ((none : Option Value) == some Value.none) = true then _ else _) _ _ s
  rw [if_neg (by decide)]
  refine wpAny_bind (wpAny_callSpecialUnlessNone?_none hT vals_contains ?_)
  show wpAny _ _ (rule _ >>= _) _ _ _
  refine wpAny_bind (wpAny_rule ?_)
  refine wpAny_bind (wpAny_tryCatch (DSub.iter_vals hv lies c2 ?_))
  refine wpAny_bind (wpAny_runValue ?_)
  refine contains_walk (DSub.walksVal (a := a) (show X.A.in1.handled = none from I.ok.hd hc) (Nat.ne_of_lt la) c2 (P := fun _ v => ∃ i t, v = Value.int i t) (fun i e g => ?_)) (fun i v s2 hv2 => ?_) es.size 0 _ (Nat.zero_add _) ⟨Heap.get?_push_size _ rfl, Heap.get?_push_of_some _ lies⟩ (fun h2 tk keep => ?_)
  · have m : e ∈ es.toList := by
      rw [← Array.getElem?_toList] at g
      exact List.mem_of_getElem? g
    exact pv e m
  · obtain ⟨n, t, rfl⟩ := hv2
    exact SeqAt.EqAt.int_none n t
  · refine wpAny_pure (wpAny_pure ⟨.bl false, H, I.kept (t' := tk) fun b u g => keep b u (fun m => ?_) (Heap.get?_push_of_some _ g), rfl, q⟩)
    rw [List.mem_singleton.mp m] at g
    exact absurd (Heap.lt_size g) (Nat.lt_irrefl _)
theorem ko_inVals (hc : X.calm = true := by rfl) : OpR X (compareOp .In) rInVals := op_inVals hc
end
end Pot

namespace Pot
open PySem PySem.Spec PyProof.Rows L2
def topS (i : Nat) : Stmt := PySem.Challenge.pw_potround_k85_whole_each_piece_through_th.main.body.getD i (.Pass ⟨0, 0, 0, 0⟩)
section
variable {P : Program} {w : World} {K : PySem.W.Frag} {mg : Str → Option Value} {base : Heap}
abbrev s__law_take : Stmt := topS 22
def n__law_take : List Str := ["_law_state", "_law_many", "_law_digit", "_law_low", "_law_high", "_law_turn", "_law_once", "_law_twice"]
theorem sc__law_take : FnScope n__law_take ["_law_state", "_law_many"] (defScope s__law_take) := ⟨rfl, rfl, rfl, by decide +kernel, rfl, by decide +kernel, by decide +kernel⟩
/-! ### _law_take -/
def spTake : Sp := fun vs H Q _ => ∃ (b : Addr) (m : Int) (n : Nat), vs = [.ref b, .int m] ∧ 0 < m ∧ m < 1073741824 ∧ Bq H b n ∧ n < 2 ^ 40 ∧
  ∀ H' r, 0 ≤ r → r < m → Bq H' b (n + 1) → Sm [b] H H' → Q (.int r) H'
theorem ok_take {f : Addr} {fd : FuncData} {k : Nat} (F : Fun K "_law_take" "_law_take" s__law_take f fd) (T : Txt mg) :
    FnOk P w K mg base CX0 (k + 1) f fd ["_law_state", "_law_many"] spTake := by
  refine F.ok sc__law_take (fun vs H Q E h => ?_) (fun cdv A outer s H vs Q E hr h => ?_)
  · obtain ⟨b, m, n, rfl, _⟩ := h
    rfl
  · obtain ⟨b, m, n, rfl, hm0, hm1, ⟨x, y, z, B, z0, zn⟩, hn, q⟩ := h
    have nd := sc__law_take.nd
    refine ⟨_, (pss_cons (ps_if (pt_cmpR op_gt (pe_ix (kx_list (K := K)) (pv 0) pe_int (fun _ _ => rfl)) pe_int (nomark _))
          (pss_cons (ps_asg (pe_callB call_divmod (by rfl) T.divmod (by decide +kernel) (pa_cons (pe_ix (kx_list (K := K)) (pv 0) pe_int (fun _ _ => rfl)) (pa_cons (pv 1) pa_nil))) (kg_tup (K := K) (n := 2) (pgs_cons (pg_sub (pv 0) pe_int set_list) (pgs_cons (pg_name (i := 2) nd rfl (.inl rfl)) pgs_nil))))
          (pss_one (ps_ret (pv 2))))
          pss_nil)
      (pss_cons (ps_asg (pe_op op_add (pe_ix (kx_list (K := K)) (pv 0) pe_int (fun _ _ => rfl)) pe_int) (pg_sub (pv 0) pe_int set_list))
      (pss_cons (ps_par3 (i := 3) (j := 4) (l := 5) rfl nd rfl rfl rfl (by decide) (by decide) (by decide) rfl rfl rfl (pa_cons (pe_op op_mod (pe_ix (kx_list (K := K)) (pv 0) pe_int (fun _ _ => rfl)) pe_int) (pa_cons (pe_op op_fdivW (pe_ix (kx_list (K := K)) (pv 0) pe_int (fun _ _ => rfl)) pe_int) (pa_cons (pe_ix (kx_list (K := K)) (pv 0) pe_int (fun _ _ => rfl)) pa_nil))) rfl)
      (pss_cons (ps_set (i := 6) nd rfl (.inl rfl) (pe_op op_mod (pe_op op_mul (pe_op op_add (pe_op op_add (pv 3) (pe_op op_mul (pe_op op_mul (pv 5) (pv 5)) pe_int)) pe_int) pe_int) pe_int))
      (pss_cons (ps_set (i := 7) nd rfl (.inl rfl) (pe_op op_mod (pe_op op_add (pe_op op_add (pe_op op_mul (pv 6) (pe_op op_add (pe_op op_mod (pv 6) pe_int) pe_int)) (pv 4)) (pv 5)) pe_int))
      (pss_one (ps_ret (pe_op op_mod (pe_op op_fdiv (pe_op op_mod (pe_op op_add (pe_op op_mul (pv 7) pe_int) (pv 6)) pe_int) pe_int) (pv 1))))))))), ?_⟩
    refine ⟨_, rfl, b, _, 0, .int x, rfl, rfl, SqL.of B, rfl, _, _, rfl, rfl, _, rfl, ite2 (fun hb => ?_) (fun hb => ?_)⟩
    · refine ⟨_, rfl, b, _, 0, .int x, rfl, rfl, SqL.of B, rfl, _, rfl, _, _, rfl, ⟨hm0, hm1⟩, fun p np => ?_⟩
      have nb : b ≠ p := ne_of_none B np
      have B1 : upd H p (.tup [.int (x / m), .int (x % m)]) b = some (.lst [.int x, .int y, .int z]) := by rw [upd_ne nb]; exact B
      refine ⟨p, _, rfl, .inl (.inl upd_same), rfl, _, _, rfl, _, rfl, b, _, 0, 0, rfl, rfl, B1, rfl, ?_⟩
      refine ⟨_, _, rfl, rfl, _, rfl, ?_⟩
      exact q _ _ (Int.emod_nonneg _ (by omega)) (Int.emod_lt_of_pos _ hm0) ⟨_, _, _, upd_same, z0, by omega⟩ ((sm_put np).trans (sm_wr List.mem_cons_self))
    · refine ⟨_, rfl, b, _, 2, .int z, rfl, rfl, SqL.of B, rfl, _, _, rfl, rfl, _, rfl, b, _, 2, 2, rfl, rfl, B, rfl, ?_⟩
      have B2 : upd H b (.lst [.int x, .int y, .int (z + 1)]) b = some (.lst [.int x, .int y, .int (z + 1)]) := upd_same
      have s2 : Sm [b] H (upd H b (.lst [.int x, .int y, .int (z + 1)])) := sm_wr List.mem_cons_self
      show tSeq _ _ _ _ (upd H b (.lst [.int x, .int y, .int (z + 1)]))
      generalize upd H b (.lst [.int x, .int y, .int (z + 1)]) = H2 at B2 s2 ⊢
      have t2 : z + 1 < 2 ^ 41 := by omega
      refine ⟨_, rfl, b, _, 1, .int y, rfl, rfl, SqL.of B2, rfl, _, _, rfl, rfl, (by show (0 : Int) < 2147483629; decide), ?_⟩
      refine ⟨_, rfl, b, _, 1, .int y, rfl, rfl, SqL.of B2, rfl, _, _, rfl, rfl, CDivW.of (by decide) (by decide), ?_⟩
      refine ⟨_, rfl, b, _, 2, .int (z + 1), rfl, rfl, SqL.of B2, rfl, _, _, _, rfl, ?_⟩
      refine ⟨_, rfl, _, rfl, _, rfl, _, _, rfl, rfl, .inl ⟨by omega, by omega⟩, _, _, rfl, rfl, .inr ⟨by decide, by decide⟩, _, _, rfl, rfl, _, _, rfl, rfl, _, _, rfl, rfl, .inr ⟨by decide, by decide⟩, _, _, rfl, rfl, (by show (0 : Int) < 2147483647; decide), ?_⟩
      refine ⟨_, rfl, _, rfl, _, _, rfl, rfl, (by show (0 : Int) < 30011; decide), _, _, rfl, rfl, _, _, rfl, rfl, cmul_mod _ _ (by decide) (by decide), _, rfl, _, _, rfl, rfl, _, rfl, _, _, rfl, rfl, _, _, rfl, rfl, (by show (0 : Int) < 2147483587; decide), ?_⟩
      refine ⟨_, rfl, _, _, rfl, rfl, .inr ⟨by decide, by decide⟩, _, rfl, _, _, rfl, rfl, _, _, rfl, rfl, (by show (0 : Int) < 2147483629; decide), _, _, rfl, rfl, ⟨by decide, by decide⟩, _, rfl, _, _, rfl, rfl, hm0, ?_⟩
      exact q _ _ (Int.emod_nonneg _ (by omega)) (Int.emod_lt_of_pos _ hm0) ⟨_, _, _, B2, by omega, by omega⟩ s2

abbrev s__law_begin : Stmt := topS 21
def n__law_begin : List Str := ["_law_script", "_law_k", "_law_cell"]
theorem sc__law_begin : FnScope n__law_begin ["_law_script", "_law_k"] (defScope s__law_begin) := ⟨rfl, rfl, rfl, by decide +kernel, rfl, by decide +kernel, by decide +kernel⟩
/-! ### _law_begin -/
def spBegin (K : PySem.W.Frag) : Sp := fun vs H Q _ => ∃ (a : Addr) (ns : List Int) (k : Nat), vs = [.ref a, .int (k : Nat)] ∧ SqL K H a (ns.map V.int) ∧ k ≤ 63 ∧ ∀ H' b, Same H H' → Bq H' b 0 → H b = none → Q (.ref b) H'
theorem ok_begin {f : Addr} {fd : FuncData} {k : Nat} (F : Fun K "_law_begin" "_law_begin" s__law_begin f fd) (T : Txt mg) : FnOk P w K mg base CX0 (k + 1) f fd ["_law_script", "_law_k"] (spBegin K) := by
  refine F.ok sc__law_begin (fun vs H Q E h => ?_) (fun cdv A outer s H vs Q E hr h => ?_)
  · obtain ⟨a, ns, k, rfl, _⟩ := h
    rfl
  · obtain ⟨a, ns, k, rfl, hS, h63, q⟩ := h
    have nd := sc__law_begin.nd
    refine ⟨_, (pss_cons (ps_set (i := 2) nd rfl (.inl rfl) (pe_ifExp (pt_cmpR op_lt (pv 1) (pe_callB (kc_len (K := K)) (by rfl) T.len PySem.boot_len (pa_cons (pv 0) pa_nil)) (nomark _)) (pe_ix (kx_list (K := K)) (pv 0) (pv 1) (fun _ _ => rfl)) pe_int))
      (pss_one (ps_ret (pe_lst (pa_cons (pe_op op_mul (pe_callB call_abs (by rfl) T.abs (by decide +kernel) (pa_cons (pv 2) pa_nil)) (pe_callTy call_int1 (by rfl) T.int (by decide +kernel) (pa_cons (pe_cmpR op_ge (pe_callB call_abs (by rfl) T.abs (by decide +kernel) (pa_cons (pv 2) pa_nil)) (pe_op op_pow pe_int pe_int) (nomark _)) pa_nil))) (pa_cons (pe_op op_add (pe_op op_add (pe_op op_mod (pe_callB call_abs (by rfl) T.abs (by decide +kernel) (pa_cons (pv 2) pa_nil)) (pe_op op_pow pe_int pe_int)) (pe_op op_mul pe_int (pv 1))) (pe_callTy call_int1 (by rfl) T.int (by decide +kernel) (pa_cons (pe_cmpR op_lt (pv 2) pe_int (nomark _)) pa_nil))) (pa_cons pe_int pa_nil))))))), ?_⟩
    refine ⟨_, rfl, _, rfl, _, _, rfl, .inl ⟨_, hS, rfl⟩, _, _, rfl, rfl, _, rfl, ite2 (fun hb => ?_) (fun hb => ?_)⟩
    · have hk : k < ns.length := by have := of_decide_eq_true hb; rw [List.length_map] at this; omega
      refine ⟨_, rfl, _, rfl, a, _, _, _, rfl, rfl, hS, atI_nat (by rw [List.getElem?_map, List.getElem?_eq_getElem hk]; rfl), ?_⟩
      refine ⟨_, rfl, _, rfl, _, rfl, _, rfl, _, _, rfl, rfl, ⟨by decide, by decide, by decide⟩, _, _, rfl, rfl, .inr ⟨_, rfl, _, _, rfl, rfl, .inr (b01 _), ?_⟩⟩
      refine ⟨_, rfl, _, rfl, _, _, rfl, rfl, ⟨by decide, by decide, by decide⟩, _, _, rfl, rfl, (by show (0 : Int) < 10 ^ 40; decide), _, rfl, _, _, rfl, rfl, .inl ⟨by decide, by decide⟩, _, _, rfl, rfl, _, rfl, _, _, rfl, rfl, .inr ⟨_, rfl, _, _, rfl, rfl, (by show 3 ≤ sizeLine; decide), fun p np => ?_⟩⟩
      exact q _ _ (same_upd np) ⟨_, _, _, upd_same, Int.le_refl _, Int.le_refl _⟩ np
    · skip
      refine ⟨_, rfl, _, rfl, _, rfl, _, rfl, _, _, rfl, rfl, ⟨by decide, by decide, by decide⟩, _, _, rfl, rfl, .inr ⟨_, rfl, _, _, rfl, rfl, .inr (b01 _), ?_⟩⟩
      refine ⟨_, rfl, _, rfl, _, _, rfl, rfl, ⟨by decide, by decide, by decide⟩, _, _, rfl, rfl, (by show (0 : Int) < 10 ^ 40; decide), _, rfl, _, _, rfl, rfl, .inl ⟨by decide, by decide⟩, _, _, rfl, rfl, _, rfl, _, _, rfl, rfl, .inr ⟨_, rfl, _, _, rfl, rfl, (by show 3 ≤ sizeLine; decide), fun p np => ?_⟩⟩
      exact q _ _ (same_upd np) ⟨_, _, _, upd_same, Int.le_refl _, Int.le_refl _⟩ np

end
end Pot

namespace Pot
open PySem PySem.Spec PyProof.Rows L2
section
variable {P : Program} {w : World} {K : PySem.W.Frag} {mg : Str → Option Value} {base : Heap}
abbrev Pc := Int × Int
def pc0 : Pc := (0, 0)
def pcD (p : Pc) : PyData := .tuple [.int p.1, .int p.2]
def inB (p : Pc) (h : Int) : Bool := decide (p.1 ≤ h) && decide (h < p.1 + p.2)
def hereN (ps : List Pc) (h : Int) (i : Nat) : List Nat := (List.range i).filter fun k => inB (ps.getD k pc0) h
def natV (k : Nat) : V := .int ((k : Nat) : Int)
def hereF (ps : List Pc) (h : Int) : List Int := (hereN ps h ps.length).map fun k => ((k : Nat) : Int)
theorem hereN_yes {ps : List Pc} {h : Int} {i : Nat} (e : inB (ps.getD i pc0) h = true) : hereN ps h (i + 1) = hereN ps h i ++ [i] := by
  unfold hereN
  rw [List.range_succ, List.filter_append, List.filter_cons_of_pos (p := fun k => inB (ps.getD k pc0) h) e]; rfl
theorem hereN_no {ps : List Pc} {h : Int} {i : Nat} (e : inB (ps.getD i pc0) h = false) : hereN ps h (i + 1) = hereN ps h i := by
  unfold hereN
  rw [List.range_succ, List.filter_append, List.filter_cons_of_neg (p := fun k => inB (ps.getD k pc0) h) (by rw [e]; exact Bool.false_ne_true), List.filter_nil, List.append_nil]
theorem hereN_len (ps : List Pc) (h : Int) (i : Nat) : (hereN ps h i).length ≤ i := by
  have := List.length_filter_le (fun k => inB (ps.getD k pc0) h) (List.range i)
  rw [List.length_range] at this; exact this
theorem hereF_len (ps : List Pc) (h : Int) : (hereF ps h).length ≤ ps.length := by
  unfold hereF
  rw [List.length_map]; exact hereN_len ..
theorem hereF_map (ps : List Pc) (h : Int) : (hereN ps h ps.length).map natV = (hereF ps h).map V.int := by
  unfold hereF natV
  rw [List.map_map]; rfl
def stepM (ps : List Pc) (b : Int × Option Int) (h : Int) : Int × Option Int := if b.1 < ((hereF ps h).length : Int) then (((hereF ps h).length : Int), some h) else b
def bestF (ps : List Pc) (zs : List Int) : Int × Option Int := zs.foldl (stepM ps) (0, none)
theorem bestF_one {ps : List Pc} {zs : List Int} {i : Nat} {z : Int} (g : zs[i]? = some z) : bestF ps (zs.take (i + 1)) = stepM ps (bestF ps (zs.take i)) z := by
  unfold bestF
  rw [List.take_add_one, g, List.foldl_append]; rfl
def opV : Option Int → V
  | none => .non
  | some h => .int h
def opD : Option Int → PyData
  | none => .none
  | some h => .int h
theorem dp_op {H : Hp} (o : Option Int) : Dp K H (opV o) (opD o) := by
  cases o with
  | none => exact .non
  | some h => exact .int h
def bestD (b : Int × Option Int) : PyData := .tuple [.int b.1, opD b.2]
theorem best_dp {H : Hp} {t : Addr} {b : Int × Option Int} (h : SqT K H t [.int b.1, opV b.2]) : Dp K H (.ref t) (bestD b) := .tup h (.cons (.int _) (.cons (dp_op _) .nil))
def HoursOk (ps : List Pc) (zs : List Int) : Prop := zs.Pairwise (· < ·) ∧ ∀ k, k ∈ zs ↔ k ∈ ps.map (·.1)
theorem hours_uniq {ps : List Pc} {zs ys : List Int} (h1 : HoursOk ps zs) (h2 : HoursOk ps ys) : zs = ys := sorted_uniq h1.1 h2.1 fun k => by rw [h1.2 k, h2.2 k]
theorem pc_dp {H : Hp} {v : V} {p : Pc} (h : Dp K H v (pcD p)) : ∃ a, v = .ref a ∧ SqT K H a [.int p.1, .int p.2] := by
  obtain ⟨a, xs, rfl, hs, ha⟩ := dp_tup h
  obtain ⟨x, y, rfl, h1, h2⟩ := dp_two ha
  rw [dp_int h1, dp_int h2] at hs
  exact ⟨a, rfl, hs⟩
theorem pcs_at {H : Hp} {xs : List V} {ps : List Pc} (h : DpAll K H xs (ps.map pcD)) {i : Nat} {v : V} (g : xs[i]? = some v) : ∃ a, v = .ref a ∧ SqT K H a [.int (ps.getD i pc0).1, .int (ps.getD i pc0).2] ∧ i < ps.length ∧ Dp K H v (pcD (ps.getD i pc0)) := by
  obtain ⟨d, gd, dp⟩ := dpAll_at h g
  rw [List.getElem?_map] at gd
  obtain ⟨p, gp, rfl⟩ := Option.map_eq_some_iff.mp gd
  have e : ps.getD i pc0 = p := by rw [List.getD_eq_getElem?_getD, gp]; rfl
  rw [e]
  obtain ⟨a, rfl, hs⟩ := pc_dp dp
  exact ⟨a, rfl, hs, (List.getElem?_eq_some_iff.mp gp).1, dp⟩

abbrev s_out_at : Stmt := topS 4
def n_out_at : List Str := ["piece", "come", "cool"]
theorem sc_out_at : FnScope n_out_at ["piece"] (defScope s_out_at) := ⟨rfl, rfl, rfl, by decide +kernel, rfl, by decide +kernel, by decide +kernel⟩
def spOut (K : PySem.W.Frag) : Sp := fun vs H Q _ => ∃ (a : Addr) (p : Pc), vs = [.ref a] ∧ SqT K H a [.int p.1, .int p.2] ∧ Q (.int (p.1 + p.2)) H
theorem ok_out {f : Addr} {fd : FuncData} {k : Nat} (F : Fun K "out_at" "out_at" s_out_at f fd) : FnOk P w K mg base CX0 (k + 1) f fd ["piece"] (spOut K) := by
  refine F.ok sc_out_at (fun vs H Q E h => ?_) (fun cdv A outer s H vs Q E hr h => ?_)
  · obtain ⟨a, p, rfl, _⟩ := h
    rfl
  · obtain ⟨a, p, rfl, hS, q⟩ := h
    have nd := sc_out_at.nd
    refine ⟨_, (pss_cons (ps_asg (pv 0) (kg_tup (K := K) (n := 2) (pgs_cons (pg_name (i := 1) nd rfl (.inl rfl)) (pgs_cons (pg_name (i := 2) nd rfl (.inl rfl)) pgs_nil))))
      (pss_one (ps_ret (pe_op op_add (pv 1) (pv 2))))), ?_⟩
    refine ⟨_, rfl, a, _, rfl, hS, rfl, _, _, rfl, _, _, rfl, rfl, _, rfl, _, rfl, _, _, rfl, rfl, q⟩
abbrev s_is_in : Stmt := topS 3
def n_is_in : List Str := ["piece", "hour"]
theorem sc_is_in : FnScope n_is_in ["piece", "hour"] (defScope s_is_in) := ⟨rfl, rfl, rfl, by decide +kernel, rfl, by decide +kernel, by decide +kernel⟩
def spIn (K : PySem.W.Frag) : Sp := fun vs H Q _ => ∃ (a : Addr) (p : Pc) (h : Int), vs = [.ref a, .int h] ∧ SqT K H a [.int p.1, .int p.2] ∧ Q (.bl (inB p h)) H
theorem ok_in {f : Addr} {fd : FuncData} {k : Nat} (F : Fun K "is_in" "is_in" s_is_in f fd) (c_out_at : Cl P w K mg base (k + 1) "out_at" (spOut K)) : FnOk P w K mg base CX0 (k + 2) f fd ["piece", "hour"] (spIn K) := by
  refine F.ok sc_is_in (fun vs H Q E h => ?_) (fun cdv A outer s H vs Q E hr h => ?_)
  · obtain ⟨a, p, h, rfl, _⟩ := h
    rfl
  · obtain ⟨a, p, h, rfl, hS, q⟩ := h
    have nd := sc_is_in.nd
    refine ⟨_, (pss_one (ps_ret (pe_chain op_le op_lt (pe_ix (kx_tup (K := K)) (pv 0) pe_int (fun _ _ => rfl)) (pv 1) (pe_cl c_out_at hr (by omega) (by rfl) (pa_cons (pv 0) pa_nil))))), ?_⟩
    refine ⟨_, rfl, a, _, 0, _, rfl, rfl, hS, rfl, _, rfl, _, _, rfl, rfl, _, rfl, ite2 (fun h1 => ?_) (fun h1 => ?_)⟩
    · refine ⟨_, rfl, a, p, rfl, hS, _, _, rfl, rfl, ?_⟩
      have e : inB p h = decide (h < p.1 + p.2) := by unfold inB; rw [h1]; rfl
      rw [e] at q; exact q
    · have e : inB p h = false := by unfold inB; rw [Bool.not_eq_true _ |>.mp h1]; rfl
      rw [e] at q; exact q
def spAt (K : PySem.W.Frag) : Sp := fun vs H Q _ => ∃ (a : Addr) (xs : List V) (ps : List Pc) (h : Int), vs = [.ref a, .int h] ∧ SqL K H a xs ∧ DpAll K H xs (ps.map pcD) ∧ ps.length ≤ 60 ∧ ∀ H' L, Same H H' → H L = none → H' L = some (.lst ((hereF ps h).map V.int)) → Q (.ref L) H'
abbrev s_hours_of_coming : Stmt := topS 6
def n_hours_of_coming : List Str := ["pieces", "come", "cool"]
theorem sc_hours_of_coming : FnScope n_hours_of_coming ["pieces"] (defScope s_hours_of_coming) := ⟨rfl, rfl, rfl, by decide +kernel, rfl, by decide +kernel, by decide +kernel⟩
def spHrs (K : PySem.W.Frag) : Sp := fun vs H Q _ => ∃ (a : Addr) (xs : List V) (ps : List Pc), vs = [.ref a] ∧ SqL K H a xs ∧ DpAll K H xs (ps.map pcD) ∧ ps.length ≤ 60 ∧ ∀ H' L zs, Same H H' → H L = none → H' L = some (.lst (zs.map V.int)) → HoursOk ps zs → Q (.ref L) H'
theorem ok_hrs {f : Addr} {fd : FuncData} {k : Nat} (F : Fun K "hours_of_coming" "hours_of_coming" s_hours_of_coming f fd) (T : Txt mg) : FnOk P w K mg base CX0 (k + 1) f fd ["pieces"] (spHrs K) := by
  refine F.ok sc_hours_of_coming (fun vs H Q E h => ?_) (fun cdv A outer s H vs Q E hr h => ?_)
  · obtain ⟨a, xs, ps, rfl, _⟩ := h
    rfl
  · obtain ⟨a, xs, ps, rfl, hS, hx, l60, q⟩ := h
    have nd := sc_hours_of_coming.nd
    have lx : xs.length = ps.length := dpAll_map_len hx
    refine ⟨_, (pss_one (ps_ret (pe_callB (kc_sortedSet (w := w)) (by rfl) T.sorted (by decide +kernel) (pa_cons (pe_callTy (kc_setLj (K := K) (w := w)) (by rfl) T.set (by decide +kernel) (pa_cons (pe_lc (own := [("come", 1), ("cool", 2)]) rfl nd (ki_list (K := K) (pv 0)) (blkOk_by (N := n_hours_of_coming) (sc := defScope s_hours_of_coming) (by decide +kernel)) (fun _ _ _ _ _ => (kg_tup (K := K) (n := 2) (pgs_cons (pg_name (i := 1) nd rfl (.inl rfl)) (pgs_cons (pg_name (i := 2) nd rfl (.inl rfl)) pgs_nil)))) (fun _ _ _ _ _ => pts_nil) (fun _ _ _ _ _ => (pv 1))) pa_nil)) pa_nil)))), ?_⟩
    refine ⟨_, rfl, a, rfl, ⟨_, hS⟩, fun D nD => ?_⟩
    refine lc_it (walk_list (xs := xs)) (PvL H D fun i => ((ps.map (·.1)).take i).map V.int) (pv_start nD rfl) (fun i H4 _ h => h.1.seq hS) ?_ ?_
    · rintro i y H4 H5 hi p ⟨rfl, gx⟩
      obtain ⟨b, rfl, hb, hi2, _⟩ := pcs_at (dpAll_same p.1 hx) gx
      refine ⟨b, _, rfl, hb, rfl, _, _, rfl, _, _, rfl, rfl, rfl, tYes_at ?_⟩
      rw [if_pos rfl]
      refine ⟨_, rfl, ?_⟩
      exact pv_put nD p (Same.refl _) (take_map V.int (by rw [List.getElem?_map, List.getElem?_eq_getElem hi2]; show some _ = some (ps.getD i pc0).1; rw [List.getD_eq_getElem?_getD, List.getElem?_eq_getElem hi2]; rfl)) (take_len_le (by rw [List.length_map]; omega))
    · intro H4 p
      obtain ⟨s4, hD⟩ := pv_end p (take_all (by rw [List.length_map, lx]; exact Nat.le_refl _))
      have ln : (ps.map (·.1)).length ≤ 60 := by rw [List.length_map]; exact l60
      refine ⟨D, ps.map (·.1), rfl, SqL.of hD, (by omega), fun p1 ks np1 nod mem => ?_⟩
      refine ⟨p1, _, _, rfl, upd_same, ?_, fun zs p2 hz hm hl np2 => ?_⟩
      · have := nodup_le (l := ps.map (·.1)) nod fun k hk => (mem k).mp hk
        omega
      · have s2 := (s4.trans (same_upd (o := SetO w p1 (fun k => decide (k ∈ ps.map (·.1))) ks.length) np1)).trans (same_upd (o := .lst (zs.map V.int)) np2)
        refine q _ p2 zs s2 ?_ upd_same ⟨hz, fun k => by rw [hm k, decide_eq_true_eq]⟩
        exact s4.free ((same_upd np1).free np2)

abbrev s_in_at : Stmt := topS 2
def n_in_at : List Str := ["pieces", "hour", "number", "piece"]
theorem sc_in_at : FnScope n_in_at ["pieces", "hour"] (defScope s_in_at) := ⟨rfl, rfl, rfl, by decide +kernel, rfl, by decide +kernel, by decide +kernel⟩
theorem ok_at {f : Addr} {fd : FuncData} {k : Nat} (F : Fun K "in_at" "in_at" s_in_at f fd) (T : Txt mg) (c_is_in : Cl P w K mg base (k + 2) "is_in" (spIn K)) : FnOk P w K mg base CX0 (k + 3) f fd ["pieces", "hour"] (spAt K) := by
  refine F.ok sc_in_at (fun vs H Q E h => ?_) (fun cdv A outer s H vs Q E hr h => ?_)
  · obtain ⟨a, xs, ps, h, rfl, _⟩ := h
    rfl
  · obtain ⟨a, xs, ps, h, rfl, hS, hx, l60, q⟩ := h
    have nd := sc_in_at.nd
    have lx : xs.length = ps.length := dpAll_map_len hx
    refine ⟨_, (pss_one (ps_ret (pe_lc (own := [("number", 2), ("piece", 3)]) rfl nd (ki_enum (K := K) (by rfl) T.enumerate (pa_cons (pv 0) pa_nil)) (blkOk_by (N := n_in_at) (sc := defScope s_in_at) (by decide +kernel)) (fun _ _ _ _ _ => (kg_tup (K := K) (n := 2) (pgs_cons (pg_name (i := 2) nd rfl (.inl rfl)) (pgs_cons (pg_name (i := 3) nd rfl (.inl rfl)) pgs_nil)))) (fun _ _ _ _ _ => (pts_one (pt_val (pe_cl c_is_in hr (by omega) (by rfl) (pa_cons (pv 3) (pa_cons (pv 1) pa_nil)))))) (fun _ _ _ _ _ => (pv 2))))), ?_⟩
    refine ⟨_, rfl, a, _, rfl, hS, fun D nD => ?_⟩
    refine lc_it (walk_enum (xs := xs)) (PvL H D fun i => (hereN ps h i).map natV) (pv_start nD rfl) (fun i H4 _ h => h.1.seq hS) ?_ ?_
    · rintro i y H4 H5 hi p ⟨u, x1, x2, rfl, nu, rfl, g1, g2⟩
      cases g1
      replace g2 : xs[i]? = some x2 := g2
      obtain ⟨b, rfl, hb, hi2, _⟩ := pcs_at (dpAll_same p.1 hx) g2
      have su := same_upd (o := .tup [.int (i : Nat), .ref b]) nu
      refine ⟨u, _, rfl, .inl (.inl upd_same), rfl, _, _, rfl, _, _, rfl, rfl, rfl, ?_⟩
      refine ⟨_, rfl, _, rfl, b, ps.getD i pc0, h, rfl, same_tup su hb, _, rfl, ?_⟩
      have lf : ((hereN ps h i).map natV).length < sizeLine := by
        rw [List.length_map, sizeLine_eq]
        have := hereN_len ps h i
        omega
      cases e : inB (ps.getD i pc0) h with
      | true =>
        refine iteT ⟨_, rfl, ?_⟩
        exact pv_put nD p su (by rw [hereN_yes e, List.map_append]; rfl) lf
      | false =>
        refine iteF ?_
        exact pv_skip p su (by rw [hereN_no e])
    · intro H4 p
      obtain ⟨s4, hD⟩ := pv_end p (show _ = (hereF ps h).map V.int by rw [← hereF_map, lx])
      exact q _ _ s4 nD hD

abbrev s_most_in : Stmt := topS 5
def n_most_in : List Str := ["pieces", "best", "hour", "many"]
theorem sc_most_in : FnScope n_most_in ["pieces"] (defScope s_most_in) := ⟨rfl, rfl, rfl, by decide +kernel, rfl, by decide +kernel, by decide +kernel⟩
def spMost (K : PySem.W.Frag) : Sp := fun vs H Q _ => ∃ (a : Addr) (xs : List V) (ps : List Pc), vs = [.ref a] ∧ SqL K H a xs ∧ DpAll K H xs (ps.map pcD) ∧ ps.length ≤ 60 ∧ ∀ H' t zs, Same H H' → HoursOk ps zs → SqT K H' t [.int (bestF ps zs).1, opV (bestF ps zs).2] → Q (.ref t) H'
theorem ok_most {f : Addr} {fd : FuncData} {k : Nat} (F : Fun K "most_in" "most_in" s_most_in f fd) (T : Txt mg) (c_in_at : Cl P w K mg base (k + 3) "in_at" (spAt K)) (c_hours_of_coming : Cl P w K mg base (k + 1) "hours_of_coming" (spHrs K)) : FnOk P w K mg base CX0 (k + 4) f fd ["pieces"] (spMost K) := by
  refine F.ok sc_most_in (fun vs H Q E h => ?_) (fun cdv A outer s H vs Q E hr h => ?_)
  · obtain ⟨a, xs, ps, rfl, _⟩ := h
    rfl
  · obtain ⟨a, xs, ps, rfl, hS, hx, l60, q⟩ := h
    have nd := sc_most_in.nd
    refine ⟨_, (pss_cons (ps_set (i := 1) nd rfl (.inl rfl) (pe_tup (pa_cons pe_int (pa_cons pe_non pa_nil))))
      (pss_cons (ps_for PassesOwn.never rfl (ki_list (K := K) (pe_cl c_hours_of_coming hr (by omega) (by rfl) (pa_cons (pv 0) pa_nil))) (pg_name (i := 2) nd rfl (.inl rfl))
          (pss_cons (ps_set (i := 3) nd rfl (.inl rfl) (pe_callB (kc_len (K := K)) (by rfl) T.len PySem.boot_len (pa_cons (pe_cl c_in_at hr (by omega) (by rfl) (pa_cons (pv 0) (pa_cons (pv 2) pa_nil))) pa_nil)))
          (pss_one (ps_if (pt_cmpR op_gt (pv 3) (pe_ix (kx_tup (K := K)) (pv 1) pe_int (fun _ _ => rfl)) (nomark _))
              (pss_one (ps_set (i := 1) nd rfl (.inl rfl) (pe_tup (pa_cons (pv 3) (pa_cons (pv 2) pa_nil)))))
              pss_nil))))
      (pss_one (ps_ret (pv 1))))), ?_⟩
    refine ⟨(by show 2 ≤ sizeLine; decide), fun t0 n0 => ?_⟩
    have s0 := same_upd (o := .tup [.int 0, .non]) n0
    have h0 : upd H t0 (.tup [.int 0, .non]) t0 = _ := upd_same
    generalize upd H t0 (.tup [.int 0, .non]) = H0 at s0 h0 ⊢
    refine ⟨_, rfl, a, xs, ps, rfl, s0.seq hS, dpAll_same s0 hx, l60, fun H1 Z zs s1 nZ hZ ok => ?_⟩
    refine ⟨Z, rfl, ⟨_, SqL.of hZ⟩, ?_⟩
    refine for_it (walk_list (xs := zs.map V.int)) (fun i σ H2 => ∃ v2 v3 t, σ = [some (.ref a), some (.ref t), v2, v3] ∧ Same H1 H2 ∧ SqT K H2 t [.int (bestF ps (zs.take i)).1, opV (bestF ps (zs.take i)).2]) ⟨_, _, t0, rfl, Same.refl _, .inl (.inl (s1 _ _ h0))⟩ (fun i σ H4 _ h => by obtain ⟨_, _, _, _, h, _⟩ := h; exact SqL.of (h _ _ hZ)) ?_ ?_
    · rintro i y σ H4 H5 hi ⟨v2, v3, t, rfl, s5, ht⟩ ⟨rfl, gx⟩
      rw [List.getElem?_map] at gx
      obtain ⟨z, gz, rfl⟩ := Option.map_eq_some_iff.mp gx
      have sa := (s0.trans s1).trans s5
      refine ⟨_, rfl, _, rfl, a, xs, ps, z, rfl, sa.seq hS, dpAll_same sa hx, l60, fun H6 L s6 nL hL => ?_⟩
      refine ⟨_, _, rfl, .inl ⟨_, SqL.of hL, rfl⟩, ?_⟩
      refine ⟨_, rfl, _, rfl, t, _, 0, _, rfl, rfl, same_tup s6 ht, rfl, _, _, rfl, rfl, _, rfl, ite2 (fun h1 => ?_) (fun h1 => ?_)⟩
      · have h1 := of_decide_eq_true h1
        rw [List.length_map] at h1
        refine ⟨_, rfl, _, rfl, (by show 2 ≤ sizeLine; decide), fun t2 n2 => ?_⟩
        refine ⟨_, _, t2, rfl, (s5.trans s6).trans (same_upd n2), ?_⟩
        rw [bestF_one gz]; unfold stepM; rw [if_pos h1]
        refine .inl (.inl ?_)
        rw [List.length_map]; exact upd_same
      · have h1 : ¬ (bestF ps (zs.take i)).1 < ((hereF ps z).length : Int) := fun z2 => h1 (decide_eq_true (by rw [List.length_map]; exact z2))
        refine ⟨_, _, t, rfl, s5.trans s6, ?_⟩
        rw [bestF_one gz]; unfold stepM; rw [if_neg h1]
        exact same_tup s6 ht
    · rintro σ H4 ⟨v2, v3, t, rfl, s5, ht⟩
      rw [List.length_map, List.take_length] at ht
      exact ⟨_, rfl, q _ t zs ((s0.trans s1).trans s5) ok ht⟩

end
end Pot

namespace Pot
open PySem PySem.Spec PyProof.Rows L2
section
variable {P : Program} {w : World} {K : PySem.W.Frag} {mg : Str → Option Value} {base : Heap}
theorem sm_wr0 {H H2 : Hp} {S : List Addr} {L : Addr} {o : HO} (s : Sm S H H2) (n : H L = none) : Sm S H (upd H2 L o) := fun x u e => by
  have nm := off_mem e
  have e2 := s x u e
  rw [off_out nm] at e e2 ⊢
  have ne : x ≠ L := fun z => by rw [z, n] at e; cases e
  rw [upd_ne ne]; exact e2
theorem pcs_gd : ∀ {ps : List Pc}, (∀ p ∈ ps, 0 ≤ p.1 ∧ p.1 ≤ 1000000 ∧ 1 ≤ p.2 ∧ p.2 ≤ 99) → gd 1000000 (.list (ps.map pcD)) := fun h => gdAll_iff.mpr fun d hd => by
  obtain ⟨p, hp, rfl⟩ := List.mem_map.mp hd
  have := h p hp
  exact ⟨by show p.1.natAbs ≤ _; omega, by show p.2.natAbs ≤ _; omega, trivial⟩
theorem pcs_depth : ∀ (ps : List Pc), PyData.depth (.list (ps.map pcD)) ≤ 3 := fun ps => by
  show PyData.depthAll (ps.map pcD) + 1 ≤ 3
  have : PyData.depthAll (ps.map pcD) ≤ 2 := depthAll_iff.mpr fun d hd => by
    obtain ⟨p, hp, rfl⟩ := List.mem_map.mp hd
    simp [pcD, PyData.depth, PyData.depthAll]
  omega
theorem pcs_shaped {ps : List Pc} (h : ∀ p ∈ ps, 0 ≤ p.1 ∧ p.1 ≤ 1000000 ∧ 1 ≤ p.2 ∧ p.2 ≤ 99) : SeqAt.shaped (.list (ps.map pcD)) = true := gd_shaped (pcs_gd h) (Nat.le_trans (pcs_depth ps) (by decide))
structure PcOk (ps : List Pc) : Prop where
  len : ps.length ≤ 40
  each : ∀ p ∈ ps, 0 ≤ p.1 ∧ p.1 ≤ 1000000 ∧ 1 ≤ p.2 ∧ p.2 ≤ 99
theorem noL_pc (p : Pc) : noLAll.noL (pcD p) := ⟨trivial, trivial, trivial⟩
def spPieces (K : PySem.W.Frag) : Sp := fun vs H Q _ => ∃ (b : Addr) (n : Nat), vs = [.ref b, .int 40] ∧ Bq H b n ∧ n < 2 ^ 39 ∧
  ∀ (H' : Hp) (L : Addr) (xs : List V) (ps : List Pc), Bq H' b (n + 250) → Sm [b] H H' → H L = none → H' L = some (.lst xs) → DpAll K (off H' [L, b]) xs (ps.map pcD) → PcOk ps → Q (.ref L) H'
abbrev s__law_pieces : Stmt := topS 23
def n__law_pieces : List Str := ["_law_state", "_law_most", "_law_found", "_law_near", "_law_wide", "_law_long", "_law_k", "_law_piece"]
theorem sc__law_pieces : FnScope n__law_pieces ["_law_state", "_law_most"] (defScope s__law_pieces) := ⟨rfl, rfl, rfl, by decide +kernel, rfl, by decide +kernel, by decide +kernel⟩
theorem ok_pieces {f : Addr} {fd : FuncData} {k : Nat} (F : Fun K "_law_pieces" "_law_pieces" s__law_pieces f fd) (T : Txt mg) (c__law_take : Cl P w K mg base (k + 1) "_law_take" spTake) : FnOk P w K mg base CX0 (k + 2) f fd ["_law_state", "_law_most"] (spPieces K) := by
  refine F.ok sc__law_pieces (fun vs H Q E h => ?_) (fun cdv A outer s H vs Q E hr h => ?_)
  · obtain ⟨b, n, rfl, _⟩ := h
    rfl
  · obtain ⟨b, n, rfl, B, hn, q⟩ := h
    have nd := sc__law_pieces.nd
    have hu64 := hr.units
    refine ⟨_, (pss_cons (ps_par (i := 2) (j := 3) rfl nd rfl rfl (by decide) rfl rfl (pa_cons (pe_lst pa_nil) (pa_cons (pe_ix (kx_list (K := K)) (pe_lst (pa_cons pe_int (pa_cons (pe_cl c__law_take hr (by omega) (by rfl) (pa_cons (pv 0) (pa_cons pe_int pa_nil))) (pa_cons (pe_op op_add (pe_op op_sub (pe_op op_pow pe_int pe_int) pe_int) (pe_cl c__law_take hr (by omega) (by rfl) (pa_cons (pv 0) (pa_cons pe_int pa_nil)))) pa_nil)))) (pe_cl c__law_take hr (by omega) (by rfl) (pa_cons (pv 0) (pa_cons pe_int pa_nil))) (fun _ _ => rfl)) pa_nil)) rfl)
      (pss_cons (ps_par (i := 4) (j := 5) rfl nd rfl rfl (by decide) rfl rfl (pa_cons (pe_ix (kx_list (K := K)) (pe_lst (pa_cons pe_int (pa_cons pe_int (pa_cons pe_int (pa_cons pe_int pa_nil))))) (pe_cl c__law_take hr (by omega) (by rfl) (pa_cons (pv 0) (pa_cons pe_int pa_nil))) (fun _ _ => rfl)) (pa_cons (pe_ix (kx_list (K := K)) (pe_lst (pa_cons pe_int (pa_cons pe_int (pa_cons pe_int (pa_cons pe_int pa_nil))))) (pe_cl c__law_take hr (by omega) (by rfl) (pa_cons (pv 0) (pa_cons pe_int pa_nil))) (fun _ _ => rfl)) pa_nil)) rfl)
      (pss_cons (ps_for PassesOwn.never rfl (pi_range1 (by rfl) T.range (pa_cons (pe_ix (kx_list (K := K)) (pe_lst (pa_cons (pe_cl c__law_take hr (by omega) (by rfl) (pa_cons (pv 0) (pa_cons (pe_op op_add (pv 1) pe_int) pa_nil))) (pa_cons (pv 1) (pa_cons (pe_cl c__law_take hr (by omega) (by rfl) (pa_cons (pv 0) (pa_cons pe_int pa_nil))) pa_nil)))) (pe_cl c__law_take hr (by omega) (by rfl) (pa_cons (pv 0) (pa_cons pe_int pa_nil))) (fun _ _ => rfl)) pa_nil)) (pg_name (i := 6) nd rfl (.inl rfl))
          (pss_cons (ps_set (i := 7) nd rfl (.inl rfl) (pe_tup (pa_cons (pe_callB (call_min2 rfl) (by rfl) T.min (by decide +kernel) (pa_cons (pe_op op_pow pe_int pe_int) (pa_cons (pe_op op_add (pv 3) (pe_cl c__law_take hr (by omega) (by rfl) (pa_cons (pv 0) (pa_cons (pv 4) pa_nil)))) pa_nil))) (pa_cons (pe_op op_add pe_int (pe_cl c__law_take hr (by omega) (by rfl) (pa_cons (pv 0) (pa_cons (pv 5) pa_nil)))) pa_nil))))
          (pss_cons (ps_if ((pw_and (pt_cmpR (ko_ne (K := K) hu64) (pv 2) (pe_lst pa_nil) (nomark _)) (pw_and1 (pt_cmpR op_eq (pe_cl c__law_take hr (by omega) (by rfl) (pa_cons (pv 0) (pa_cons pe_int pa_nil))) pe_int (nomark _))))).pt
              (pss_one (ps_set (i := 7) nd rfl (.inl rfl) (pe_ix (kx_list (K := K)) (pv 2) (pe_cl c__law_take hr (by omega) (by rfl) (pa_cons (pv 0) (pa_cons (pe_callB (kc_len (K := K)) (by rfl) T.len PySem.boot_len (pa_cons (pv 2) pa_nil)) pa_nil))) (fun _ _ => rfl))))
              pss_nil)
          (pss_one (ps_expr (pe_bm PySem.F.plainAttrs_list PySem.F.slot_list_append PySem.F.type_list_append mt_append (pv 2) (pa_cons (pv 7) pa_nil)))))))
      (pss_one (ps_ret (pv 2)))))), ?_⟩
    have lv := Live.q B
    have sc : Sm [b] H H := Same.refl _
    obtain ⟨S, eS⟩ : ∃ S, S = [b] := ⟨_, rfl⟩
    have hb : b ∈ S := by rw [eS]; simp
    rw [← eS] at lv
    refine ⟨Nat.zero_le _, fun L nL => ?_⟩
    have Lb : L ≠ b := B.ne nL
    have fL := off_new (o := .lst []) lv nL
    have lv := lv.put (o := .lst []) nL
    have B := B.put (o := .lst []) nL
    have sc := sc.trans (sm_put (S := [b]) (o := .lst []) nL)
    generalize upd H L (.lst []) = H1 at fL lv B sc  ⊢
    refine ⟨_, rfl, b, 30, _, rfl, (by decide), (by decide), B, by omega, fun H2 r1 r10 r11 B2 s2 => ?_⟩
    have lv := lv.box B2.bx s2
    have sc := sc.trans s2
    have B := B2
    have fL := (sm_one hb s2) _ _ fL
    refine ⟨_, _, rfl, rfl, ⟨by decide, by decide, by decide⟩, _, _, rfl, rfl, _, rfl, b, 100, _, rfl, (by decide), (by decide), B, by omega, fun H3 r2 r20 r21 B3 s3 => ⟨_, _, rfl, rfl, (by show 3 ≤ sizeLine; decide), fun p1 np1 => ?_⟩⟩
    have lv := lv.box B3.bx s3
    have sc := sc.trans s3
    have B := B3
    have fL := (sm_one hb s3) _ _ fL
    have fp1 := off_new (o := .lst [.int 0, .int r1, .int (10 ^ Int.toNat 6 - 500 + r2)]) lv np1
    have lv := lv.put (o := .lst [.int 0, .int r1, .int (10 ^ Int.toNat 6 - 500 + r2)]) np1
    have B := B.put (o := .lst [.int 0, .int r1, .int (10 ^ Int.toNat 6 - 500 + r2)]) np1
    have sc := sc.trans (sm_put (S := [b]) (o := .lst [.int 0, .int r1, .int (10 ^ Int.toNat 6 - 500 + r2)]) np1)
    have fL := (sm_put (S := S) (o := .lst [.int 0, .int r1, .int (10 ^ Int.toNat 6 - 500 + r2)]) np1) _ _ fL
    generalize upd H3 p1 (.lst [.int 0, .int r1, .int (10 ^ Int.toNat 6 - 500 + r2)]) = H4 at fp1 lv B sc fL ⊢
    refine ⟨_, rfl, b, 3, _, rfl, (by decide), (by decide), B, by omega, fun H5 r3 r30 r31 B5 s5 => ?_⟩
    have lv := lv.box B5.bx s5
    have sc := sc.trans s5
    have B := B5
    have fL := (sm_one hb s5) _ _ fL
    have fp1 := (sm_one hb s5) _ _ fp1
    obtain ⟨near, en, n0, n1⟩ : ∃ near : Int, atI [V.int 0, .int r1, .int (10 ^ Int.toNat 6 - 500 + r2)] r3 = some (.int near) ∧ 0 ≤ near ∧ near ≤ 1000000 := by
      have e6 : (10 : Int) ^ Int.toNat 6 = 1000000 := by decide
      have h : r3 = 0 ∨ r3 = 1 ∨ r3 = 2 := by omega
      rcases h with rfl | rfl | rfl
      · exact ⟨0, rfl, by decide, by decide⟩
      · exact ⟨r1, rfl, by omega, by omega⟩
      · exact ⟨_, rfl, by rw [e6]; omega, by rw [e6]; omega⟩
    refine ⟨p1, _, r3, _, rfl, rfl, SqL.of (at_off fp1), en, _, _, rfl, ?_⟩
    refine ⟨(by show 4 ≤ sizeLine; decide), fun p2 np2 => ?_⟩
    have fp2 := off_new (o := .lst [.int 1, .int 6, .int 40, .int 300]) lv np2
    have lv := lv.put (o := .lst [.int 1, .int 6, .int 40, .int 300]) np2
    have B := B.put (o := .lst [.int 1, .int 6, .int 40, .int 300]) np2
    have sc := sc.trans (sm_put (S := [b]) (o := .lst [.int 1, .int 6, .int 40, .int 300]) np2)
    have fL := (sm_put (S := S) (o := .lst [.int 1, .int 6, .int 40, .int 300]) np2) _ _ fL
    generalize upd H5 p2 (.lst [.int 1, .int 6, .int 40, .int 300]) = H6 at fp2 lv B sc fL ⊢
    refine ⟨_, rfl, b, 4, _, rfl, (by decide), (by decide), B, by omega, fun H7 r4 r40 r41 B7 s7 => ?_⟩
    have lv := lv.box B7.bx s7
    have sc := sc.trans s7
    have B := B7
    have fL := (sm_one hb s7) _ _ fL
    have fp2 := (sm_one hb s7) _ _ fp2
    obtain ⟨wide, ew, w0, w1⟩ : ∃ wide : Int, atI [V.int 1, .int 6, .int 40, .int 300] r4 = some (.int wide) ∧ 0 < wide ∧ wide ≤ 300 := by
      have h : r4 = 0 ∨ r4 = 1 ∨ r4 = 2 ∨ r4 = 3 := by omega
      rcases h with rfl | rfl | rfl | rfl
      · exact ⟨1, rfl, by decide, by decide⟩
      · exact ⟨6, rfl, by decide, by decide⟩
      · exact ⟨40, rfl, by decide, by decide⟩
      · exact ⟨300, rfl, by decide, by decide⟩
    refine ⟨p2, _, r4, _, rfl, rfl, SqL.of (at_off fp2), ew, ?_⟩
    refine ⟨(by show 4 ≤ sizeLine; decide), fun p3 np3 => ?_⟩
    have fp3 := off_new (o := .lst [.int 1, .int 4, .int 30, .int 99]) lv np3
    have lv := lv.put (o := .lst [.int 1, .int 4, .int 30, .int 99]) np3
    have B := B.put (o := .lst [.int 1, .int 4, .int 30, .int 99]) np3
    have sc := sc.trans (sm_put (S := [b]) (o := .lst [.int 1, .int 4, .int 30, .int 99]) np3)
    have fL := (sm_put (S := S) (o := .lst [.int 1, .int 4, .int 30, .int 99]) np3) _ _ fL
    generalize upd H7 p3 (.lst [.int 1, .int 4, .int 30, .int 99]) = H8 at fp3 lv B sc fL ⊢
    refine ⟨_, rfl, b, 4, _, rfl, (by decide), (by decide), B, by omega, fun H9 r5 r50 r51 B9 s9 => ?_⟩
    have lv := lv.box B9.bx s9
    have sc := sc.trans s9
    have B := B9
    have fL := (sm_one hb s9) _ _ fL
    have fp3 := (sm_one hb s9) _ _ fp3
    obtain ⟨long, el, l0, l1⟩ : ∃ long : Int, atI [V.int 1, .int 4, .int 30, .int 99] r5 = some (.int long) ∧ 0 < long ∧ long ≤ 99 := by
      have h : r5 = 0 ∨ r5 = 1 ∨ r5 = 2 ∨ r5 = 3 := by omega
      rcases h with rfl | rfl | rfl | rfl
      · exact ⟨1, rfl, by decide, by decide⟩
      · exact ⟨4, rfl, by decide, by decide⟩
      · exact ⟨30, rfl, by decide, by decide⟩
      · exact ⟨99, rfl, by decide, by decide⟩
    refine ⟨p3, _, r5, _, rfl, rfl, SqL.of (at_off fp3), el, _, _, rfl, ?_⟩
    refine ⟨_, rfl, _, rfl, _, _, rfl, rfl, b, 40 + 1, _, rfl, (by decide), (by decide), B, by omega, fun H10 r6 r60 r61 B10 s10 => ?_⟩
    have lv := lv.box B10.bx s10
    have sc := sc.trans s10
    have B := B10
    have fL := (sm_one hb s10) _ _ fL
    refine ⟨_, rfl, _, rfl, b, 6, _, rfl, (by decide), (by decide), B, by omega, fun H11 r7 r70 r71 B11 s11 => ⟨(by show 3 ≤ sizeLine; decide), fun p4 np4 => ?_⟩⟩
    have lv := lv.box B11.bx s11
    have sc := sc.trans s11
    have B := B11
    have fL := (sm_one hb s11) _ _ fL
    have fp4 := off_new (o := .lst [.int r6, .int 40, .int r7]) lv np4
    have lv := lv.put (o := .lst [.int r6, .int 40, .int r7]) np4
    have B := B.put (o := .lst [.int r6, .int 40, .int r7]) np4
    have sc := sc.trans (sm_put (S := [b]) (o := .lst [.int r6, .int 40, .int r7]) np4)
    have fL := (sm_put (S := S) (o := .lst [.int r6, .int 40, .int r7]) np4) _ _ fL
    generalize upd H11 p4 (.lst [.int r6, .int 40, .int r7]) = H12 at fp4 lv B sc fL ⊢
    refine ⟨_, rfl, b, 3, _, rfl, (by decide), (by decide), B, by omega, fun H13 r8 r80 r81 B13 s13 => ?_⟩
    have lv := lv.box B13.bx s13
    have sc := sc.trans s13
    have B := B13
    have fL := (sm_one hb s13) _ _ fL
    have fp4 := (sm_one hb s13) _ _ fp4
    obtain ⟨many, em, m0, m1⟩ : ∃ many : Int, atI [V.int r6, .int 40, .int r7] r8 = some (.int many) ∧ 0 ≤ many ∧ many ≤ 40 := by
      have h : r8 = 0 ∨ r8 = 1 ∨ r8 = 2 := by omega
      rcases h with rfl | rfl | rfl
      · exact ⟨r6, rfl, by omega, by omega⟩
      · exact ⟨40, rfl, by decide, by decide⟩
      · exact ⟨r7, rfl, by omega, by omega⟩
    refine ⟨p4, _, r8, _, rfl, rfl, SqL.of (at_off fp4), em, ?_⟩
    have nL0 : H L = none := nL
    have fL := at_off fL
    have B := B.mono (show _ ≤ n + 20 by omega)
    clear lv hb
    refine ⟨_, rfl, (by omega), (by omega), ?_⟩
    refine for_it walk_range (fun i σ H2 => ∃ v6 v7 xs ps, σ = [some (.ref b), some (.int 40), some (.ref L), some (.int near), some (.int wide), some (.int long), v6, v7] ∧ Bq H2 b (n + 20 + 5 * i) ∧ Sm [b] H H2 ∧ H2 L = some (.lst xs) ∧ DpAll K (off H2 [L, b]) xs (ps.map pcD) ∧ ps.length = i ∧ ∀ p ∈ ps, 0 ≤ p.1 ∧ p.1 ≤ 1000000 ∧ 1 ≤ p.2 ∧ p.2 ≤ 99)
      ⟨_, _, [], [], rfl, B, sc, fL, .nil, rfl, fun _ h => (List.not_mem_nil h).elim⟩ (fun _ _ _ _ _ => trivial) ?_ ?_
    · rintro i x σ H2 H3 hi ⟨v6, v7, xs, ps, rfl, B, sc, hL, da, lp, bp⟩ ⟨rfl, rfl⟩
      have hi40 : i < 40 := by omega
      generalize hm : n + 20 + 5 * i = m at B
      have hmm : m < 2 ^ 40 - 10 := by omega
      have lx : xs.length = ps.length := dpAll_map_len da
      obtain ⟨S, eS⟩ : ∃ S, S = [L, b] := ⟨_, rfl⟩
      have hb : b ∈ S := by rw [eS]; simp
      have hLS : L ∈ S := by rw [eS]; simp
      have lv : Live S H3 := by rw [eS]; exact (Live.q B).cons hL
      rw [← eS] at da
      refine ⟨_, _, rfl, rfl, ⟨by decide, by decide, by decide⟩, _, rfl, _, rfl, _, rfl, b, wide, _, rfl, w0, by omega, B, by omega, fun H4 r1 r10 r11 B4 s4 => ⟨_, _, rfl, rfl, _, _, rfl, ?_⟩⟩
      have hL := sm_at s4 (by simp [Lb]) hL
      have lv := lv.box B4.bx s4
      have sc := sc.trans s4
      have B := B4
      have da := dpAll_same ((sm_one hb s4)) da
      refine ⟨_, rfl, _, rfl, b, long, _, rfl, l0, by omega, B, by omega, fun H5 r2 r20 r21 B5 s5 => ⟨_, _, rfl, rfl, (by show 2 ≤ sizeLine; decide), fun t nt => ?_⟩⟩
      have hL := sm_at s5 (by simp [Lb]) hL
      have lv := lv.box B5.bx s5
      have sc := sc.trans s5
      have B := B5
      have da := dpAll_same ((sm_one hb s5)) da
      have tL : L ≠ t := ne_of_none hL nt
      have hL := same_upd (o := .tup [.int (if near + r1 < 10 ^ Int.toNat 6 then near + r1 else 10 ^ Int.toNat 6), .int (1 + r2)]) nt _ _ hL
      have ft := off_new (o := .tup [.int (if near + r1 < 10 ^ Int.toNat 6 then near + r1 else 10 ^ Int.toNat 6), .int (1 + r2)]) lv nt
      have lv := lv.put (o := .tup [.int (if near + r1 < 10 ^ Int.toNat 6 then near + r1 else 10 ^ Int.toNat 6), .int (1 + r2)]) nt
      have B := B.put (o := .tup [.int (if near + r1 < 10 ^ Int.toNat 6 then near + r1 else 10 ^ Int.toNat 6), .int (1 + r2)]) nt
      have sc := sc.trans (sm_put (S := [b]) (o := .tup [.int (if near + r1 < 10 ^ Int.toNat 6 then near + r1 else 10 ^ Int.toNat 6), .int (1 + r2)]) nt)
      have da := dpAll_same ((sm_put (S := S) (o := .tup [.int (if near + r1 < 10 ^ Int.toNat 6 then near + r1 else 10 ^ Int.toNat 6), .int (1 + r2)]) nt)) da
      generalize upd H5 t (.tup [.int (if near + r1 < 10 ^ Int.toNat 6 then near + r1 else 10 ^ Int.toNat 6), .int (1 + r2)]) = H6 at ft lv B sc hL da ⊢
      obtain ⟨pc, ec, pok⟩ : ∃ pc : Pc, Dp K (off H6 S) (.ref t) (pcD pc) ∧ (0 ≤ pc.1 ∧ pc.1 ≤ 1000000 ∧ 1 ≤ pc.2 ∧ pc.2 ≤ 99) := by
        have e6 : (10 : Int) ^ Int.toNat 6 = 1000000 := by decide
        rw [e6] at ft
        refine ⟨(if near + r1 < 1000000 then near + r1 else 1000000, 1 + r2), .tup (.inl (.inl ft)) (.cons (.int _) (.cons (.int _) .nil)), ?_, ?_, ?_, ?_⟩
        · show 0 ≤ (if near + r1 < 1000000 then near + r1 else 1000000); split <;> omega
        · show (if near + r1 < 1000000 then near + r1 else 1000000) ≤ 1000000; split <;> omega
        · show 1 ≤ 1 + r2; omega
        · show 1 + r2 ≤ 99; omega
      refine ⟨_, rfl, Nat.zero_le _, fun e ne => ?_⟩
      have hL := same_upd (o := .lst []) ne _ _ hL
      have fe := off_new (o := .lst []) lv ne
      have lv := lv.put (o := .lst []) ne
      have B := B.put (o := .lst []) ne
      have sc := sc.trans (sm_put (S := [b]) (o := .lst []) ne)
      have da := dpAll_same ((sm_put (S := S) (o := .lst []) ne)) da
      have ec := dp_same ((sm_put (S := S) (o := .lst []) ne)) ec
      generalize upd H6 e (.lst []) = H7 at fe lv B sc hL da ec ⊢
      have dL : Dp K H7 (.ref L) (.list (ps.map pcD)) := .lst (SqL.of hL) (dpAll_same off_sub da)
      refine ⟨_, _, dL, .lst (SqL.of (at_off fe)) .nil, pcs_shaped bp, PySem.W.ke_shaped_ints [], _, rfl, ?_⟩
      by_cases hps : ps = []
      · have e2 : PyData.eqv (.list (ps.map pcD)) (.list []) = true := by rw [hps]; rfl
        rw [e2]
        refine iteF ?_
        refine ⟨_, rfl, .inl ⟨rfl, _, SqL.of hL⟩, _, rfl, L, _, _, rfl, rfl, hL, (by rw [lx, lp, sizeLine_eq]; omega), ?_⟩
        refine ⟨_, _, _, ps ++ [pc], rfl, (B.wr Lb).mono (by omega), sm_wr0 sc nL0, upd_same, ?_, (by rw [List.length_append, lp]; rfl), fun p hp => ?_⟩
        · rw [← eS, List.map_append]
          exact dpAll_same (sm_wr hLS) (dpAll_app da (.cons ec .nil))
        · rcases List.mem_append.mp hp with h | h
          · exact bp p h
          · rw [List.mem_singleton.mp h]; exact pok
      · have e2 : PyData.eqv (.list (ps.map pcD)) (.list []) = false := by
          cases ps with
          | nil => exact absurd rfl hps
          | cons _ _ => rfl
        rw [e2]
        refine iteT ⟨_, rfl, b, 6, _, rfl, (by decide), (by decide), B, by omega, fun H8 r3 r30 r31 B8 s8 => ⟨rfl, _, rfl, ?_⟩⟩
        have hL := sm_at s8 (by simp [Lb]) hL
        have lv := lv.box B8.bx s8
        have sc := sc.trans s8
        have B := B8
        have da := dpAll_same ((sm_one hb s8)) da
        have ec := dp_same ((sm_one hb s8)) ec
        refine ite2 (fun c1 => ?_) (fun c1 => ?_)
        · have lp0 : 0 < ps.length := List.length_pos_iff.mpr hps
          refine ⟨_, rfl, _, rfl, _, rfl, _, _, rfl, .inl ⟨_, SqL.of hL, rfl⟩, b, _, _, rfl, (by omega), (by omega), B, by omega, fun H9 r4 r40 r41 B9 s9 => ?_⟩
          have hL := sm_at s9 (by simp [Lb]) hL
          have lv := lv.box B9.bx s9
          have sc := sc.trans s9
          have B := B9
          have da := dpAll_same ((sm_one hb s9)) da
          have ec := dp_same ((sm_one hb s9)) ec
          obtain ⟨ri, rfl⟩ : ∃ ri : Nat, r4 = (ri : Int) := ⟨r4.toNat, by omega⟩
          have hri : ri < xs.length := by omega
          obtain ⟨a2, ea2, _, hri2, ec⟩ := pcs_at da (List.getElem?_eq_getElem hri)
          refine ⟨L, _, _, _, rfl, rfl, SqL.of hL, atI_nat (List.getElem?_eq_getElem hri), ?_⟩
          have pok := bp (ps.getD ri pc0) (by rw [List.getD_eq_getElem?_getD, List.getElem?_eq_getElem hri2]; exact List.getElem_mem hri2)
          generalize ps.getD ri pc0 = pc at ec pok
          refine ⟨_, rfl, .inl ⟨rfl, _, SqL.of hL⟩, _, rfl, L, _, _, rfl, rfl, hL, (by rw [lx, lp, sizeLine_eq]; omega), ?_⟩
          refine ⟨_, _, _, ps ++ [pc], rfl, (B.wr Lb).mono (by omega), sm_wr0 sc nL0, upd_same, ?_, (by rw [List.length_append, lp]; rfl), fun p hp => ?_⟩
          · rw [← eS, List.map_append]
            exact dpAll_same (sm_wr hLS) (dpAll_app da (.cons ec .nil))
          · rcases List.mem_append.mp hp with h | h
            · exact bp p h
            · rw [List.mem_singleton.mp h]; exact pok
        · skip
          refine ⟨_, rfl, .inl ⟨rfl, _, SqL.of hL⟩, _, rfl, L, _, _, rfl, rfl, hL, (by rw [lx, lp, sizeLine_eq]; omega), ?_⟩
          refine ⟨_, _, _, ps ++ [pc], rfl, (B.wr Lb).mono (by omega), sm_wr0 sc nL0, upd_same, ?_, (by rw [List.length_append, lp]; rfl), fun p hp => ?_⟩
          · rw [← eS, List.map_append]
            exact dpAll_same (sm_wr hLS) (dpAll_app da (.cons ec .nil))
          · rcases List.mem_append.mp hp with h | h
            · exact bp p h
            · rw [List.mem_singleton.mp h]; exact pok
    · rintro σ H2 ⟨v6, v7, xs, ps, rfl, B, sc, hL, da, lp, bp⟩
      exact ⟨_, rfl, q _ L xs ps (B.mono (by omega)) sc nL0 hL da ⟨by omega, bp⟩⟩

end
end Pot

namespace Pot
open PySem PySem.Spec PyProof.Rows L2
section
variable {P : Program} {w : World} {K : PySem.W.Frag} {mg : Str → Option Value} {base : Heap}
def qBy : Str := ("by_coming" : Str) ++ (".<locals>." : Str) ++ ("<lambda>" : Str)
def qKp : Str := ("kept_in" : Str) ++ (".<locals>." : Str) ++ ("<lambda>" : Str)
def TT (Pt Pk : Addr) : List (Addr × Str) := [(Pt, qBy), (Pk, qKp)]
def cmF (ps : List Pc) (i : Nat) : Int := (ps.getD i pc0).1
def ordF (ps : List Pc) : List Nat := (List.range ps.length).mergeSort fun i j => decide (cmF ps i < cmF ps j ∨ (cmF ps i = cmF ps j ∧ (i : Int) ≤ (j : Int)))
def spBy (K : PySem.W.Frag) (Pt Pk : Addr) : Sp := fun vs H Q _ => ∃ (a : Addr) (xs : List V) (ps : List Pc), vs = [.ref a] ∧ SqL K H a xs ∧ DpAll K H xs (ps.map pcD) ∧ ps.length ≤ 60 ∧ LamX.Tabs (TT Pt Pk) H ∧
  ∀ (H' : Hp) (L : Addr), LamX.ExtN H H' → LamX.Tabs (TT Pt Pk) H' → (∀ x u, H x = some u → (∀ ps, u ≠ .tbl ps) → x ≠ L) → H' L = some (.lst ((ordF ps).map natV)) → Q (.ref L) H'
abbrev s_by_coming : Stmt := topS 7
def n_by_coming : List Str := ["pieces"]
theorem sc_by_coming : FnScope n_by_coming ["pieces"] (defScope s_by_coming) := ⟨rfl, rfl, rfl, by decide +kernel, rfl, by decide +kernel, by decide +kernel⟩
theorem ok_by {f cd0 Pt Pk : Addr} {fd : FuncData} {k : Nat} (F : Fun K "by_coming" "by_coming" s_by_coming f fd) (hcd : fd.code = .ref cd0) (T : Txt mg) (TB : LamX.TabB base mg cd0 Pt) (hne : Pt ≠ Pk) : FnOk P w K mg base CX0 (k + 2) f fd ["pieces"] (spBy K Pt Pk) := by
  refine okC F hcd sc_by_coming (fun vs H Q E h => ?_) (fun A outer s H vs Q E hr h => ?_)
  · obtain ⟨a, xs, ps, rfl, _⟩ := h
    rfl
  · obtain ⟨a, xs, ps, rfl, hS, dx, l60, tbs, q⟩ := h
    have nd := sc_by_coming.nd
    have hmT : (Pt, qBy) ∈ TT Pt Pk := List.mem_cons_self
    have huT : ∀ p ∈ TT Pt Pk, p.1 = Pt → p.2 = qBy := fun p hp e => by
      rcases List.mem_cons.mp hp with z | z
      · rw [z]
      · rw [List.mem_singleton.mp z] at e
        exact absurd e.symm hne
    have lx : xs.length = ps.length := dpAll_map_len dx
    refine ⟨_, (pss_one (ps_ret (RLam.pe_sortLamP (io := 0) rfl (by rfl) T.sorted (pa_cons (pe_callTy RLam.cr_range1 (by rfl) T.range (by decide +kernel) (pa_cons (pe_callB (kc_len (K := K)) (by rfl) T.len PySem.boot_len (pa_cons (pv 0) pa_nil)) pa_nil)) pa_nil) TB rfl hmT huT hr ⟨rfl, rfl, rfl, by decide +kernel, rfl, rfl, up_by (sc := defScope s_by_coming) (by decide +kernel)⟩ rfl rfl (fun _ _ _ _ _ _ => rfl)))), ?_⟩
    refine ⟨_, rfl, _, _, rfl, .inl ⟨_, hS, rfl⟩, _, rfl, fun rp nrp => ?_⟩
    have sr := same_upd (o := .rng 0 (xs.length : Int)) nrp
    rw [lx] at sr ⊢
    refine ⟨rp, a, ps.length, xs, cmF ps, rfl, upd_same, Nat.le_trans l60 (by decide), tbs.ext sr, rfl, sr.seq hS, fun i hi => ?_, fun H4 x4 tbs4 q0 nq0 => ?_⟩
    · obtain ⟨b, eb, hb, _⟩ := pcs_at (dpAll_same sr dx) (List.getElem?_eq_getElem (show i < xs.length by omega))
      exact ⟨b, _, by rw [List.getElem?_eq_getElem (show i < xs.length by omega), eb], hb, rfl⟩
    have s5 := same_upd (o := .lst ((ordF ps).map natV)) nq0
    replace x4 : LamX.ExtN H H4 := (LamX.ExtN.of sr).trans x4
    refine q _ q0 (x4.trans (.of s5)) (tbs4.ext s5) (fun x u e nt z => ?_) upd_same
    have := x4 x u e nt
    rw [z, nq0] at this
    cases this
theorem nodup_leG {α : Type} [DecidableEq α] : ∀ {l ts : List α}, l.Nodup → (∀ x ∈ l, x ∈ ts) → l.length ≤ ts.length
  | [], _, _, _ => Nat.zero_le _
  | x :: l, ts, nd, h => by
    have hx := h x List.mem_cons_self
    obtain ⟨n1, n2⟩ := List.nodup_cons.mp nd
    have h1 : l.length ≤ (ts.erase x).length := nodup_leG n2 fun y hy => by
      have ne : y ≠ x := fun e => n1 (e ▸ hy)
      exact (List.mem_erase_of_ne ne).mpr (h y (List.mem_cons_of_mem x hy))
    have h2 := List.length_erase_of_mem hx
    have h3 := List.length_pos_of_mem hx
    rw [List.length_cons]
    omega
theorem inV_nats (j : Nat) : ∀ ts : List Nat, inV (natV j) (ts.map natV) = decide (j ∈ ts)
  | [] => rfl
  | x :: zs => by
    have ih := inV_nats j zs
    unfold inV at ih ⊢
    rw [List.map_cons, List.any_cons, ih, Bool.eq_iff_iff, Bool.or_eq_true, decide_eq_true_eq, decide_eq_true_eq, List.mem_cons]
    refine or_congr ?_ Iff.rfl
    show decide ((x : Int) = (j : Int)) = true ↔ _
    rw [decide_eq_true_eq]
    constructor
    · intro e; omega
    · intro e; omega
theorem flat_nats : ∀ ts : List Nat, (ts.map natV).all flatV = true
  | [] => rfl
  | _ :: zs => by rw [List.map_cons, List.all_cons, flat_nats zs]; rfl
theorem pcs_ext {H H' : Hp} (s : LamX.ExtN H H') : ∀ {ps : List Pc} {xs : List V}, DpAll K H xs (ps.map pcD) → DpAll K H' xs (ps.map pcD)
  | [], _, h => by
    cases h
    exact .nil
  | p :: ps, _, h => by
    cases h with
    | cons a r =>
      obtain ⟨t, rfl, ht⟩ := pc_dp a
      exact .cons (.tup (RLam.sqT_ext ht s) (.cons (.int _) (.cons (.int _) .nil))) (pcs_ext s r)
theorem ordF_perm (ps : List Pc) : (ordF ps).Perm (List.range ps.length) := List.mergeSort_perm ..
theorem ordF_mem {ps : List Pc} {p : Nat} : p ∈ ordF ps ↔ p < ps.length := by rw [(ordF_perm ps).mem_iff, List.mem_range]
theorem ordF_nodup (ps : List Pc) : (ordF ps).Nodup := (ordF_perm ps).nodup_iff.mpr List.nodup_range
theorem ordF_len (ps : List Pc) : (ordF ps).length = ps.length := by rw [(ordF_perm ps).length_eq, List.length_range]
/-- comes first, or with it and of lesser number -/
def RO (ps : List Pc) (i j : Nat) : Prop := cmF ps i < cmF ps j ∨ (cmF ps i = cmF ps j ∧ i < j)
theorem ordF_RO (ps : List Pc) : (ordF ps).Pairwise (RO ps) := by
  have h := List.pairwise_mergeSort (le := fun i j : Nat => decide (cmF ps i < cmF ps j ∨ (cmF ps i = cmF ps j ∧ (i : Int) ≤ (j : Int)))) (fun a b c h1 h2 => by simp only [decide_eq_true_eq] at h1 h2 ⊢; omega) (fun a b => by simp only [Bool.or_eq_true, decide_eq_true_eq]; omega) (List.range ps.length)
  have h : (ordF ps).Pairwise fun i j => decide (cmF ps i < cmF ps j ∨ (cmF ps i = cmF ps j ∧ (i : Int) ≤ (j : Int))) = true := h
  have nd : (ordF ps).Pairwise fun i j => i ≠ j := ordF_nodup ps
  refine (h.and nd).imp fun {i j} z => ?_
  have z1 := of_decide_eq_true z.1
  have z2 := z.2
  unfold RO
  omega
def outF (ps : List Pc) (p : Nat) : Int := (ps.getD p pc0).1 + (ps.getD p pc0).2

end
end Pot

namespace Pot
open PySem PySem.Spec PyProof.Rows L2
section
variable {P : Program} {w : World} {K : PySem.W.Frag} {mg : Str → Option Value} {base : Heap}
/-! ### what is kept: the last one that goes out is put out -/
def innF (ps : List Pc) (h : Int) (x : Nat) : Bool := inB (ps.getD x pc0) h
def insF (ps : List Pc) (K : List Nat) (h : Int) : List Nat := K.filter (innF ps h)
/-- the first of those that go out last -/
def topF (ps : List Pc) (l : List Nat) : Nat := (l.find? fun x => l.all fun y => decide (outF ps y ≤ outF ps x)).getD 0
def stepK (ps : List Pc) (sl : Nat) (K : List Nat) (p : Nat) : List Nat := if sl < (insF ps (K ++ [p]) (cmF ps p)).length then (K ++ [p]).erase (topF ps (insF ps (K ++ [p]) (cmF ps p))) else K ++ [p]
def keptF (ps : List Pc) (sl : Nat) : List Nat := (ordF ps).foldl (stepK ps sl) []
theorem top_at {ps : List Pc} {l : List Nat} {i x : Nat} (g : l[i]? = some x) (h : ∀ j y, l[j]? = some y → outF ps y ≤ outF ps x ∧ (j < i → outF ps y < outF ps x)) : topF ps l = x := by
  unfold topF
  have e : (l.find? fun x => l.all fun y => decide (outF ps y ≤ outF ps x)) = some x := by
    obtain ⟨hi, gx⟩ := List.getElem?_eq_some_iff.mp g
    refine List.find?_eq_some_iff_append.mpr ⟨?_, l.take i, l.drop (i + 1), ?_, fun y hy => ?_⟩
    · refine List.all_eq_true.mpr fun y hy => decide_eq_true ?_
      obtain ⟨j, hj⟩ := List.getElem?_of_mem hy
      exact (h j y hj).1
    · rw [← gx, ← List.drop_eq_getElem_cons hi, List.take_append_drop]
    · obtain ⟨j, hj⟩ := List.getElem?_of_mem hy
      have jl : j < i := by
        have := (List.getElem?_eq_some_iff.mp hj).1
        rw [List.length_take] at this; omega
      rw [List.getElem?_take_of_lt jl] at hj
      have := (h j y hj).2 jl
      rw [Bool.not_eq_true', Bool.eq_false_iff]
      intro z
      have := of_decide_eq_true (List.all_eq_true.mp z x (List.mem_of_getElem? g))
      omega
  rw [e]; rfl
theorem top_of {ps : List Pc} {l : List Nat} (ne : l ≠ []) : topF ps l ∈ l ∧ ∀ y ∈ l, outF ps y ≤ outF ps (topF ps l) := by
  have lp := List.length_pos_iff.mpr ne
  obtain ⟨g1, g2⟩ := RLam.argBest_gt (fun j => outF ps (l.getD j 0)) (l.length - 1)
  generalize argBest (fun i j => decide (outF ps (l.getD i 0) > outF ps (l.getD j 0))) (l.length - 1) = i at g1 g2
  have hi : i < l.length := by omega
  have gi := List.getElem?_eq_getElem hi
  have gd : ∀ {j y}, l[j]? = some y → l.getD j 0 = y := fun {j y} e => by rw [List.getD_eq_getElem?_getD, e]; rfl
  have e := top_at (ps := ps) gi fun j y hj => by
    have jl := (List.getElem?_eq_some_iff.mp hj).1
    have := g2 j (by omega)
    rw [gd hj, gd gi] at this
    exact this
  rw [e]
  refine ⟨List.getElem_mem hi, fun y hy => ?_⟩
  obtain ⟨j, hj⟩ := List.getElem?_of_mem hy
  have jl := (List.getElem?_eq_some_iff.mp hj).1
  have := (g2 j (by omega)).1
  rw [gd hj, gd gi] at this
  exact this
/-- at none of these hours -/
def noneF (ps : List Pc) (Hs : List Int) (x : Nat) : Bool := Hs.all fun h => !innF ps h x
def leF (ps : List Pc) (b : Int) (x : Nat) : Bool := decide (outF ps x ≤ b)
theorem inn_iff {ps : List Pc} {h : Int} {x : Nat} : innF ps h x = true ↔ cmF ps x ≤ h ∧ h < outF ps x := by
  unfold innF inB
  rw [Bool.and_eq_true, decide_eq_true_eq, decide_eq_true_eq]; exact Iff.rfl
theorem inn_not {ps : List Pc} {h : Int} {x : Nat} : innF ps h x = false ↔ h < cmF ps x ∨ outF ps x ≤ h := by
  rw [← Bool.not_eq_true, inn_iff]; omega
theorem le_iff {ps : List Pc} {b : Int} {x : Nat} : leF ps b x = true ↔ outF ps x ≤ b := by unfold leF; rw [decide_eq_true_eq]
theorem none_iff {ps : List Pc} {Hs : List Int} {x : Nat} : noneF ps Hs x = true ↔ ∀ h ∈ Hs, innF ps h x = false := by
  unfold noneF
  rw [List.all_eq_true]
  exact forall_congr' fun h => forall_congr' fun _ => by rw [Bool.not_eq_true']
theorem cnt_congr {l : List Nat} {f g : Nat → Bool} (h : ∀ x ∈ l, f x = g x) : l.countP f = l.countP g := by
  induction l with
  | nil => rfl
  | cons x l ih =>
    rw [List.countP_cons, List.countP_cons, ih (fun y hy => h y (List.mem_cons_of_mem _ hy)), h x List.mem_cons_self]
theorem cnt_split (l : List Nat) (f g : Nat → Bool) : l.countP f = l.countP (fun x => f x && g x) + l.countP (fun x => f x && !g x) := by
  induction l with
  | nil => rfl
  | cons x l ih =>
    rw [List.countP_cons, List.countP_cons, List.countP_cons, ih]
    cases f x <;> cases g x <;> simp <;> omega
theorem cnt_le {l : List Nat} {f g : Nat → Bool} (h : ∀ x ∈ l, f x = true → g x = true) : l.countP f ≤ l.countP g := by
  induction l with
  | nil => exact Nat.le_refl _
  | cons x l ih =>
    rw [List.countP_cons, List.countP_cons]
    have := ih fun y hy => h y (List.mem_cons_of_mem _ hy)
    have hx := h x List.mem_cons_self
    cases e : f x
    · simp; omega
    · rw [hx e]; simp; omega
theorem cnt_snoc (l : List Nat) (p : Nat) (f : Nat → Bool) : (l ++ [p]).countP f = l.countP f + (if f p = true then 1 else 0) := by
  rw [List.countP_append, List.countP_cons, List.countP_nil, Nat.zero_add]
theorem cnt_erase {l : List Nat} {d : Nat} (hd : d ∈ l) (f : Nat → Bool) : l.countP f = (l.erase d).countP f + (if f d = true then 1 else 0) := by
  have := (List.perm_cons_erase hd).countP_eq f
  rw [this, List.countP_cons]
theorem cnt_snocF (l : List Nat) {p : Nat} {f : Nat → Bool} (h : f p = false) : (l ++ [p]).countP f = l.countP f := by rw [cnt_snoc, h, if_neg Bool.false_ne_true, Nat.add_zero]
theorem cnt_snocT (l : List Nat) {p : Nat} {f : Nat → Bool} (h : f p = true) : (l ++ [p]).countP f = l.countP f + 1 := by rw [cnt_snoc, h, if_pos rfl]
theorem cnt_eraseF {l : List Nat} {d : Nat} (hd : d ∈ l) {f : Nat → Bool} (h : f d = false) : l.countP f = (l.erase d).countP f := by rw [cnt_erase hd, h, if_neg Bool.false_ne_true, Nat.add_zero]
theorem cnt_eraseT {l : List Nat} {d : Nat} (hd : d ∈ l) {f : Nat → Bool} (h : f d = true) : l.countP f = (l.erase d).countP f + 1 := by rw [cnt_erase hd, h, if_pos rfl]
theorem and_r {a b : Bool} (h : b = false) : (a && b) = false := by rw [h, Bool.and_false]
/-- of what is kept of L -/
structure KInv (ps : List Pc) (sl : Nat) (L K : List Nat) : Prop where
  sub : ∀ x ∈ K, x ∈ L
  nd : K.Nodup
  fit : ∀ h, K.countP (innF ps h) ≤ sl
  dual : ∀ b : Int, ∃ Hs : List Int, Hs.Pairwise (· < ·) ∧ (∀ h ∈ Hs, h < b ∧ (∃ q ∈ L, cmF ps q = h) ∧ sl ≤ K.countP fun x => innF ps h x && leF ps b x) ∧
    sl * Hs.length + L.countP (fun x => leF ps b x && noneF ps Hs x) = K.countP (leF ps b)
theorem kinv_nil {ps : List Pc} {sl : Nat} : KInv ps sl [] [] := ⟨fun x h => h, .nil, fun h => Nat.zero_le _, fun b => ⟨[], .nil, fun h hh => (List.not_mem_nil hh).elim, rfl⟩⟩
theorem inn_late {ps : List Pc} {h c : Int} {x : Nat} (hx : cmF ps x ≤ c) (hc : c ≤ h) (i : innF ps h x = true) : innF ps c x = true := by
  have := inn_iff.mp i
  exact inn_iff.mpr ⟨hx, by omega⟩
theorem kinv_step {ps : List Pc} {sl : Nat} {L K : List Nat} {p : Nat} (I : KInv ps sl L K) (hp : p ∉ L) (hL : ∀ q ∈ L, cmF ps q ≤ cmF ps p) (pos : cmF ps p < outF ps p) : KInv ps sl (L ++ [p]) (stepK ps sl K p) := by
  have hK : ∀ q ∈ K, cmF ps q ≤ cmF ps p := fun q hq => hL q (I.sub q hq)
  have nd1 : (K ++ [p]).Nodup := List.nodup_append.mpr ⟨I.nd, List.nodup_cons.mpr ⟨List.not_mem_nil, .nil⟩, fun a ha b hb e => by
    rw [List.mem_singleton.mp hb] at e
    exact hp (e ▸ I.sub a ha)⟩
  have sub1 : ∀ x ∈ K ++ [p], x ∈ L ++ [p] := fun x hx => by
    rcases List.mem_append.mp hx with h | h
    · exact List.mem_append_left _ (I.sub x h)
    · exact List.mem_append_right _ h
  have hK1 : ∀ q ∈ K ++ [p], cmF ps q ≤ cmF ps p := fun q hq => by
    rcases List.mem_append.mp hq with h | h
    · exact hK q h
    · rw [List.mem_singleton.mp h]; exact Int.le_refl _
  have hL1 : ∀ q ∈ L ++ [p], cmF ps q ≤ cmF ps p := fun q hq => by
    rcases List.mem_append.mp hq with h | h
    · exact hL q h
    · rw [List.mem_singleton.mp h]; exact Int.le_refl _
  have pin : innF ps (cmF ps p) p = true := inn_iff.mpr ⟨Int.le_refl _, pos⟩
  have el : (insF ps (K ++ [p]) (cmF ps p)).length = (K ++ [p]).countP (innF ps (cmF ps p)) := by unfold insF; rw [List.countP_eq_length_filter]
  have n1 := cnt_snocT K pin
  have fc := I.fit (cmF ps p)
  unfold stepK
  by_cases c : sl < (insF ps (K ++ [p]) (cmF ps p)).length
  · rw [if_pos c]
    rw [el] at c
    have ne : insF ps (K ++ [p]) (cmF ps p) ≠ [] := fun z => by rw [z] at el; have el : 0 = (K ++ [p]).countP (innF ps (cmF ps p)) := el; omega
    obtain ⟨d1, d2⟩ := top_of (ps := ps) ne
    generalize topF ps (insF ps (K ++ [p]) (cmF ps p)) = d at d1 d2
    unfold insF at d1 d2
    obtain ⟨dK, din⟩ := List.mem_filter.mp d1
    obtain ⟨dle, dle2⟩ := inn_iff.mp din
    have subE : ∀ x ∈ (K ++ [p]).erase d, x ∈ K ++ [p] := fun x hx => List.mem_of_mem_erase hx
    have ec := cnt_eraseT dK din
    have topI : ∀ x ∈ (K ++ [p]).erase d, innF ps (cmF ps p) x = true → outF ps x ≤ outF ps d := fun x hx i => d2 x (List.mem_filter.mpr ⟨subE x hx, i⟩)
    refine ⟨fun x hx => sub1 x (subE x hx), nd1.erase d, fun h => ?_, fun b => ?_⟩
    · by_cases hc : cmF ps p ≤ h
      · have := cnt_le (l := (K ++ [p]).erase d) (f := innF ps h) (g := innF ps (cmF ps p)) fun x hx i => inn_late (hK1 x (subE x hx)) hc i
        omega
      · have e1 := cnt_erase dK (innF ps h)
        have e2 := cnt_snocF K (show innF ps h p = false from inn_not.mpr (.inl (by omega)))
        have := I.fit h
        omega
    · by_cases hb : outF ps d ≤ b
      · obtain ⟨Hs, h1, h2, h3⟩ := I.dual (cmF ps p)
        have pout : leF ps (cmF ps p) p = false := Bool.eq_false_iff.mpr fun z => by have := le_iff.mp z; omega
        have dout : leF ps (cmF ps p) d = false := Bool.eq_false_iff.mpr fun z => by have := le_iff.mp z; omega
        refine ⟨Hs ++ [cmF ps p], List.pairwise_append.mpr ⟨h1, List.pairwise_singleton .., fun a ha b hb => by rw [List.mem_singleton.mp hb]; exact (h2 a ha).1⟩, fun h hh => ?_, ?_⟩
        · rcases List.mem_append.mp hh with z | z
          · obtain ⟨a1, ⟨q, hq, eq⟩, a3⟩ := h2 h z
            refine ⟨by omega, ⟨q, List.mem_append_left _ hq, eq⟩, ?_⟩
            have e1 := cnt_eraseF dK (f := fun x => innF ps h x && leF ps (cmF ps p) x) (and_r dout)
            have e2 := cnt_snocF K (f := fun x => innF ps h x && leF ps (cmF ps p) x) (and_r pout)
            have := cnt_le (l := (K ++ [p]).erase d) (f := fun x => innF ps h x && leF ps (cmF ps p) x) (g := fun x => innF ps h x && leF ps b x) fun x _ i => by
              rw [Bool.and_eq_true] at i ⊢
              exact ⟨i.1, le_iff.mpr (by have := le_iff.mp i.2; omega)⟩
            omega
          · rw [List.mem_singleton.mp z]
            refine ⟨by omega, ⟨p, List.mem_append_right _ List.mem_cons_self, rfl⟩, ?_⟩
            have := cnt_le (l := (K ++ [p]).erase d) (f := innF ps (cmF ps p)) (g := fun x => innF ps (cmF ps p) x && leF ps b x) fun x hx i => by
              rw [Bool.and_eq_true]
              exact ⟨i, le_iff.mpr (by have := topI x hx i; omega)⟩
            omega
        · have pz : (leF ps b p && noneF ps (Hs ++ [cmF ps p]) p) = false := by
            rw [Bool.and_eq_false_iff]
            right
            rw [← Bool.not_eq_true, none_iff]
            intro z
            have := z _ (List.mem_append_right _ List.mem_cons_self)
            rw [pin] at this; cases this
          rw [List.length_append, cnt_snocF L (f := fun x => leF ps b x && noneF ps (Hs ++ [cmF ps p]) x) pz]
          have e1 : L.countP (fun x => leF ps b x && noneF ps (Hs ++ [cmF ps p]) x) = L.countP (fun x => leF ps (cmF ps p) x && noneF ps Hs x) := cnt_congr fun x hx => by
            have hx := hL x hx
            rw [Bool.eq_iff_iff, Bool.and_eq_true, Bool.and_eq_true, le_iff, le_iff, none_iff, none_iff]
            constructor
            · rintro ⟨z1, z2⟩
              have := inn_not.mp (z2 _ (List.mem_append_right _ List.mem_cons_self))
              exact ⟨by omega, fun h hh => z2 h (List.mem_append_left _ hh)⟩
            · rintro ⟨z1, z2⟩
              refine ⟨by omega, fun h hh => ?_⟩
              rcases List.mem_append.mp hh with y | y
              · exact z2 h y
              · rw [List.mem_singleton.mp y]; exact inn_not.mpr (.inr z1)
          have e2 := cnt_split ((K ++ [p]).erase d) (leF ps b) (leF ps (cmF ps p))
          have e3 : ((K ++ [p]).erase d).countP (fun x => leF ps b x && leF ps (cmF ps p) x) = ((K ++ [p]).erase d).countP (leF ps (cmF ps p)) := cnt_congr fun x _ => by
            rw [Bool.eq_iff_iff, Bool.and_eq_true, le_iff, le_iff]
            omega
          have e4 : ((K ++ [p]).erase d).countP (fun x => leF ps b x && !leF ps (cmF ps p) x) = ((K ++ [p]).erase d).countP (innF ps (cmF ps p)) := cnt_congr fun x hx => by
            have hx1 := hK1 x (subE x hx)
            rw [Bool.eq_iff_iff, Bool.and_eq_true, le_iff, Bool.not_eq_true', ← Bool.not_eq_true, le_iff, inn_iff]
            constructor
            · rintro ⟨z1, z2⟩; exact ⟨hx1, by omega⟩
            · intro z
              have := topI x hx (inn_iff.mpr z)
              omega
          have e5 := cnt_eraseF dK dout
          have e6 := cnt_snocF K pout
          have e7 : sl * (Hs.length + [cmF ps p].length) = sl * Hs.length + sl := by show sl * (Hs.length + 1) = _; rw [Nat.mul_add, Nat.mul_one]
          rw [e1, e7]
          omega
      · obtain ⟨Hs, h1, h2, h3⟩ := I.dual b
        have dz : leF ps b d = false := by rw [← Bool.not_eq_true, le_iff]; omega
        have e1 := cnt_eraseF dK dz
        have low : ∀ f : Nat → Bool, K.countP (fun x => f x && leF ps b x) ≤ ((K ++ [p]).erase d).countP (fun x => f x && leF ps b x) := fun f => by
          have e1 := cnt_eraseF dK (f := fun x => f x && leF ps b x) (and_r dz)
          have e2 := cnt_snoc K p fun x => f x && leF ps b x
          omega
        refine ⟨Hs, h1, fun h hh => ?_, ?_⟩
        · obtain ⟨a1, ⟨q, hq, eq⟩, a3⟩ := h2 h hh
          have := low (innF ps h)
          exact ⟨a1, ⟨q, List.mem_append_left _ hq, eq⟩, by omega⟩
        · by_cases hpb : outF ps p ≤ b
          · have pz : leF ps b p = true := le_iff.mpr hpb
            have e2 := cnt_snocT K pz
            have cn : cmF ps p ∉ Hs := fun hh => by
              have a3 := (h2 _ hh).2.2
              have s1 := cnt_split (K ++ [p]) (innF ps (cmF ps p)) (leF ps b)
              have s2 := cnt_snocT K (p := p) (f := fun x => innF ps (cmF ps p) x && leF ps b x) (by show (_ && _) = _; rw [pin, pz]; rfl)
              have s3 : 0 < (K ++ [p]).countP fun x => innF ps (cmF ps p) x && !leF ps b x := List.countP_pos_iff.mpr ⟨d, dK, by rw [din, dz]; rfl⟩
              omega
            have pn : noneF ps Hs p = true := none_iff.mpr fun h hh => by
              obtain ⟨_, ⟨q, hq, eq⟩, _⟩ := h2 h hh
              have := hL q hq
              exact inn_not.mpr (.inl (by
                rcases Int.lt_or_eq_of_le (show h ≤ cmF ps p by omega) with z | z
                · exact z
                · exact absurd hh (z ▸ cn)))
            rw [cnt_snocT L (p := p) (f := fun x => leF ps b x && noneF ps Hs x) (by show (_ && _) = _; rw [pz, pn]; rfl)]
            omega
          · have pz : leF ps b p = false := by rw [← Bool.not_eq_true, le_iff]; omega
            have e2 := cnt_snocF K pz
            rw [cnt_snocF L (p := p) (f := fun x => leF ps b x && noneF ps Hs x) (by show (_ && _) = _; rw [pz]; rfl)]
            omega
  · rw [if_neg c]
    rw [el] at c
    refine ⟨sub1, nd1, fun h => ?_, fun b => ?_⟩
    · by_cases hc : cmF ps p ≤ h
      · have := cnt_le (l := K ++ [p]) (f := innF ps h) (g := innF ps (cmF ps p)) fun x hx i => inn_late (hK1 x hx) hc i
        omega
      · have e2 := cnt_snocF K (show innF ps h p = false from inn_not.mpr (.inl (by omega)))
        have := I.fit h
        omega
    · obtain ⟨Hs, h1, h2, h3⟩ := I.dual b
      refine ⟨Hs, h1, fun h hh => ?_, ?_⟩
      · obtain ⟨a1, ⟨q, hq, eq⟩, a3⟩ := h2 h hh
        have := cnt_snoc K p fun x => innF ps h x && leF ps b x
        exact ⟨a1, ⟨q, List.mem_append_left _ hq, eq⟩, by omega⟩
      · by_cases hpb : outF ps p ≤ b
        · have pz : leF ps b p = true := le_iff.mpr hpb
          have e2 := cnt_snocT K pz
          have cn : cmF ps p ∉ Hs := fun hh => by
            have a3 := (h2 _ hh).2.2
            have := cnt_le (l := K) (f := fun x => innF ps (cmF ps p) x && leF ps b x) (g := innF ps (cmF ps p)) fun x _ i => by
              rw [Bool.and_eq_true] at i; exact i.1
            omega
          have pn : noneF ps Hs p = true := none_iff.mpr fun h hh => by
            obtain ⟨_, ⟨q, hq, eq⟩, _⟩ := h2 h hh
            have := hL q hq
            exact inn_not.mpr (.inl (by
              rcases Int.lt_or_eq_of_le (show h ≤ cmF ps p by omega) with z | z
              · exact z
              · exact absurd hh (z ▸ cn)))
          rw [cnt_snocT L (p := p) (f := fun x => leF ps b x && noneF ps Hs x) (by show (_ && _) = _; rw [pz, pn]; rfl)]
          omega
        · have pz : leF ps b p = false := by rw [← Bool.not_eq_true, le_iff]; omega
          have e2 := cnt_snocF K pz
          rw [cnt_snocF L (p := p) (f := fun x => leF ps b x && noneF ps Hs x) (by show (_ && _) = _; rw [pz]; rfl)]
          omega
theorem kinv_fold {ps : List Pc} {sl : Nat} (pos : ∀ p, p < ps.length → cmF ps p < outF ps p) : ∀ {l L K : List Nat}, KInv ps sl L K → (L ++ l).Pairwise (RO ps) → (∀ p ∈ l, p < ps.length) → KInv ps sl (L ++ l) (l.foldl (stepK ps sl) K)
  | [], L, K, I, _, _ => by rw [List.append_nil]; exact I
  | p :: l, L, K, I, pw, hl => by
    obtain ⟨w1, w2, w3⟩ := List.pairwise_append.mp pw
    have J := kinv_step I (p := p) (fun z => by have := w3 p z p List.mem_cons_self; unfold RO at this; omega) (fun q hq => by have := w3 q hq p List.mem_cons_self; unfold RO at this; omega) (pos p (hl p List.mem_cons_self))
    have := kinv_fold pos (l := l) J (by rw [List.append_assoc]; exact pw) fun q hq => hl q (List.mem_cons_of_mem _ hq)
    rw [List.append_assoc] at this
    exact this
theorem kept_inv {ps : List Pc} (sl : Nat) (pos : ∀ p, p < ps.length → cmF ps p < outF ps p) : KInv ps sl (ordF ps) (keptF ps sl) := kinv_fold pos (L := []) kinv_nil (ordF_RO ps) fun p hp => ordF_mem.mp hp
/-- how many fit at most, by these hours -/
def bndF (ps : List Pc) (sl : Nat) (Hs : List Int) : Nat := sl * Hs.length + (List.range ps.length).countP (noneF ps Hs)
theorem big_out {ps : List Pc} : ∃ b, ∀ x, x < ps.length → outF ps x ≤ b := by
  have : ∀ l : List Nat, ∃ b, ∀ x ∈ l, outF ps x ≤ b := fun l => by
    induction l with
    | nil => exact ⟨0, fun x h => (List.not_mem_nil h).elim⟩
    | cons y l ih =>
      obtain ⟨b, h⟩ := ih
      refine ⟨max b (outF ps y), fun x hx => ?_⟩
      rcases List.mem_cons.mp hx with e | e
      · rw [e]; omega
      · have := h x e; omega
  obtain ⟨b, h⟩ := this (List.range ps.length)
  exact ⟨b, fun x hx => h x (List.mem_range.mpr hx)⟩
theorem kept_dual {ps : List Pc} (sl : Nat) (pos : ∀ p, p < ps.length → cmF ps p < outF ps p) : ∃ Hs : List Int, Hs.Pairwise (· < ·) ∧ (∀ h ∈ Hs, h ∈ ps.map (·.1)) ∧ bndF ps sl Hs = (keptF ps sl).length := by
  have I := kept_inv sl pos
  obtain ⟨b, hb⟩ := big_out (ps := ps)
  obtain ⟨Hs, h1, h2, h3⟩ := I.dual b
  refine ⟨Hs, h1, fun h hh => ?_, ?_⟩
  · obtain ⟨_, ⟨q, hq, rfl⟩, _⟩ := h2 h hh
    have := ordF_mem.mp hq
    refine List.mem_map.mpr ⟨ps.getD q pc0, ?_, rfl⟩
    rw [List.getD_eq_getElem?_getD, List.getElem?_eq_getElem this]
    exact List.getElem_mem this
  · unfold bndF
    rw [← (ordF_perm ps).countP_eq]
    have e1 : (ordF ps).countP (noneF ps Hs) = (ordF ps).countP fun x => leF ps b x && noneF ps Hs x := cnt_congr fun x hx => by
      rw [le_iff.mpr (hb x (ordF_mem.mp hx))]; rfl
    have e2 : (keptF ps sl).countP (leF ps b) = (keptF ps sl).length := List.countP_eq_length.mpr fun x hx => le_iff.mpr (hb x (ordF_mem.mp (I.sub x hx)))
    rw [e1, h3, e2]
theorem max_at {l : List Nat} (f : Nat → Int) (ne : l ≠ []) : ∃ x ∈ l, ∀ y ∈ l, f y ≤ f x := by
  induction l with
  | nil => exact absurd rfl ne
  | cons a l ih =>
    by_cases e : l = []
    · subst e
      exact ⟨a, List.mem_cons_self, fun y hy => by rw [List.mem_singleton.mp hy]; exact Int.le_refl _⟩
    · obtain ⟨x, hx, h⟩ := ih e
      by_cases c : f x ≤ f a
      · refine ⟨a, List.mem_cons_self, fun y hy => ?_⟩
        rcases List.mem_cons.mp hy with z | z
        · rw [z]; exact Int.le_refl _
        · have := h y z; omega
      · refine ⟨x, List.mem_cons_of_mem _ hx, fun y hy => ?_⟩
        rcases List.mem_cons.mp hy with z | z
        · rw [z]; omega
        · exact h y z
/-- these fit: as each one comes not too many are in -/
def FitF (ps : List Pc) (sl : Nat) (S : List Nat) : Prop := ∀ p ∈ S, S.countP (innF ps (cmF ps p)) ≤ sl
theorem fit_all {ps : List Pc} {sl : Nat} {S : List Nat} (F : FitF ps sl S) (h : Int) : S.countP (innF ps h) ≤ sl := by
  by_cases e : S.filter (innF ps h) = []
  · rw [List.countP_eq_length_filter, e]; exact Nat.zero_le _
  · obtain ⟨x, hx, hm⟩ := max_at (cmF ps) e
    obtain ⟨x1, x2⟩ := List.mem_filter.mp hx
    refine Nat.le_trans (cnt_le fun y hy i => ?_) (F x x1)
    have := hm y (List.mem_filter.mpr ⟨hy, i⟩)
    exact inn_late this (inn_iff.mp x2).1 i
theorem any_le {ps : List Pc} {sl : Nat} {S : List Nat} (F : ∀ h, S.countP (innF ps h) ≤ sl) : ∀ Hs : List Int, S.countP (fun x => !noneF ps Hs x) ≤ sl * Hs.length
  | [] => by
    rw [List.countP_eq_zero.mpr fun x _ => by unfold noneF; simp]
    exact Nat.zero_le _
  | h :: Hs => by
    have ih := any_le F Hs
    have e := cnt_split S (fun x => !noneF ps (h :: Hs) x) (innF ps h)
    have e1 := cnt_le (l := S) (f := fun x => !noneF ps (h :: Hs) x && innF ps h x) (g := innF ps h) fun x _ i => (Bool.and_eq_true _ _ ▸ i).2
    have e2 := cnt_le (l := S) (f := fun x => !noneF ps (h :: Hs) x && !innF ps h x) (g := fun x => !noneF ps Hs x) fun x _ i => by
      unfold noneF at i ⊢
      rw [List.all_cons] at i
      cases z : innF ps h x <;> rw [z] at i <;> simp at i ⊢ <;> exact i
    have := F h
    rw [List.length_cons, Nat.mul_add, Nat.mul_one]
    omega
theorem weakF {ps : List Pc} {sl : Nat} {S : List Nat} (nd : S.Nodup) (hS : ∀ x ∈ S, x < ps.length) (F : ∀ h, S.countP (innF ps h) ≤ sl) (Hs : List Int) : S.length ≤ bndF ps sl Hs := by
  have e := List.length_eq_countP_add_countP (noneF ps Hs) (l := S)
  have e1 := any_le F Hs
  have e2 : S.countP (noneF ps Hs) ≤ (List.range ps.length).countP (noneF ps Hs) := by
    rw [List.countP_eq_length_filter, List.countP_eq_length_filter]
    refine nodup_leG (nd.sublist List.filter_sublist) fun x hx => ?_
    obtain ⟨x1, x2⟩ := List.mem_filter.mp hx
    exact List.mem_filter.mpr ⟨List.mem_range.mpr (hS x x1), x2⟩
  have e3 : S.countP (fun x => decide ¬noneF ps Hs x = true) = S.countP (fun x => !noneF ps Hs x) := cnt_congr fun x _ => by cases noneF ps Hs x <;> rfl
  unfold bndF
  rw [e3] at e
  omega
theorem kept_fit {ps : List Pc} (sl : Nat) (pos : ∀ p, p < ps.length → cmF ps p < outF ps p) : (keptF ps sl).Nodup ∧ (∀ x ∈ keptF ps sl, x < ps.length) ∧ ∀ h, (keptF ps sl).countP (innF ps h) ≤ sl := by
  have I := kept_inv sl pos
  exact ⟨I.nd, fun x hx => ordF_mem.mp (I.sub x hx), I.fit⟩

/-! ### the hours that tell that no more fit -/
abbrev Ent := Int × List Int
def prD (e : Ent) : PyData := .tuple [.int e.1, .list (e.2.map PyData.int)]
def ltE (a b : Ent) : Bool := PySem.W.dataLt (prD a) (prD b)
def minE (x : Ent) (xs : List Ent) : Ent := xs.foldl (fun a y => if ltE y a = true then y else a) x
theorem minD_minE : ∀ (xs : List Ent) (x : Ent), PySem.W.minD (prD x) (xs.map prD) = prD (minE x xs)
  | [], x => rfl
  | y :: xs, x => by
    have ih := minD_minE xs (if ltE y x = true then y else x)
    unfold PySem.W.minD minE at ih ⊢
    rw [List.map_cons, List.foldl_cons, List.foldl_cons, ← ih]
    unfold ltE
    congr 1
    split <;> rfl
theorem alike_ints : ∀ xs ys : List Int, PySem.W.alikeAll (xs.map PyData.int) (ys.map PyData.int) = true
  | [], _ => by rw [List.map_nil, PySem.W.alikeAll]
  | x :: xs, [] => by rw [List.map_nil, List.map_cons]; rw [PySem.W.alikeAll]
  | x :: xs, y :: ys => by
    rw [List.map_cons, List.map_cons, PySem.W.alikeAll, alike_ints xs ys]; rfl
theorem alike_prD (a b : Ent) : PySem.W.alike (prD a) (prD b) = true := by
  unfold prD
  rw [PySem.W.alike, PySem.W.alikeAll, PySem.W.alikeAll, PySem.W.alike, PySem.W.alike, alike_ints, PySem.W.alikeAll]; rfl
theorem alikeAll_prD (l : List Ent) : PySem.W.AlikeAll (l.map prD) := ⟨fun x hx y hy => by
  obtain ⟨a, _, rfl⟩ := List.mem_map.mp hx
  obtain ⟨b, _, rfl⟩ := List.mem_map.mp hy
  exact alike_prD a b, fun x hx e => by
  obtain ⟨a, _, rfl⟩ := List.mem_map.mp hx
  cases e⟩
theorem ltE_lt {a b : Ent} (h : a.1 < b.1) : ltE a b = true := by
  unfold ltE prD
  rw [PySem.W.dataLt_pair rfl (by rw [PySem.W.alike]; exact alike_ints _ _), show PyData.eqv (.int a.1) (.int b.1) = false from decide_eq_false (by omega), if_neg Bool.false_ne_true, PySem.W.dataLt_int]
  exact decide_eq_true h
theorem ltE_not {a b : Ent} (h : b.1 < a.1) : ltE a b = false := by
  unfold ltE prD
  rw [PySem.W.dataLt_pair rfl (by rw [PySem.W.alike]; exact alike_ints _ _), show PyData.eqv (.int a.1) (.int b.1) = false from decide_eq_false (by omega), if_neg Bool.false_ne_true, PySem.W.dataLt_int]
  exact decide_eq_false (by omega)
theorem minE_is : ∀ (xs : List Ent) (x : Ent), minE x xs ∈ x :: xs ∧ ∀ y ∈ x :: xs, (minE x xs).1 ≤ y.1
  | [], x => ⟨List.mem_cons_self, fun y hy => by rw [List.mem_singleton.mp hy]; exact Int.le_refl _⟩
  | z :: xs, x => by
    obtain ⟨h1, h2⟩ := minE_is xs (if ltE z x = true then z else x)
    have e : minE x (z :: xs) = minE (if ltE z x = true then z else x) xs := rfl
    have lo : (if ltE z x = true then z else x).1 ≤ x.1 ∧ (if ltE z x = true then z else x).1 ≤ z.1 := by
      cases c : ltE z x with
      | true =>
        rw [if_pos rfl]
        refine ⟨?_, Int.le_refl _⟩
        refine Int.not_lt.mp fun l => ?_
        rw [ltE_not l] at c; cases c
      | false =>
        rw [if_neg Bool.false_ne_true]
        refine ⟨Int.le_refl _, ?_⟩
        refine Int.not_lt.mp fun l => ?_
        rw [ltE_lt l] at c; cases c
    rw [e]
    refine ⟨?_, fun y hy => ?_⟩
    · rcases List.mem_cons.mp h1 with q | q
      · rw [q]
        split
        · exact List.mem_cons_of_mem _ List.mem_cons_self
        · exact List.mem_cons_self
      · exact List.mem_cons_of_mem _ (List.mem_cons_of_mem _ q)
    · have hb := h2 _ List.mem_cons_self
      rcases List.mem_cons.mp hy with q | q
      · rw [q]; omega
      · rcases List.mem_cons.mp q with q | q
        · rw [q]; omega
        · exact h2 y (List.mem_cons_of_mem _ q)
/-- all out by then, and later than that -/
def agF (ps : List Pc) (a : Option Int) (x : Nat) : Bool := match a with
  | none => true
  | some a => decide (a < cmF ps x)
def bhF (ps : List Pc) (b : Option Int) (x : Nat) : Bool := match b with
  | none => true
  | some b => decide (outF ps x ≤ b)
def msF (ps : List Pc) (a b : Option Int) (x : Nat) : Bool := agF ps a x && bhF ps b x
def missF (ps : List Pc) (a b : Option Int) : Nat := (List.range ps.length).countP (msF ps a b)
def lastF (row : List Int) : Int := row.getLastD 0
theorem last_snoc (row : List Int) (h : Int) : lastF (row ++ [h]) = h := by unfold lastF; rw [List.getLastD_concat]
/-- what a row of hours costs up to its last hour -/
def preF (ps : List Pc) (sl : Nat) (row : List Int) : Nat := sl * row.length + (List.range ps.length).countP (fun x => leF ps (lastF row) x && noneF ps row x)
theorem pre_one {ps : List Pc} {sl : Nat} {h : Int} (pos : ∀ p, p < ps.length → cmF ps p < outF ps p) : preF ps sl [h] = sl + missF ps none (some h) := by
  unfold preF missF
  have e : lastF [h] = h := rfl
  rw [e, List.length_singleton, Nat.mul_one]
  refine congrArg (sl + ·) (cnt_congr fun x hx => ?_)
  have := pos x (List.mem_range.mp hx)
  unfold msF agF bhF
  rw [Bool.eq_iff_iff, Bool.and_eq_true, Bool.and_eq_true, le_iff, none_iff, decide_eq_true_eq]
  constructor
  · intro z; exact ⟨rfl, z.1⟩
  · intro z
    refine ⟨z.2, fun k hk => ?_⟩
    rw [List.mem_singleton.mp hk]; exact inn_not.mpr (.inr z.2)
theorem snoc_of {row : List Int} (ne : row ≠ []) : ∃ r a, row = r ++ [a] := ⟨_, _, (List.dropLast_concat_getLast ne).symm⟩
theorem last_max {row : List Int} (pw : row.Pairwise (· < ·)) : ∀ {h : Int}, h ∈ row → h ≤ lastF row := by
  intro h hh
  have ne : row ≠ [] := fun z => by rw [z] at hh; cases hh
  obtain ⟨r, a, rfl⟩ : ∃ r a, row = r ++ [a] := snoc_of ne
  rw [last_snoc]
  rcases List.mem_append.mp hh with z | z
  · have := (List.pairwise_append.mp pw).2.2 h z a List.mem_cons_self
    omega
  · rw [List.mem_singleton.mp z]; exact Int.le_refl _
theorem last_mem {row : List Int} (ne : row ≠ []) : lastF row ∈ row := by
  obtain ⟨r, a, rfl⟩ : ∃ r a, row = r ++ [a] := snoc_of ne
  rw [last_snoc]
  exact List.mem_append_right _ List.mem_cons_self
/-- those of a row, by whether they lie behind its last hour -/
theorem none_split {ps : List Pc} {row : List Int} (pw : row.Pairwise (· < ·)) (ne : row ≠ []) {x : Nat} (hx : cmF ps x < outF ps x) : noneF ps row x = (leF ps (lastF row) x && noneF ps row x || decide (lastF row < cmF ps x)) := by
  rw [Bool.eq_iff_iff, Bool.or_eq_true, Bool.and_eq_true, le_iff, none_iff, decide_eq_true_eq]
  constructor
  · intro z
    rcases inn_not.mp (z _ (last_mem ne)) with y | y
    · exact .inr y
    · exact .inl ⟨y, z⟩
  · rintro (z | z)
    · exact z.2
    · intro h hh
      have := last_max pw hh
      exact inn_not.mpr (.inl (by omega))
theorem cnt_or {l : List Nat} {f g : Nat → Bool} (h : ∀ x ∈ l, f x = true → g x = false) : l.countP (fun x => f x || g x) = l.countP f + l.countP g := by
  induction l with
  | nil => rfl
  | cons x l ih =>
    rw [List.countP_cons, List.countP_cons, List.countP_cons, ih (fun y hy => h y (List.mem_cons_of_mem _ hy))]
    have := h x List.mem_cons_self
    cases e : f x <;> cases e2 : g x <;> simp <;> first | omega | (rw [this e] at e2; cases e2)
theorem pre_snoc {ps : List Pc} {sl : Nat} {row : List Int} {h : Int} (pos : ∀ p, p < ps.length → cmF ps p < outF ps p) (pw : row.Pairwise (· < ·)) (ne : row ≠ []) (hh : lastF row < h) : preF ps sl (row ++ [h]) = sl + preF ps sl row + missF ps (some (lastF row)) (some h) := by
  unfold preF missF
  rw [last_snoc, List.length_append, List.length_singleton, Nat.mul_add, Nat.mul_one]
  have e1 : (List.range ps.length).countP (fun x => leF ps h x && noneF ps (row ++ [h]) x) = (List.range ps.length).countP (fun x => (leF ps (lastF row) x && noneF ps row x) || msF ps (some (lastF row)) (some h) x) := cnt_congr fun x hx => by
    have px := pos x (List.mem_range.mp hx)
    have e : noneF ps (row ++ [h]) x = (noneF ps row x && !innF ps h x) := by
      unfold noneF
      rw [List.all_append, List.all_cons, List.all_nil, Bool.and_true]
    rw [e]
    have s := none_split pw ne px
    unfold msF agF bhF
    rw [Bool.eq_iff_iff, Bool.and_eq_true, Bool.and_eq_true, Bool.or_eq_true, Bool.and_eq_true, Bool.and_eq_true, le_iff, le_iff, decide_eq_true_eq, decide_eq_true_eq, Bool.not_eq_true', inn_not]
    constructor
    · rintro ⟨z1, z2, z3⟩
      rw [s, Bool.or_eq_true, Bool.and_eq_true, le_iff, decide_eq_true_eq] at z2
      rcases z2 with z2 | z2
      · exact .inl z2
      · exact .inr ⟨z2, z1⟩
    · rintro (⟨z1, z2⟩ | ⟨z1, z2⟩)
      · exact ⟨by omega, z2, by omega⟩
      · refine ⟨z2, ?_, by omega⟩
        rw [s, Bool.or_eq_true, decide_eq_true_eq]
        exact .inr z1
  rw [e1, cnt_or fun x hx z => ?_]
  · omega
  · have px := pos x (List.mem_range.mp hx)
    rw [Bool.and_eq_true, le_iff] at z
    unfold msF agF bhF
    rw [Bool.and_eq_false_iff]
    exact .inl (decide_eq_false (by omega))
theorem bnd_pre {ps : List Pc} {sl : Nat} {row : List Int} (pos : ∀ p, p < ps.length → cmF ps p < outF ps p) (pw : row.Pairwise (· < ·)) (ne : row ≠ []) : bndF ps sl row = preF ps sl row + missF ps (some (lastF row)) none := by
  unfold bndF preF missF
  have e1 : (List.range ps.length).countP (noneF ps row) = (List.range ps.length).countP (fun x => (leF ps (lastF row) x && noneF ps row x) || msF ps (some (lastF row)) none x) := cnt_congr fun x hx => by
    have m : msF ps (some (lastF row)) none x = decide (lastF row < cmF ps x) := by
      unfold msF agF bhF
      rw [Bool.and_true]
    rw [m]
    exact none_split pw ne (pos x (List.mem_range.mp hx))
  rw [e1, cnt_or fun x hx z => ?_]
  · omega
  · have px := pos x (List.mem_range.mp hx)
    rw [Bool.and_eq_true, le_iff] at z
    unfold msF agF bhF
    rw [Bool.and_eq_false_iff]
    exact .inl (decide_eq_false (by omega))
def candF (ps : List Pc) (sl : Nat) (h : Int) (e : Ent) : Ent := ((sl : Int) + e.1 + (missF ps (some (lastF e.2)) (some h) : Nat), e.2 ++ [h])
def firstE (ps : List Pc) (sl : Nat) (h : Int) : Ent := ((sl : Int) + (missF ps none (some h) : Nat), [h])
def newE (ps : List Pc) (sl : Nat) (en : List Ent) (h : Int) : Ent := minE (firstE ps sl h) (en.map (candF ps sl h))
def closeE (ps : List Pc) (h : Int) (e : Ent) : Ent := (e.1 + (missF ps (some h) none : Nat), e.2)
def stepE (ps : List Pc) (sl : Nat) (st : Ent × List Ent) (h : Int) : Ent × List Ent :=
  (if ltE (closeE ps h (newE ps sl st.2 h)) st.1 = true then closeE ps h (newE ps sl st.2 h) else st.1, st.2 ++ [newE ps sl st.2 h])
def scF (ps : List Pc) (sl : Nat) (zs : List Int) : Ent × List Ent := zs.foldl (stepE ps sl) (((ps.length : Int), []), [])
theorem scF_one {ps : List Pc} {sl : Nat} {zs : List Int} {i : Nat} {z : Int} (g : zs[i]? = some z) : scF ps sl (zs.take (i + 1)) = stepE ps sl (scF ps sl (zs.take i)) z := by
  unfold scF
  rw [List.take_add_one, g, List.foldl_append]; rfl
structure EInv (ps : List Pc) (sl : Nat) (Z : List Int) (st : Ent × List Ent) : Prop where
  each : ∀ e ∈ st.2, e.2.Pairwise (· < ·) ∧ e.2 ≠ [] ∧ (∀ h ∈ e.2, h ∈ Z) ∧ e.1 = (preF ps sl e.2 : Nat)
  low : ∀ row : List Int, row.Pairwise (· < ·) → row ≠ [] → (∀ h ∈ row, h ∈ Z) → ∃ e ∈ st.2, lastF e.2 = lastF row ∧ e.1 ≤ (preF ps sl row : Nat)
  best : st.1.2.Pairwise (· < ·) ∧ (∀ h ∈ st.1.2, h ∈ Z) ∧ st.1.1 = (bndF ps sl st.1.2 : Nat)
  blow : ∀ row : List Int, row.Pairwise (· < ·) → (∀ h ∈ row, h ∈ Z) → st.1.1 ≤ (bndF ps sl row : Nat)
  len : st.2.length = Z.length
theorem einv_nil {ps : List Pc} {sl : Nat} : EInv ps sl [] (((ps.length : Int), []), []) := by
  have e : bndF ps sl [] = ps.length := by
    unfold bndF
    rw [List.length_nil, Nat.mul_zero, Nat.zero_add]
    have : (List.range ps.length).countP (noneF ps []) = (List.range ps.length).length := List.countP_eq_length.mpr fun x _ => rfl
    rw [this, List.length_range]
  have em : ∀ {row : List Int}, (∀ h ∈ row, h ∈ ([] : List Int)) → row = [] := fun {row} h => List.eq_nil_iff_forall_not_mem.mpr fun x hx => List.not_mem_nil (h x hx)
  refine ⟨fun e h => (List.not_mem_nil h).elim, fun row _ ne h => absurd (em h) ne, ⟨.nil, fun h hh => hh, by rw [e]⟩, fun row _ h => ?_, rfl⟩
  rw [em h, e]
  exact Int.le_refl _
theorem einv_step {ps : List Pc} {sl : Nat} {Z : List Int} {st : Ent × List Ent} {z : Int} (pos : ∀ p, p < ps.length → cmF ps p < outF ps p) (I : EInv ps sl Z st) (hz : ∀ h ∈ Z, h < z) : EInv ps sl (Z ++ [z]) (stepE ps sl st z) := by
  obtain ⟨b, en⟩ := st
  obtain ⟨m1, m2⟩ := minE_is (en.map (candF ps sl z)) (firstE ps sl z)
  have mz : z ∈ Z ++ [z] := List.mem_append_right _ List.mem_cons_self
  have cd : ∀ c ∈ firstE ps sl z :: en.map (candF ps sl z), c.2.Pairwise (· < ·) ∧ c.2 ≠ [] ∧ (∀ h ∈ c.2, h ∈ Z ++ [z]) ∧ c.1 = (preF ps sl c.2 : Nat) ∧ lastF c.2 = z := fun c hc => by
    rcases List.mem_cons.mp hc with rfl | hc
    · refine ⟨List.pairwise_singleton .., (fun y => by cases y), fun h hh => ?_, ?_, rfl⟩
      · rw [List.mem_singleton.mp hh]; exact mz
      · show (sl : Int) + (missF ps none (some z) : Nat) = (preF ps sl [z] : Nat)
        rw [pre_one pos]; omega
    · obtain ⟨e, he, rfl⟩ := List.mem_map.mp hc
      obtain ⟨e1, e2, e3, e4⟩ := I.each e he
      have lz := hz _ (e3 _ (last_mem e2))
      refine ⟨List.pairwise_append.mpr ⟨e1, List.pairwise_singleton .., fun a ha b hb => by rw [List.mem_singleton.mp hb]; exact hz a (e3 a ha)⟩, (fun y => by have := congrArg List.length y; simp [candF] at this), fun h hh => ?_, ?_, last_snoc _ _⟩
      · rcases List.mem_append.mp hh with y | y
        · exact List.mem_append_left _ (e3 h y)
        · exact List.mem_append_right _ y
      · show (sl : Int) + e.1 + (missF ps (some (lastF e.2)) (some z) : Nat) = (preF ps sl (e.2 ++ [z]) : Nat)
        rw [pre_snoc pos e1 e2 lz, e4]; omega
  obtain ⟨n1, n2, n3, n4, n5⟩ := cd _ m1
  have hnew : minE (firstE ps sl z) (en.map (candF ps sl z)) = newE ps sl en z := rfl
  rw [hnew] at m1 m2 n1 n2 n3 n4 n5
  have rowc : ∀ row : List Int, row.Pairwise (· < ·) → row ≠ [] → (∀ h ∈ row, h ∈ Z ++ [z]) → lastF row = z → (newE ps sl en z).1 ≤ (preF ps sl row : Nat) := fun row pw ne hr el => by
    obtain ⟨r, a, rfl⟩ : ∃ r a, row = r ++ [a] := snoc_of ne
    rw [last_snoc] at el
    subst el
    obtain ⟨p1, _, p3⟩ := List.pairwise_append.mp pw
    have hr2 : ∀ h ∈ r, h ∈ Z := fun h hh => by
      rcases List.mem_append.mp (hr h (List.mem_append_left _ hh)) with y | y
      · exact y
      · have := p3 h hh a List.mem_cons_self
        rw [List.mem_singleton.mp y] at this; omega
    by_cases e : r = []
    · subst e
      have := m2 _ List.mem_cons_self
      have e : (firstE ps sl a).1 = (preF ps sl ([] ++ [a]) : Nat) := by
        show (sl : Int) + (missF ps none (some a) : Nat) = (preF ps sl [a] : Nat)
        rw [pre_one pos]; omega
      omega
    · obtain ⟨en1, h1, h2, h3⟩ := I.low r p1 e hr2
      have := m2 _ (List.mem_cons_of_mem _ (List.mem_map.mpr ⟨en1, h1, rfl⟩))
      rw [pre_snoc pos p1 e (p3 _ (last_mem e) a List.mem_cons_self), ← h2]
      have e2 : (candF ps sl a en1).1 = (sl : Int) + en1.1 + (missF ps (some (lastF en1.2)) (some a) : Nat) := rfl
      omega
  have rowo : ∀ row : List Int, row.Pairwise (· < ·) → (∀ h ∈ row, h ∈ Z ++ [z]) → (row ≠ [] → lastF row ≠ z) → ∀ h ∈ row, h ∈ Z := fun row pw hr el h hh => by
    rcases List.mem_append.mp (hr h hh) with y | y
    · exact y
    · have ne : row ≠ [] := fun e => by rw [e] at hh; cases hh
      have e1 := last_max pw hh
      have e2 := hr _ (last_mem ne)
      rw [List.mem_singleton.mp y] at e1
      rcases List.mem_append.mp e2 with u | u
      · have := hz _ u; omega
      · exact absurd (List.mem_singleton.mp u) (el ne)
  have bc : (closeE ps z (newE ps sl en z)).1 = (bndF ps sl (newE ps sl en z).2 : Nat) := by
    show (newE ps sl en z).1 + (missF ps (some z) none : Nat) = _
    rw [bnd_pre pos n1 n2, n4, n5]; omega
  refine ⟨fun e he => ?_, fun row pw ne hr => ?_, ?_, fun row pw hr => ?_, ?_⟩
  · rcases List.mem_append.mp he with y | y
    · obtain ⟨e1, e2, e3, e4⟩ := I.each e y
      exact ⟨e1, e2, fun h hh => List.mem_append_left _ (e3 h hh), e4⟩
    · rw [List.mem_singleton.mp y]
      exact ⟨n1, n2, n3, n4⟩
  · by_cases el : lastF row = z
    · exact ⟨newE ps sl en z, List.mem_append_right _ List.mem_cons_self, by rw [n5, el], rowc row pw ne hr el⟩
    · obtain ⟨e, h1, h2, h3⟩ := I.low row pw ne (rowo row pw hr fun _ => el)
      exact ⟨e, List.mem_append_left _ h1, h2, h3⟩
  · show (if ltE _ _ = true then closeE ps z (newE ps sl en z) else b).2.Pairwise (· < ·) ∧ (∀ h ∈ (if ltE _ _ = true then closeE ps z (newE ps sl en z) else b).2, h ∈ Z ++ [z]) ∧ (if ltE _ _ = true then closeE ps z (newE ps sl en z) else b).1 = _
    by_cases c : ltE (closeE ps z (newE ps sl en z)) b = true
    · simp only [stepE, if_pos c]
      exact ⟨n1, n3, bc⟩
    · simp only [stepE, if_neg c]
      obtain ⟨b1, b2, b3⟩ := I.best
      exact ⟨b1, fun h hh => List.mem_append_left _ (b2 h hh), b3⟩
  · have lo : (stepE ps sl (b, en) z).1.1 ≤ b.1 ∧ (stepE ps sl (b, en) z).1.1 ≤ (closeE ps z (newE ps sl en z)).1 := by
      show (if ltE _ _ = true then closeE ps z (newE ps sl en z) else b).1 ≤ _ ∧ (if ltE _ _ = true then closeE ps z (newE ps sl en z) else b).1 ≤ _
      cases c : ltE (closeE ps z (newE ps sl en z)) b with
      | true =>
        rw [if_pos rfl]
        refine ⟨Int.not_lt.mp fun l => ?_, Int.le_refl _⟩
        rw [ltE_not l] at c; cases c
      | false =>
        rw [if_neg Bool.false_ne_true]
        refine ⟨Int.le_refl _, Int.not_lt.mp fun l => ?_⟩
        rw [ltE_lt l] at c; cases c
    by_cases el : row ≠ [] ∧ lastF row = z
    · have h1 := rowc row pw el.1 hr el.2
      rw [bnd_pre pos pw el.1, el.2]
      have e : (closeE ps z (newE ps sl en z)).1 = (newE ps sl en z).1 + (missF ps (some z) none : Nat) := rfl
      omega
    · have : b.1 ≤ _ := I.blow row pw (rowo row pw hr fun ne e => el ⟨ne, e⟩)
      omega
  · show (en ++ [_]).length = (Z ++ [z]).length
    rw [List.length_append, List.length_append, I.len]; rfl
theorem einv_fold {ps : List Pc} {sl : Nat} (pos : ∀ p, p < ps.length → cmF ps p < outF ps p) : ∀ {zs Z : List Int} {st : Ent × List Ent}, EInv ps sl Z st → (Z ++ zs).Pairwise (· < ·) → EInv ps sl (Z ++ zs) (zs.foldl (stepE ps sl) st)
  | [], Z, st, I, _ => by rw [List.append_nil]; exact I
  | z :: zs, Z, st, I, pw => by
    have J := einv_step pos I fun h hh => (List.pairwise_append.mp pw).2.2 h hh z List.mem_cons_self
    have := einv_fold pos (zs := zs) J (by rw [List.append_assoc]; exact pw)
    rw [List.append_assoc] at this
    exact this
theorem sc_inv {ps : List Pc} {zs : List Int} (sl : Nat) (pos : ∀ p, p < ps.length → cmF ps p < outF ps p) (pw : zs.Pairwise (· < ·)) : EInv ps sl zs (scF ps sl zs) := einv_fold pos (Z := []) einv_nil pw
/-- just as many are kept as those hours let -/
theorem sc_kept {ps : List Pc} {zs : List Int} (sl : Nat) (pos : ∀ p, p < ps.length → cmF ps p < outF ps p) (hz : HoursOk ps zs) : bndF ps sl (scF ps sl zs).1.2 = (keptF ps sl).length := by
  have I := sc_inv sl pos hz.1
  obtain ⟨Hs, h1, h2, h3⟩ := kept_dual sl pos
  have lo := I.blow Hs h1 fun h hh => (hz.2 h).mpr (h2 h hh)
  obtain ⟨k1, k2, k3⟩ := kept_fit sl pos
  have up := weakF k1 k2 k3 (scF ps sl zs).1.2
  have e := I.best.2.2
  omega

end
end Pot

namespace Pot
open PySem PySem.Spec PyProof.Rows L2
section
variable {P : Program} {w : World} {K : PySem.W.Frag} {mg : Str → Option Value} {base : Heap}
theorem step_mem {ps : List Pc} {sl : Nat} {K : List Nat} {p x : Nat} (h : x ∈ stepK ps sl K p) : x ∈ K ++ [p] := by
  unfold stepK at h
  split at h
  · exact List.mem_of_mem_erase h
  · exact h
theorem step_len {ps : List Pc} {sl : Nat} {K : List Nat} {p : Nat} : (stepK ps sl K p).length ≤ K.length + 1 := by
  unfold stepK
  split
  · have := List.length_erase_le (a := topF ps (insF ps (K ++ [p]) (cmF ps p))) (l := K ++ [p])
    rw [List.length_append] at this
    exact this
  · rw [List.length_append]
    exact Nat.le_refl _
theorem fold_mem {ps : List Pc} {sl : Nat} : ∀ {l K : List Nat} {x : Nat}, x ∈ l.foldl (stepK ps sl) K → x ∈ K ∨ x ∈ l
  | [], _, _, h => .inl h
  | p :: l, K, x, h => by
    rcases fold_mem (l := l) h with z | z
    · rcases List.mem_append.mp (step_mem z) with y | y
      · exact .inl y
      · exact .inr (by rw [List.mem_singleton.mp y]; exact List.mem_cons_self)
    · exact .inr (List.mem_cons_of_mem _ z)
theorem fold_lenK {ps : List Pc} {sl : Nat} : ∀ {l K : List Nat}, (l.foldl (stepK ps sl) K).length ≤ K.length + l.length
  | [], _ => Nat.le_refl _
  | p :: l, K => by
    have h1 := fold_lenK (ps := ps) (sl := sl) (l := l) (K := stepK ps sl K p)
    have h2 := step_len (ps := ps) (sl := sl) (K := K) (p := p)
    rw [List.foldl_cons, List.length_cons]
    omega
theorem erase_at {d : Nat} : ∀ {l : List Nat}, d ∈ l → ∃ j, l[j]? = some d ∧ (∀ m, m < j → l[m]? ≠ some d) ∧ l.erase d = l.eraseIdx j
  | [], h => (List.not_mem_nil h).elim
  | x :: l, h => by
    by_cases e : x = d
    · subst e
      exact ⟨0, rfl, fun m hm => absurd hm (Nat.not_lt_zero _), by rw [List.erase_cons_head]; rfl⟩
    · rcases List.mem_cons.mp h with z | z
      · exact absurd z.symm e
      · obtain ⟨j, h1, h2, h3⟩ := erase_at z
        refine ⟨j + 1, h1, fun m hm => ?_, ?_⟩
        · cases m with
          | zero => exact fun q => e (Option.some.inj q)
          | succ m => exact h2 m (by omega)
        · rw [List.erase_cons_tail (by simpa using e), h3]; rfl
theorem map_erIdx {α β : Type} (f : α → β) : ∀ (l : List α) (j : Nat), (l.eraseIdx j).map f = (l.map f).eraseIdx j
  | [], _ => rfl
  | x :: l, 0 => rfl
  | x :: l, j + 1 => by
    show f x :: (l.eraseIdx j).map f = _
    rw [map_erIdx f l j]; rfl
theorem natV_map (l : List Nat) : l.map natV = (l.map fun k => ((k : Nat) : Int)).map V.int := by rw [List.map_map]; rfl
theorem extN_wr {H H1 : Hp} {L : Addr} {o : HO} (x : LamX.ExtN H H1) (n : H L = none) : LamX.ExtN H (upd H1 L o) := fun b u e nt => by
  rw [upd_ne (fun z => by rw [z, n] at e; cases e)]; exact x b u e nt
theorem tabs_wr {T : List (Addr × Str)} {H1 : Hp} {L : Addr} {o : HO} {xs : List V} (t : LamX.Tabs T H1) (h : H1 L = some (.lst xs)) : LamX.Tabs T (upd H1 L o) := fun p hp => by
  obtain ⟨ps, h1, h2, h3⟩ := t p hp
  have ne : ∀ {b : Addr} {u : HO}, H1 b = some u → (∀ l, u ≠ .lst l) → b ≠ L := fun e n z => by rw [z, h] at e; exact n _ (Option.some.inj e).symm
  exact ⟨ps, by rw [upd_ne (ne h1 fun l z => by cases z)]; exact h1, h2, fun pos cv hc => (h3 pos cv hc).imp fun c z => ⟨z.1, by rw [upd_ne (ne z.2 fun l q => by unfold LamX.CodeO at q; cases q)]; exact z.2⟩⟩
theorem ins_snoc {ps : List Pc} {l : List Nat} {h : Int} {i x : Nat} (g : l[i]? = some x) : insF ps (l.take (i + 1)) h = insF ps (l.take i) h ++ (if innF ps h x = true then [x] else []) := by
  unfold insF
  rw [List.take_add_one, g, List.filter_append]
  show _ ++ List.filter _ [x] = _
  rw [List.filter_cons, List.filter_nil]
def spMiss (K : PySem.W.Frag) : Sp := fun vs H Q _ => ∃ (a : Addr) (xs : List V) (ps : List Pc) (u v : Option Int), vs = [.ref a, opV u, opV v] ∧ SqL K H a xs ∧ DpAll K H xs (ps.map pcD) ∧ ps.length ≤ 60 ∧ ∀ H', Same H H' → Q (.int (missF ps u v : Nat)) H'
abbrev s_kept_in : Stmt := topS 11
def n_kept_in : List Str := ["pieces", "slots", "kept", "number", "inside", "other"]
theorem sc_kept_in : FnScope n_kept_in ["pieces", "slots"] (defScope s_kept_in) := ⟨rfl, rfl, rfl, by decide +kernel, rfl, by decide +kernel, by decide +kernel⟩
def spKept (K : PySem.W.Frag) (Pt Pk : Addr) : Sp := fun vs H Q _ => ∃ (a : Addr) (xs : List V) (ps : List Pc) (sl : Nat), vs = [.ref a, .int (sl : Nat)] ∧ SqL K H a xs ∧ DpAll K H xs (ps.map pcD) ∧ ps.length ≤ 60 ∧ (∀ p, p < ps.length → cmF ps p < outF ps p) ∧ LamX.Tabs (TT Pt Pk) H ∧
  ∀ (H' : Hp) (L : Addr) (zs : List Int), LamX.ExtN H H' → LamX.Tabs (TT Pt Pk) H' → (∀ x u, H x = some u → (∀ ps, u ≠ .tbl ps) → x ≠ L) → H' L = some (.lst (zs.map V.int)) → zs.Pairwise (· < ·) → (∀ k : Nat, (k : Int) ∈ zs ↔ k ∈ keptF ps sl) → (∀ z ∈ zs, 0 ≤ z) → zs.length = (keptF ps sl).length → Q (.ref L) H'
theorem ok_kept {f cd0 Pt Pk : Addr} {fd : FuncData} {k : Nat} (F : Fun K "kept_in" "kept_in" s_kept_in f fd) (hcd : fd.code = .ref cd0) (T : Txt mg) (TB : LamX.TabB base mg cd0 Pk) (hne : Pt ≠ Pk) (c_by_coming : Cl P w K mg base (k + 2) "by_coming" (spBy K Pt Pk)) (c_is_in : Cl P w K mg base (k + 2) "is_in" (spIn K)) (c_out_at : Cl P w K mg base (k + 1) "out_at" (spOut K)) : FnOk P w K mg base CX0 (k + 4) f fd ["pieces", "slots"] (spKept K Pt Pk) := by
  refine okC F hcd sc_kept_in (fun vs H Q E h => ?_) (fun A outer s H vs Q E hr h => ?_)
  · obtain ⟨a, xs, ps, sl, rfl, _⟩ := h
    rfl
  · obtain ⟨a, xs, ps, sl, rfl, hS, dx, l60, pos, tbs, q⟩ := h
    have nd := sc_kept_in.nd
    have hmT : (Pk, qKp) ∈ TT Pt Pk := List.mem_cons_of_mem _ List.mem_cons_self
    have huT : ∀ p ∈ TT Pt Pk, p.1 = Pk → p.2 = qKp := fun p hp e => by
      rcases List.mem_cons.mp hp with z | z
      · rw [z] at e
        exact absurd e hne
      · rw [List.mem_singleton.mp z]
    have lx : xs.length = ps.length := dpAll_map_len dx
    /- 0 pieces, 1 slots, 2 kept, 3 number, 4 inside, 5 other -/
    refine ⟨_, (pss_cons (ps_set (i := 2) nd rfl (.inl rfl) (pe_lst pa_nil))
      (pss_cons (ps_for PassesOwn.never rfl (ki_list (K := K) (pe_cl c_by_coming hr (by omega) (by rfl) (pa_cons (pv 0) pa_nil))) (pg_name (i := 3) nd rfl (.inr rfl))
          (pss_cons (ps_expr (pe_bm PySem.F.plainAttrs_list PySem.F.slot_list_append PySem.F.type_list_append mt_append (pv 2) (pa_cons (pv 3) pa_nil)))
          (pss_cons (ps_setLc (i := 4) (own := [("other", 5)]) rfl nd rfl rfl (sw_true rfl rfl rfl (by decide +kernel)) (ki_list (K := K) (pv 2)) (blkOk_by (N := n_kept_in) (sc := defScope s_kept_in) (by decide +kernel)) (fun _ _ _ _ _ => (pg_name (i := 5) nd rfl (.inl rfl))) (fun _ _ _ _ _ => (pts_one (pt_val (pe_cl c_is_in hr (by omega) (by rfl) (pa_cons (pe_ix (kx_list (K := K)) (pv 0) (pv 5) (fun _ _ => rfl)) (pa_cons (pe_ix (kx_tup (K := K)) (pe_ix (kx_list (K := K)) (pv 0) (pv 3) (fun _ _ => rfl)) pe_int (fun _ _ => rfl)) pa_nil)))))) (fun _ _ _ _ _ => (pv 5)))
          (pss_one (ps_if (pt_cmpR op_gt (pe_callB (kc_len (K := K)) (by rfl) T.len PySem.boot_len (pa_cons (pv 4) pa_nil)) (pv 1) (nomark _))
              (pss_one (ps_expr (pe_bm PySem.F.plainAttrs_list PySem.F.slot_list_remove PySem.F.type_list_remove mt_remove (pv 2) (pa_cons (RLam.pe_maxLam (io := 0) (n := "other") (o := "pieces") rfl (by rfl) T.max (pa_cons (pv 4) pa_nil) TB rfl hmT huT hr (RLam.lamP_by (sc := defScope s_kept_in) (by decide +kernel)) (by decide) rfl rfl (fun _ _ _ _ _ _ => rfl) (fun _ _ _ _ _ _ hr => (pe_cl c_out_at hr (by omega) (by rfl) (pa_cons (pe_ix (kx_list (K := K)) (pv 1) (pv 0) (fun _ _ => rfl)) pa_nil)))) pa_nil))))
              pss_nil)))))
      (pss_one (ps_ret (pe_callB (kc_sorted (K := K)) (by rfl) T.sorted (by decide +kernel) (pa_cons (pv 2) pa_nil)))))), ?_⟩
    refine ⟨Nat.zero_le _, fun L nL => ?_⟩
    have s0 := same_upd (o := .lst []) nL
    have hL : upd H L (.lst []) L = some (.lst []) := upd_same
    have hS0 := s0.seq hS
    have dx0 := dpAll_same s0 dx
    have tbs0 := tbs.ext s0
    generalize upd H L (.lst []) = H0 at s0 hL hS0 dx0 tbs0 ⊢
    refine ⟨_, rfl, a, xs, ps, rfl, hS0, dx0, l60, tbs0, fun H1 O x1 tbs1 fr hO => ⟨O, rfl, ⟨_, SqL.of hO⟩, ?_⟩⟩
    have hL1 : H1 L = some (.lst ((([] : List Nat)).map natV)) := x1 _ _ hL (fun ps z => by cases z)
    have OL : O ≠ L := fun e => fr L _ hL (fun ps z => by cases z) e.symm
    have xH : LamX.ExtN H H1 := (LamX.ExtN.of s0).trans x1
    refine for_it (walk_list (xs := (ordF ps).map natV)) (fun i σ Hz => ∃ (v3 v4 v5 : Option V), σ = [some (.ref a), some (.int (sl : Nat)), some (.ref L), v3, v4, v5] ∧ LamX.ExtN H Hz ∧ LamX.Tabs (TT Pt Pk) Hz ∧ Hz O = some (.lst ((ordF ps).map natV)) ∧ Hz L = some (.lst ((((ordF ps).take i).foldl (stepK ps sl) []).map natV)))
      ⟨_, _, _, rfl, xH, tbs1, hO, hL1⟩ (fun i σ Hz _ h => by obtain ⟨_, _, _, _, _, _, h, _⟩ := h; exact SqL.of h) ?_ ?_
    · rintro i y σ Hz Hw hi ⟨v3, v4, v5, rfl, xz, tbz, hOz, hLz⟩ ⟨rfl, gy⟩
      rw [List.getElem?_map] at gy
      obtain ⟨p, gp, rfl⟩ := Option.map_eq_some_iff.mp gy
      have hp := ordF_mem.mp (List.mem_of_getElem? gp)
      have eone : ((ordF ps).take (i + 1)).foldl (stepK ps sl) [] = stepK ps sl (((ordF ps).take i).foldl (stepK ps sl) []) p := by
        rw [List.take_add_one, gp, List.foldl_append]; rfl
      have hSz := RLam.sqL_ext hS xz
      have dxz := pcs_ext xz dx
      have Kmem : ∀ x ∈ ((ordF ps).take i).foldl (stepK ps sl) [] ++ [p], x < ps.length := fun x hx => by
        rcases List.mem_append.mp hx with z | z
        · rcases fold_mem z with y | y
          · exact (List.not_mem_nil y).elim
          · exact ordF_mem.mp (List.mem_of_mem_take y)
        · rw [List.mem_singleton.mp z]; exact hp
      have Klen : (((ordF ps).take i).foldl (stepK ps sl) []).length ≤ i := by
        have := fold_lenK (ps := ps) (sl := sl) (l := (ordF ps).take i) (K := [])
        rw [List.length_take] at this
        have e : ([] : List Nat).length = 0 := rfl
        omega
      rw [List.length_map, ordF_len] at hi
      rw [eone]
      clear eone
      generalize ((ordF ps).take i).foldl (stepK ps sl) [] = K0 at hLz Kmem Klen
      unfold stepK
      have lf : (K0.map natV).length < sizeLine := by rw [List.length_map, sizeLine_eq]; omega
      refine ⟨_, rfl, .inl ⟨rfl, _, SqL.of hLz⟩, _, rfl, L, _, _, rfl, rfl, hLz, lf, ?_⟩
      have xz := extN_wr (o := .lst (K0.map natV ++ [natV p])) xz nL
      have tbz := tabs_wr (o := .lst (K0.map natV ++ [natV p])) tbz hLz
      have hSz := RLam.sqL_ext hS xz
      have dxz := pcs_ext xz dx
      have hOz : upd Hw L (.lst (K0.map natV ++ [natV p])) O = some (.lst ((ordF ps).map natV)) := by rw [upd_ne OL]; exact hOz
      have hLz : upd Hw L (.lst (K0.map natV ++ [natV p])) L = some (.lst ((K0 ++ [p]).map natV)) := by rw [upd_same, List.map_append]; rfl
      have K1len : (K0 ++ [p]).length ≤ 60 := by rw [List.length_append]; show _ + 1 ≤ 60; omega
      generalize upd Hw L (.lst (K0.map natV ++ [natV p])) = Hy at xz tbz hSz dxz hOz hLz ⊢
      generalize K0 ++ [p] = K1 at hLz K1len Kmem ⊢
      refine ⟨_, rfl, L, rfl, ⟨_, SqL.of hLz⟩, fun C nC => ?_⟩
      have LC : L ≠ C := ne_of_none hLz nC
      refine lc_it (walk_list (xs := K1.map natV)) (PvL Hy C fun j => (insF ps (K1.take j) (cmF ps p)).map natV) (pv_start nC rfl) (fun j H4 _ h => SqL.of (h.1 _ _ hLz)) ?_ ?_
      · rintro j y Ha Hb hj pz ⟨rfl, gx⟩
        rw [List.getElem?_map] at gx
        obtain ⟨x, gx2, rfl⟩ := Option.map_eq_some_iff.mp gx
        have hx := Kmem x (List.mem_of_getElem? gx2)
        obtain ⟨b2, eb2, hb2, _⟩ := pcs_at (dpAll_same pz.1 dxz) (List.getElem?_eq_getElem (show x < xs.length by omega))
        obtain ⟨b3, eb3, hb3, _⟩ := pcs_at (dpAll_same pz.1 dxz) (List.getElem?_eq_getElem (show p < xs.length by omega))
        refine ⟨rfl, _, rfl, _, rfl, a, _, _, _, rfl, rfl, pz.1.seq hSz, atI_nat (List.getElem?_eq_getElem (show x < xs.length by omega)), ?_⟩
        rw [eb2]
        refine ⟨_, rfl, _, rfl, a, _, _, _, rfl, rfl, pz.1.seq hSz, atI_nat (List.getElem?_eq_getElem (show p < xs.length by omega)), ?_⟩
        rw [eb3]
        refine ⟨b3, _, 0, _, rfl, rfl, hb3, rfl, ?_⟩
        refine ⟨b2, ps.getD x pc0, cmF ps p, rfl, hb2, _, rfl, ?_⟩
        have jl := (List.getElem?_eq_some_iff.mp gx2).1
        have lf : ((insF ps (K1.take j) (cmF ps p)).map natV).length < sizeLine := by
          rw [List.length_map, sizeLine_eq]
          have h1 := List.length_filter_le (innF ps (cmF ps p)) (K1.take j)
          rw [List.length_take] at h1
          unfold insF
          omega
        cases e : inB (ps.getD x pc0) (cmF ps p) with
        | true =>
          refine iteT ⟨_, rfl, ?_⟩
          refine pv_put nC pz (Same.refl _) ?_ lf
          rw [ins_snoc gx2, if_pos (show innF ps (cmF ps p) x = true from e), List.map_append]; rfl
        | false =>
          refine iteF (pv_skip pz (Same.refl _) ?_)
          rw [ins_snoc gx2, if_neg (by unfold innF; rw [e]; exact Bool.false_ne_true), List.append_nil]
      · intro H2 pz
        obtain ⟨s2, hC⟩ := pv_end pz (show _ = (insF ps K1 (cmF ps p)).map natV by rw [List.length_map, List.take_length])
        clear pz
        have Ilen : (insF ps K1 (cmF ps p)).length ≤ 60 := by
          have h1 := List.length_filter_le (innF ps (cmF ps p)) K1
          unfold insF
          omega
        have Imem : ∀ x ∈ insF ps K1 (cmF ps p), x ∈ K1 := fun x hx => (List.mem_filter.mp hx).1
        have xz := xz.trans (.of s2)
        have tbz := tbz.ext s2
        have hOz := s2 _ _ hOz
        have hLz := s2 _ _ hLz
        generalize hI : insF ps K1 (cmF ps p) = I0 at hC Ilen Imem ⊢
        refine ⟨_, rfl, _, _, rfl, .inl ⟨_, SqL.of hC, rfl⟩, _, rfl, _, _, rfl, rfl, _, rfl, ite2 (fun c1 => ?_) (fun c1 => ?_)⟩
        · have c2 := of_decide_eq_true c1
          rw [List.length_map] at c2
          have c3 : sl < I0.length := by omega
          rw [if_pos c3]
          refine ⟨_, rfl, .inl ⟨rfl, _, SqL.of hLz⟩, _, rfl, C, I0.map natV, (fun i => outF ps (I0.getD i 0)), .ref a, rfl, hC, (by rw [List.length_map]; omega), tbz, rfl, fun H3 x3 od i x gx => ?_, fun H3 x3 tb3 hC3 i x gx hmax => ?_⟩
          · rw [List.getElem?_map] at gx
            obtain ⟨y, gy2, rfl⟩ := Option.map_eq_some_iff.mp gx
            have hy := Kmem y (Imem y (List.mem_of_getElem? gy2))
            have xF : LamX.ExtN Hy (upd H3 C (.frz od (.lst (I0.map natV)))) := fun b o e n => by
              rw [upd_ne (ne_of_none e nC)]; exact x3 b o (s2 b o e) n
            obtain ⟨b2, eb2, hb2, _⟩ := pcs_at (pcs_ext xF dxz) (List.getElem?_eq_getElem (show y < xs.length by omega))
            refine ⟨_, rfl, _, rfl, a, _, _, _, rfl, rfl, RLam.sqL_ext hSz xF, atI_nat (List.getElem?_eq_getElem (show y < xs.length by omega)), ?_⟩
            rw [eb2]
            refine ⟨b2, ps.getD y pc0, rfl, hb2, ?_, rfl⟩
            have e0 : I0.getD i 0 = y := by rw [List.getD_eq_getElem?_getD, gy2]; rfl
            show V.int (outF ps y) = V.int (outF ps (I0.getD i 0))
            rw [e0]
          · rw [List.getElem?_map] at gx
            obtain ⟨d, gd, rfl⟩ := Option.map_eq_some_iff.mp gx
            have ed : topF ps I0 = d := top_at gd fun j y hj => by
              have jl := (List.getElem?_eq_some_iff.mp hj).1
              have hm : outF ps (I0.getD j 0) ≤ outF ps (I0.getD i 0) ∧ (j < i → outF ps (I0.getD j 0) < outF ps (I0.getD i 0)) := hmax j (by rw [List.length_map]; exact jl)
              have e1 : I0.getD j 0 = y := by rw [List.getD_eq_getElem?_getD, hj]; rfl
              have e2 : I0.getD i 0 = d := by rw [List.getD_eq_getElem?_getD, gd]; rfl
              rw [e1, e2] at hm
              exact hm
            rw [ed]
            obtain ⟨j, j1, j2, j3⟩ := erase_at (Imem d (List.mem_of_getElem? gd))
            have hL3 := x3 _ _ hLz (fun ps z => by cases z)
            have hL3 : H3 L = some (.lst ((K1.map fun k => ((k : Nat) : Int)).map V.int)) := by rw [← natV_map]; exact hL3
            refine ⟨L, K1.map fun k => ((k : Nat) : Int), ((d : Nat) : Int), j, rfl, rfl, hL3, by rw [List.getElem?_map, j1]; rfl, fun m hm z => ?_, ?_⟩
            · rw [List.getElem?_map] at z
              obtain ⟨y, y1, y2⟩ := Option.map_eq_some_iff.mp z
              have y2 : y = d := by omega
              exact j2 m hm (by rw [y1, y2])
            · refine ⟨_, _, _, rfl, extN_wr (xz.trans x3) nL, tabs_wr tb3 hL3, by rw [upd_ne OL]; exact x3 _ _ hOz (fun ps z => by cases z), ?_⟩
              rw [upd_same, j3, natV_map, map_erIdx, map_erIdx, map_erIdx]
        · have c2 := of_decide_eq_false (Bool.not_eq_true _ |>.mp c1)
          rw [List.length_map] at c2
          rw [if_neg (by omega)]
          exact ⟨_, _, _, rfl, xz, tbz, hOz, hLz⟩
    · rintro σ Hz ⟨v3, v4, v5, rfl, xz, tbz, hOz, hLz⟩
      rw [List.length_map, List.take_of_length_le (Nat.le_refl _)] at hLz
      have hLz : Hz L = some (.lst ((keptF ps sl).map natV)) := hLz
      have Klen : (keptF ps sl).length ≤ 60 := by
        have := fold_lenK (ps := ps) (sl := sl) (l := ordF ps) (K := [])
        rw [ordF_len] at this
        exact Nat.le_trans this (by show 0 + _ ≤ 60; omega)
      refine ⟨_, rfl, L, (keptF ps sl).map fun k => ((k : Nat) : Int), rfl, SqL.of (by rw [← natV_map]; exact hLz), (by rw [List.length_map]; omega), fun ns' p pm pw np => ?_⟩
      obtain ⟨k1, k2, k3⟩ := kept_fit sl pos
      refine q _ p ns' (xz.trans (.of (same_upd np))) (tbz.ext (same_upd np)) (fun x u e n z => ?_) upd_same ?_ (fun k => ?_) (fun z hz => ?_) ?_
      · have := xz x u e n
        rw [z, np] at this
        cases this
      · have nd : ns'.Nodup := pm.nodup_iff.mpr (List.pairwise_map.mpr (k1.imp fun ne z => ne (by omega)))
        exact (pw.and nd).imp fun {a b} z => by have := z.1; have := z.2; omega
      · rw [pm.mem_iff, List.mem_map]
        exact ⟨fun ⟨y, h1, h2⟩ => by have : y = k := by omega
                                     exact this ▸ h1, fun h => ⟨k, h, rfl⟩⟩
      · obtain ⟨y, _, rfl⟩ := List.mem_map.mp (pm.mem_iff.mp hz)
        omega
      · rw [pm.length_eq, List.length_map]

end
end Pot

namespace Pot
open PySem PySem.Spec PyProof.Rows L2
section
variable {P : Program} {w : World} {K : PySem.W.Frag} {mg : Str → Option Value} {base : Heap}
abbrev s_missed : Stmt := topS 13
def n_missed : List Str := ["pieces", "ahead", "behind", "piece"]
theorem sc_missed : FnScope n_missed ["pieces", "ahead", "behind"] (defScope s_missed) := ⟨rfl, rfl, rfl, by decide +kernel, rfl, by decide +kernel, by decide +kernel⟩
theorem ok_miss {f : Addr} {fd : FuncData} {k : Nat} (F : Fun K "missed" "missed" s_missed f fd) (T : Txt mg) (c_out_at : Cl P w K mg base (k + 1) "out_at" (spOut K)) : FnOk P w K mg base CX0 (k + 2) f fd ["pieces", "ahead", "behind"] (spMiss K) := by
  refine F.ok sc_missed (fun vs H Q E h => ?_) (fun cdv A outer s H vs Q E hr h => ?_)
  · obtain ⟨a, xs, ps, u, v, rfl, _⟩ := h
    rfl
  · obtain ⟨a, xs, ps, u, v, rfl, hS, dx, l60, q⟩ := h
    have nd := sc_missed.nd
    have lx : xs.length = ps.length := dpAll_map_len dx
    /- 0 pieces, 1 ahead, 2 behind, 3 piece -/
    refine ⟨_, (pss_one (ps_ret (pe_callB (kc_len (K := K)) (by rfl) T.len PySem.boot_len (pa_cons (pe_lc (own := [("piece", 3)]) rfl nd (ki_list (K := K) (pv 0)) (blkOk_by (N := n_missed) (sc := defScope s_missed) (by decide +kernel)) (fun _ _ _ _ _ => (pg_name (i := 3) nd rfl (.inl rfl))) (fun _ _ _ _ _ => (pts_one ((pw_and ((pw_or (pt_cmpR op_isN (pv 1) pe_non (nomark _)) (pw_or1 (pt_cmpR op_gt (pe_ix (kx_tup (K := K)) (pv 3) pe_int (fun _ _ => rfl)) (pv 1) (nomark _))))).pt (pw_and1 ((pw_or (pt_cmpR op_isN (pv 2) pe_non (nomark _)) (pw_or1 (pt_cmpR op_le (pe_cl c_out_at hr (by omega) (by rfl) (pa_cons (pv 3) pa_nil)) (pv 2) (nomark _))))).pt))).pt)) (fun _ _ _ _ _ => (pv 3))) pa_nil)))), ?_⟩
    refine ⟨_, rfl, a, rfl, ⟨_, hS⟩, fun C nC => ?_⟩
    refine lc_it (walk_list (xs := xs)) (PvL H C fun j => ((List.range j).filter (msF ps u v)).map fun x => xs.getD x .non) (pv_start nC rfl) (fun j H4 _ h => h.1.seq hS) ?_ ?_
    · rintro j y Ha Hb hj pz ⟨rfl, gx⟩
      obtain ⟨b, rfl, hb, hj2, _⟩ := pcs_at (dpAll_same pz.1 dx) gx
      have lf : (((List.range j).filter (msF ps u v)).map fun x => xs.getD x .non).length < sizeLine := by
        rw [List.length_map, sizeLine_eq]
        have := List.length_filter_le (msF ps u v) (List.range j)
        rw [List.length_range] at this
        omega
      have fin : ∀ c : Bool, msF ps u v j = c → if c = true then ∃ acc, Hb C = some (HO.lst acc) ∧ acc.length < sizeLine ∧ PvL H C (fun j => ((List.range j).filter (msF ps u v)).map fun x => xs.getD x .non) (j + 1) (upd Hb C (HO.lst (acc ++ [V.ref b]))) else PvL H C (fun j => ((List.range j).filter (msF ps u v)).map fun x => xs.getD x .non) (j + 1) Hb := fun c hc => by
        have er : ((List.range (j + 1)).filter (msF ps u v)) = (List.range j).filter (msF ps u v) ++ (if msF ps u v j = true then [j] else []) := by
          rw [List.range_succ, List.filter_append]
          show _ ++ List.filter _ [j] = _
          rw [List.filter_cons, List.filter_nil]
        cases c with
        | true =>
          rw [if_pos rfl]
          refine pv_put nC pz (Same.refl _) ?_ lf
          show List.map _ _ = _
          rw [er, if_pos hc, List.map_append]
          show _ ++ [xs.getD j .non] = _
          rw [List.getD_eq_getElem?_getD, gx]; rfl
        | false =>
          rw [if_neg Bool.false_ne_true]
          refine pv_skip pz (Same.refl _) ?_
          show List.map _ _ = _
          rw [er, if_neg (by rw [hc]; exact Bool.false_ne_true), List.append_nil]
      have two : ∀ R : Bool → Hp → Prop, R (bhF ps v j) Hb → tOr (tTest (tOp (fun x y H Q => y = V.non ∧ Q (V.bl (decide (x = V.non))) H) (tVar 2) (tC V.non)))
          (tTest (tOp (rI0 fun i j => V.bl (decide (i ≤ j))) (tCall (spOut K) [] E0 (tCons (tVar 3) tNil)) (tVar 2))) [some (.ref a), some (opV u), some (opV v), some (.ref b)] Hb R := fun R hR => by
        cases v with
        | none =>
          refine ⟨_, rfl, rfl, _, rfl, ?_⟩
          rw [show decide (opV none = V.non) = true from rfl]
          exact iteT hR
        | some z =>
          refine ⟨_, rfl, rfl, _, rfl, ?_⟩
          rw [show decide (opV (some z) = V.non) = false from decide_eq_false (by intro e; cases e)]
          exact iteF ⟨_, rfl, b, ps.getD j pc0, rfl, hb, _, rfl, _, _, rfl, rfl, _, rfl, hR⟩
      refine ⟨rfl, ?_⟩
      show tAnd _ _ [some (.ref a), some (opV u), some (opV v), some (.ref b)] Hb _
      cases u with
      | none =>
        refine ⟨_, rfl, rfl, _, rfl, ?_⟩
        rw [show decide (opV none = V.non) = true from rfl]
        refine iteT (iteT (two _ ?_))
        have := fin _ rfl
        rw [show msF ps none v j = bhF ps v j from rfl] at this
        cases e : bhF ps v j with
        | true => rw [e] at this; exact iteT ⟨_, rfl, this⟩
        | false => rw [e] at this; exact iteF this
      | some z =>
        refine ⟨_, rfl, rfl, _, rfl, ?_⟩
        rw [show decide (opV (some z) = V.non) = false from decide_eq_false (by intro e; cases e)]
        refine iteF ⟨_, rfl, b, _, 0, _, rfl, rfl, hb, rfl, _, rfl, _, _, rfl, rfl, _, rfl, ?_⟩
        have := fin _ rfl
        cases e1 : decide (z < cmF ps j) with
        | false =>
          rw [show msF ps (some z) v j = (decide (z < cmF ps j) && bhF ps v j) from rfl, e1] at this
          rw [show decide (z < (ps.getD j pc0).1) = false from e1]
          exact iteF (iteF this)
        | true =>
          rw [show msF ps (some z) v j = (decide (z < cmF ps j) && bhF ps v j) from rfl, e1, Bool.true_and] at this
          rw [show decide (z < (ps.getD j pc0).1) = true from e1]
          refine iteT (two _ ?_)
          cases e : bhF ps v j with
          | true => rw [e] at this; exact iteT ⟨_, rfl, this⟩
          | false => rw [e] at this; exact iteF this
    · intro H2 pz
      obtain ⟨s2, hC⟩ := pv_end pz rfl
      refine ⟨_, _, rfl, .inl ⟨_, SqL.of hC, rfl⟩, ?_⟩
      have e : ((((List.range xs.length).filter (msF ps u v)).map fun x => xs.getD x V.non).length : Int) = (missF ps u v : Nat) := by
        rw [List.length_map, lx]
        unfold missF
        rw [List.countP_eq_length_filter]
      rw [e]
      exact q _ s2
/-- an entry as it stands: a tuple, its row a list that was not there at H0 -/
def EntV (H0 H : Hp) (v : V) (e : Ent) : Prop := ∃ t r, v = .ref t ∧ H t = some (.tup [.int e.1, .ref r]) ∧ H r = some (.lst (e.2.map V.int)) ∧ H0 r = none
theorem EntV.same {H0 H H' : Hp} {v : V} {e : Ent} (h : EntV H0 H v e) (s : Same H H') : EntV H0 H' v e := by
  obtain ⟨t, r, rfl, h1, h2, h3⟩ := h
  exact ⟨t, r, rfl, s _ _ h1, s _ _ h2, h3⟩
theorem EntV.dp {H0 H : Hp} {v : V} {e : Ent} (h : EntV H0 H v e) : Dp K H v (prD e) := by
  obtain ⟨t, r, rfl, h1, h2, h3⟩ := h
  exact .tup (.inl (.inl h1)) (.cons (.int _) (.cons (.lst (.inl (.inl h2)) (dp_ints _)) .nil))
inductive EntL (H0 H : Hp) : List V → List Ent → Prop
  | nil : EntL H0 H [] []
  | cons {v e es en} : EntV H0 H v e → EntL H0 H es en → EntL H0 H (v :: es) (e :: en)
theorem EntL.same {H0 H H' : Hp} (s : Same H H') : ∀ {es : List V} {en : List Ent}, EntL H0 H es en → EntL H0 H' es en
  | _, _, .nil => .nil
  | _, _, .cons a r => .cons (a.same s) (EntL.same s r)
theorem EntL.app {H0 H : Hp} : ∀ {es fs : List V} {en fn : List Ent}, EntL H0 H es en → EntL H0 H fs fn → EntL H0 H (es ++ fs) (en ++ fn)
  | _, _, _, _, .nil, b => b
  | _, _, _, _, .cons a r, b => .cons a (EntL.app r b)
theorem EntL.len {H0 H : Hp} : ∀ {es : List V} {en : List Ent}, EntL H0 H es en → es.length = en.length
  | _, _, .nil => rfl
  | _, _, .cons _ r => congrArg (· + 1) (EntL.len r)
theorem EntL.get {H0 H : Hp} : ∀ {es : List V} {en : List Ent} {i : Nat} {v : V}, EntL H0 H es en → es[i]? = some v → ∃ e, en[i]? = some e ∧ EntV H0 H v e
  | _, _, 0, _, .cons a _, g => ⟨_, rfl, Option.some.inj g ▸ a⟩
  | _, _, i + 1, _, .cons _ r, g => EntL.get (i := i) r g
theorem EntL.dp {H0 H : Hp} : ∀ {es : List V} {en : List Ent}, EntL H0 H es en → DpAll K H es (en.map prD)
  | _, _, .nil => .nil
  | _, _, .cons a r => .cons a.dp (EntL.dp r)
theorem dep_prD : ∀ l : List Ent, PyData.depthAll (l.map prD) ≤ 60
  | [] => Nat.zero_le _
  | e :: l => by
    show max (PyData.depth (prD e)) (PyData.depthAll (l.map prD)) ≤ 60
    refine Nat.max_le.mpr ⟨?_, dep_prD l⟩
    show max 0 (max (PyData.depthAll (e.2.map PyData.int) + 1) 0) + 1 ≤ 60
    rw [dep_ints]
    decide
theorem prD_inj {a b : Ent} (h : prD a = prD b) : a = b := by
  obtain ⟨a1, a2⟩ := a
  obtain ⟨b1, b2⟩ := b
  obtain ⟨h1, h2⟩ := List.cons.inj (PyData.tuple.inj h)
  obtain ⟨h3, _⟩ := List.cons.inj h2
  have e1 : a1 = b1 := PyData.int.inj h1
  have e2 : a2 = b2 := (List.map_inj_right fun x y z => PyData.int.inj z).mp (PyData.list.inj h3)
  rw [e1, e2]
abbrev s_scarce_hours : Stmt := topS 12
def n_scarce_hours : List Str := ["pieces", "slots", "best", "ended", "hour", "cost", "hours", "own", "row"]
theorem sc_scarce_hours : FnScope n_scarce_hours ["pieces", "slots"] (defScope s_scarce_hours) := ⟨rfl, rfl, rfl, by decide +kernel, rfl, by decide +kernel, by decide +kernel⟩
def spSc (K : PySem.W.Frag) : Sp := fun vs H Q _ => ∃ (a : Addr) (xs : List V) (ps : List Pc) (sl : Nat), vs = [.ref a, .int (sl : Nat)] ∧ SqL K H a xs ∧ DpAll K H xs (ps.map pcD) ∧ ps.length ≤ 60 ∧ (∀ p, p < ps.length → cmF ps p < outF ps p) ∧
  ∀ (H' : Hp) (L : Addr) (zs : List Int), Same H H' → H L = none → H' L = some (.lst (((scF ps sl zs).1.2).map V.int)) → HoursOk ps zs → Q (.ref L) H'
theorem ok_sc {f : Addr} {fd : FuncData} {k : Nat} (F : Fun K "scarce_hours" "scarce_hours" s_scarce_hours f fd) (T : Txt mg) (c_hours_of_coming : Cl P w K mg base (k + 1) "hours_of_coming" (spHrs K)) (c_missed : Cl P w K mg base (k + 2) "missed" (spMiss K)) : FnOk P w K mg base CX0 (k + 3) f fd ["pieces", "slots"] (spSc K) := by
  refine F.ok sc_scarce_hours (fun vs H Q E h => ?_) (fun cdv A outer s H vs Q E hr h => ?_)
  · obtain ⟨a, xs, ps, sl, rfl, _⟩ := h
    rfl
  · obtain ⟨a, xs, ps, sl, rfl, hS, dx, l60, pos, q⟩ := h
    have nd := sc_scarce_hours.nd
    have hu64 := hr.units
    have lx : xs.length = ps.length := dpAll_map_len dx
    /- 0 pieces, 1 slots, 2 best, 3 ended, 4 hour, 5 cost, 6 hours, 7 own, 8 row -/
    refine ⟨_, (pss_cons (ps_set (i := 2) nd rfl (.inl rfl) (pe_tup (pa_cons (pe_callB (kc_len (K := K)) (by rfl) T.len PySem.boot_len (pa_cons (pv 0) pa_nil)) (pa_cons (pe_lst pa_nil) pa_nil))))
      (pss_cons (ps_set (i := 3) nd rfl (.inl rfl) (pe_lst pa_nil))
      (pss_cons (ps_for PassesOwn.never rfl (ki_list (K := K) (pe_cl c_hours_of_coming hr (by omega) (by rfl) (pa_cons (pv 0) pa_nil))) (pg_name (i := 4) nd rfl (.inr rfl))
          (pss_cons (ps_asg (pe_callB (kc_minD (K := K) hu64) (by rfl) T.min (by decide +kernel) (pa_cons (pe_op op_cat (pe_lst (pa_cons (pe_tup (pa_cons (pe_op op_add (pv 1) (pe_cl c_missed hr (by omega) (by rfl) (pa_cons (pv 0) (pa_cons pe_non (pa_cons (pv 4) pa_nil))))) (pa_cons (pe_lst (pa_cons (pv 4) pa_nil)) pa_nil))) pa_nil)) (pe_lc (own := [("own", 7), ("row", 8)]) rfl nd (ki_list (K := K) (pv 3)) (blkOk_by (N := n_scarce_hours) (sc := defScope s_scarce_hours) (by decide +kernel)) (fun _ _ _ _ _ => (kg_tup (K := K) (n := 2) (pgs_cons (pg_name (i := 7) nd rfl (.inl rfl)) (pgs_cons (pg_name (i := 8) nd rfl (.inl rfl)) pgs_nil)))) (fun _ _ _ _ _ => pts_nil) (fun _ _ _ _ _ => (pe_tup (pa_cons (pe_op op_add (pe_op op_add (pv 1) (pv 7)) (pe_cl c_missed hr (by omega) (by rfl) (pa_cons (pv 0) (pa_cons (pe_ix (kx_list (K := K)) (pv 8) (pe_un un_neg pe_int) (fun _ _ => rfl)) (pa_cons (pv 4) pa_nil))))) (pa_cons (pe_op op_cat (pv 8) (pe_lst (pa_cons (pv 4) pa_nil))) pa_nil)))))) pa_nil)) (kg_tup (K := K) (n := 2) (pgs_cons (pg_name (i := 5) nd rfl (.inl rfl)) (pgs_cons (pg_name (i := 6) nd rfl (.inl rfl)) pgs_nil))))
          (pss_cons (ps_expr (pe_bm PySem.F.plainAttrs_list PySem.F.slot_list_append PySem.F.type_list_append mt_append (pv 3) (pa_cons (pe_tup (pa_cons (pv 5) (pa_cons (pv 6) pa_nil))) pa_nil)))
          (pss_one (ps_set (i := 2) nd rfl (.inl rfl) (pe_callB (kc_min2D (K := K) hu64) (by rfl) T.min (by decide +kernel) (pa_cons (pv 2) (pa_cons (pe_tup (pa_cons (pe_op op_add (pv 5) (pe_cl c_missed hr (by omega) (by rfl) (pa_cons (pv 0) (pa_cons (pv 4) (pa_cons pe_non pa_nil))))) (pa_cons (pv 6) pa_nil))) pa_nil))))))))
      (pss_one (ps_ret (pe_ix (kx_tup (K := K)) (pv 2) pe_int (fun _ _ => rfl))))))), ?_⟩
    refine ⟨_, rfl, _, _, rfl, .inl ⟨_, hS, rfl⟩, Nat.zero_le _, fun L0 nL0 => ⟨(by show 2 ≤ sizeLine; decide), fun B nB => ?_⟩⟩
    have s1 := (same_upd (o := .lst []) nL0).trans (same_upd (o := .tup [.int (xs.length : Int), .ref L0]) nB)
    have hL0 : upd (upd H L0 (.lst [])) B (.tup [.int (xs.length : Int), .ref L0]) L0 = some (.lst []) := by rw [upd_ne (ne_of_none upd_same nB)]; exact upd_same
    have hB : upd (upd H L0 (.lst [])) B (.tup [.int (xs.length : Int), .ref L0]) B = some (.tup [.int (xs.length : Int), .ref L0]) := upd_same
    generalize upd (upd H L0 (.lst [])) B (.tup [.int (xs.length : Int), .ref L0]) = H1 at s1 hL0 hB ⊢
    refine ⟨Nat.zero_le _, fun En nE => ?_⟩
    have s2 := s1.trans (same_upd (o := .lst []) nE)
    have LE : L0 ≠ En := ne_of_none hL0 nE
    have BE : B ≠ En := ne_of_none hB nE
    have hL0 := (same_upd (o := .lst []) nE) _ _ hL0
    have hB := (same_upd (o := .lst []) nE) _ _ hB
    have hE : upd H1 En (.lst []) En = some (.lst []) := upd_same
    have nEH : H En = none := by
      cases e : H En with
      | none => rfl
      | some o => have := s1 _ _ e; rw [nE] at this; cases this
    generalize upd H1 En (.lst []) = H2 at s2 hL0 hB hE ⊢
    have hS2 := s2.seq hS
    have dx2 := dpAll_same s2 dx
    refine ⟨_, rfl, a, xs, ps, rfl, hS2, dx2, l60, fun H3 Zl zs s3 nZ hZ hok => ⟨Zl, rfl, ⟨_, SqL.of hZ⟩, ?_⟩⟩
    have sH3 := s2.trans s3
    have hE3 := s3 _ _ hE
    have hL03 := s3 _ _ hL0
    have hB3 := s3 _ _ hB
    have ZE : Zl ≠ En := fun z => by rw [z, hE] at nZ; cases nZ
    have l60z : zs.length ≤ 60 := by
      have := nodup_le (l := ps.map (·.1)) (hok.1.imp fun h => by omega) fun k hk => (hok.2 k).mp hk
      rw [List.length_map] at this
      omega
    clear hE hL0 hB hS2 dx2 s2 s1 nE nB
    have dB : EntV H (off H3 [En]) (.ref B) ((ps.length : Int), []) := ⟨B, L0, rfl, by rw [off_out (by simp [BE]), hB3, lx], by rw [off_out (by simp [LE])]; exact hL03, nL0⟩
    refine for_it (walk_list (xs := zs.map V.int)) (fun i σ Hz => ∃ (bt : V) (es : List V) (v4 v5 v6 v7 v8 : Option V), σ = [some (.ref a), some (.int (sl : Nat)), some bt, some (.ref En), v4, v5, v6, v7, v8] ∧ Same H Hz ∧ Hz Zl = some (.lst (zs.map V.int)) ∧ Hz En = some (.lst es) ∧
        EntL H (off Hz [En]) es (scF ps sl (zs.take i)).2 ∧ EntV H (off Hz [En]) bt (scF ps sl (zs.take i)).1) ⟨_, _, _, _, _, _, _, rfl, sH3, hZ, hE3, .nil, dB⟩ (fun i σ Hz _ h => by obtain ⟨_, _, _, _, _, _, _, _, _, h, _⟩ := h; exact SqL.of h) ?_ ?_
    · rintro i y σ Hz Hw hi ⟨bt, es, v4, v5, v6, v7, v8, rfl, sz, hZz, hEz, dez, dbz⟩ ⟨rfl, gy⟩
      rw [List.getElem?_map] at gy
      obtain ⟨z, gz, rfl⟩ := Option.map_eq_some_iff.mp gy
      rw [List.length_map] at hi
      have I := sc_inv sl pos (zs := zs.take i) (hok.1.sublist (List.take_sublist _ _))
      rw [scF_one gz]
      have elen : es.length ≤ 60 := by
        have := I.len
        rw [List.length_take] at this
        have := dez.len
        omega
      have erow : ∀ e ∈ (scF ps sl (zs.take i)).2, e.2 ≠ [] ∧ e.2.length ≤ 60 := fun e he => by
        obtain ⟨e1, e2, e3, _⟩ := I.each e he
        refine ⟨e2, ?_⟩
        have := nodup_le (l := zs.take i) (e1.imp fun h => by omega) e3
        rw [List.length_take] at this
        omega
      have brow : (scF ps sl (zs.take i)).1.2.length ≤ 60 := by
        obtain ⟨b1, b2, _⟩ := I.best
        have := nodup_le (l := zs.take i) (b1.imp fun h => by omega) b2
        rw [List.length_take] at this
        omega
      clear I
      generalize scF ps sl (zs.take i) = st at dez dbz erow brow ⊢
      obtain ⟨b0, en⟩ := st
      have hSz := sz.seq hS
      have dxz := dpAll_same sz dx
      refine ⟨_, rfl, _, rfl, _, rfl, a, xs, ps, none, some z, rfl, hSz, dxz, l60, fun Ha sa => ⟨_, _, rfl, rfl, _, rfl, (by show 1 ≤ sizeLine; decide), fun L1 nL1 => ⟨(by show 2 ≤ sizeLine; decide), fun T1 nT1 => ⟨(by show 1 ≤ sizeLine; decide), fun A1 nA1 => ?_⟩⟩⟩⟩
      obtain ⟨c1, ec1⟩ : ∃ c1 : Int, c1 = (sl : Int) + ((missF ps none (some z) : Nat) : Int) := ⟨_, rfl⟩
      have e0 : (fun i j : Int => V.int (i + j)) ((sl : Nat) : Int) ((missF ps none (some z) : Nat) : Int) = V.int c1 := by rw [ec1]
      rw [e0] at nA1 ⊢
      have hLa : upd Ha L1 (.lst [.int z]) L1 = some (.lst [.int z]) := upd_same
      have sb := ((sa.trans (same_upd (o := .lst [.int z]) nL1)).trans (same_upd (o := .tup [.int c1, .ref L1]) nT1)).trans (same_upd (o := .lst [.ref T1]) nA1)
      have hL1 := (same_upd (o := .lst [.ref T1]) nA1) _ _ ((same_upd (o := .tup [.int c1, .ref L1]) nT1) _ _ hLa)
      have hT1 := (same_upd (o := .lst [.ref T1]) nA1) _ _ (show upd (upd Ha L1 (.lst [.int z])) T1 (.tup [.int c1, .ref L1]) T1 = _ from upd_same)
      have hA1 : upd (upd (upd Ha L1 (.lst [.int z])) T1 (.tup [.int c1, .ref L1])) A1 (.lst [.ref T1]) A1 = some (.lst [.ref T1]) := upd_same
      have hEa := sa _ _ hEz
      have E1 : L1 ≠ En := fun q => by rw [q, hEa] at nL1; cases nL1
      have E2 : T1 ≠ En := (ne_of_none ((same_upd (o := .lst [.int z]) nL1) _ _ hEa) nT1).symm
      clear hLa hEa
      generalize upd (upd (upd Ha L1 (.lst [.int z])) T1 (.tup [.int c1, .ref L1])) A1 (.lst [.ref T1]) = Hb at sb hL1 hT1 hA1 ⊢
      have hEb := sb _ _ hEz
      have hSb := sb.seq hSz
      have dxb := dpAll_same sb dxz
      refine ⟨_, rfl, En, rfl, ⟨_, SqL.of hEb⟩, fun C nC => ?_⟩
      have CE : C ≠ En := fun q => by rw [q, hEb] at nC; cases nC
      have lee : es.length = en.length := dez.len
      refine lc_it (walk_list (xs := es)) (fun j Hx => Same Hb Hx ∧ ∃ cs, Hx C = some (.lst cs) ∧ cs.length ≤ j ∧ EntL H (off Hx [C, En]) cs ((en.take j).map (candF ps sl z))) ⟨same_upd nC, [], upd_same, Nat.le_refl _, .nil⟩ (fun j Hx _ h => SqL.of (h.1 _ _ hEb)) ?_ ?_
      · rintro j y Hx Hy hj ⟨sx, cs, hC, cl, dc⟩ ⟨rfl, gx⟩
        obtain ⟨e, ge, t, r, rfl, ht, hr, _⟩ := dez.get gx
        have em := List.mem_of_getElem? ge
        obtain ⟨ne, rl⟩ := erow e em
        have ht := (off_sub.trans (sb.trans sx)) _ _ ht
        have hr := (off_sub.trans (sb.trans sx)) _ _ hr
        have hat : atI (e.2.map V.int) (-1) = some (.int (lastF e.2)) := by
          obtain ⟨q, l, eq⟩ := snoc_of ne
          rw [eq, last_snoc, List.map_append]
          exact atI_last _ _
        refine ⟨t, _, rfl, .inl (.inl ht), rfl, _, _, rfl, _, _, rfl, rfl, rfl, tYes_at ?_⟩
        rw [if_pos rfl]
        refine ⟨_, rfl, _, rfl, _, _, rfl, rfl, _, rfl, ?_⟩
        refine ⟨_, rfl, 1, rfl, r, _, (-1), _, rfl, rfl, SqL.of hr, hat, _, rfl, ?_⟩
        refine ⟨a, xs, ps, some (lastF e.2), some z, rfl, sx.seq hSb, dpAll_same sx dxb, l60, fun Hm sm => ⟨_, _, rfl, rfl, _, rfl, _, rfl, (by show 1 ≤ sizeLine; decide), fun Lh nLh => ?_⟩⟩
        have s5 := sm.trans (same_upd (o := .lst [.int z]) nLh)
        refine ⟨r, Lh, _, _, rfl, rfl, s5 _ _ hr, upd_same, (by rw [List.length_map, sizeLine_eq]; show _ + 1 ≤ _; omega), fun M nM => ⟨(by show 2 ≤ sizeLine; decide), fun Tp nTp => ?_⟩⟩
        have hC5 := s5 _ _ hC
        have hE5 := s5 _ _ (sx _ _ hEb)
        have CM : M ≠ C := fun q => by rw [q, hC5] at nM; cases nM
        have EM : M ≠ En := fun q => by rw [q, hE5] at nM; cases nM
        have nHM : H M = none := by
          cases q : H M with
          | none => rfl
          | some o => have := s5 _ _ (sx _ _ (sb _ _ (sz _ _ q))); rw [nM] at this; cases this
        have s6 := s5.trans (same_upd (o := .lst (e.2.map V.int ++ [V.int z])) nM)
        have CT : Tp ≠ C := fun q => by rw [q, s6 _ _ hC] at nTp; cases nTp
        have ET : Tp ≠ En := fun q => by rw [q, s6 _ _ (sx _ _ hEb)] at nTp; cases nTp
        have MT : M ≠ Tp := ne_of_none upd_same nTp
        have s7 := s6.trans (same_upd (o := .tup [.int ((sl : Int) + e.1 + ((missF ps (some (lastF e.2)) (some z) : Nat) : Int)), .ref M]) nTp)
        refine ⟨cs, s7 _ _ hC, by rw [sizeLine_eq]; omega, same_put (sx.trans s7) nC, cs ++ [.ref Tp], upd_same, by rw [List.length_append]; show _ + 1 ≤ _; omega, ?_⟩
        rw [List.take_add_one, ge, List.map_append]
        refine EntL.app (dc.same ((sm_of s7).trans (sm_wr List.mem_cons_self))) (.cons ⟨Tp, M, rfl, ?_, ?_, nHM⟩ .nil)
        · rw [off_out (by simp [CT, ET]), upd_ne CT]
          exact upd_same
        · rw [off_out (by simp [CM, EM]), upd_ne CM, upd_ne MT, upd_same]
          show _ = some (HO.lst ((e.2 ++ [z]).map V.int))
          rw [List.map_append]; rfl
      · rintro Hx ⟨sx, cs, hC, cl, dc⟩
        rw [List.take_of_length_le (by omega)] at dc
        refine ⟨A1, C, _, _, rfl, rfl, sx _ _ hA1, hC, (by rw [sizeLine_eq]; show 1 + _ ≤ _; omega), fun M nM => ?_⟩
        have s6 := sx.trans (same_upd (o := .lst ([.ref T1] ++ cs)) nM)
        have hM : upd Hx M (.lst ([.ref T1] ++ cs)) M = some (.lst (.ref T1 :: cs)) := upd_same
        have nHL : H L1 = none := by
          cases q : H L1 with
          | none => rfl
          | some o => have := sa _ _ (sz _ _ q); rw [nL1] at this; cases this
        have cds : EntL H (off (upd Hx M (.lst ([.ref T1] ++ cs))) [En]) (.ref T1 :: cs) (firstE ps sl z :: en.map (candF ps sl z)) := by
          refine .cons ⟨T1, L1, rfl, ?_, ?_, nHL⟩ (dc.same ((off_mono (by simp)).trans (sm_of (same_upd nM))))
          · rw [off_out (by simp [E2]), s6 _ _ hT1, ec1]; rfl
          · rw [off_out (by simp [E1]), s6 _ _ hL1]; rfl
        have hE6 := s6 _ _ hEb
        have hZ6 := s6 _ _ (sb _ _ hZz)
        have s6H := sz.trans (sb.trans s6)
        have dez := dez.same (sm_of (S := [En]) (sb.trans s6))
        have dbz := dbz.same (sm_of (S := [En]) (sb.trans s6))
        clear dc hC nM nC CE hA1 hT1 hL1 nA1 nL1 E1 E2 sx
        generalize upd Hx M (.lst ([.ref T1] ++ cs)) = H6 at s6 hM cds hE6 hZ6 s6H dez dbz ⊢
        have cdp := (cds.dp (K := K))
        refine ⟨M, .ref T1 :: cs, prD (firstE ps sl z), (en.map (candF ps sl z)).map prD, rfl, SqL.of hM, dpAll_same off_sub cdp, alikeAll_prD (firstE ps sl z :: en.map (candF ps sl z)), dep_prD (firstE ps sl z :: en.map (candF ps sl z)), fun v j gv gd => ?_⟩
        obtain ⟨e', ge', he'⟩ := cds.get gv
        have ee : e' = newE ps sl en z := by
          have h1 : ((firstE ps sl z :: en.map (candF ps sl z)).map prD)[j]? = some (prD e') := by rw [List.getElem?_map, ge']; rfl
          have h2 : ((firstE ps sl z :: en.map (candF ps sl z)).map prD)[j]? = some (PySem.W.minD (prD (firstE ps sl z)) ((en.map (candF ps sl z)).map prD)) := gd
          rw [minD_minE, h1] at h2
          exact prD_inj (Option.some.inj h2)
        subst ee
        obtain ⟨t, r, rfl, ht, hr, nHr⟩ := he'
        have h2 : ∀ {en : List Ent} {e : Ent}, EntL H (off H6 [En]) es en → True := fun _ => trivial
        refine ⟨t, _, rfl, .inl (.inl (at_off ht)), rfl, _, _, rfl, _, _, rfl, rfl, ?_⟩
        have ntu : ∀ {x : Addr} {o : HO}, off H6 [En] x = some o → x ≠ En := fun e q => off_mem e (by rw [q]; exact List.mem_cons_self)
        generalize hn : newE ps sl en z = ne at ht hr
        refine ⟨_, rfl, .inl ⟨rfl, _, SqL.of hE6⟩, _, rfl, _, rfl, (by show 2 ≤ sizeLine; decide), fun T2 nT2 => ?_⟩
        have s7 := same_upd (o := .tup [.int ne.1, .ref r]) nT2
        have ET : T2 ≠ En := fun q => by rw [q, hE6] at nT2; cases nT2
        have nw : EntV H (off (upd H6 T2 (.tup [.int ne.1, .ref r])) [En]) (.ref T2) ne := ⟨T2, r, rfl, by rw [off_out (by simp [ET])]; exact upd_same, (sm_of s7) _ _ hr, nHr⟩
        refine ⟨En, es, _, rfl, rfl, s7 _ _ hE6, by rw [sizeLine_eq]; omega, ?_⟩
        have dez := EntL.app (dez.same (sm_of s7)) (.cons nw .nil)
        have dbz := dbz.same (sm_of (S := [En]) s7)
        have hr := (sm_of (S := [En]) s7) _ _ hr
        have hE7 : upd (upd H6 T2 (.tup [.int ne.1, .ref r])) En (.lst (es ++ [.ref T2])) En = some (.lst (es ++ [.ref T2])) := upd_same
        have sw : Sm [En] (upd H6 T2 (.tup [.int ne.1, .ref r])) (upd (upd H6 T2 (.tup [.int ne.1, .ref r])) En (.lst (es ++ [.ref T2]))) := sm_wr List.mem_cons_self
        have dez := dez.same sw
        have dbz := dbz.same sw
        have hr := sw _ _ hr
        have s8H : Same H (upd (upd H6 T2 (.tup [.int ne.1, .ref r])) En (.lst (es ++ [.ref T2]))) := same_put (s6H.trans s7) nEH
        have hZ7 : upd (upd H6 T2 (.tup [.int ne.1, .ref r])) En (.lst (es ++ [.ref T2])) Zl = some (.lst (zs.map V.int)) := by rw [upd_ne ZE]; exact s7 _ _ hZ6
        clear cds cdp hM s6 s7 sw nw nT2 hE6 s6H hZ6 ht
        generalize upd (upd H6 T2 (.tup [.int ne.1, .ref r])) En (.lst (es ++ [.ref T2])) = H7 at dez dbz hr hE7 s8H hZ7 ⊢
        refine ⟨_, rfl, _, rfl, _, rfl, _, rfl, a, xs, ps, some z, none, rfl, s8H.seq hS, dpAll_same s8H dx, l60, fun H8 s8 => ⟨_, _, rfl, rfl, _, rfl, (by show 2 ≤ sizeLine; decide), fun T3 nT3 => ?_⟩⟩
        have hE8 := s8 _ _ hE7
        have E3 : T3 ≠ En := fun q => by rw [q, hE8] at nT3; cases nT3
        have s9 := s8.trans (same_upd (o := .tup [.int (ne.1 + ((missF ps (some z) none : Nat) : Int)), .ref r]) nT3)
        have cl : EntV H (off (upd H8 T3 (.tup [.int (ne.1 + ((missF ps (some z) none : Nat) : Int)), .ref r])) [En]) (.ref T3) (closeE ps z ne) := ⟨T3, r, rfl, by rw [off_out (by simp [E3])]; exact upd_same, (sm_of s9) _ _ hr, nHr⟩
        have dbz := dbz.same (sm_of (S := [En]) s9)
        have dez := dez.same (sm_of (S := [En]) s9)
        refine ⟨bt, .ref T3, prD b0, prD (closeE ps z ne), rfl, dp_same off_sub dbz.dp, dp_same off_sub cl.dp, alikeAll_prD [b0, closeE ps z ne], dep_prD [b0, closeE ps z ne], ?_⟩
        refine ⟨_, _, _, _, _, _, _, rfl, s8H.trans s9, s9 _ _ hZ7, s9 _ _ hE7, ?_, ?_⟩
        · show EntL H _ _ (en ++ [newE ps sl en z])
          rw [hn]; exact dez
        · show EntV H _ _ (if ltE (closeE ps z (newE ps sl en z)) b0 = true then closeE ps z (newE ps sl en z) else b0)
          rw [hn]
          unfold ltE
          split
          · exact cl
          · exact dbz
    · rintro σ Hz ⟨bt, es, v4, v5, v6, v7, v8, rfl, sz, hZz, hEz, dez, dbz⟩
      rw [List.length_map, List.take_of_length_le (Nat.le_refl _)] at dbz
      obtain ⟨t, r, rfl, ht, hr, nHr⟩ := dbz
      exact ⟨_, rfl, t, _, 1, _, rfl, rfl, .inl (.inl (at_off ht)), rfl, q Hz r zs sz nHr (at_off hr) hok⟩
abbrev s_most_cooled : Stmt := topS 10
def n_most_cooled : List Str := ["pieces", "slots"]
theorem sc_most_cooled : FnScope n_most_cooled ["pieces", "slots"] (defScope s_most_cooled) := ⟨rfl, rfl, rfl, by decide +kernel, rfl, by decide +kernel, by decide +kernel⟩
def spMC (K : PySem.W.Frag) (Pt Pk : Addr) : Sp := fun vs H Q _ => ∃ (a : Addr) (xs : List V) (ps : List Pc) (sl : Nat), vs = [.ref a, .int (sl : Nat)] ∧ SqL K H a xs ∧ DpAll K H xs (ps.map pcD) ∧ ps.length ≤ 60 ∧ (∀ p, p < ps.length → cmF ps p < outF ps p) ∧ LamX.Tabs (TT Pt Pk) H ∧
  ∀ (H' : Hp) (t L M : Addr) (ks zs : List Int), LamX.ExtN H H' → LamX.Tabs (TT Pt Pk) H' → H' t = some (.tup [.ref L, .ref M]) → H' L = some (.lst (ks.map V.int)) → H' M = some (.lst (((scF ps sl zs).1.2).map V.int)) → L ≠ M → (∀ x u, H x = some u → (∀ ps, u ≠ .tbl ps) → x ≠ L ∧ x ≠ M) →
    ks.Pairwise (· < ·) → (∀ k : Nat, (k : Int) ∈ ks ↔ k ∈ keptF ps sl) → (∀ z ∈ ks, 0 ≤ z) → ks.length = (keptF ps sl).length → HoursOk ps zs → Q (.ref t) H'
theorem ok_mc {f Pt Pk : Addr} {fd : FuncData} {k : Nat} (F : Fun K "most_cooled" "most_cooled" s_most_cooled f fd) (c_kept_in : Cl P w K mg base (k + 4) "kept_in" (spKept K Pt Pk)) (c_scarce_hours : Cl P w K mg base (k + 3) "scarce_hours" (spSc K)) : FnOk P w K mg base CX0 (k + 5) f fd ["pieces", "slots"] (spMC K Pt Pk) := by
  refine F.ok sc_most_cooled (fun vs H Q E h => ?_) (fun cdv A outer s H vs Q E hr h => ?_)
  · obtain ⟨a, xs, ps, sl, rfl, _⟩ := h
    rfl
  · obtain ⟨a, xs, ps, sl, rfl, hS, dx, l60, pos, tbs, q⟩ := h
    have nd := sc_most_cooled.nd
    refine ⟨_, (pss_one (ps_ret (pe_tup (pa_cons (pe_cl c_kept_in hr (by omega) (by rfl) (pa_cons (pv 0) (pa_cons (pv 1) pa_nil))) (pa_cons (pe_cl c_scarce_hours hr (by omega) (by rfl) (pa_cons (pv 0) (pa_cons (pv 1) pa_nil))) pa_nil))))), ?_⟩
    refine ⟨_, rfl, _, rfl, a, xs, ps, sl, rfl, hS, dx, l60, pos, tbs, fun H1 L ks x1 tb1 fr hL k1 k2 k3 k4 => ?_⟩
    refine ⟨_, rfl, _, rfl, a, xs, ps, sl, rfl, RLam.sqL_ext hS x1, pcs_ext x1 dx, l60, pos, fun H2 M zs s2 nM hM hz => ⟨(by show 2 ≤ sizeLine; decide), fun t nt => ?_⟩⟩
    have s3 := s2.trans (same_upd (o := .tup [.ref L, .ref M]) nt)
    refine q _ t L M ks zs (x1.trans (.of s3)) (tb1.ext s3) upd_same (s3 _ _ hL) ((same_upd nt) _ _ hM) (fun e => by rw [e, nM] at hL; cases hL) (fun x u e n => ⟨fr x u e n, fun z => ?_⟩) k1 k2 k3 k4 hz
    have := x1 x u e n
    rw [z, nM] at this
    cases this

theorem any_none {ps : List Pc} {j : Nat} : ∀ Hs : List Int, Hs.any (fun h => innF ps h j) = !Hs.all fun h => !innF ps h j
  | [] => rfl
  | x :: l => by rw [List.any_cons, List.all_cons, Bool.not_and, Bool.not_not, any_none l]
abbrev s_bound_by : Stmt := topS 14
def n_bound_by : List Str := ["pieces", "slots", "hours", "piece", "hour"]
theorem sc_bound_by : FnScope n_bound_by ["pieces", "slots", "hours"] (defScope s_bound_by) := ⟨rfl, rfl, rfl, by decide +kernel, rfl, by decide +kernel, by decide +kernel⟩
def spBnd (K : PySem.W.Frag) : Sp := fun vs H Q _ => ∃ (a h : Addr) (xs : List V) (ps : List Pc) (sl : Nat) (Hs : List Int), vs = [.ref a, .int (sl : Nat), .ref h] ∧ SqL K H a xs ∧ DpAll K H xs (ps.map pcD) ∧ ps.length ≤ 60 ∧ SqL K H h (Hs.map V.int) ∧ Hs.length ≤ 1000 ∧ ∀ H', Same H H' → Q (.int (bndF ps sl Hs : Nat)) H'
theorem ok_bnd {f : Addr} {fd : FuncData} {k : Nat} (F : Fun K "bound_by" "bound_by" s_bound_by f fd) (T : Txt mg) (c_is_in : Cl P w K mg base (k + 2) "is_in" (spIn K)) : FnOk P w K mg base CX0 (k + 3) f fd ["pieces", "slots", "hours"] (spBnd K) := by
  refine F.ok sc_bound_by (fun vs H Q E h => ?_) (fun cdv A outer s H vs Q E hr h => ?_)
  · obtain ⟨a, h, xs, ps, sl, Hs, rfl, _⟩ := h
    rfl
  · obtain ⟨a, h, xs, ps, sl, Hs, rfl, hS, dx, l60, hH, lH, q⟩ := h
    have nd := sc_bound_by.nd
    have lx : xs.length = ps.length := dpAll_map_len dx
    refine ⟨_, (pss_one (ps_ret (pe_op op_add (pe_op op_mul (pv 1) (pe_callB (kc_len (K := K)) (by rfl) T.len PySem.boot_len (pa_cons (pv 2) pa_nil))) (pe_callB (kc_len (K := K)) (by rfl) T.len PySem.boot_len (pa_cons (pe_lc (own := [("piece", 3)]) rfl nd (ki_list (K := K) (pv 0)) (blkOk_by (N := n_bound_by) (sc := defScope s_bound_by) (by decide +kernel)) (fun _ _ _ _ _ => (pg_name (i := 3) nd rfl (.inr rfl))) (fun _ _ _ _ _ => (pts_one (pt_not (pt_val (pe_callB (kc_any (K := K)) (by rfl) T.any (by decide +kernel) (pa_cons (pe_lc (own := [("hour", 4)]) rfl nd (ki_list (K := K) (pv 2)) (blkOk_by (N := n_bound_by) (sc := relS ({ kind := PySem.ScopeKind.function, names := [ (PySem.Str.ofString ".0", PySem.NameKind.local), (PySem.Str.ofString "piece", PySem.NameKind.cell), (PySem.Str.ofString "any", PySem.NameKind.globalImplicit), (PySem.Str.ofString "hours", PySem.NameKind.free)], isGenerator := false, isCoroutine := false, more := [] : PySem.Scope }) (defScope s_bound_by)) (by decide +kernel)) (fun _ _ _ _ _ => (pg_name (i := 4) nd rfl (.inl rfl))) (fun _ _ _ _ _ => pts_nil) (fun _ _ _ _ _ => (pe_cl c_is_in hr (by omega) (by rfl) (pa_cons (pv 3) (pa_cons (pv 4) pa_nil))))) pa_nil)))))) (fun _ _ _ _ _ => (pv 3))) pa_nil))))), ?_⟩
    refine ⟨_, rfl, _, rfl, _, _, rfl, .inl ⟨_, hH, rfl⟩, _, _, rfl, rfl, (.inr ⟨Int.lt_of_lt_of_le (by decide) (Int.natCast_nonneg _), Int.lt_of_le_of_lt (show ((Hs.map V.int).length : Int) ≤ 1000 by rw [List.length_map]; omega) (by decide)⟩), _, rfl, a, rfl, ⟨_, hS⟩, fun C nC => ?_⟩
    refine lc_it (walk_list (xs := xs)) (PvL H C fun j => ((List.range j).filter (noneF ps Hs)).map fun x => xs.getD x .non) (pv_start nC rfl) (fun j H4 _ z => z.1.seq hS) ?_ ?_
    · rintro j y Ha Hb hj pz ⟨rfl, gx⟩
      obtain ⟨b, rfl, hb, hj2, _⟩ := pcs_at (dpAll_same pz.1 dx) gx
      have lf : (((List.range j).filter (noneF ps Hs)).map fun x => xs.getD x .non).length < sizeLine := by
        rw [List.length_map, sizeLine_eq]
        have := List.length_filter_le (noneF ps Hs) (List.range j)
        rw [List.length_range] at this
        omega
      have er : ((List.range (j + 1)).filter (noneF ps Hs)) = (List.range j).filter (noneF ps Hs) ++ (if noneF ps Hs j = true then [j] else []) := by
        rw [List.range_succ, List.filter_append]
        show _ ++ List.filter _ [j] = _
        rw [List.filter_cons, List.filter_nil]
      refine ⟨rfl, _, rfl, h, rfl, ⟨_, pz.1.seq hH⟩, fun D nD => ?_⟩
      refine lc_it (walk_list (xs := Hs.map V.int)) (PvL Hb D fun i => ((Hs.map fun h => innF ps h j).take i).map V.bl) (pv_start nD rfl) (fun i H4 _ z => z.1.seq (pz.1.seq hH)) ?_ ?_
      · rintro i y Hc Hd hi p ⟨rfl, gy⟩
        rw [List.getElem?_map] at gy
        obtain ⟨z, gz, rfl⟩ := Option.map_eq_some_iff.mp gy
        refine ⟨rfl, tYes_at ?_⟩
        rw [if_pos rfl]
        refine ⟨_, rfl, _, rfl, b, ps.getD j pc0, z, rfl, same_tup p.1 hb, ?_⟩
        exact pv_put nD p (Same.refl _) (take_map V.bl (by rw [List.getElem?_map, gz]; rfl)) (take_len_le (by rw [List.length_map]; omega))
      · intro H4 p
        obtain ⟨s4, hD⟩ := pv_end p (take_all (by rw [List.length_map, List.length_map]; exact Nat.le_refl _))
        refine ⟨D, _, rfl, SqL.of hD, _, rfl, ?_⟩
        have ea : (Hs.map fun h => innF ps h j).any id = !noneF ps Hs j := by
          unfold noneF
          rw [List.any_map]
          exact any_none Hs
        rw [ea]
        cases e : noneF ps Hs j with
        | true =>
          refine iteT ⟨_, rfl, ?_⟩
          refine pv_put nC pz s4 ?_ lf
          show List.map _ _ = _
          rw [er, if_pos e, List.map_append]
          show _ ++ [xs.getD j .non] = _
          rw [List.getD_eq_getElem?_getD, gx]; rfl
        | false =>
          refine iteF (pv_skip pz s4 ?_)
          show List.map _ _ = _
          rw [er, if_neg (by rw [e]; exact Bool.false_ne_true), List.append_nil]
    · intro H2 pz
      obtain ⟨s2, hC⟩ := pv_end pz rfl
      refine ⟨_, _, rfl, .inl ⟨_, SqL.of hC, rfl⟩, ?_⟩
      refine ⟨_, _, rfl, rfl, ?_⟩
      have e : ((sl : Nat) : Int) * ((Hs.map V.int).length : Int) + ((((List.range xs.length).filter (noneF ps Hs)).map fun x => xs.getD x V.non).length : Int) = (bndF ps sl Hs : Nat) := by
        rw [List.length_map, List.length_map, lx]
        unfold bndF
        rw [List.countP_eq_length_filter]
        simp
      have q := q _ s2
      rw [← e] at q
      exact q

end
end Pot

namespace Pot
open PySem PySem.Spec PyProof.Rows L2
section
variable {P : Program} {w : World} {K : PySem.W.Frag} {mg : Str → Option Value} {base : Heap}
/-! ### Full -/
abbrev s_Full : Stmt := inClass (topS 17) 0
def veTail : List Value := [.type "ValueError", .type "Exception", .type "BaseException", .type "object"]
structure FlK (P : Program) (K : PySem.W.Frag) (mg : Str → Option Value) (C fI : Addr) : Prop where
  gl : mg "Full" = some (.ref C)
  ex : RSup.OexB K C "ValueError.__new__" veTail
  sup : RSup.SupC P K mg C "ValueError.__init__" "ValueError"
  ini : PySem.W.findIn K (.ref C) "__init__" = some (some (.ref fI))
  tyI : PySem.W.typeIn K (.ref fI) = some (.type "function")
  sl : PySem.W.findIn K (.ref C) "slots" = some none
theorem scFL : RSup.ScopeS ["self", "slots"] ["self", "slots"] (defScope s_Full) := ⟨rfl, rfl, rfl, by decide +kernel, rfl, by decide +kernel, by decide +kernel, by decide +kernel⟩
def spFL (C : Addr) : Sp := fun vs H Q _ => ∃ (a : Addr) (z : Int), vs = [.ref a, .int z] ∧ z.natAbs ≤ 2000000 ∧ H a = some (exo a C none) ∧
  ∀ d, H d = none → d ≠ a → Q .non (upd (upd H d (exd d [("slots", .int z)])) a (exo a C (some d)))
theorem ok_fl {CX : CXT} {f C fI : Addr} {fd : FuncData} {k : Nat} (F : RSup.FunS P K "__init__" "Full.__init__" s_Full f C fd) (N : FlK P K mg C fI) : FnOk P w K mg base CX (k + 1) f fd ["self", "slots"] (spFL C) := by
  refine RSup.fn_supr F PySem.F.excBase_ValueError N.ex N.sup scFL rfl rfl rfl rfl rfl rfl (fun vs H Q E h => ?_) (fun cda cc A outer s H vs Q E hr h => ?_)
  · obtain ⟨a, z, rfl, _⟩ := h
    rfl
  · obtain ⟨a, z, rfl, hz, ha, q⟩ := h
    refine ⟨a, _, _, rfl, ha, pa_cons (pe_joined (.cons pe_str (.cons (pe_fmt (pv 1)) (.cons pe_str .nil)))) pa_nil, pss_one (RSup.ps_ostB (newId := "ValueError.__new__") PySem.F.store_ValueError (pv 0) (pv 1)), ?_⟩
    have l1 : (Str.ofString "none of ").length = 8 := by decide +kernel
    have l2 : (Str.ofString " slots is free").length = 14 := by decide +kernel
    have l0 : Str.empty.length = 0 := rfl
    have lz := PyProof.Rows.int_text_len_1921 (log_small' hz)
    refine ⟨_, rfl, (by rw [Str.length_append, l0, l1, sizeLine_eq]; omega), _, rfl, .inr ⟨z, rfl, log_small' hz, _, rfl, ?_, _, rfl, ?_, ?_⟩⟩
    · rw [Str.length_append, Str.length_append, l0, l1, sizeLine_eq]
      omega
    · rw [Str.length_append, Str.length_append, Str.length_append, l0, l1, l2, sizeLine_eq]
      omega
    refine ⟨(by show 1 ≤ 1000; decide), ha, ?_⟩
    exact ⟨_, rfl, _, rfl, a, C, rfl, N.ex, N.sl, .inl ⟨ha, fun d nd ne => q d nd ne⟩⟩
/-- Full may be made -/
def FlR (P : Program) (w : World) (K : PySem.W.Frag) (mg : Str → Option Value) (base : Heap) (k : Nat) (C : Addr) : Prop :=
  ∃ (fI : Addr) (fd : FuncData), FlK P K mg C fI ∧ FnOk P w K mg base CX0 k fI fd ["self", "slots"] (spFL C) ∧ Binds K fd ["self", "slots"] []
theorem pmk_fl {X : Cx} {k j : Nat} {C : Addr} {e : Expr} {es : List Expr} {ta : TA} {p pos : Pos} (c : FlR X.prog X.w X.K X.mg X.base k C) (room : Room (j + 1) X.A) (le : k ≤ j) (glob : Gl X "Full") (args : PA X (e :: es) ta)
    (plain : starEach (e :: es) X.env = (false, eval e X.env) :: starEach es X.env := by rfl) (none_ : (backTo pos (starEach es X.env)).any (·.1) = false := by rfl) :
    L2.PMk X (.Call (.Name "Full" p) (e :: es) [] pos) (tMkO C (spFL C) [] ta) := by
  obtain ⟨fI, fd, N, G, b⟩ := c
  exact RSup.pmk_oexB PySem.F.excBase_ValueError N.ex N.ini N.tyI (G.mono le) room b .nil pass0 glob N.gl args (by decide) plain none_

/-! ### a method with values that may be left out -/
abbrev FunVQ (K : PySem.W.Frag) (x qual : Str) (st : Stmt) (dvs : List V) (f : Addr) (fd : FuncData) : Prop := FunD K x qual (defArgs st) (defBody st) (defScope st) dvs [] f fd
theorem okQ {x qual : Str} {st : Stmt} {dvs : List V} {f : Addr} {fd : FuncData} {N ps : List Str} {k : Nat} {sp : Sp} (F : FunVQ K x qual st dvs f fd) (S : FnScope N ps (defScope st)) (len : ∀ vs H Q E, sp vs H Q E → vs.length = ps.length)
    (bd : ∀ (cdv : Value) (A : Around) (outer : List Env) (s : Shared) (H : Hp) (vs : List V) (Q : VK) (E : XK), Room k (A.deeper (envOfC qual (defScope st) s.heap.objs.size f cdv)) → sp vs H Q E → ∃ t, PSs (cxOf CX0 P w K mg base N qual (defScope st) f cdv A outer s H E).nox (defBody st) t ∧ t { nx := fun _ H' => Q .non H', rt := Q } (start N vs) H) : FnOk P w K mg base CX0 (k + 1) f fd ps sp :=
  FunD.ok F S len fun cdv A outer s H vs Q E hr h => by
    obtain ⟨t, ht, hq⟩ := bd cdv A outer s H vs Q E hr h
    exact ⟨t, ht.nox, hq⟩
/-! ### what lies in a tunnel: slot, name, hour out, and where its pair stands -/
abbrev En := Nat × Str × Int × Addr
def enK (es : List En) : List (Key × V) := es.map fun e => (.inl ((e.1 : Nat) : Int), .ref e.2.2.2)
def EnOk (H : Hp) (es : List En) : Prop := ∀ e ∈ es, H e.2.2.2 = some (.tup [.str e.2.1, .int e.2.2.1])
theorem EnOk.sm {H H' : Hp} {S : List Addr} {es : List En} (h : EnOk H es) (s : Sm S H H') (nt : ∀ x ∈ S, ∀ us, H x ≠ some (.tup us)) : EnOk H' es := fun e he => sm_at s (fun z => nt _ z _ (h e he)) (h e he)
theorem EnOk.same {H H' : Hp} {es : List En} (h : EnOk H es) (s : Same H H') : EnOk H' es := fun e he => s _ _ (h e he)
def slotsF (es : List En) : List Nat := es.map (·.1)
theorem enK_len (es : List En) : (enK es).length = es.length := by unfold enK; rw [List.length_map]
theorem enK_keys (es : List En) (j : Nat) : (Sum.inl ((j : Nat) : Int) : Key) ∈ (enK es).map (·.1) ↔ j ∈ slotsF es := by
  unfold enK slotsF
  rw [List.map_map]
  constructor
  · intro h
    obtain ⟨e, he, h2⟩ := List.mem_map.mp h
    have : ((e.1 : Nat) : Int) = ((j : Nat) : Int) := Sum.inl.inj h2
    exact List.mem_map.mpr ⟨e, he, by omega⟩
  · intro h
    obtain ⟨e, he, h2⟩ := List.mem_map.mp h
    exact List.mem_map.mpr ⟨e, he, by show Sum.inl ((e.1 : Nat) : Int) = _; rw [show e.1 = j from h2]⟩
theorem val_has : ∀ (es : List En) (j : Nat), (valV (enK es) (.inl ((j : Nat) : Int))).isSome = decide (j ∈ slotsF es)
  | [], _ => rfl
  | e :: es, j => by
    by_cases c : e.1 = j
    · have : valV (enK (e :: es)) (.inl ((j : Nat) : Int)) = some (.ref e.2.2.2) := valV_pos (by show Sum.inl ((e.1 : Nat) : Int) = _; rw [c])
      rw [this]
      exact (decide_eq_true (by unfold slotsF; rw [List.map_cons, c]; exact List.mem_cons_self)).symm
    · have : valV (enK (e :: es)) (.inl ((j : Nat) : Int)) = valV (enK es) (.inl ((j : Nat) : Int)) := valV_neg (by intro z; exact c (by have := Sum.inl.inj z; omega))
      rw [this, val_has es j]
      have : (j ∈ slotsF (e :: es)) = (j ∈ slotsF es) := by
        unfold slotsF
        rw [List.map_cons, List.mem_cons]
        exact propext ⟨fun h => h.resolve_left fun z => c z.symm, .inr⟩
      simp only [this]
theorem val_at : ∀ {es : List En} {e : En}, (slotsF es).Nodup → e ∈ es → valV (enK es) (.inl ((e.1 : Nat) : Int)) = some (.ref e.2.2.2)
  | [], e, _, h => (List.not_mem_nil h).elim
  | x :: es, e, nd, h => by
    unfold slotsF at nd
    rw [List.map_cons, List.nodup_cons] at nd
    rcases List.mem_cons.mp h with rfl | h
    · exact valV_pos rfl
    · have ne : x.1 ≠ e.1 := fun z => nd.1 (z ▸ List.mem_map.mpr ⟨e, h, rfl⟩)
      have : valV (enK (x :: es)) (.inl ((e.1 : Nat) : Int)) = valV (enK es) (.inl ((e.1 : Nat) : Int)) := valV_neg (by intro z; exact ne (by have := Sum.inl.inj z; omega))
      rw [this]
      exact val_at nd.2 h
theorem put_en {es : List En} {j : Nat} {z : Str} {o : Int} {t : Addr} (h : j ∉ slotsF es) : putK (enK es) (.inl ((j : Nat) : Int)) (.ref t) = enK (es ++ [(j, z, o, t)]) := by
  have e : ((enK es).any fun kv => decide (kv.1 = .inl ((j : Nat) : Int))) = false := by rw [valV_any, val_has, decide_eq_false h]
  unfold putK
  rw [e, if_neg (by decide)]
  unfold enK
  rw [List.map_append]; rfl
def mexF (ts : List Nat) : Nat := ((List.range (ts.length + 1)).find? fun k => decide (k ∉ ts)).getD 0
theorem mex_is {ts : List Nat} : mexF ts ∉ ts ∧ (∀ j, j < mexF ts → j ∈ ts) ∧ mexF ts ≤ ts.length := by
  unfold mexF
  cases e : (List.range (ts.length + 1)).find? fun k => decide (k ∉ ts) with
  | none =>
    have h := List.find?_eq_none.mp e
    have := nodup_leG (l := List.range (ts.length + 1)) (ts := ts) List.nodup_range fun x hx => by
      have := h x hx
      simpa using this
    rw [List.length_range] at this
    omega
  | some k =>
    obtain ⟨h1, as, bs, h2, h3⟩ := List.find?_eq_some_iff_append.mp e
    have hk : k ∈ List.range (ts.length + 1) := by rw [h2]; simp
    have hk := List.mem_range.mp hk
    refine ⟨by simpa using h1, fun j hj => ?_, by show k ≤ _; omega⟩
    have hj : j < k := hj
    have jr : j ∈ as ++ k :: bs := by rw [← h2]; exact List.mem_range.mpr (by omega)
    rcases List.mem_append.mp jr with h | h
    · have := h3 j h
      simpa using this
    · have pw : (as ++ k :: bs).Pairwise (· < ·) := by rw [← h2]; exact List.pairwise_lt_range
      obtain ⟨_, p2, _⟩ := List.pairwise_append.mp pw
      rcases List.mem_cons.mp h with h | h
      · omega
      · have := (List.pairwise_cons.mp p2).1 j h
        omega
theorem mex_uniq {ts : List Nat} {x : Nat} (h1 : x ∉ ts) (h2 : ∀ j, j < x → j ∈ ts) : x = mexF ts := by
  obtain ⟨m1, m2, _⟩ := mex_is (ts := ts)
  rcases Nat.lt_trichotomy x (mexF ts) with h | h | h
  · exact absurd (m2 x h) h1
  · exact h
  · exact absurd (h2 _ h) m1
theorem mex_congr {ts us : List Nat} (h : ∀ x, x ∈ ts ↔ x ∈ us) : mexF ts = mexF us := by
  obtain ⟨m1, m2, _⟩ := mex_is (ts := ts)
  exact mex_uniq (fun z => m1 ((h _).mpr z)) fun j hj => (h j).mp (m2 j hj)

theorem pt_two {X : Cx} {e : Expr} {t1 t2 : L2.TT} (h1 : PT X e t1) (h2 : PT X e t2) : PT X e (fun σ H Q => t1 σ H Q ∨ t2 σ H Q) := ⟨fun pins s σ H Q I h => h.elim (h1.run pins s σ H Q I) (h2.run pins s σ H Q I)⟩
/-- what is looked through: a dict or a list -/
def Tkn (K : PySem.W.Frag) (H : Hp) (a : Addr) (ts : List Nat) : Prop := (∃ es : List En, H a = some (.dK (enK es)) ∧ es.length ≤ 1000 ∧ ts = slotsF es) ∨ (SqL K H a (ts.map natV) ∧ ts.length ≤ 60)
abbrev s_least_free : Stmt := topS 9
def n_least_free : List Str := ["taken", "slot"]
theorem sc_least_free : FnScope n_least_free ["taken"] (defScope s_least_free) := ⟨rfl, rfl, rfl, by decide +kernel, rfl, by decide +kernel, by decide +kernel⟩
def spFree (K : PySem.W.Frag) : Sp := fun vs H Q _ => ∃ (a : Addr) (ts : List Nat), vs = [.ref a] ∧ Tkn K H a ts ∧ Q (.int (mexF ts : Nat)) H
theorem ok_free {f : Addr} {fd : FuncData} {k : Nat} (F : Fun K "least_free" "least_free" s_least_free f fd) (T : Txt mg) : FnOk P w K mg base CX0 (k + 1) f fd ["taken"] (spFree K) := by
  refine F.ok sc_least_free (fun vs H Q E h => ?_) (fun cdv A outer s H vs Q E hr h => ?_)
  · obtain ⟨a, ts, rfl, _⟩ := h
    rfl
  · obtain ⟨a, ts, rfl, tk, q⟩ := h
    have nd := sc_least_free.nd
    have hu := hu_of hr
    obtain ⟨m1, m2, m3⟩ := mex_is (ts := ts)
    refine ⟨_, (pss_cons (ps_set (i := 1) nd rfl (.inl rfl) pe_int)
      (pss_cons (ps_while PassesOwn.never (pt_two (pt_cmp (pc_din hu (pv 1) (pv 0))) (pt_cmpR (ko_in (K := K)) (pv 1) (pv 0) rfl))
          (pss_one (ps_aug (i := 1) nd rfl (.inl rfl) pe_int ip_add)))
      (pss_one (ps_ret (pv 1))))), ?_⟩
    refine ⟨fun m σ H1 => ∃ j : Nat, σ = [some (.ref a), some (.int (j : Nat))] ∧ H1 = H ∧ j ≤ mexF ts ∧ m = mexF ts - j, ⟨_, 0, rfl, rfl, Nat.zero_le _, rfl⟩, ?_⟩
    rintro m σ H1 ⟨j, rfl, rfl, hj, rfl⟩
    rcases tk with ⟨es, ha, l, rfl⟩ | ⟨hS, l60⟩
    · refine .inl ⟨_, rfl, _, rfl, a, _, rfl, .k (k := .inl ((j : Nat) : Int)) ha, _, rfl, ?_⟩
      rw [val_has]
      by_cases hm : j ∈ slotsF es
      · rw [decide_eq_true hm]
        have ne : j ≠ mexF (slotsF es) := fun e => m1 (e ▸ hm)
        refine iteT ⟨fun σ H2 => σ = [some (.ref a), some (.int ((j + 1 : Nat)))] ∧ H2 = H1, fun σ' H' h => ⟨_, ?_, j + 1, h.1, h.2, by omega, rfl⟩, ?_⟩
        · omega
        · exact ⟨_, rfl, _, _, rfl, rfl, rfl, rfl⟩
      · rw [decide_eq_false hm]
        have e : j = mexF (slotsF es) := by
          rcases Nat.lt_or_ge j (mexF (slotsF es)) with h | h
          · exact absurd (m2 j h) hm
          · omega
        subst e
        exact iteF ⟨_, rfl, q⟩
    · refine .inr ⟨_, rfl, _, rfl, a, ts.map natV, rfl, .inl hS, rfl, flat_nats ts, _, rfl, ?_⟩
      have e9 : inV (V.int (j : Int)) (ts.map natV) = decide (j ∈ ts) := inV_nats j ts
      rw [if_neg Bool.false_ne_true, e9]
      by_cases hm : j ∈ ts
      · rw [decide_eq_true hm]
        have ne : j ≠ mexF ts := fun e => m1 (e ▸ hm)
        refine iteT ⟨fun σ H2 => σ = [some (.ref a), some (.int ((j + 1 : Nat)))] ∧ H2 = H1, fun σ' H' h => ⟨_, ?_, j + 1, h.1, h.2, by omega, rfl⟩, ?_⟩
        · omega
        · exact ⟨_, rfl, _, _, rfl, rfl, rfl, rfl⟩
      · rw [decide_eq_false hm]
        have e : j = mexF ts := by
          rcases Nat.lt_or_ge j (mexF ts) with h | h
          · exact absurd (m2 j h) hm
          · omega
        subst e
        exact iteF ⟨_, rfl, q⟩

end
end Pot

namespace Pot
open PySem PySem.Spec PyProof.Rows L2
section
variable {P : Program} {w : World} {K : PySem.W.Frag} {mg : Str → Option Value} {base : Heap}
/-! ### Tunnel -/
structure TnK (K : PySem.W.Frag) (mg : Str → Option Value) (C : Addr) : Prop where
  cl : Cls K C
  sl : NoAttr K C "slots"
  hr : NoAttr K C "hour"
  he : NoAttr K C "held"
  gl : mg "Tunnel" = some (.ref C)
def tnF (hd : Addr) (hr sl : Int) : List (Str × V) := [("slots", .int sl), ("hour", .int hr), ("held", .ref hd)]
theorem tn_made (hd : Addr) (hr sl : Int) : putF "held" (.ref hd) (putF "hour" (.int hr) (putF "slots" (.int sl) [])) = tnF hd hr sl := by
  have a : ¬ (("slots" : Str) = "hour") := by decide +kernel
  have b : ¬ (("slots" : Str) = "held") := by decide +kernel
  have c : ¬ (("hour" : Str) = "held") := by decide +kernel
  simp only [putF, if_neg a, if_neg b, if_neg c]
  rfl
theorem tn_hour (hd : Addr) (hr sl x : Int) : putF "hour" (.int x) (tnF hd hr sl) = tnF hd x sl := by
  have a : ¬ (("slots" : Str) = "hour") := by decide +kernel
  simp only [tnF, putF, if_neg a, if_true]
theorem tn_held (hd hd' : Addr) (hr sl : Int) : putF "held" (.ref hd') (tnF hd hr sl) = tnF hd' hr sl := by
  have b : ¬ (("slots" : Str) = "held") := by decide +kernel
  have c : ¬ (("hour" : Str) = "held") := by decide +kernel
  simp only [tnF, putF, if_neg b, if_neg c, if_true]
theorem tf_sl (hd : Addr) (hr sl : Int) : (tnF hd hr sl).lookup ("slots" : Str) = some (.int sl) := rfl
theorem tf_hr (hd : Addr) (hr sl : Int) : (tnF hd hr sl).lookup ("hour" : Str) = some (.int hr) := by
  have a : (("hour" : Str) == ("slots" : Str)) = false := by decide +kernel
  unfold tnF
  rw [List.lookup_cons, a]
  rfl
theorem tf_he (hd : Addr) (hr sl : Int) : (tnF hd hr sl).lookup ("held" : Str) = some (.ref hd) := by
  have a : (("held" : Str) == ("slots" : Str)) = false := by decide +kernel
  have b : (("held" : Str) == ("hour" : Str)) = false := by decide +kernel
  unfold tnF
  rw [List.lookup_cons, a, List.lookup_cons, b]
  rfl
/-- at p stands a tunnel, its dict at hd -/
structure TnAt (C : Addr) (H : Hp) (p hd : Addr) (hr sl : Int) (es : List En) : Prop where
  ob : ∃ dx, H p = some (.ins C dx (tnF hd hr sl))
  di : H hd = some (.dK (enK es))
  en : EnOk H es
  nd : (slotsF es).Nodup
  lt : ∀ e ∈ es, ((e.1 : Nat) : Int) < sl
theorem TnAt.same {C : Addr} {H H' : Hp} {p hd : Addr} {hr sl : Int} {es : List En} (h : TnAt C H p hd hr sl es) (s : Same H H') : TnAt C H' p hd hr sl es := by
  obtain ⟨⟨dx, a⟩, b, c, d, e⟩ := h
  exact ⟨⟨dx, s _ _ a⟩, s _ _ b, c.same s, d, e⟩
def spTnI (C : Addr) : Sp := fun vs H Q _ => ∃ (H0 : Hp) (p dx : Addr) (sl hr : Int), vs = [.ref p, .int sl, .int hr] ∧ Same H0 H ∧ H0 p = none ∧ H p = some (.ins C dx []) ∧ ∀ (H' : Hp) (hd : Addr), Same H0 H' → H0 hd = none → hd ≠ p → TnAt C H' p hd hr sl [] → Q .non H'
abbrev s_ni : Stmt := inClass (topS 19) 0
def n_ni : List Str := ["self", "slots", "hour"]
theorem sc_ni : FnScope n_ni ["self", "slots", "hour"] (defScope s_ni) := ⟨rfl, rfl, rfl, by decide +kernel, rfl, by decide +kernel, by decide +kernel⟩
theorem ok_ni {C f : Addr} {fd : FuncData} {k : Nat} (F : FunVQ K "__init__" "Tunnel.__init__" s_ni [.int 0] f fd) (N : TnK K mg C) : FnOk P w K mg base CX0 (k + 1) f fd ["self", "slots", "hour"] (spTnI C) := by
  refine okQ F sc_ni (fun vs H Q E h => ?_) (fun cdv A outer s H vs Q E hr h => ?_)
  · obtain ⟨H0, p, dx, sl, hr, rfl, _⟩ := h
    rfl
  · obtain ⟨H0, p, dx, sl, ho, rfl, s0, p0, hp, q⟩ := h
    have nd := sc_ni.nd
    refine ⟨_, (pss_cons (ps_fld (pv 0) (pv 1) rfl)
      (pss_cons (ps_fld (pv 0) (pv 2) rfl)
      (pss_one (ps_fld (pv 0) pe_dnewK rfl)))), ?_⟩
    refine ⟨_, rfl, _, rfl, p, C, dx, [], rfl, hp, N.cl, N.sl, (by show 0 < 1000; decide), ?_⟩
    refine ⟨_, rfl, _, rfl, p, C, dx, _, rfl, upd_same, N.cl, N.hr, (by show 1 < 1000; decide), ?_⟩
    rw [upd_upd]
    intro hd nhd
    have hdp : hd ≠ p := fun e => by rw [e, upd_same] at nhd; cases nhd
    have nH : H hd = none := by rw [upd_ne hdp] at nhd; exact nhd
    refine ⟨_, rfl, p, C, dx, _, rfl, (upd_ne hdp.symm).trans upd_same, N.cl, N.he, (by show 2 < 1000; decide), ?_⟩
    rw [tn_made]
    refine q _ hd ?_ (s0.free nH) hdp ⟨⟨dx, upd_same⟩, by rw [upd_ne hdp]; exact upd_same, fun _ h => (List.not_mem_nil h).elim, List.nodup_nil, fun _ h => (List.not_mem_nil h).elim⟩
    exact same_put (same_put (same_put s0 p0) (s0.free nH)) p0
def flX (sl : Int) : HO := .xd [("slots", .int sl)]
def spTnE (K : PySem.W.Frag) (C CF : Addr) : Sp := fun vs H Q E => ∃ (p hd : Addr) (hr sl : Int) (es : List En) (z : Str) (co : Int), vs = [.ref p, .str z, .int co] ∧ TnAt C H p hd hr sl es ∧ es.length ≤ 1000 ∧ sl.natAbs ≤ 2000000 ∧
  (((mexF (slotsF es) : Nat) : Int) < sl → ∀ (H' : Hp) (t : Addr), Sm [hd] H H' → H t = none → TnAt C H' p hd hr sl (es ++ [(mexF (slotsF es), z, hr + co, t)]) → Q (.int (mexF (slotsF es) : Nat)) H') ∧
  (sl ≤ ((mexF (slotsF es) : Nat) : Int) → ∀ (d : Addr) (H' : Hp), Same H H' → H d = none → H' d = some (flX sl) → E (.ref CF) (some d) H')
abbrev s_ne : Stmt := inClass (topS 19) 1
def n_ne : List Str := ["self", "name", "cool", "slot"]
theorem sc_ne : FnScope n_ne ["self", "name", "cool"] (defScope s_ne) := ⟨rfl, rfl, rfl, by decide +kernel, rfl, by decide +kernel, by decide +kernel⟩
theorem ok_ne {C CF f : Addr} {fd : FuncData} {k : Nat} (F : FunVQ K "enter" "Tunnel.enter" s_ne [.int 8] f fd) (N : TnK K mg C) (c_Full : FlR P w K mg base 1 CF) (c_least_free : Cl P w K mg base (k + 1) "least_free" (spFree K)) : FnOk P w K mg base (L2.CX P w) (k + 3) f fd ["self", "name", "cool"] (spTnE K C CF) := by
  refine FunD.ok F sc_ne (fun vs H Q E h => ?_) (fun cdv A outer s H vs Q E hr h => ?_)
  · obtain ⟨p, hd, hr, sl, es, z, co, rfl, _⟩ := h
    rfl
  · obtain ⟨p, hd, ho, sl, es, z, co, rfl, M, l, b, q, qe⟩ := h
    have nd := sc_ne.nd
    have hu := hu_of hr
    obtain ⟨dx, hp⟩ := M.ob
    refine ⟨_, (pss_cons (ps_set (i := 3) nd rfl (.inl rfl) (pe_cl c_least_free hr (by omega) (by rfl) (pa_cons (ke_fld (K := K) (pv 0)) pa_nil)))
      (pss_cons (ps_if (pt_cmpR op_ge (pv 3) (ke_fld (K := K) (pv 0)) (nomark _))
          (pss_one (ps_raise rfl (takes_of rfl rfl rfl rfl) (pmk_fl (j := 1) c_Full (hr.mono (by omega)) (by omega) (by rfl) (pa_cons (ke_fld (K := K) (pv 0)) pa_nil))))
          pss_nil)
      (pss_cons (ps_dput hu (ke_fld (K := K) (pv 0)) (pv 3) (pe_tup (pa_cons (pv 1) (pa_cons (pe_op op_add (ke_fld (K := K) (pv 0)) (pv 2)) pa_nil))) rfl)
      (pss_one (ps_ret (pv 3)))))), ?_⟩
    refine ⟨_, rfl, p, C, dx, _, _, rfl, hp, N.cl, N.he, tf_he _ _ _, hd, slotsF es, rfl, .inl ⟨es, M.di, l, rfl⟩, ?_⟩
    refine ⟨_, rfl, _, rfl, p, C, dx, _, _, rfl, hp, N.cl, N.sl, tf_sl _ _ _, _, _, rfl, rfl, _, rfl, ?_⟩
    by_cases c : sl ≤ ((mexF (slotsF es) : Nat) : Int)
    · rw [decide_eq_true c]
      refine iteT ?_
      refine ⟨_, rfl, p, C, dx, _, _, rfl, hp, N.cl, N.sl, tf_sl _ _ _, (by show 1 ≤ 1000; decide), fun a na => ⟨a, sl, rfl, b, upd_same, fun d nd ne => ?_⟩⟩
      have nd : H d = none := by rw [upd_ne ne] at nd; exact nd
      refine ⟨rfl, d, _, upd_same, (upd_ne ne).trans upd_same, nd, ?_⟩
      refine qe c d _ (fun y o ey => ?_) nd upd_same
      have ya : y ≠ a := ne_of_none ey na
      have yd : y ≠ d := ne_of_none ey nd
      rw [upd_ne yd, del_ne ya, upd_ne ya, upd_ne yd, upd_ne ya]
      exact ey
    · rw [decide_eq_false c]
      refine iteF ?_
      refine ⟨_, rfl, _, rfl, p, C, dx, _, _, rfl, hp, N.cl, N.hr, tf_hr _ _ _, _, rfl, _, _, rfl, rfl, (by show 2 ≤ sizeLine; decide), fun t nt => ?_⟩
      have s1 := same_upd (o := .tup [V.str z, .int (ho + co)]) nt
      have M1 := M.same s1
      have ht : upd H t (.tup [V.str z, .int (ho + co)]) t = some (.tup [V.str z, .int (ho + co)]) := upd_same
      generalize upd H t (.tup [V.str z, .int (ho + co)]) = H1 at s1 M1 ht ⊢
      obtain ⟨dx1, hp1⟩ := M1.ob
      have thd : t ≠ hd := fun e => by rw [e, M1.di] at ht; cases ht
      have php : p ≠ hd := fun e => by rw [e, M1.di] at hp1; cases hp1
      refine ⟨_, rfl, p, C, dx1, _, _, rfl, hp1, N.cl, N.he, tf_he _ _ _, _, rfl, hd, _, rfl, DPut.k (k := .inl ((mexF (slotsF es) : Nat) : Int)) M1.di (by rw [enK_len, sizeLine_eq]; omega), ?_⟩
      rw [put_en (z := z) (o := ho + co) mex_is.1]
      refine ⟨_, rfl, q (by omega) _ t ((sm_of s1).trans (sm_wr (by simp))) nt ⟨⟨dx1, by rw [upd_ne php]; exact hp1⟩, upd_same, fun e he => ?_, ?_, fun e he => ?_⟩⟩
      · rcases List.mem_append.mp he with h | h
        · exact (M1.en.sm (S := [hd]) (sm_wr (by simp)) (fun x hx us e2 => by rw [List.mem_singleton.mp hx, M1.di] at e2; cases e2)) e h
        · rw [List.mem_singleton.mp h]
          exact (upd_ne thd).trans ht
      · unfold slotsF
        rw [List.map_append]
        refine List.nodup_append.mpr ⟨M1.nd, by simp, fun a ha b hb => ?_⟩
        rw [List.mem_singleton.mp hb]
        intro k; exact mex_is.1 (k ▸ ha)
      · rcases List.mem_append.mp he with h | h
        · exact M1.lt e h
        · rw [List.mem_singleton.mp h]; show ((mexF (slotsF es) : Nat) : Int) < sl; omega
def inD (e : En) (ho : Int) : PyData := .tuple [.int e.1, .str e.2.1, .int (e.2.2.1 - ho)]
def goD (e : En) : PyData := .tuple [.int e.2.2.1, .int e.1, .str e.2.1]
theorem go_al (a b : En) : PySem.W.alike (goD a) (goD b) = true := by
  unfold goD
  simp [PySem.W.alike, PySem.W.alikeAll]
theorem go_tp (a : En) : ∃ x r, goD a = .tuple (x :: r) := ⟨_, _, rfl⟩
theorem go_dep (a : En) : (goD a).depth ≤ 60 := by show max 0 (max 0 (max 0 0)) + 1 ≤ 60; decide
def spTnN (C : Addr) : Sp := fun vs H Q _ => ∃ (p hd : Addr) (hr sl : Int) (es : List En), vs = [.ref p] ∧ TnAt C H p hd hr sl es ∧ Q (.int hr) H
abbrev s_nw : Stmt := inClass (topS 19) 4
def n_nw : List Str := ["self"]
theorem sc_nw : FnScope n_nw ["self"] (defScope s_nw) := ⟨rfl, rfl, rfl, by decide +kernel, rfl, by decide +kernel, by decide +kernel⟩
theorem ok_nn {C f : Addr} {fd : FuncData} {k : Nat} (F : Fun K "now" "Tunnel.now" s_nw f fd) (N : TnK K mg C) : FnOk P w K mg base CX0 (k + 1) f fd ["self"] (spTnN C) := by
  refine F.ok sc_nw (fun vs H Q E h => ?_) (fun cdv A outer s H vs Q E hr h => ?_)
  · obtain ⟨p, hd, ho, sl, es, rfl, _⟩ := h
    rfl
  · obtain ⟨p, hd, ho, sl, es, rfl, M, q⟩ := h
    have nd := sc_nw.nd
    obtain ⟨dx, hp⟩ := M.ob
    refine ⟨_, (pss_one (ps_ret (ke_fld (K := K) (pv 0)))), ?_⟩
    exact ⟨_, rfl, p, C, dx, _, _, rfl, hp, N.cl, N.hr, tf_hr _ _ _, q⟩
def spTnL (C : Addr) : Sp := fun vs H Q _ => ∃ (p hd : Addr) (hr sl : Int) (es : List En), vs = [.ref p] ∧ TnAt C H p hd hr sl es ∧ Q (.int (es.length : Nat)) H
abbrev s_nl : Stmt := inClass (topS 19) 6
def n_nl : List Str := ["self"]
theorem sc_nl : FnScope n_nl ["self"] (defScope s_nl) := ⟨rfl, rfl, rfl, by decide +kernel, rfl, by decide +kernel, by decide +kernel⟩
theorem ok_nl {C f : Addr} {fd : FuncData} {k : Nat} (F : Fun K "__len__" "Tunnel.__len__" s_nl f fd) (T : Txt mg) (N : TnK K mg C) : FnOk P w K mg base CX0 (k + 1) f fd ["self"] (spTnL C) := by
  refine F.ok sc_nl (fun vs H Q E h => ?_) (fun cdv A outer s H vs Q E hr h => ?_)
  · obtain ⟨p, hd, ho, sl, es, rfl, _⟩ := h
    rfl
  · obtain ⟨p, hd, ho, sl, es, rfl, M, q⟩ := h
    have nd := sc_nl.nd
    obtain ⟨dx, hp⟩ := M.ob
    refine ⟨_, (pss_one (ps_ret (pe_callB call_lenD (by rfl) T.len PySem.boot_len (pa_cons (ke_fld (K := K) (pv 0)) pa_nil)))), ?_⟩
    exact ⟨_, rfl, p, C, dx, _, _, rfl, hp, N.cl, N.he, tf_he _ _ _, hd, _, rfl, M.di, by rw [enK_len]; exact q⟩
def outs (es : List En) (h : Int) : List En := es.filter fun e => decide (e.2.2.1 ≤ h)
def stay (es : List En) (h : Int) : List En := es.filter fun e => decide (h < e.2.2.1)
def spTnT (K : PySem.W.Frag) (C : Addr) : Sp := fun vs H Q _ => ∃ (p hd : Addr) (hr sl m : Int) (es : List En), vs = [.ref p, .int m] ∧ TnAt C H p hd hr sl es ∧ es.length ≤ 1000 ∧
  ∀ (H' : Hp) (hd' R : Addr) (us : List V), Sm [p] H H' → H hd' = none → TnAt C H' p hd' (hr + m) sl (stay es (hr + m)) → H R = none → H' R = some (.lst us) → DpAll K (off H' [p, R]) us (((outs es (hr + m)).mergeSort (PySem.W.dataLe false goD)).map goD) → Q (.ref R) H'
abbrev s_nt : Stmt := inClass (topS 19) 2
def n_nt : List Str := ["self", "many", "gone", "slot", "name", "out", "piece"]
theorem sc_nt : FnScope n_nt ["self", "many"] (defScope s_nt) := ⟨rfl, rfl, rfl, by decide +kernel, rfl, by decide +kernel, by decide +kernel⟩
set_option maxHeartbeats 1000000 in
theorem ok_nt {C f : Addr} {fd : FuncData} {k : Nat} (F : FunVQ K "tick" "Tunnel.tick" s_nt [.int 1] f fd) (T : Txt mg) (N : TnK K mg C) : FnOk P w K mg base CX0 (k + 1) f fd ["self", "many"] (spTnT K C) := by
  refine okQ F sc_nt (fun vs H Q E h => ?_) (fun cdv A outer s H vs Q E hr h => ?_)
  · obtain ⟨p, hd, ho, sl, m, es, rfl, _⟩ := h
    rfl
  · obtain ⟨p, hd, ho, sl, m, es, rfl, M, l, q⟩ := h
    have nd := sc_nt.nd
    have hu := hu_of hr
    have hu70 : (A.deeper (envOfC (Str.ofString "Tunnel.tick") (defScope s_nt) s.heap.objs.size f cdv)).units + 70 < cLine := by have := hr.un; omega
    /- 0 self, 1 many, 2 gone, 3 slot, 4 name, 5 out, 6 piece -/
    refine ⟨_, (pss_cons (ps_fldaug (pv 0) (pv 1) ip_add)
      (pss_cons (ps_lock (ps_setLc (i := 2) (own := [("slot", 3), ("name", 4), ("out", 5)]) rfl nd rfl rfl (sw_true rfl rfl rfl (by decide +kernel)) (pi_items (ke_fld (K := K) (pv 0))) (blkOk_by (N := n_nt) (sc := defScope s_nt) (by decide +kernel)) (fun _ _ _ _ _ => (kg_tup (K := K) (n := 2) (pgs_cons (pg_name (i := 3) nd rfl (.inl rfl)) (pgs_cons (kg_tup (K := K) (n := 2) (pgs_cons (pg_name (i := 4) nd rfl (.inl rfl)) (pgs_cons (pg_name (i := 5) nd rfl (.inl rfl)) pgs_nil))) pgs_nil)))) (fun _ _ _ _ _ => (pts_one (pt_cmpR op_le (pv 5) (ke_fld (K := K) (pv 0)) (nomark _)))) (fun _ _ _ _ _ => (pe_tup (pa_cons (pv 5) (pa_cons (pv 3) (pa_cons (pv 4) pa_nil)))))))
      (pss_cons (ps_lock (ps_fld (pv 0) (pe_dc rfl (own := [("slot", 3), ("piece", 6)]) nd (pi_items (ke_fld (K := K) (pv 0))) (blkOk_by (N := n_nt) (sc := defScope s_nt) (by decide +kernel)) (fun _ _ _ _ _ => (kg_tup (K := K) (n := 2) (pgs_cons (pg_name (i := 3) nd rfl (.inl rfl)) (pgs_cons (pg_name (i := 6) nd rfl (.inl rfl)) pgs_nil)))) (fun _ _ _ _ _ => (pts_one (pt_cmpR op_gt (pe_ix (kx_tup (K := K)) (pv 6) pe_int (fun _ _ => rfl)) (ke_fld (K := K) (pv 0)) (nomark _)))) (fun _ _ _ _ _ => (pv 3)) (fun _ _ _ _ _ => (pv 6))) rfl))
      (pss_one (ps_ret (pe_callB (kc_sortedE (K := K) (enc := goD) hu70 go_al go_tp go_dep) (by rfl) T.sorted (by decide +kernel) (pa_cons (pv 2) pa_nil))))))), ?_⟩
    obtain ⟨dx, hp⟩ := M.ob
    have php : p ≠ hd := fun e => by rw [e, M.di] at hp; cases hp
    refine ⟨_, rfl, p, C, dx, _, _, rfl, hp, N.cl, N.hr, tf_hr _ _ _, _, rfl, _, _, rfl, rfl, dx, _, hp, (by show 3 < 1000; decide), ?_⟩
    rw [tn_hour]
    obtain ⟨h2, eh2⟩ : ∃ h2, h2 = ho + m := ⟨_, rfl⟩
    rw [← eh2] at q
    rw [show ((fun i j : Int => i + j) ho m) = h2 from eh2.symm]
    have sp : Sm [p] H (upd H p (.ins C dx (tnF hd h2 sl))) := sm_wr (by simp)
    have hd1 : upd H p (.ins C dx (tnF hd h2 sl)) hd = some (.dK (enK es)) := (upd_ne php.symm).trans M.di
    have en1 : EnOk (upd H p (.ins C dx (tnF hd h2 sl))) es := M.en.sm (S := [p]) sp fun x hx us e => by rw [List.mem_singleton.mp hx, hp] at e; cases e
    have hp1 : upd H p (.ins C dx (tnF hd h2 sl)) p = some (.ins C dx (tnF hd h2 sl)) := upd_same
    generalize upd H p (.ins C dx (tnF hd h2 sl)) = H1 at sp hd1 en1 hp1 ⊢
    -- those that come out
    refine ⟨hd, _, hd1, trivial, fun od => ?_⟩
    have sF : Sm [p, hd] H (upd H1 hd (.frz od (.dK (enK es)))) := (sm_mono (fun x hx => by rw [List.mem_singleton.mp hx]; simp) sp).trans (sm_wr (by simp))
    have hpF : upd H1 hd (.frz od (.dK (enK es))) p = _ := (upd_ne php).trans hp1
    have hdF : upd H1 hd (.frz od (.dK (enK es))) hd = some (.frz od (.dK (enK es))) := upd_same
    have enF : EnOk (upd H1 hd (.frz od (.dK (enK es)))) es := en1.sm (S := [hd]) (sm_wr (by simp)) fun x hx us e => by rw [List.mem_singleton.mp hx, hd1] at e; cases e
    have bk : ∀ {Hx : Hp}, Same (upd H1 hd (.frz od (.dK (enK es)))) Hx → Same H1 (upd Hx hd (.dK (enK es))) := fun {Hx} s b o e => by
      by_cases c : b = hd
      · rw [c, upd_same]; rw [c, hd1] at e; exact e
      · rw [upd_ne c]; exact s _ _ (by rw [upd_ne c]; exact e)
    generalize upd H1 hd (.frz od (.dK (enK es))) = HF at sF hpF hdF enF bk ⊢
    refine ⟨_, rfl, p, C, dx, _, _, rfl, hpF, N.cl, N.he, tf_he _ _ _, hd, od, _, rfl, hdF, fun R nR => ?_⟩
    refine lc_it (walk_items (kvs := enK es)) (fun j Hx => Same HF Hx ∧ ∃ us, Hx R = some (.lst us) ∧ us.length ≤ j ∧ DpAll K (off Hx [R]) us ((outs (es.take j) h2).map goD)) ⟨same_upd nR, [], upd_same, Nat.le_refl _, .nil⟩ (fun j Hx _ h => h.1 _ _ hdF) ?_ ?_
    · rintro j y Ha Hb hj ⟨sx, us, hR, lu, du⟩ ⟨u, x1, x2, rfl, nu, rfl, g1, g2⟩
      rw [enK_len] at hj
      have gl := List.getElem?_eq_getElem hj
      have gk : (enK es)[j]? = some (.inl ((es[j].1 : Nat) : Int), V.ref es[j].2.2.2) := by unfold enK; rw [List.getElem?_map, gl]; rfl
      replace g1 : ((enK es)[j]?.map fun kv => kV kv.1) = some x1 := g1
      replace g2 : ((enK es)[j]?.map Prod.snd) = some x2 := g2
      rw [gk] at g1 g2
      cases Option.some.inj g1
      cases Option.some.inj g2
      have he := enF es[j] (List.getElem_mem hj)
      generalize es[j] = e0 at gl gk he
      have su := same_upd (o := .tup [V.int ((e0.1 : Nat) : Int), V.ref e0.2.2.2]) nu
      have lvR : Live [R] Ha := fun x hx e => by rw [List.mem_singleton.mp hx, hR] at e; cases e
      have du := dpAll_same (sm_put (S := [R]) (o := .tup [V.int ((e0.1 : Nat) : Int), V.ref e0.2.2.2]) nu) du
      have hu1 : upd Ha u (.tup [V.int ((e0.1 : Nat) : Int), V.ref e0.2.2.2]) u = some (.tup [V.int ((e0.1 : Nat) : Int), V.ref e0.2.2.2]) := upd_same
      have sx := sx.trans su
      have hR := su _ _ hR
      show gTup K 2 _ (V.ref u) _ (upd Ha u (.tup [V.int ((e0.1 : Nat) : Int), V.ref e0.2.2.2])) _
      generalize upd Ha u (.tup [V.int ((e0.1 : Nat) : Int), V.ref e0.2.2.2]) = Hb at du hu1 sx hR ⊢
      have he := sx _ _ he
      have hpb := sx _ _ hpF
      have eo : outs (es.take (j + 1)) h2 = outs (es.take j) h2 ++ (if e0.2.2.1 ≤ h2 then [e0] else []) := by
        unfold outs
        rw [List.take_add_one, gl, List.filter_append]
        show _ ++ List.filter _ [e0] = _
        by_cases c : e0.2.2.1 ≤ h2
        · rw [if_pos c, List.filter_cons_of_pos (p := fun e : En => decide (e.2.2.1 ≤ h2)) (decide_eq_true c)]; rfl
        · rw [if_neg c, List.filter_cons_of_neg (p := fun e : En => decide (e.2.2.1 ≤ h2)) (fun z => c (of_decide_eq_true z))]; rfl
      refine ⟨u, _, rfl, .inl (.inl hu1), rfl, _, _, rfl, _, _, rfl, e0.2.2.2, _, rfl, .inl (.inl he), rfl, _, _, rfl, _, _, rfl, rfl, rfl, rfl, _, rfl, _, rfl, p, C, dx, _, _, rfl, hpb, N.cl, N.hr, tf_hr _ _ _, _, _, rfl, rfl, _, rfl, ite2 (fun c => ?_) (fun c => ?_)⟩
      · have c : e0.2.2.1 ≤ h2 := of_decide_eq_true c
        refine ⟨_, rfl, _, rfl, _, rfl, (by show 3 ≤ sizeLine; decide), fun t nt => ?_⟩
        have lvR : Live [R] Hb := fun x hx e => by rw [List.mem_singleton.mp hx, hR] at e; cases e
        have ft := off_new (o := .tup [V.int e0.2.2.1, .int ((e0.1 : Nat) : Int), .str e0.2.1]) lvR nt
        have du := dpAll_same (sm_put (S := [R]) (o := .tup [V.int e0.2.2.1, .int ((e0.1 : Nat) : Int), .str e0.2.1]) nt) du
        have sx := sx.trans (same_upd (o := .tup [V.int e0.2.2.1, .int ((e0.1 : Nat) : Int), .str e0.2.1]) nt)
        have hR := same_upd (o := .tup [V.int e0.2.2.1, .int ((e0.1 : Nat) : Int), .str e0.2.1]) nt _ _ hR
        generalize upd Hb t (.tup [V.int e0.2.2.1, .int ((e0.1 : Nat) : Int), .str e0.2.1]) = Hc at ft du sx hR ⊢
        refine ⟨us, hR, by rw [sizeLine_eq]; omega, same_put sx nR, us ++ [.ref t], upd_same, by rw [List.length_append]; show _ + 1 ≤ _; omega, ?_⟩
        rw [eo, if_pos c, List.map_append]
        exact dpAll_same (sm_wr (by simp)) (dpAll_app' du (.cons (.tup (.inl (.inl ft)) (.cons (.int _) (.cons (.int _) (.cons (.str _) .nil)))) .nil))
      · have c : ¬ e0.2.2.1 ≤ h2 := fun z => c (decide_eq_true z)
        refine ⟨sx, us, hR, by omega, ?_⟩
        rw [eo, if_neg c, List.append_nil]
        exact du
    rintro H2 ⟨s2, us, hR, lu, du⟩
    rw [enK_len, List.take_of_length_le (Nat.le_refl _)] at du
    rw [enK_len] at lu
    refine ⟨s2 _ _ hdF, ?_⟩
    have s3 := bk s2
    have hdR : R ≠ hd := (ne_of_none hdF nR).symm
    have hR : upd H2 hd (.dK (enK es)) R = some (.lst us) := (upd_ne hdR).trans hR
    have du : DpAll K (off (upd H2 hd (.dK (enK es))) [R]) us ((outs es h2).map goD) := by
      have hF2 := s2 _ _ hdF
      refine dpAll_go (fun a vs h => ?_) (noL_map (f := goD) (fun _ => ⟨trivial, trivial, trivial, trivial⟩) _) du
      have ne : ∀ z, off H2 [R] a = some z → z ≠ .frz od (.dK (enK es)) → off (upd H2 hd (.dK (enK es))) [R] a = some z := fun z e n => by
        have n1 := off_mem e
        rw [off_out n1] at e ⊢
        rw [upd_ne fun x => by rw [x, hF2] at e; exact n (Option.some.inj e).symm]
        exact e
      rcases h with (h | ⟨o2, h⟩) | h
      · exact .inl (.inl (ne _ h fun z => by cases z))
      · exact .inl (.inr ⟨o2, ne _ h fun z => by cases z⟩)
      · exact .inr h
    have nR1 : H1 R = none := by
      have : ∀ o, H1 R = some o → False := fun o e => by
        have h9 := bk (Same.refl HF) R o e
        rw [upd_ne hdR, nR] at h9
        cases h9
      cases e : H1 R with
      | none => rfl
      | some o => exact (this o e).elim
    have nR0 : H R = none := by
      cases e : H R with
      | none => rfl
      | some o =>
        have rp : R ≠ p := fun z => by rw [z, hp1] at nR1; cases nR1
        have := sm1_at sp rp e
        rw [nR1] at this; cases this
    generalize upd H2 hd (.dK (enK es)) = H3 at s3 hR du ⊢
    clear sF hpF hdF enF bk s2 nR
    have hd3 := s3 _ _ hd1
    have hp3 := s3 _ _ hp1
    have en3 := en1.same s3
    -- those that stay
    refine ⟨hd, _, hd3, trivial, fun od => ?_⟩
    have hpF : upd H3 hd (.frz od (.dK (enK es))) p = _ := (upd_ne php).trans hp3
    have hdF : upd H3 hd (.frz od (.dK (enK es))) hd = some (.frz od (.dK (enK es))) := upd_same
    have hRF : upd H3 hd (.frz od (.dK (enK es))) R = _ := (upd_ne hdR).trans hR
    have enF : EnOk (upd H3 hd (.frz od (.dK (enK es)))) es := en3.sm (S := [hd]) (sm_wr (by simp)) fun x hx us e => by rw [List.mem_singleton.mp hx, hd3] at e; cases e
    have bk : ∀ {Hx : Hp}, Same (upd H3 hd (.frz od (.dK (enK es)))) Hx → Same H3 (upd Hx hd (.dK (enK es))) := fun {Hx} s b o e => by
      by_cases c : b = hd
      · rw [c, upd_same]; rw [c, hd3] at e; exact e
      · rw [upd_ne c]; exact s _ _ (by rw [upd_ne c]; exact e)
    generalize upd H3 hd (.frz od (.dK (enK es))) = HF at hpF hdF hRF enF bk ⊢
    refine ⟨_, rfl, p, C, dx, _, _, rfl, hpF, N.cl, N.he, tf_he _ _ _, hd, od, _, rfl, hdF, fun D nD => ?_⟩
    refine dc_it (walk_items (kvs := enK es)) (fun j Hx => Same HF Hx ∧ Hx D = some (.dK (enK (stay (es.take j) h2)))) ⟨same_upd nD, upd_same⟩ (fun j Hx _ h => h.1 _ _ hdF) ?_ ?_
    · rintro j y Ha Hb hj ⟨sx, hD⟩ ⟨u, x1, x2, rfl, nu, rfl, g1, g2⟩
      rw [enK_len] at hj
      have gl := List.getElem?_eq_getElem hj
      have gk : (enK es)[j]? = some (.inl ((es[j].1 : Nat) : Int), V.ref es[j].2.2.2) := by unfold enK; rw [List.getElem?_map, gl]; rfl
      replace g1 : ((enK es)[j]?.map fun kv => kV kv.1) = some x1 := g1
      replace g2 : ((enK es)[j]?.map Prod.snd) = some x2 := g2
      rw [gk] at g1 g2
      cases Option.some.inj g1
      cases Option.some.inj g2
      have he := enF es[j] (List.getElem_mem hj)
      have nk : es[j].1 ∉ slotsF (stay (es.take j) h2) := fun z => by
        obtain ⟨e, me, ee⟩ := List.mem_map.mp z
        have me := (List.mem_filter.mp me).1
        obtain ⟨i, hi, ei⟩ := List.getElem_of_mem me
        rw [List.getElem_take] at ei
        have hij : i < j := by rw [List.length_take] at hi; omega
        have := (List.pairwise_iff_getElem.mp M.nd) i j (by unfold slotsF; rw [List.length_map]; omega) (by unfold slotsF; rw [List.length_map]; omega) hij
        unfold slotsF at this
        rw [List.getElem_map, List.getElem_map] at this
        exact this (by rw [ei]; exact ee)
      generalize es[j] = e0 at gl gk he nk
      have su := same_upd (o := .tup [V.int ((e0.1 : Nat) : Int), V.ref e0.2.2.2]) nu
      have hu1 : upd Ha u (.tup [V.int ((e0.1 : Nat) : Int), V.ref e0.2.2.2]) u = some (.tup [V.int ((e0.1 : Nat) : Int), V.ref e0.2.2.2]) := upd_same
      have sx := sx.trans su
      have hD := su _ _ hD
      show gTup K 2 _ (V.ref u) _ (upd Ha u (.tup [V.int ((e0.1 : Nat) : Int), V.ref e0.2.2.2])) _
      generalize upd Ha u (.tup [V.int ((e0.1 : Nat) : Int), V.ref e0.2.2.2]) = Hb at hu1 sx hD ⊢
      have he := sx _ _ he
      have hpb := sx _ _ hpF
      have eo : stay (es.take (j + 1)) h2 = stay (es.take j) h2 ++ (if h2 < e0.2.2.1 then [e0] else []) := by
        unfold stay
        rw [List.take_add_one, gl, List.filter_append]
        show _ ++ List.filter _ [e0] = _
        by_cases c : h2 < e0.2.2.1
        · rw [if_pos c, List.filter_cons_of_pos (p := fun e : En => decide (h2 < e.2.2.1)) (decide_eq_true c)]; rfl
        · rw [if_neg c, List.filter_cons_of_neg (p := fun e : En => decide (h2 < e.2.2.1)) (fun z => c (of_decide_eq_true z))]; rfl
      refine ⟨u, _, rfl, .inl (.inl hu1), rfl, _, _, rfl, _, _, rfl, rfl, rfl, _, rfl, e0.2.2.2, _, 1, _, rfl, rfl, .inl (.inl he), rfl, _, rfl, p, C, dx, _, _, rfl, hpb, N.cl, N.hr, tf_hr _ _ _, _, _, rfl, rfl, _, rfl, ite2 (fun c => ?_) (fun c => ?_)⟩
      · have c : h2 < e0.2.2.1 := of_decide_eq_true c
        refine ⟨_, rfl, _, rfl, _, .inl ((e0.1 : Nat) : Int), rfl, hD, by rw [enK_len, sizeLine_eq]; unfold stay; have := List.length_filter_le (fun e : En => decide (h2 < e.2.2.1)) (es.take j); rw [List.length_take] at this; omega, same_put sx nD, ?_⟩
        rw [eo, if_pos c, upd_same, put_en (z := e0.2.1) (o := e0.2.2.1) nk]
      · have c : ¬ h2 < e0.2.2.1 := fun z => c (decide_eq_true z)
        refine ⟨sx, ?_⟩
        rw [eo, if_neg c, List.append_nil]
        exact hD
    rintro H4 ⟨s4, hD⟩
    rw [enK_len, List.take_of_length_le (Nat.le_refl _)] at hD
    refine ⟨_, rfl, p, C, dx, _, rfl, s4 _ _ hpF, N.cl, N.he, (by show 3 < 1000; decide), ⟨(upd_ne php.symm).trans (s4 _ _ hdF), ?_⟩⟩
    rw [tn_held]
    have Dp_ : D ≠ p := (ne_of_none hpF nD).symm
    have Dh : D ≠ hd := (ne_of_none hdF nD).symm
    have s5 : Sm [p] H3 (upd (upd H4 p (.ins C dx (tnF D h2 sl))) hd (.dK (enK es))) := fun x o e => by
      have n := off_mem e
      have xp : x ≠ p := fun z => n (by rw [z]; simp)
      rw [off_out n] at e ⊢
      have := bk s4 x o e
      by_cases c : x = hd
      · rw [c, upd_same]; rw [c, upd_same] at this; exact this
      · rw [upd_ne c] at this ⊢
        rw [upd_ne xp]; exact this
    have hp5 : upd (upd H4 p (.ins C dx (tnF D h2 sl))) hd (.dK (enK es)) p = some (.ins C dx (tnF D h2 sl)) := (upd_ne php).trans upd_same
    have hD5 : upd (upd H4 p (.ins C dx (tnF D h2 sl))) hd (.dK (enK es)) D = some (.dK (enK (stay es h2))) := (upd_ne Dh).trans ((upd_ne Dp_).trans hD)
    generalize upd (upd H4 p (.ins C dx (tnF D h2 sl))) hd (.dK (enK es)) = H5 at s5 hp5 hD5 ⊢
    have nD1 : H3 D = none := by
      have : ∀ o, H3 D = some o → False := fun o e => by
        have h9 := bk (Same.refl HF) D o e
        rw [upd_ne Dh, nD] at h9
        cases h9
      cases e : H3 D with
      | none => rfl
      | some o => exact (this o e).elim
    have s15 : Sm [p] H H5 := (sp.trans (sm_of s3)).trans s5
    have nD0 : H D = none := by
      cases e : H D with
      | none => rfl
      | some o =>
        have := sm1_at (sp.trans (sm_of s3)) Dp_ e
        rw [nD1] at this; cases this
    have rp : R ≠ p := fun z => by rw [z, hp1] at nR1; cases nR1
    have hR5 := sm1_at s5 rp hR
    have go1 : ∀ (a : Addr) (vs : List V), SqT K (off H3 [R]) a vs → SqT K H5 a vs := fun a vs h => by
      have ne : ∀ z, off H3 [R] a = some z → (∀ fs, z ≠ .ins C dx fs) → H5 a = some z := fun z e n => by
        have e := at_off e
        exact sm1_at s5 (fun x => by rw [x, hp3] at e; exact n _ (Option.some.inj e).symm) e
      rcases h with (h | ⟨o2, h⟩) | h
      · exact .inl (.inl (ne _ h fun _ z => by cases z))
      · exact .inl (.inr ⟨o2, ne _ h fun _ z => by cases z⟩)
      · exact .inr h
    have du5 := dpAll_go go1 (noL_map (f := goD) (fun _ => ⟨trivial, trivial, trivial, trivial⟩) _) du
    refine ⟨_, rfl, R, us, outs es h2, rfl, SqL.of hR5, du5, fun zs p2 dz np2 => ?_⟩
    have sz := same_upd (o := .lst zs) np2
    have p2p : p2 ≠ p := fun e => by rw [e, hp5] at np2; cases np2
    have en5 : EnOk H5 es := en3.sm (S := [p]) s5 fun x hx us e => by rw [List.mem_singleton.mp hx, hp3] at e; cases e
    refine q _ D p2 zs (s15.trans (sm_of sz)) nD0 ⟨⟨dx, sz _ _ hp5⟩, sz _ _ hD5, fun e he => sz _ _ (en5 e (List.mem_filter.mp he).1), ?_, fun e he => M.lt e (List.mem_filter.mp he).1⟩ ?_ upd_same ?_
    · exact M.nd.sublist ((List.filter_sublist (l := es)).map _)
    · cases e : H p2 with
      | none => rfl
      | some o =>
        have := sm1_at s15 p2p e
        rw [np2] at this; cases this
    · refine dpAll_go (fun a vs h => ?_) (noL_map (f := goD) (fun _ => ⟨trivial, trivial, trivial, trivial⟩) _) dz
      have ne : ∀ z, H5 a = some z → (∀ fs, z ≠ .ins C dx fs) → off (upd H5 p2 (.lst zs)) [p, p2] a = some z := fun z e n => by
        have a1 : a ≠ p := fun x => by rw [x, hp5] at e; exact n _ (Option.some.inj e).symm
        have a2 : a ≠ p2 := ne_of_none e np2
        rw [off_out (by simp [a1, a2]), upd_ne a2]
        exact e
      rcases h with (h | ⟨o2, h⟩) | h
      · exact .inl (.inl (ne _ h fun _ z => by cases z))
      · exact .inl (.inr ⟨o2, ne _ h fun _ z => by cases z⟩)
      · exact .inr h

end
end Pot

namespace Pot
open PySem PySem.Spec PyProof.Rows L2
section
variable {P : Program} {w : World} {K : PySem.W.Frag} {mg : Str → Option Value} {base : Heap}
/-- the slots, one behind the other -/
def slF (ps : List Pc) (S : List (Nat × Nat)) (p : Nat) : List Nat := ((S.filter fun q => inB (ps.getD q.1 pc0) (cmF ps p)).map (·.2))
def stepS (ps : List Pc) (S : List (Nat × Nat)) (p : Nat) : List (Nat × Nat) := S ++ [(p, mexF (slF ps S p))]
def allS (ps : List Pc) (l : List Nat) : List (Nat × Nat) := l.foldl (stepS ps) []
def kvS (S : List (Nat × Nat)) : List (Key × V) := S.map fun q => (.inl ((q.1 : Nat) : Int), natV q.2)
def getS (S : List (Nat × Nat)) (p : Nat) : Nat := ((S.find? fun q => decide (q.1 = p)).map (·.2)).getD 0
theorem pcs_dK {H H' : Hp} {D : Addr} {kvs : List (Key × V)} (s : Sm [D] H H') (h : H D = some (.dK kvs)) : ∀ {ps : List Pc} {xs : List V}, DpAll K H xs (ps.map pcD) → DpAll K H' xs (ps.map pcD)
  | [], _, z => by
    cases z
    exact .nil
  | p :: ps, _, z => by
    cases z with
    | cons a r =>
      obtain ⟨t, rfl, ht⟩ := pc_dp a
      refine .cons (.tup ?_ (.cons (.int _) (.cons (.int _) .nil))) (pcs_dK s h r)
      rcases ht with (ht | ⟨o, ht⟩) | ht
      · exact .inl (.inl (sm_at s (fun e => by rw [List.mem_singleton.mp e, h] at ht; cases ht) ht))
      · exact .inl (.inr ⟨o, sm_at s (fun e => by rw [List.mem_singleton.mp e, h] at ht; cases ht) ht⟩)
      · exact .inr ht
theorem sqL_dK {H H' : Hp} {D c : Addr} {xs : List V} {kvs : List (Key × V)} (s : Sm [D] H H') (h : H D = some (.dK kvs)) (z : SqL K H c xs) : SqL K H' c xs := by
  rcases z with (ht | ⟨o, ht⟩) | ht
  · exact .inl (.inl (sm_at s (fun e => by rw [List.mem_singleton.mp e, h] at ht; cases ht) ht))
  · exact .inl (.inr ⟨o, sm_at s (fun e => by rw [List.mem_singleton.mp e, h] at ht; cases ht) ht⟩)
  · exact .inr ht
theorem tabs_dK {T : List (Addr × Str)} {H H' : Hp} {D : Addr} {kvs : List (Key × V)} (s : Sm [D] H H') (h : H D = some (.dK kvs)) (t : LamX.Tabs T H) : LamX.Tabs T H' := fun p hp => by
  obtain ⟨ps, h1, h2, h3⟩ := t p hp
  refine ⟨ps, sm_at s (fun e => by rw [List.mem_singleton.mp e, h] at h1; cases h1) h1, h2, fun pos cv hc => (h3 pos cv hc).imp fun c z => ⟨z.1, sm_at s (fun e => ?_) z.2⟩⟩
  have := z.2
  rw [List.mem_singleton.mp e, h] at this
  cases this
theorem keys_step {ps : List Pc} {S : List (Nat × Nat)} {p : Nat} : (stepS ps S p).map (·.1) = S.map (·.1) ++ [p] := by
  unfold stepS
  rw [List.map_append]; rfl
theorem allS_one {ps : List Pc} {l : List Nat} {i p : Nat} (g : l[i]? = some p) : allS ps (l.take (i + 1)) = stepS ps (allS ps (l.take i)) p := by
  unfold allS
  rw [List.take_add_one, g, List.foldl_append]; rfl
theorem keys_fold {ps : List Pc} : ∀ (l : List Nat) (S : List (Nat × Nat)), (l.foldl (stepS ps) S).map (·.1) = S.map (·.1) ++ l
  | [], S => by rw [List.append_nil]; rfl
  | p :: l, S => by
    rw [List.foldl_cons, keys_fold l, keys_step, List.append_assoc]; rfl
theorem keys_all {ps : List Pc} (l : List Nat) : (allS ps l).map (·.1) = l := keys_fold l []
theorem valV_kvS : ∀ (S : List (Nat × Nat)) (p : Nat), valV (kvS S) (.inl ((p : Nat) : Int)) = (S.find? fun q => decide (q.1 = p)).map fun q => natV q.2
  | [], _ => rfl
  | q :: S, p => by
    have ih := valV_kvS S p
    unfold kvS at ih ⊢
    rw [List.map_cons, List.find?_cons]
    by_cases e : q.1 = p
    · rw [valV_pos (by rw [e]), decide_eq_true e]; rfl
    · rw [valV_neg (fun z => e (by have := Sum.inl.inj z; omega)), decide_eq_false e, ih]
theorem find_none {S : List (Nat × Nat)} {p : Nat} (h : p ∉ S.map (·.1)) : (S.find? fun q => decide (q.1 = p)) = none := by
  rw [List.find?_eq_none]
  intro q hq z
  exact h (List.mem_map.mpr ⟨q, hq, of_decide_eq_true z⟩)
theorem find_some {S : List (Nat × Nat)} {p : Nat} (h : p ∈ S.map (·.1)) : ∃ x, (S.find? fun q => decide (q.1 = p)) = some (p, x) ∧ (p, x) ∈ S := by
  cases e : S.find? fun q => decide (q.1 = p) with
  | none =>
    obtain ⟨q, hq, rfl⟩ := List.mem_map.mp h
    have := List.find?_eq_none.mp e q hq
    simp at this
  | some q =>
    have h1 := List.find?_some e
    have h1 : q.1 = p := of_decide_eq_true h1
    have h2 := List.mem_of_find?_eq_some e
    exact ⟨q.2, by rw [← h1], by rw [← h1]; exact h2⟩
theorem getS_of {S : List (Nat × Nat)} {p : Nat} (h : p ∈ S.map (·.1)) : valV (kvS S) (.inl ((p : Nat) : Int)) = some (natV (getS S p)) ∧ (p, getS S p) ∈ S := by
  obtain ⟨x, e, hm⟩ := find_some h
  rw [valV_kvS]
  unfold getS
  rw [e]
  exact ⟨rfl, hm⟩
theorem getS_nodup {S : List (Nat × Nat)} (nd : (S.map (·.1)).Nodup) {p x : Nat} (h : (p, x) ∈ S) : getS S p = x := by
  have hp : p ∈ S.map (·.1) := List.mem_map.mpr ⟨_, h, rfl⟩
  have h2 := (getS_of hp).2
  generalize getS S p = y at h2
  clear hp
  induction S with
  | nil => cases h
  | cons q S ih =>
    obtain ⟨n1, n2⟩ := List.nodup_cons.mp nd
    rcases List.mem_cons.mp h with h | h <;> rcases List.mem_cons.mp h2 with z | z
    · rw [← h] at z; exact (Prod.mk.inj z).2
    · exact absurd (List.mem_map.mpr ⟨_, z, rfl⟩) (by rw [← h] at n1; exact n1)
    · exact absurd (List.mem_map.mpr ⟨_, h, rfl⟩) (by rw [← z] at n1; exact n1)
    · exact ih n2 h z
theorem put_kvS {S : List (Nat × Nat)} {p x : Nat} (h : p ∉ S.map (·.1)) : putK (kvS S) (.inl ((p : Nat) : Int)) (natV x) = kvS (S ++ [(p, x)]) := by
  rw [putK_new (fun q hq e => by
    obtain ⟨z, hz, rfl⟩ := List.mem_map.mp hq
    have := Sum.inl.inj e
    have e2 : z.1 = p := by omega
    exact h (List.mem_map.mpr ⟨z, hz, e2⟩))]
  unfold kvS
  rw [List.map_append]; rfl
theorem take_new {l : List Nat} (nd : l.Nodup) {i p : Nat} (g : l[i]? = some p) : p ∉ l.take i := by
  intro h
  obtain ⟨hi, e⟩ := List.getElem?_eq_some_iff.mp g
  have : (l.take i ++ l.drop i).Nodup := by rw [List.take_append_drop]; exact nd
  have h2 := (List.nodup_append.mp this).2.2
  refine h2 p h p ?_ rfl
  rw [List.drop_eq_getElem_cons hi, e]
  exact List.mem_cons_self
abbrev s_slotted : Stmt := topS 8
def n_slotted : List Str := ["pieces", "slots", "number", "come", "taken", "other"]
theorem sc_slotted : FnScope n_slotted ["pieces"] (defScope s_slotted) := ⟨rfl, rfl, rfl, by decide +kernel, rfl, by decide +kernel, by decide +kernel⟩
def spSlot (K : PySem.W.Frag) (Pt Pk : Addr) : Sp := fun vs H Q _ => ∃ (a : Addr) (xs : List V) (ps : List Pc), vs = [.ref a] ∧ SqL K H a xs ∧ DpAll K H xs (ps.map pcD) ∧ ps.length ≤ 60 ∧ LamX.Tabs (TT Pt Pk) H ∧
  ∀ (H' : Hp) (L : Addr), LamX.ExtN H H' → LamX.Tabs (TT Pt Pk) H' → (∀ x u, H x = some u → (∀ ps, u ≠ .tbl ps) → x ≠ L) → H' L = some (.lst ((List.range ps.length).map fun p => natV (getS (allS ps (ordF ps)) p))) → Q (.ref L) H'
theorem ok_slot {f Pt Pk : Addr} {fd : FuncData} {k : Nat} (F : Fun K "slotted" "slotted" s_slotted f fd) (T : Txt mg) (c_by_coming : Cl P w K mg base (k + 2) "by_coming" (spBy K Pt Pk)) (c_is_in : Cl P w K mg base (k + 2) "is_in" (spIn K)) (c_least_free : Cl P w K mg base (k + 1) "least_free" (spFree K)) : FnOk P w K mg base CX0 (k + 3) f fd ["pieces"] (spSlot K Pt Pk) := by
  refine F.ok sc_slotted (fun vs H Q E h => ?_) (fun cdv A outer s H vs Q E hr h => ?_)
  · obtain ⟨a, xs, ps, rfl, _⟩ := h
    rfl
  · obtain ⟨a, xs, ps, rfl, hS, dx, l60, tbs, q⟩ := h
    have nd := sc_slotted.nd
    have hu := hu_of hr
    have lx : xs.length = ps.length := dpAll_map_len dx
    /- 0 pieces, 1 slots, 2 number, 3 come, 4 taken, 5 other -/
    refine ⟨_, (pss_cons (ps_set (i := 1) nd rfl (.inr rfl) pe_dnewK)
      (pss_cons (ps_for PassesOwn.never rfl (ki_list (K := K) (pe_cl c_by_coming hr (by omega) (by rfl) (pa_cons (pv 0) pa_nil))) (pg_name (i := 2) nd rfl (.inl rfl))
          (pss_cons (ps_set (i := 3) nd rfl (.inr rfl) (pe_ix (kx_tup (K := K)) (pe_ix (kx_list (K := K)) (pv 0) (pv 2) (fun _ _ => rfl)) pe_int (fun _ _ => rfl)))
          (pss_cons (ps_lock (ps_setLc (i := 4) (own := [("other", 5)]) rfl nd rfl rfl (sw_true rfl rfl rfl (by decide +kernel)) (pi_keys (pv 1)) (blkOk_by (N := n_slotted) (sc := defScope s_slotted) (by decide +kernel)) (fun _ _ _ _ _ => (pg_name (i := 5) nd rfl (.inl rfl))) (fun _ _ _ _ _ => (pts_one (pt_val (pe_cl c_is_in hr (by omega) (by rfl) (pa_cons (pe_ix (kx_list (K := K)) (pv 0) (pv 5) (fun _ _ => rfl)) (pa_cons (pv 3) pa_nil)))))) (fun _ _ _ _ _ => (pe_dget hu (pv 1) (pv 5) (fun _ _ => rfl)))))
          (pss_one (ps_dput hu (pv 1) (pv 2) (pe_cl c_least_free hr (by omega) (by rfl) (pa_cons (pv 4) pa_nil)) rfl)))))
      (pss_one (ps_ret (pe_lc (own := [("number", 2)]) rfl nd (pi_range1 (by rfl) T.range (pa_cons (pe_callB (kc_len (K := K)) (by rfl) T.len PySem.boot_len (pa_cons (pv 0) pa_nil)) pa_nil)) (blkOk_by (N := n_slotted) (sc := defScope s_slotted) (by decide +kernel)) (fun _ _ _ _ _ => (pg_name (i := 2) nd rfl (.inl rfl))) (fun _ _ _ _ _ => pts_nil) (fun _ _ _ _ _ => (pe_dget hu (pv 1) (pv 2) (fun _ _ => rfl)))))))), ?_⟩
    refine fun D nD => ?_
    have s0 := same_upd (o := .dK []) nD
    have hD : upd H D (.dK []) D = some (.dK []) := upd_same
    have hS0 := s0.seq hS
    have dx0 := dpAll_same s0 dx
    have tbs0 := tbs.ext s0
    generalize upd H D (.dK []) = H0 at s0 hD hS0 dx0 tbs0 ⊢
    have est : ((L2.start n_slotted [V.ref a]).set 1 (some (V.ref D))) = [some (.ref a), some (.ref D), none, none, none, none] := rfl
    show tSeq _ _ _ ((L2.start n_slotted [V.ref a]).set 1 (some (V.ref D))) _
    rw [est]
    refine ⟨_, rfl, a, xs, ps, rfl, hS0, dx0, l60, tbs0, fun H1 L x1 tbs1 fr hL => ?_⟩
    have hD1 : H1 D = some (.dK (kvS (allS ps ((ordF ps).take 0)))) := x1 _ _ hD (fun ps z => by cases z)
    have hS1 := RLam.sqL_ext hS0 x1
    have dx1 := pcs_ext x1 dx0
    have LD : L ≠ D := fun e => fr D _ hD (fun ps z => by cases z) e.symm
    refine ⟨L, rfl, ⟨_, SqL.of hL⟩, ?_⟩
    refine for_it (walk_list (xs := (ordF ps).map natV)) (fun i σ Hz => ∃ (v2 v3 v4 v5 : Option V), σ = [some (.ref a), some (.ref D), v2, v3, v4, v5] ∧ Sm [D] H1 Hz ∧ Hz D = some (.dK (kvS (allS ps ((ordF ps).take i))))) ⟨_, _, _, _, rfl, Same.refl _, hD1⟩ (fun i σ Hz _ h => by obtain ⟨_, _, _, _, _, h, _⟩ := h; exact SqL.of (sm_at h (by simp [LD]) hL)) ?_ ?_
    · rintro i y σ Hz Hw hi ⟨v2, v3, v4, v5, rfl, sm, hDz⟩ ⟨rfl, gy⟩
      rw [List.getElem?_map] at gy
      obtain ⟨p, gp, rfl⟩ := Option.map_eq_some_iff.mp gy
      have hp := ordF_mem.mp (List.mem_of_getElem? gp)
      have hi2 : i < ps.length := by rw [List.length_map, ordF_len] at hi; exact hi
      have hSz := sqL_dK sm hD1 hS1
      have dxz := pcs_dK sm hD1 dx1
      have pnew : p ∉ (allS ps ((ordF ps).take i)).map (·.1) := by rw [keys_all]; exact take_new (ordF_nodup ps) gp
      have Slen : (allS ps ((ordF ps).take i)).length ≤ 60 := by
        have := congrArg List.length (keys_all (ps := ps) ((ordF ps).take i))
        rw [List.length_map, List.length_take] at this
        omega
      have eone := allS_one (ps := ps) gp
      have Snd : ((allS ps ((ordF ps).take i)).map (·.1)).Nodup := by rw [keys_all]; exact (List.take_sublist _ _).nodup (ordF_nodup ps)
      have Smem : ∀ q ∈ allS ps ((ordF ps).take i), q.1 < ps.length := fun q hq => by
        have : q.1 ∈ (allS ps ((ordF ps).take i)).map (·.1) := List.mem_map.mpr ⟨q, hq, rfl⟩
        rw [keys_all] at this
        exact ordF_mem.mp (List.mem_of_mem_take this)
      generalize allS ps ((ordF ps).take i) = S at hDz pnew Slen eone Snd Smem
      obtain ⟨b, eb, hb, _⟩ := pcs_at dxz (List.getElem?_eq_getElem (show p < xs.length by omega))
      refine ⟨_, rfl, _, rfl, a, _, _, _, rfl, rfl, hSz, atI_nat (List.getElem?_eq_getElem (show p < xs.length by omega)), ?_⟩
      rw [eb]
      refine ⟨b, _, 0, _, rfl, rfl, hb, rfl, ?_⟩
      refine ⟨D, _, hDz, trivial, fun od => ?_⟩
      have hF : upd Hw D (.frz od (.dK (kvS S))) D = some (.frz od (.dK (kvS S))) := upd_same
      have sF : Sm [D] H1 (upd Hw D (.frz od (.dK (kvS S)))) := sm.trans (sm_wr (List.mem_singleton_self D))
      have dxF := pcs_dK sF hD1 dx1
      have hSF := sqL_dK sF hD1 hS1
      generalize upd Hw D (.frz od (.dK (kvS S))) = HF at hF sF dxF hSF ⊢
      refine ⟨_, rfl, D, od, rfl, .inl ⟨_, hF, fun C nC => ?_⟩⟩
      have kat : ∀ {j : Nat} {q : Nat × Nat}, S[j]? = some q → (kvS S)[j]? = some (.inl ((q.1 : Nat) : Int), natV q.2) := fun {j q} g => by unfold kvS; rw [List.getElem?_map, g]; rfl
      refine lc_it (walk_keys (kvs := kvS S)) (PvL HF C fun j => (((S.take j).filter fun q => inB (ps.getD q.1 pc0) (cmF ps p)).map (·.2)).map natV) (pv_start nC rfl) (fun j H4 _ h => h.1 _ _ hF) ?_ ?_
      · rintro j y Ha Hb hj pz ⟨rfl, key, v, gk, rfl⟩
        have hj2 : j < S.length := by unfold kvS at hj; rw [List.length_map] at hj; exact hj
        have gS := List.getElem?_eq_getElem hj2
        have gk2 := kat gS
        rw [gk2] at gk
        obtain ⟨rfl, rfl⟩ := Prod.mk.inj (Option.some.inj gk)
        have qm := List.getElem_mem hj2
        generalize S[j] = q0 at gS gk2 qm
        have hq0 := Smem _ qm
        obtain ⟨b2, eb2, hb2, _⟩ := pcs_at (dpAll_same pz.1 dxF) (List.getElem?_eq_getElem (show q0.1 < xs.length by omega))
        refine ⟨rfl, _, rfl, _, rfl, a, _, _, _, rfl, rfl, pz.1.seq hSF, atI_nat (List.getElem?_eq_getElem (show q0.1 < xs.length by omega)), ?_⟩
        rw [eb2]
        refine ⟨_, rfl, b2, ps.getD q0.1 pc0, cmF ps p, rfl, hb2, _, rfl, ?_⟩
        have lf : ((((S.take j).filter fun q => inB (ps.getD q.1 pc0) (cmF ps p)).map (·.2)).map natV).length < sizeLine := by
          rw [List.length_map, List.length_map, sizeLine_eq]
          have h1 := List.length_filter_le (fun q : Nat × Nat => inB (ps.getD q.1 pc0) (cmF ps p)) (S.take j)
          have h2 := List.length_take (i := j) (l := S)
          omega
        cases e : inB (ps.getD q0.1 pc0) (cmF ps p) with
        | true =>
          refine iteT ⟨_, rfl, _, rfl, D, natV (getS S q0.1), rfl, .inl ⟨kvS S, .inl ((q0.1 : Nat) : Int), .inr ⟨od, pz.1 _ _ hF⟩, rfl, ?_⟩, ?_⟩
          · exact ((getS_of (List.mem_map.mpr ⟨_, qm, rfl⟩)).1).symm
          · rw [getS_nodup Snd qm]
            refine pv_put nC pz (Same.refl _) ?_ lf
            rw [List.take_add_one, gS, List.filter_append]
            show _ = _
            rw [show (Option.some q0).toList = [q0] from rfl, List.filter_cons_of_pos (p := fun q : Nat × Nat => inB (ps.getD q.1 pc0) (cmF ps p)) e, List.filter_nil, List.map_append, List.map_append]
            rfl
        | false =>
          refine iteF (pv_skip pz (Same.refl _) ?_)
          rw [List.take_add_one, gS, List.filter_append]
          show _ = _
          rw [show (Option.some q0).toList = [q0] from rfl, List.filter_cons_of_neg (p := fun q : Nat × Nat => inB (ps.getD q.1 pc0) (cmF ps p)) (by rw [e]; decide), List.filter_nil, List.append_nil]
      · intro H2 pz
        obtain ⟨s2, hC⟩ := pv_end pz (show _ = (slF ps S p).map natV by unfold slF kvS; rw [List.length_map, List.take_length])
        clear pz
        have hF2 := s2 _ _ hF
        have CD : C ≠ D := fun e => by rw [e, hF] at nC; cases nC
        refine ⟨hF2, ?_⟩
        have hC3 : upd H2 D (.dK (kvS S)) C = some (.lst ((slF ps S p).map natV)) := by rw [upd_ne CD]; exact hC
        have hD3 : upd H2 D (.dK (kvS S)) D = some (.dK (kvS S)) := upd_same
        have s3 : Sm [D] H1 (upd H2 D (.dK (kvS S))) := (sF.trans (sm_of s2)).trans (sm_wr (List.mem_singleton_self D))
        generalize upd H2 D (.dK (kvS S)) = H3 at hC3 hD3 s3 ⊢
        have l3 : (slF ps S p).length ≤ 60 := by
          unfold slF
          rw [List.length_map]
          have h1 := List.length_filter_le (fun q : Nat × Nat => inB (ps.getD q.1 pc0) (cmF ps p)) S
          omega
        refine ⟨_, rfl, C, slF ps S p, rfl, .inr ⟨SqL.of hC3, l3⟩, ?_⟩
        refine ⟨_, rfl, _, rfl, D, _, rfl, .inl ⟨kvS S, .inl ((p : Nat) : Int), hD3, rfl, ?_, rfl⟩, ?_⟩
        · unfold kvS
          rw [List.length_map, sizeLine_eq]; omega
        · refine ⟨_, _, _, _, rfl, s3.trans (sm_wr (List.mem_singleton_self D)), ?_⟩
          rw [eone, upd_same]
          exact congrArg (fun z => some (HO.dK z)) (put_kvS pnew)
    · rintro σ Hz ⟨v2, v3, v4, v5, rfl, sm, hDz⟩
      have hSz := sqL_dK sm hD1 hS1
      rw [List.length_map, List.take_of_length_le (Nat.le_refl _)] at hDz
      refine ⟨_, rfl, _, _, rfl, .inl ⟨_, hSz, rfl⟩, _, rfl, (by omega), (by omega), ?_⟩
      rw [Int.toNat_natCast, lx]
      intro C nC
      have CD : C ≠ D := fun e => by rw [e, hDz] at nC; cases nC
      refine lc_it (walk_range (lo := 0) (n := ps.length)) (PvL Hz C fun j => (List.range j).map fun p => natV (getS (allS ps (ordF ps)) p)) (pv_start nC rfl) (fun _ _ _ _ => trivial) ?_ ?_
      · rintro j y Ha Hb hj pz ⟨rfl, rfl⟩
        show gName 2 (V.int (0 + (j : Int))) _ _ _
        rw [Int.zero_add]
        refine ⟨rfl, tYes_at ?_⟩
        rw [if_pos rfl]
        have hm : j ∈ (allS ps (ordF ps)).map (·.1) := by rw [keys_all]; exact ordF_mem.mpr hj
        refine ⟨_, rfl, _, rfl, D, natV (getS (allS ps (ordF ps)) j), rfl, .inl ⟨_, .inl ((j : Nat) : Int), .inl (pz.1 _ _ hDz), rfl, ?_⟩, ?_⟩
        · have := (getS_of hm).1
          rw [← this]
        · refine pv_put nC pz (Same.refl _) ?_ ?_
          · rw [List.range_succ, List.map_append]; rfl
          · rw [List.length_map, List.length_range, sizeLine_eq]; omega
      · intro H2 pz
        obtain ⟨s2, hC⟩ := pv_end pz rfl
        clear pz
        have xn : LamX.ExtN H Hz := fun b o e n => sm_at sm (fun z => by rw [List.mem_singleton.mp z, nD] at e; cases e) (x1 _ _ (s0 _ _ e) n)
        refine q H2 C (xn.trans (.of s2)) ((tabs_dK sm hD1 tbs1).ext s2) (fun x u e n z => ?_) hC
        have := xn x u e n
        rw [z, nC] at this
        cases this

end
end Pot

namespace Pot
open PySem PySem.Spec PyProof.Rows L2
section
variable {P : Program} {w : World} {K : PySem.W.Frag} {mg : Str → Option Value} {base : Heap}
theorem thaw {H2 : Hp} {hd : Addr} {od : Obj} {kv : List (Key × V)} {S : List Addr} {us : List V} {ds : List PyData} (hF : H2 hd = some (.frz od (.dK kv))) (nl : noLAll ds) (du : DpAll K (off H2 S) us ds) : DpAll K (off (upd H2 hd (.dK kv)) S) us ds := by
  refine dpAll_go (fun a vs h => ?_) nl du
  have ne : ∀ z, off H2 S a = some z → z ≠ .frz od (.dK kv) → off (upd H2 hd (.dK kv)) S a = some z := fun z e n => by
    have n1 := off_mem e
    rw [off_out n1] at e ⊢
    rw [upd_ne fun x => by rw [x, hF] at e; exact n (Option.some.inj e).symm]
    exact e
  rcases h with (h | ⟨o2, h⟩) | h
  · exact .inl (.inl (ne _ h fun z => by cases z))
  · exact .inl (.inr ⟨o2, ne _ h fun z => by cases z⟩)
  · exact .inr h
theorem off_no {H : Hp} : Same H (off H []) := fun x o e => by rw [off_out (by simp)]; exact e
/-- a dict locked -/
theorem lock_facts {H : Hp} {p hd C dx : Addr} {hr sl : Int} {es : List En} {od : Obj} (hp : H p = some (.ins C dx (tnF hd hr sl))) (di : H hd = some (.dK (enK es))) (en : EnOk H es) :
    upd H hd (.frz od (.dK (enK es))) p = some (.ins C dx (tnF hd hr sl)) ∧ upd H hd (.frz od (.dK (enK es))) hd = some (.frz od (.dK (enK es))) ∧ EnOk (upd H hd (.frz od (.dK (enK es)))) es ∧ ∀ {Hx : Hp}, Same (upd H hd (.frz od (.dK (enK es)))) Hx → Same H (upd Hx hd (.dK (enK es))) := by
  have php : p ≠ hd := fun e => by rw [e, di] at hp; cases hp
  refine ⟨(upd_ne php).trans hp, upd_same, en.sm (S := [hd]) (sm_wr (by simp)) (fun x hx us e => by rw [List.mem_singleton.mp hx, di] at e; cases e), fun {Hx} s b o e => ?_⟩
  by_cases c : b = hd
  · rw [c, upd_same]; rw [c, di] at e; exact e
  · rw [upd_ne c]; exact s _ _ (by rw [upd_ne c]; exact e)
theorem en_at {es : List En} {j : Nat} {x1 x2 : V} (hj : j < es.length) (g1 : ((enK es)[j]?.map fun kv => kV kv.1) = some x1) (g2 : ((enK es)[j]?.map Prod.snd) = some x2) : ∃ e, es[j]? = some e ∧ e ∈ es ∧ x1 = .int ((e.1 : Nat) : Int) ∧ x2 = .ref e.2.2.2 := by
  have gl := List.getElem?_eq_getElem hj
  have gk : (enK es)[j]? = some (.inl ((es[j].1 : Nat) : Int), V.ref es[j].2.2.2) := by unfold enK; rw [List.getElem?_map, gl]; rfl
  rw [gk] at g1 g2
  exact ⟨es[j], gl, List.getElem_mem hj, (Option.some.inj g1).symm, (Option.some.inj g2).symm⟩
theorem in_al (ho : Int) (a b : En) : PySem.W.alike (inD a ho) (inD b ho) = true := by
  unfold inD
  simp [PySem.W.alike, PySem.W.alikeAll]
theorem in_tp (ho : Int) (a : En) : ∃ x r, inD a ho = .tuple (x :: r) := ⟨_, _, rfl⟩
theorem in_dep (ho : Int) (a : En) : (inD a ho).depth ≤ 60 := by show max 0 (max 0 (max 0 0)) + 1 ≤ 60; decide
def spTnS (K : PySem.W.Frag) (C : Addr) : Sp := fun vs H Q _ => ∃ (p hd : Addr) (hr sl : Int) (es : List En), vs = [.ref p] ∧ TnAt C H p hd hr sl es ∧ es.length ≤ 1000 ∧
  ∀ (H' : Hp) (R : Addr) (us : List V), Same H H' → H R = none → H' R = some (.lst us) → DpAll K (off H' [R]) us ((es.mergeSort (PySem.W.dataLe false fun e => inD e hr)).map fun e => inD e hr) → Q (.ref R) H'
abbrev s_ns : Stmt := inClass (topS 19) 3
def n_ns : List Str := ["self", "slot", "name", "out"]
theorem sc_ns : FnScope n_ns ["self"] (defScope s_ns) := ⟨rfl, rfl, rfl, by decide +kernel, rfl, by decide +kernel, by decide +kernel⟩
set_option maxHeartbeats 1000000 in
theorem ok_nsd {C f : Addr} {fd : FuncData} {k : Nat} (F : Fun K "inside" "Tunnel.inside" s_ns f fd) (T : Txt mg) (N : TnK K mg C) : FnOk P w K mg base CX0 (k + 1) f fd ["self"] (spTnS K C) := by
  refine F.ok sc_ns (fun vs H Q E h => ?_) (fun cdv A outer s H vs Q E hr h => ?_)
  · obtain ⟨p, hd, ho, sl, es, rfl, _⟩ := h
    rfl
  · obtain ⟨p, hd, ho, sl, es, rfl, M, l, q⟩ := h
    have nd := sc_ns.nd
    have hu := hu_of hr
    have hu70 : (A.deeper (envOfC (Str.ofString "Tunnel.inside") (defScope s_ns) s.heap.objs.size f cdv)).units + 70 < cLine := by have := hr.un; omega
    /- 0 self, 1 slot, 2 name, 3 out -/
    refine ⟨_, (pss_one (ps_ret (pe_callB (kc_sortedE (K := K) (enc := (fun e => inD e ho)) hu70 (in_al ho) (in_tp ho) (in_dep ho)) (by rfl) T.sorted (by decide +kernel) (pa_cons (pe_lock (pe_lc (own := [("slot", 1), ("name", 2), ("out", 3)]) rfl nd (pi_items (ke_fld (K := K) (pv 0))) (blkOk_by (N := n_ns) (sc := defScope s_ns) (by decide +kernel)) (fun _ _ _ _ _ => (kg_tup (K := K) (n := 2) (pgs_cons (pg_name (i := 1) nd rfl (.inl rfl)) (pgs_cons (kg_tup (K := K) (n := 2) (pgs_cons (pg_name (i := 2) nd rfl (.inl rfl)) (pgs_cons (pg_name (i := 3) nd rfl (.inl rfl)) pgs_nil))) pgs_nil)))) (fun _ _ _ _ _ => pts_nil) (fun _ _ _ _ _ => (pe_tup (pa_cons (pv 1) (pa_cons (pv 2) (pa_cons (pe_op op_sub (pv 3) (ke_fld (K := K) (pv 0))) pa_nil))))))) pa_nil)))), ?_⟩
    obtain ⟨dx, hp⟩ := M.ob
    have php : p ≠ hd := fun e => by rw [e, M.di] at hp; cases hp
    refine ⟨hd, _, M.di, trivial, fun od => ?_⟩
    obtain ⟨hpF, hdF, enF, bk⟩ := lock_facts (od := od) hp M.di M.en
    have nH : ∀ {R : Addr}, upd H hd (.frz od (.dK (enK es))) R = none → R ≠ hd ∧ H R = none := fun {R} n => by
      have h1 : R ≠ hd := fun z => by rw [z, upd_same] at n; cases n
      rw [upd_ne h1] at n
      exact ⟨h1, n⟩
    generalize upd H hd (.frz od (.dK (enK es))) = HF at hpF hdF enF bk nH ⊢
    refine ⟨_, rfl, p, C, dx, _, _, rfl, hpF, N.cl, N.he, tf_he _ _ _, hd, od, _, rfl, hdF, fun R nR => ?_⟩
    obtain ⟨Rh, nR0⟩ := nH nR
    refine lc_it (walk_items (kvs := enK es)) (fun j Hx => Same HF Hx ∧ ∃ us, Hx R = some (.lst us) ∧ us.length ≤ j ∧ DpAll K (off Hx [R]) us ((es.take j).map fun e => inD e ho)) ⟨same_upd nR, [], upd_same, Nat.le_refl _, .nil⟩ (fun j Hx _ h => h.1 _ _ hdF) ?_ ?_
    · rintro j y Ha Hb hj ⟨sx, us, hR, lu, du⟩ ⟨u, x1, x2, rfl, nu, rfl, g1, g2⟩
      rw [enK_len] at hj
      obtain ⟨e0, gl, me, rfl, rfl⟩ := en_at hj g1 g2
      have he := enF e0 me
      have su := same_upd (o := .tup [V.int ((e0.1 : Nat) : Int), V.ref e0.2.2.2]) nu
      have du := dpAll_same (sm_put (S := [R]) (o := .tup [V.int ((e0.1 : Nat) : Int), V.ref e0.2.2.2]) nu) du
      have hu1 : upd Ha u (.tup [V.int ((e0.1 : Nat) : Int), V.ref e0.2.2.2]) u = some (.tup [V.int ((e0.1 : Nat) : Int), V.ref e0.2.2.2]) := upd_same
      have sx := sx.trans su
      have hR := su _ _ hR
      generalize upd Ha u (.tup [V.int ((e0.1 : Nat) : Int), V.ref e0.2.2.2]) = Hb at du hu1 sx hR ⊢
      have he := sx _ _ he
      have hpb := sx _ _ hpF
      refine ⟨u, _, rfl, .inl (.inl hu1), rfl, _, _, rfl, _, _, rfl, e0.2.2.2, _, rfl, .inl (.inl he), rfl, _, _, rfl, _, _, rfl, rfl, rfl, rfl, tYes_at ?_⟩
      rw [if_pos rfl]
      refine ⟨_, rfl, _, rfl, _, rfl, _, rfl, p, C, dx, _, _, rfl, hpb, N.cl, N.hr, tf_hr _ _ _, _, _, rfl, rfl, (by show 3 ≤ sizeLine; decide), fun t nt => ?_⟩
      have lvR : Live [R] Hb := fun x hx e => by rw [List.mem_singleton.mp hx, hR] at e; cases e
      have ft := off_new (o := .tup [.int ((e0.1 : Nat) : Int), .str e0.2.1, .int (e0.2.2.1 - ho)]) lvR nt
      have du := dpAll_same (sm_put (S := [R]) (o := .tup [.int ((e0.1 : Nat) : Int), .str e0.2.1, .int (e0.2.2.1 - ho)]) nt) du
      have sx := sx.trans (same_upd (o := .tup [.int ((e0.1 : Nat) : Int), .str e0.2.1, .int (e0.2.2.1 - ho)]) nt)
      have hR := same_upd (o := .tup [.int ((e0.1 : Nat) : Int), .str e0.2.1, .int (e0.2.2.1 - ho)]) nt _ _ hR
      generalize upd Hb t (.tup [.int ((e0.1 : Nat) : Int), .str e0.2.1, .int (e0.2.2.1 - ho)]) = Hc at ft du sx hR ⊢
      refine ⟨us, hR, by rw [sizeLine_eq]; omega, same_put sx nR, us ++ [.ref t], upd_same, by rw [List.length_append]; show _ + 1 ≤ _; omega, ?_⟩
      rw [List.take_add_one, gl, List.map_append]
      exact dpAll_same (sm_wr (by simp)) (dpAll_app' du (.cons (.tup (.inl (.inl ft)) (.cons (.int _) (.cons (.str _) (.cons (.int _) .nil)))) .nil))
    rintro H2 ⟨s2, us, hR, lu, du⟩
    rw [enK_len, List.take_of_length_le (Nat.le_refl _)] at du
    refine ⟨s2 _ _ hdF, ?_⟩
    have s3 := bk s2
    have du := thaw (s2 _ _ hdF) (noL_map (f := fun e : En => inD e ho) (fun _ => ⟨trivial, trivial, trivial, trivial⟩) _) du
    have hR : upd H2 hd (.dK (enK es)) R = some (.lst us) := (upd_ne Rh).trans hR
    generalize upd H2 hd (.dK (enK es)) = H3 at s3 hR du ⊢
    refine ⟨R, us, es, rfl, SqL.of hR, dpAll_same off_sub du, fun zs p2 dz np2 => ?_⟩
    refine q _ p2 zs (s3.trans (same_upd np2)) (s3.free np2) upd_same ?_
    rw [off_fresh np2]
    exact dpAll_same off_no dz

end
end Pot

namespace Pot
open PySem PySem.Spec PyProof.Rows L2
section
variable {P : Program} {w : World} {K : PySem.W.Frag} {mg : Str → Option Value} {base : Heap}
theorem tf_no {hd : Addr} {hr sl : Int} {m : Str} (a : (m == ("slots" : Str)) = false) (b : (m == ("hour" : Str)) = false) (c : (m == ("held" : Str)) = false) : (tnF hd hr sl).lookup m = none := by
  unfold tnF
  rw [List.lookup_cons, a, List.lookup_cons, b, List.lookup_cons, c]
  rfl
theorem takes_never {X : Cx} : Takes X (fun _ _ _ _ => False) := fun u s' x => by
  obtain ⟨_, _, _, _, _, _, _, _, _, _, _, _, _, _, _, _, q⟩ := x
  exact q.elim
theorem ins_new {C x dx : Addr} {H1 : Hp} (nx : H1 x = none) (ndx : H1 dx = none) : Same H1 (upd (upd H1 dx (.own x)) x (.ins C dx [])) := fun b o e => by
  have bx : b ≠ x := ne_of_none e nx
  have bd : b ≠ dx := ne_of_none e ndx
  rw [upd_ne bx, upd_ne bd]; exact e
structure TunC (P : Program) (w : World) (K : PySem.W.Frag) (mg : Str → Option Value) (base : Heap) (C CF : Addr) : Prop where
  tk : TnK K mg C
  made : OMak P w K mg base 1 "Tunnel" C (spTnI C) []
  ent : OMetX P w K mg base 3 C "enter" (spTnE K C CF) []
  tick : OMet P w K mg base 1 C "tick" (spTnT K C) []
  inside : OMet P w K mg base 1 C "inside" (spTnS K C) []
  now : OMet P w K mg base 1 C "now" (spTnN C) []
  len : Own P w K mg base 1 C "__len__" (spTnL C)
  gF : mg "Full" = some (.ref CF)
  te : PySem.W.exmOne K (.ref CF) (.ref CF) = some true
def nmN (n : Nat) : Str := "piece" ++ ⟨#[97 + n / 26]⟩ ++ ⟨#[97 + n % 26]⟩
abbrev s__law_name : Stmt := topS 24
def n__law_name : List Str := ["_law_number", "_law_letters"]
theorem sc__law_name : FnScope n__law_name ["_law_number"] (defScope s__law_name) := ⟨rfl, rfl, rfl, by decide +kernel, rfl, by decide +kernel, by decide +kernel⟩
def spNm : Sp := fun vs H Q _ => ∃ n : Nat, vs = [.int (n : Nat)] ∧ n < 40 ∧ Q (.str (nmN n)) H
theorem ok_nm {f : Addr} {fd : FuncData} {k : Nat} (F : Fun K "_law_name" "_law_name" s__law_name f fd) (T : Txt mg) : FnOk P w K mg base CX0 (k + 1) f fd ["_law_number"] spNm := by
  refine F.ok sc__law_name (fun vs H Q E h => ?_) (fun cdv A outer s H vs Q E hr h => ?_)
  · obtain ⟨n, rfl, _⟩ := h
    rfl
  · obtain ⟨n, rfl, hn, q⟩ := h
    have nd := sc__law_name.nd
    /- 0 _law_number, 1 _law_letters -/
    refine ⟨_, (pss_cons (ps_set (i := 1) nd rfl (.inl rfl) pe_str)
      (pss_one (ps_ret (pe_op op_add_str (pe_op op_add_str pe_str (pe_ix ix_str (pv 1) (pe_op op_fdiv (pv 0) pe_int) (fun _ _ => rfl))) (pe_ix ix_str (pv 1) (pe_op op_mod (pv 0) pe_int) (fun _ _ => rfl)))))), ?_⟩
    have lt : ∀ j, j < 26 → ("abcdefghijklmnopqrstuvwxyz" : Str).cps.toList[j]? = some (97 + j) := by decide +kernel
    have l5 : ("piece" : Str).length = 5 := by decide +kernel
    have l6 : (("piece" : Str) ++ (⟨#[97 + n / 26]⟩ : Str)).length = 6 := by
      have h : n / 26 = 0 ∨ n / 26 = 1 := by omega
      rcases h with h | h <;> (rw [h]; decide +kernel)
    have e1 : ((n : Nat) : Int) / 26 = ((n / 26 : Nat) : Int) := by omega
    have e2 : ((n : Nat) : Int) % 26 = ((n % 26 : Nat) : Int) := by omega
    refine ⟨_, rfl, _, rfl, _, _, rfl, rfl, ⟨by decide, by decide⟩, _, _, _, rfl, rfl, (by decide +kernel), (by rw [e1]; exact atI_nat (lt (n / 26) (by omega))), _, _, rfl, rfl, (by rw [l5]; show 5 + 1 ≤ sizeLine; decide), ?_⟩
    refine ⟨_, rfl, _, rfl, _, _, rfl, rfl, (by show (0 : Int) < 26; decide), _, _, _, rfl, rfl, (by decide +kernel), (by rw [e2]; exact atI_nat (lt (n % 26) (by omega))), _, _, rfl, rfl, (by rw [l6]; show 6 + 1 ≤ sizeLine; decide), ?_⟩
    exact q
abbrev s__law_entered : Stmt := topS 25
def n__law_entered : List Str := ["_law_tunnel", "_law_name_here", "_law_cool", "_law_told"]
theorem sc__law_entered : FnScope n__law_entered ["_law_tunnel", "_law_name_here", "_law_cool"] (defScope s__law_entered) := ⟨rfl, rfl, rfl, by decide +kernel, rfl, by decide +kernel, by decide +kernel⟩
def spEnt (K : PySem.W.Frag) (C : Addr) : Sp := fun vs H Q _ => ∃ (p hd : Addr) (hr sl : Int) (es : List En) (z : Str) (co : Int), vs = [.ref p, .str z, .int co] ∧ TnAt C H p hd hr sl es ∧ es.length ≤ 1000 ∧ sl.natAbs ≤ 2000000 ∧
  (((mexF (slotsF es) : Nat) : Int) < sl → ∀ (H' : Hp) (t : Addr), Sm [hd] H H' → H t = none → TnAt C H' p hd hr sl (es ++ [(mexF (slotsF es), z, hr + co, t)]) → Q (.int (mexF (slotsF es) : Nat)) H') ∧
  (sl ≤ ((mexF (slotsF es) : Nat) : Int) → ∀ (H' : Hp), Same H H' → Q .non H')
theorem ok_ent {C CF f : Addr} {fd : FuncData} {k : Nat} (F : Fun K "_law_entered" "_law_entered" s__law_entered f fd) (T : Txt mg) (O : TunC P w K mg base C CF) : FnOk P w K mg base CX0 (k + 4) f fd ["_law_tunnel", "_law_name_here", "_law_cool"] (spEnt K C) := by
  refine F.ok sc__law_entered (fun vs H Q E h => ?_) (fun cdv A outer s H vs Q E hr h => ?_)
  · obtain ⟨p, hd, ho, sl, es, z, co, rfl, _⟩ := h
    rfl
  · obtain ⟨p, hd, ho, sl, es, z, co, rfl, M, l, b, q, qe⟩ := h
    have nd := sc__law_entered.nd
    have hu64 := hr.units
    have m_Tunnel_enter := O.ent
    have gl_Full := O.gF
    let CTunnel := C
    let CFull := CF
    /- 0 _law_tunnel, 1 _law_name_here, 2 _law_cool, 3 _law_told -/
    refine ⟨_, (pss_cons (ps_set (i := 3) nd rfl (.inl rfl) pe_non)
      (pss_cons (ps_try_only rfl rfl ⟨rfl, by decide, .inl gl_Full⟩ takes_never
            (fun W pn xe tk po => (pss_one (ps_set (i := 3) nd rfl (.inl rfl) (pe_omx m_Tunnel_enter hr (by omega) tk (pv 0) (pa_cons (pv 1) (pa_cons (pv 2) pa_nil))))))
            (fun a oe cls d pn _ _ => (pss_one (ps_set (i := 3) nd rfl (.inl rfl) pe_non))))
      (pss_one (ps_ret (pv 3))))), ?_⟩
    obtain ⟨dx, hp⟩ := M.ob
    have l1 : (tnF hd ho sl).lookup ("enter" : Str) = none := tf_no (by decide +kernel) (by decide +kernel) (by decide +kernel)
    simp only [gName, List.set, L2.start]
    refine ⟨_, rfl, p, dx, _, rfl, hp, l1, _, rfl, _, rfl, p, hd, ho, sl, es, z, co, rfl, M, l, b, fun c H' t s n m => ⟨_, rfl, q c H' t s n m⟩, fun c d H' s n h => ⟨true, O.te, fun _ a na => ⟨_, rfl, qe c H' s⟩, fun z => by cases z⟩⟩

end
end Pot

namespace Pot
open PySem PySem.Spec PyProof.Rows L2
section
variable {P : Program} {w : World} {K : PySem.W.Frag} {mg : Str → Option Value} {base : Heap}
theorem dl_pairI {β : Type} (enc : β → PyData) (l : List β) : (l.mergeSort (PySem.W.dataLe false enc)).Pairwise fun a b => PySem.W.dataLt (enc b) (enc a) = false := by
  have T := PySem.W.sortLe_total (PyProof.Rows.listOrd PyProof.Rows.itemOrd) false fun b : β => PySem.W.keyToks (enc b)
  have h := List.pairwise_mergeSort (le := PySem.W.dataLe false enc) (fun a b c h1 h2 => T.trans a b c h1 h2) (fun a b => by
    rw [Bool.or_eq_true]; exact T.total a b) l
  refine h.imp fun {a b} e => ?_
  rw [PySem.W.dataLe_eq] at e
  simpa using e

/-! ### pieces through a tunnel, as numbers and slots -/
def cD (ps : List Pc) (n : Nat) : PyData := .tuple [.int (cmF ps n), .int (n : Nat)]
/-- as they come -/
def ordN (ps : List Pc) (ns : List Nat) : List Nat := ns.mergeSort (PySem.W.dataLe false (cD ps))
theorem ordN_eq (ps : List Pc) (ns : List Nat) : (ns.map (cD ps)).mergeSort (PySem.W.dataLe false fun d => d) = (ordN ps ns).map (cD ps) := (List.map_mergeSort (r := PySem.W.dataLe false (cD ps)) (s := PySem.W.dataLe false fun d => d) (f := cD ps) fun _ _ _ _ => rfl).symm
theorem ordN_perm (ps : List Pc) (ns : List Nat) : (ordN ps ns).Perm ns := List.mergeSort_perm _ _
theorem ordN_RO {ps : List Pc} {ns : List Nat} (nd : ns.Nodup) : (ordN ps ns).Pairwise (RO ps) := by
  have h := dl_pairI (cD ps) ns
  have p : (ordN ps ns).Nodup := (ordN_perm ps ns).nodup_iff.mpr nd
  unfold List.Nodup at p
  refine (h.and p).imp fun {a b} h => ?_
  obtain ⟨h1, h2⟩ := h
  unfold cD at h1
  unfold RO
  rw [PySem.W.dataLt_tuple, PySem.W.dataLt_cons rfl] at h1
  by_cases c : cmF ps b = cmF ps a
  · rw [if_pos (by rw [c]; simp [PyData.eqv]), PySem.W.dataLt_cons rfl, if_neg (by simp [PyData.eqv]; omega), PySem.W.dataLt_int] at h1
    have := of_decide_eq_false h1
    exact .inr ⟨c.symm, by omega⟩
  · rw [if_neg (by simp [PyData.eqv]; omega), PySem.W.dataLt_int] at h1
    have := of_decide_eq_false h1
    exact .inl (by omega)
theorem cD_cmp {ps : List Pc} {ns : List Nat} : RowsCmp (ns.map (cD ps)) := by
  refine ⟨fun d hd => ?_, fun x r x2 r2 h1 h2 => ?_, fun xs ys h1 h2 => ?_⟩
  · obtain ⟨c, _, rfl⟩ := List.mem_map.mp hd
    exact ⟨_, _, rfl⟩
  · obtain ⟨c, _, e⟩ := List.mem_map.mp h1
    obtain ⟨c2, _, e2⟩ := List.mem_map.mp h2
    obtain ⟨rfl, _⟩ := List.cons.inj (PyData.tuple.inj e)
    obtain ⟨rfl, _⟩ := List.cons.inj (PyData.tuple.inj e2)
    rfl
  · obtain ⟨c, _, e⟩ := List.mem_map.mp h1
    obtain ⟨c2, _, e2⟩ := List.mem_map.mp h2
    cases PyData.tuple.inj e
    cases PyData.tuple.inj e2
    simp [okCmp, PySem.W.alike]
/-- a row of one that comes out: hour, slot, name -/
def gD (ps : List Pc) (q : Nat × Nat) : PyData := .tuple [.int (outF ps q.1), .int (q.2 : Nat), .str (nmN q.1)]
structure RS where
  ins : List (Nat × Nat)
  got : List (Nat × Option Nat)
  gone : List (Nat × Nat)
def staysF (ps : List Pc) (l : List (Nat × Nat)) (z : Int) : List (Nat × Nat) := l.filter fun q => decide (z < outF ps q.1)
def goesF (ps : List Pc) (l : List (Nat × Nat)) (z : Int) : List (Nat × Nat) := (l.filter fun q => decide (outF ps q.1 ≤ z)).mergeSort (PySem.W.dataLe false (gD ps))
def stepT (ps : List Pc) (sl : Int) (s : RS) (p : Nat) : RS :=
  let i1 := staysF ps s.ins (cmF ps p)
  if ((mexF (i1.map (·.2)) : Nat) : Int) < sl then ⟨i1 ++ [(p, mexF (i1.map (·.2)))], s.got ++ [(p, some (mexF (i1.map (·.2))))], s.gone ++ goesF ps s.ins (cmF ps p)⟩
  else ⟨i1, s.got ++ [(p, none)], s.gone ++ goesF ps s.ins (cmF ps p)⟩
def runT (ps : List Pc) (sl : Int) (l : List Nat) : RS := l.foldl (stepT ps sl) ⟨[], [], []⟩
theorem runT_one {ps : List Pc} {sl : Int} {l : List Nat} {i p : Nat} (g : l[i]? = some p) : runT ps sl (l.take (i + 1)) = stepT ps sl (runT ps sl (l.take i)) p := by
  unfold runT
  rw [List.take_add_one, g, List.foldl_append]; rfl
/-- the tunnel's entries are these -/
def Al (ps : List Pc) (es : List En) (l : List (Nat × Nat)) : Prop := es.map (fun e => (e.1, e.2.1, e.2.2.1)) = l.map fun q => (q.2, nmN q.1, outF ps q.1)
theorem Al.nil {ps : List Pc} : Al ps [] [] := rfl
theorem Al.filter {ps : List Pc} {f : Int → Bool} : ∀ {es : List En} {l : List (Nat × Nat)}, Al ps es l → Al ps (es.filter fun e => f e.2.2.1) (l.filter fun q => f (outF ps q.1))
  | [], [], _ => rfl
  | e :: es, q :: l, h => by
    unfold Al at h
    rw [List.map_cons, List.map_cons] at h
    obtain ⟨h1, h2⟩ := List.cons.inj h
    have ih := Al.filter (f := f) (es := es) (l := l) h2
    obtain ⟨a, b, c, d⟩ := e
    obtain ⟨rfl, h3⟩ := Prod.mk.inj h1
    obtain ⟨rfl, h4⟩ := Prod.mk.inj h3
    have h4 : c = outF ps q.1 := h4
    subst h4
    cases hf : f (outF ps q.1) with
    | true =>
      rw [List.filter_cons_of_pos (p := fun e : En => f e.2.2.1) hf, List.filter_cons_of_pos (p := fun q : Nat × Nat => f (outF ps q.1)) hf]
      unfold Al at ih ⊢
      rw [List.map_cons, List.map_cons, ih]
    | false =>
      rw [List.filter_cons_of_neg (p := fun e : En => f e.2.2.1) (by rw [hf]; decide), List.filter_cons_of_neg (p := fun q : Nat × Nat => f (outF ps q.1)) (by rw [hf]; decide)]
      exact ih
  | [], _ :: _, h => by cases h
  | _ :: _, [], h => by cases h
theorem Al.stay {ps : List Pc} {es : List En} {l : List (Nat × Nat)} (h : Al ps es l) (z : Int) : Al ps (stay es z) (staysF ps l z) := h.filter (f := fun o => decide (z < o))
theorem Al.slots {ps : List Pc} {es : List En} {l : List (Nat × Nat)} (h : Al ps es l) : slotsF es = l.map (·.2) := by
  have := congrArg (List.map fun x : Nat × Str × Int => x.1) h
  rw [List.map_map, List.map_map] at this
  exact this
theorem Al.len {ps : List Pc} {es : List En} {l : List (Nat × Nat)} (h : Al ps es l) : es.length = l.length := by
  have := congrArg List.length h
  rwa [List.length_map, List.length_map] at this
theorem Al.go {ps : List Pc} {es : List En} {l : List (Nat × Nat)} (h : Al ps es l) (z : Int) : ((outs es z).mergeSort (PySem.W.dataLe false goD)).map goD = (goesF ps l z).map (gD ps) := by
  have a := h.filter (f := fun o => decide (o ≤ z))
  have e : (outs es z).map goD = (l.filter fun q => decide (outF ps q.1 ≤ z)).map (gD ps) := by
    have := congrArg (List.map fun x : Nat × Str × Int => PyData.tuple [.int x.2.2, .int (x.1 : Nat), .str x.2.1]) a
    rw [List.map_map, List.map_map] at this
    exact this
  have e1 : ((outs es z).mergeSort (PySem.W.dataLe false goD)).map goD = ((outs es z).map goD).mergeSort (PySem.W.dataLe false fun d => d) := List.map_mergeSort (f := goD) fun _ _ _ _ => rfl
  have e2 : (goesF ps l z).map (gD ps) = ((l.filter fun q => decide (outF ps q.1 ≤ z)).map (gD ps)).mergeSort (PySem.W.dataLe false fun d => d) := List.map_mergeSort (f := gD ps) fun _ _ _ _ => rfl
  rw [e1, e2, e]
theorem Al.snoc {ps : List Pc} {es : List En} {l : List (Nat × Nat)} {p j : Nat} {t : Addr} (h : Al ps es l) : Al ps (es ++ [(j, nmN p, outF ps p, t)]) (l ++ [(p, j)]) := by
  unfold Al at h ⊢
  rw [List.map_append, List.map_append, h]; rfl
/-- all slots are taken just where no one more goes in -/
theorem mex_full {ts : List Nat} {sl : Int} (nd : ts.Nodup) (lt : ∀ t ∈ ts, ((t : Nat) : Int) < sl) (s0 : 0 ≤ sl) : (sl ≤ ((mexF ts : Nat) : Int)) ↔ ((ts.length : Nat) : Int) = sl := by
  obtain ⟨n, rfl⟩ : ∃ n : Nat, sl = (n : Int) := ⟨sl.toNat, by omega⟩
  obtain ⟨m1, m2, m3⟩ := mex_is (ts := ts)
  have le : ts.length ≤ n := by
    have := nodup_leG (l := ts) (ts := List.range n) nd fun x hx => List.mem_range.mpr (by have := lt x hx; omega)
    rwa [List.length_range] at this
  constructor
  · intro h
    have := nodup_leG (l := List.range n) (ts := ts) List.nodup_range fun x hx => m2 x (by have := List.mem_range.mp hx; omega)
    rw [List.length_range] at this
    omega
  · intro h
    rcases Nat.lt_or_ge (mexF ts) n with c | c
    · exfalso
      have := nodup_leG (l := mexF ts :: ts) (ts := List.range n) (List.nodup_cons.mpr ⟨m1, nd⟩) fun x hx => List.mem_range.mpr (by
        rcases List.mem_cons.mp hx with rfl | hx
        · exact c
        · have := lt x hx; omega)
      rw [List.length_range, List.length_cons] at this
      omega
    · omega
def optN : Option Nat → V
  | none => .non
  | some j => .int (j : Nat)
def gotK (l : List (Nat × Option Nat)) : List (Key × V) := l.map fun q => (.inl ((q.1 : Nat) : Int), optN q.2)
theorem gotK_put {l : List (Nat × Option Nat)} {p : Nat} {o : Option Nat} (h : p ∉ l.map (·.1)) : putK (gotK l) (.inl ((p : Nat) : Int)) (optN o) = gotK (l ++ [(p, o)]) := by
  unfold gotK
  rw [List.map_append]
  refine Pot.putK_new fun q hq e => h ?_
  obtain ⟨x, hx, rfl⟩ := List.mem_map.mp hq
  have e : (Sum.inl ((x.1 : Nat) : Int) : Key) = .inl ((p : Nat) : Int) := e
  have := Sum.inl.inj e
  exact List.mem_map.mpr ⟨x, hx, by omega⟩
theorem gotK_get {l : List (Nat × Option Nat)} {p : Nat} {o : Option Nat} (nd : (l.map (·.1)).Nodup) (h : (p, o) ∈ l) : valV (gotK l) (.inl ((p : Nat) : Int)) = some (optN o) := by
  induction l with
  | nil => exact (List.not_mem_nil h).elim
  | cons x l ih =>
    obtain ⟨a1, a2⟩ := List.nodup_cons.mp nd
    rcases List.mem_cons.mp h with rfl | h
    · exact valV_pos rfl
    · have ne : x.1 ≠ p := fun e => a1 (by show x.1 ∈ _; rw [e]; exact List.mem_map.mpr ⟨(p, o), h, rfl⟩)
      have : valV (gotK (x :: l)) (.inl ((p : Nat) : Int)) = valV (gotK l) (.inl ((p : Nat) : Int)) := valV_neg (by intro z; exact ne (by have := Sum.inl.inj z; omega))
      rw [this]
      exact ih a2 h
theorem got_keys {ps : List Pc} {sl : Int} : ∀ (l : List Nat) (s : RS), (l.foldl (stepT ps sl) s).got.map (·.1) = s.got.map (·.1) ++ l
  | [], s => by simp
  | p :: l, s => by
    rw [List.foldl_cons, got_keys l]
    have : (stepT ps sl s p).got.map (·.1) = s.got.map (·.1) ++ [p] := by
      unfold stepT
      dsimp only
      split <;> (rw [List.map_append]; rfl)
    rw [this, List.append_assoc]; rfl
theorem run_keys (ps : List Pc) (sl : Int) (l : List Nat) : (runT ps sl l).got.map (·.1) = l := got_keys l _
theorem ins_came {ps : List Pc} {sl : Int} {z : Int} : ∀ (l : List Nat) (s : RS), (∀ q ∈ s.ins, cmF ps q.1 ≤ z) → (∀ p ∈ l, cmF ps p ≤ z) → ∀ q ∈ (l.foldl (stepT ps sl) s).ins, cmF ps q.1 ≤ z
  | [], s, h, _ => h
  | p :: l, s, h, hl => by
    rw [List.foldl_cons]
    refine ins_came l _ (fun q hq => ?_) fun p' hp' => hl p' (List.mem_cons_of_mem _ hp')
    unfold stepT at hq
    dsimp only at hq
    split at hq
    · rcases List.mem_append.mp hq with hq | hq
      · exact h q (List.mem_filter.mp hq).1
      · rw [List.mem_singleton.mp hq]; exact hl p List.mem_cons_self
    · exact h q (List.mem_filter.mp hq).1

end
end Pot

namespace Pot
open PySem PySem.Spec PyProof.Rows L2
section
variable {P : Program} {w : World} {K : PySem.W.Frag} {mg : Str → Option Value} {base : Heap}
/-! ### what is told of a walk through -/
def NoTp (S : List Addr) (H : Hp) : Prop := ∀ x ∈ S, ∀ ob, H x = some ob → (∀ us, ob ≠ .tup us) ∧ ∀ o us, ob ≠ .frz o (.tup us)
theorem sqT_sm {H H' : Hp} {S : List Addr} {a : Addr} {vs : List V} (h : SqT K H a vs) (s : Sm S H H') (nt : NoTp S H) : SqT K H' a vs := by
  rcases h with (h | ⟨o2, h⟩) | h
  · exact .inl (.inl (sm_at s (fun x => (nt a x _ h).1 _ rfl) h))
  · exact .inl (.inr ⟨o2, sm_at s (fun x => (nt a x _ h).2 _ _ rfl) h⟩)
  · exact .inr h
theorem dp_nt {H H' : Hp} {S : List Addr} {us : List V} {ds : List PyData} (s : Sm S H H') (nt : NoTp S H) (n : noLAll ds) (d : DpAll K H us ds) : DpAll K H' us ds := dpAll_go (fun _ _ h => sqT_sm h s nt) n d
theorem seq_mid {t u : TS} {D} {σ : L2.St} {H : Hp} (G : L2.St → Hp → Prop) (h1 : ∀ N : L2.St → Hp → Prop, (∀ σ' H', G σ' H' → N σ' H') → t { D with nx := N } σ H) (h2 : ∀ σ' H', G σ' H' → u D σ' H') : tSeq t u D σ H := h1 (u D) h2
def iD (ps : List Pc) (z : Int) (q : Nat × Nat) : PyData := .tuple [.int (q.2 : Nat), .str (nmN q.1), .int (outF ps q.1 - z)]
def inR (ps : List Pc) (l : List (Nat × Nat)) (z : Int) : List (Nat × Nat) := l.mergeSort (PySem.W.dataLe false (iD ps z))
theorem Al.ins {ps : List Pc} {es : List En} {l : List (Nat × Nat)} (h : Al ps es l) (z : Int) : ((es.mergeSort (PySem.W.dataLe false fun e => inD e z)).map fun e => inD e z) = (inR ps l z).map (iD ps z) := by
  have e : (es.map fun e => inD e z) = l.map (iD ps z) := by
    have := congrArg (List.map fun x : Nat × Str × Int => PyData.tuple [.int (x.1 : Nat), .str x.2.1, .int (x.2.2 - z)]) h
    rw [List.map_map, List.map_map] at this
    exact this
  have e1 : (es.mergeSort (PySem.W.dataLe false fun e => inD e z)).map (fun e => inD e z) = (es.map fun e => inD e z).mergeSort (PySem.W.dataLe false fun d => d) := List.map_mergeSort (f := fun e => inD e z) fun _ _ _ _ => rfl
  have e2 : (inR ps l z).map (iD ps z) = (l.map (iD ps z)).mergeSort (PySem.W.dataLe false fun d => d) := List.map_mergeSort (f := iD ps z) fun _ _ _ _ => rfl
  rw [e1, e2, e]
theorem gD_noL {ps : List Pc} (l : List (Nat × Nat)) : noLAll (l.map (gD ps)) := noL_map (f := gD ps) (fun _ => ⟨trivial, trivial, trivial, trivial⟩) _
theorem iD_noL {ps : List Pc} {z : Int} (l : List (Nat × Nat)) : noLAll (l.map (iD ps z)) := noL_map (f := iD ps z) (fun _ => ⟨trivial, trivial, trivial, trivial⟩) _
theorem cD_noL {ps : List Pc} (l : List Nat) : noLAll (l.map (cD ps)) := noL_map (f := cD ps) (fun _ => ⟨trivial, trivial, trivial⟩) _
def SeenAt (K : PySem.W.Frag) (N : List Addr) (H : Hp) (ps : List Pc) (sl : Int) (L : List Nat) (i : Nat) (vs : List V) : Prop := vs.length = i ∧ ∀ j p, j < i → L[j]? = some p → ∃ t R us, vs[j]? = some (.ref t) ∧ H t = some (.tup [.int (cmF ps p), .ref R]) ∧ H R = some (.lst us) ∧ R ∉ N ∧ DpAll K H us ((inR ps (runT ps sl (L.take (j + 1))).ins (cmF ps p)).map (iD ps (cmF ps p)))
theorem SeenAt.sm {N W : List Addr} {H H' : Hp} {ps : List Pc} {sl : Int} {L : List Nat} {i : Nat} {vs : List V} (h : SeenAt K N H ps sl L i vs) (s : Sm W H H') (nt : NoTp W H) (c : ∀ x ∈ W, x ∈ N ∨ ∀ us, H x ≠ some (.lst us)) : SeenAt K N H' ps sl L i vs := by
  refine ⟨h.1, fun j p hj g => ?_⟩
  obtain ⟨t, R, us, a, b, c2, d, e⟩ := h.2 j p hj g
  refine ⟨t, R, us, a, sm_at s (fun x => (nt t x _ b).1 _ rfl) b, sm_at s (fun x => ?_) c2, d, dp_nt s nt (iD_noL _) e⟩
  rcases c R x with z | z
  · exact d z
  · exact z _ c2
theorem SeenAt.snoc {N : List Addr} {H : Hp} {ps : List Pc} {sl : Int} {L : List Nat} {i p : Nat} {vs us : List V} {t R : Addr} (h : SeenAt K N H ps sl L i vs) (g : L[i]? = some p) (ht : H t = some (.tup [.int (cmF ps p), .ref R])) (hR : H R = some (.lst us)) (n : R ∉ N) (d : DpAll K H us ((inR ps (runT ps sl (L.take (i + 1))).ins (cmF ps p)).map (iD ps (cmF ps p)))) : SeenAt K N H ps sl L (i + 1) (vs ++ [.ref t]) := by
  refine ⟨by rw [List.length_append, h.1]; rfl, fun j p2 hj g2 => ?_⟩
  rcases Nat.lt_or_ge j i with c | c
  · obtain ⟨t2, R2, us2, a, b⟩ := h.2 j p2 c g2
    exact ⟨t2, R2, us2, by rw [List.getElem?_append_left (by rw [h.1]; exact c)]; exact a, b⟩
  · obtain rfl : j = i := by omega
    obtain rfl : p = p2 := Option.some.inj (g.symm.trans g2)
    exact ⟨t, R, us, by rw [List.getElem?_append_right (by rw [h.1]; exact Nat.le_refl _), h.1, Nat.sub_self]; rfl, ht, hR, n, d⟩
theorem ntp_lst {H : Hp} {D : Addr} {us : List V} (h : H D = some (.lst us)) : NoTp [D] H := fun x hx ob e => by
  rw [List.mem_singleton.mp hx, h] at e
  obtain rfl := Option.some.inj e
  exact ⟨fun _ z => (by cases z), fun _ _ z => (by cases z)⟩
theorem cD_shaped {ps : List Pc} (ok : PcOk ps) {l : List Nat} (h : ∀ n ∈ l, n < ps.length) : SeqAt.shaped (.list (l.map (cD ps))) = true := by
  refine gd_shaped (m := 1000000) (gdAll_iff.mpr fun d hd => ?_) ?_
  · obtain ⟨n, hn, rfl⟩ := List.mem_map.mp hd
    have hn := h n hn
    have l40 := ok.len
    have := ok.each (ps.getD n pc0) (by rw [List.getD_eq_getElem?_getD, List.getElem?_eq_getElem hn]; exact List.getElem_mem hn)
    exact ⟨(by show Int.natAbs (ps.getD n pc0).1 ≤ _; omega), (by show Int.natAbs ((n : Nat) : Int) ≤ _; omega), trivial⟩
  · show PyData.depthAll (l.map (cD ps)) + 1 ≤ 64
    have : PyData.depthAll (l.map (cD ps)) ≤ 1 := depthAll_iff.mpr fun d hd => by
      obtain ⟨n, _, rfl⟩ := List.mem_map.mp hd
      show max 0 (max 0 0) + 1 ≤ 1
      decide
    omega
theorem same_in {H H' : Hp} {D : Addr} {o : HO} (s : Same H H') (n : H D = none) : Same H (upd H' D o) := fun b u e => by
  rw [upd_ne (ne_of_none e n)]; exact s _ _ e
theorem tn_wr {C : Addr} {H : Hp} {p hd q : Addr} {hr sl : Int} {es : List En} {o : HO} (M : TnAt C H p hd hr sl es) (qp : q ≠ p) (qh : q ≠ hd) (nt : ∀ us, H q ≠ some (.tup us)) : TnAt C (upd H q o) p hd hr sl es := by
  obtain ⟨⟨dx, a⟩, b, c, d, e⟩ := M
  exact ⟨⟨dx, by rw [upd_ne qp.symm]; exact a⟩, by rw [upd_ne qh.symm]; exact b, c.sm (S := [q]) (sm_wr (by simp)) fun x hx us e => by rw [List.mem_singleton.mp hx] at e; exact nt _ e, d, e⟩
theorem cD_dp {H : Hp} {y : V} {ps : List Pc} {n : Nat} (d : Dp K H y (cD ps n)) : ∃ a, y = .ref a ∧ SqT K H a [.int (cmF ps n), .int (n : Nat)] := by
  unfold cD at d
  cases d with
  | tup hq ds =>
    cases ds with
    | cons a ds =>
      cases ds with
      | cons b ds =>
        cases ds
        cases a
        cases b
        exact ⟨_, rfl, hq⟩
theorem ins_all {ps : List Pc} {sl : Int} {M : List Nat} : ∀ (l : List Nat) (s : RS), (∀ q ∈ s.ins, q.1 ∈ M) → (∀ p ∈ l, p ∈ M) → ∀ q ∈ (l.foldl (stepT ps sl) s).ins, q.1 ∈ M
  | [], s, h, _ => h
  | p :: l, s, h, hl => by
    rw [List.foldl_cons]
    refine ins_all l _ (fun q hq => ?_) fun p' hp' => hl p' (List.mem_cons_of_mem _ hp')
    unfold stepT at hq
    dsimp only at hq
    split at hq
    · rcases List.mem_append.mp hq with hq | hq
      · exact h q (List.mem_filter.mp hq).1
      · rw [List.mem_singleton.mp hq]; exact hl p List.mem_cons_self
    · exact h q (List.mem_filter.mp hq).1
theorem ins_mem {ps : List Pc} {sl : Int} {l : List Nat} : ∀ q ∈ (runT ps sl l).ins, q.1 ∈ l := ins_all l _ (fun _ h => absurd h List.not_mem_nil) fun _ h => h
theorem last_ge {ps : List Pc} {L : List Nat} {q : Nat} (pw : L.Pairwise (RO ps)) (g : L.getLast? = some q) : ∀ p ∈ L, cmF ps p ≤ cmF ps q := by
  obtain ⟨ys, rfl⟩ := List.getLast?_eq_some_iff.mp g
  intro p hp
  rcases List.mem_append.mp hp with hp | hp
  · rcases (List.pairwise_append.mp pw).2.2 p hp q List.mem_cons_self with h | h <;> omega
  · rw [List.mem_singleton.mp hp]; exact Int.le_refl _
/-- what went out up to the end -/
def goneA (ps : List Pc) (sl : Int) (L : List Nat) : List (Nat × Nat) := (runT ps sl L).gone ++ goesF ps (runT ps sl L).ins (match L.getLast? with | some p => cmF ps p + 99 | none => 99)
def spThr (K : PySem.W.Frag) (C : Addr) : Sp := fun vs H Q _ => ∃ (a nb : Addr) (xs : List V) (ps : List Pc) (sl : Nat) (NL : List Nat), vs = [.ref a, .int (sl : Nat), .ref nb] ∧ SqL K H a xs ∧ DpAll K H xs (ps.map pcD) ∧ PcOk ps ∧ sl ≤ 60 ∧ SqL K H nb (NL.map natV) ∧ NL.Nodup ∧ (∀ n ∈ NL, n < ps.length) ∧
  ∀ (H' : Hp) (t G Z S : Addr) (us vs : List V), Same H H' → H' t = some (.tup [.ref G, .ref Z, .ref S]) → H G = none → H Z = none → H S = none → H' G = some (.dK (gotK (runT ps sl (ordN ps NL)).got)) → H' Z = some (.lst us) → DpAll K H' us ((goneA ps sl (ordN ps NL)).map (gD ps)) → H' S = some (.lst vs) → SeenAt K [Z, S] H' ps sl (ordN ps NL) NL.length vs → Q (.ref t) H'
abbrev s__law_through : Stmt := topS 26
def n__law_through : List Str := ["_law_pieces_here", "_law_slots", "_law_numbers", "_law_number", "_law_come", "_law_tunnel", "_law_got", "_law_gone", "_law_seen", "_law_hour", "_law_ahead"]
theorem sc__law_through : FnScope n__law_through ["_law_pieces_here", "_law_slots", "_law_numbers"] (defScope s__law_through) := ⟨rfl, rfl, rfl, by decide +kernel, rfl, by decide +kernel, by decide +kernel⟩
set_option maxHeartbeats 1000000 in
theorem ok_thr {C CF f : Addr} {fd : FuncData} {k : Nat} (F : Fun K "_law_through" "_law_through" s__law_through f fd) (T : Txt mg) (O : TunC P w K mg base C CF) (c__law_name : Cl P w K mg base 1 "_law_name" spNm) (c__law_entered : Cl P w K mg base 4 "_law_entered" (spEnt K C)) : FnOk P w K mg base CX0 (k + 5) f fd ["_law_pieces_here", "_law_slots", "_law_numbers"] (spThr K C) := by
  refine F.ok sc__law_through (fun vs H Q E h => ?_) (fun cdv A outer s H vs Q E hr h => ?_)
  · obtain ⟨a, nb, xs, ps, sl, NL, rfl, _⟩ := h
    rfl
  · obtain ⟨a, nb, xs, ps, sl, NL, rfl, hS, da, ok, sl60, hN, nlN, ltN, q⟩ := h
    have nd := sc__law_through.nd
    have hu := hu_of hr
    have hu64 := hr.units
    have hu70 : (A.deeper (envOfC (Str.ofString "_law_through") (defScope s__law_through) s.heap.objs.size f cdv)).units + 70 < cLine := by have := hr.un; omega
    have mk_Tunnel := O.made
    have m_Tunnel_tick := O.tick
    have m_Tunnel_now := O.now
    have m_Tunnel_inside := O.inside
    have len_Tunnel := O.len
    let CTunnel := C
    /- 0 _law_pieces_here, 1 _law_slots, 2 _law_numbers, 3 _law_number, 4 _law_come, 5 _law_tunnel, 6 _law_got, 7 _law_gone, 8 _law_seen, 9 _law_hour, 10 _law_ahead -/
    refine ⟨_, (pss_cons (ps_set (i := 4) nd rfl (.inl rfl) (pe_callB (kc_sortedM (K := K) hu70) (by rfl) T.sorted (by decide +kernel) (pa_cons (pe_lc (own := [("_law_number", 3)]) rfl nd (ki_list (K := K) (pv 2)) (blkOk_by (N := n__law_through) (sc := defScope s__law_through) (by decide +kernel)) (fun _ _ _ _ _ => (pg_name (i := 3) nd rfl (.inl rfl))) (fun _ _ _ _ _ => pts_nil) (fun _ _ _ _ _ => (pe_tup (pa_cons (pe_ix (kx_tup (K := K)) (pe_ix (kx_list (K := K)) (pv 0) (pv 3) (fun _ _ => rfl)) pe_int (fun _ _ => rfl)) (pa_cons (pv 3) pa_nil))))) pa_nil)))
      (pss_cons (ps_asg (pe_tup (pa_cons (pe_omk mk_Tunnel hr (by omega) (by rfl) (pa_cons (pv 1) (pa_cons (pe_ifExp (pt_cmpR (ko_ne (K := K) hu64) (pv 4) (pe_lst pa_nil) (nomark _)) (pe_ix (kx_tup (K := K)) (pe_ix (kx_list (K := K)) (pv 4) pe_int (fun _ _ => rfl)) pe_int (fun _ _ => rfl)) pe_int) pa_nil))) (pa_cons pe_dnewK (pa_cons (pe_lst pa_nil) (pa_cons (pe_lst pa_nil) pa_nil))))) (kg_tup (K := K) (n := 4) (pgs_cons (pg_name (i := 5) nd rfl (.inl rfl)) (pgs_cons (pg_name (i := 6) nd rfl (.inl rfl)) (pgs_cons (pg_name (i := 7) nd rfl (.inl rfl)) (pgs_cons (pg_name (i := 8) nd rfl (.inl rfl)) pgs_nil))))))
      (pss_cons (ps_for PassesOwn.never rfl (ki_list (K := K) (pv 4)) (kg_tup (K := K) (n := 2) (pgs_cons (pg_name (i := 9) nd rfl (.inl rfl)) (pgs_cons (pg_name (i := 3) nd rfl (.inl rfl)) pgs_nil)))
          (pss_cons (ps_expr (pe_bm PySem.F.plainAttrs_list PySem.F.slot_list_extend PySem.F.type_list_extend (mt_extL (K := K)) (pv 7) (pa_cons (pe_omt m_Tunnel_tick hr (by omega) (pv 5) (pa_cons (pe_op op_sub (pv 9) (pe_omt0 m_Tunnel_now hr (by omega) (pv 5))) pa_nil)) pa_nil)))
          (pss_cons (ps_set (i := 10) nd rfl (.inl rfl) (pe_callB (kc_lenI len_Tunnel hr (by omega)) (by rfl) T.len PySem.boot_len (pa_cons (pv 5) pa_nil)))
          (pss_cons (ps_dput hu (pv 6) (pv 3) (pe_cl c__law_entered hr (by omega) (by rfl) (pa_cons (pv 5) (pa_cons (pe_cl c__law_name hr (by omega) (by rfl) (pa_cons (pv 3) pa_nil)) (pa_cons (pe_ix (kx_tup (K := K)) (pe_ix (kx_list (K := K)) (pv 0) (pv 3) (fun _ _ => rfl)) pe_int (fun _ _ => rfl)) pa_nil)))) rfl)
          (pss_cons (ps_if (pt_cmpR op_ne (pe_cmpR op_isN (pe_dget hu (pv 6) (pv 3) (fun _ _ => rfl)) pe_non (nomark _)) (pe_cmpR op_eq (pv 10) (pv 1) (nomark _)) (nomark _))
              (pss_one (ps_ret pe_non))
              pss_nil)
          (pss_one (ps_expr (pe_bm PySem.F.plainAttrs_list PySem.F.slot_list_append PySem.F.type_list_append mt_append (pv 8) (pa_cons (pe_tup (pa_cons (pv 9) (pa_cons (pe_omt0 m_Tunnel_inside hr (by omega) (pv 5)) pa_nil))) pa_nil)))))))))
      (pss_cons (ps_expr (pe_bm PySem.F.plainAttrs_list PySem.F.slot_list_extend PySem.F.type_list_extend (mt_extL (K := K)) (pv 7) (pa_cons (pe_omt m_Tunnel_tick hr (by omega) (pv 5) (pa_cons pe_int pa_nil)) pa_nil)))
      (pss_one (ps_ret (pe_ifExp (pt_cmpR (ko_ne (K := K) hu64) (pe_omt0 m_Tunnel_inside hr (by omega) (pv 5)) (pe_lst pa_nil) (nomark _)) pe_non (pe_tup (pa_cons (pv 6) (pa_cons (pv 7) (pa_cons (pv 8) pa_nil))))))))))), ?_⟩
    have nlen : NL.length ≤ 40 := by
      have := nodup_leG (l := NL) (ts := List.range ps.length) nlN fun x hx => List.mem_range.mpr (ltN x hx)
      rw [List.length_range] at this
      have := ok.len
      omega
    refine ⟨_, rfl, nb, rfl, ⟨_, hN⟩, fun D nD => ?_⟩
    refine lc_it (walk_list (xs := NL.map natV)) (fun i Hx => ∃ us, Hx D = some (.lst us) ∧ Same H Hx ∧ us.length = i ∧ DpAll K Hx us ((NL.take i).map (cD ps))) ⟨[], upd_same, same_upd nD, rfl, .nil⟩ (fun i Hx _ h => by
      obtain ⟨us, hD, sx, _⟩ := h
      exact sx.seq hN) ?_ ?_
    · rintro i y Hx Hy hi ⟨us, hD, sx, lu, du⟩ ⟨rfl, gy⟩
      rw [List.getElem?_map] at gy
      obtain ⟨n, gn, rfl⟩ := Option.map_eq_some_iff.mp gy
      have hn := ltN n (List.mem_of_getElem? gn)
      refine ⟨rfl, tYes_at ?_⟩
      rw [if_pos rfl]
      obtain ⟨v0, gv⟩ : ∃ v0, xs[n]? = some v0 := ⟨_, List.getElem?_eq_getElem (by rw [dpAll_map_len da]; exact hn)⟩
      obtain ⟨pa, rfl, hpa, _, _⟩ := pcs_at da gv
      refine ⟨_, rfl, _, rfl, a, _, n, _, rfl, rfl, sx.seq hS, atI_nat gv, pa, _, 0, _, rfl, rfl, same_tup sx hpa, rfl, _, rfl, (by show 2 ≤ sizeLine; decide), fun pt npt => ?_⟩
      have pD : D ≠ pt := ne_of_none hD npt
      refine ⟨us, by rw [upd_ne pD]; exact hD, by rw [lu, sizeLine_eq]; rw [List.length_map] at hi; omega, us ++ [.ref pt], upd_same, ?_, by rw [List.length_append, lu]; rfl, ?_⟩
      · exact same_in (sx.trans (same_upd npt)) nD
      · have du2 := dpAll_app' (dpAll_same (same_upd (o := .tup [.int (ps.getD n pc0).1, .int (n : Nat)]) npt) du) (.cons (.tup (.inl (.inl upd_same)) (.cons (.int _) (.cons (.int _) .nil))) .nil)
        have e : (NL.take (i + 1)).map (cD ps) = (NL.take i).map (cD ps) ++ [cD ps n] := by rw [List.take_add_one, gn, List.map_append]; rfl
        rw [e]
        exact dp_nt (S := [D]) (sm_wr (by simp)) (ntp_lst (by rw [upd_ne pD]; exact hD)) (e ▸ cD_noL _) du2
    · rintro Hx ⟨us, hD, sx, lu, du⟩
      rw [List.length_map] at lu du
      rw [List.take_of_length_le (Nat.le_refl _)] at du
      refine ⟨D, us, _, rfl, SqL.of hD, du, cD_cmp, fun d hd => ?_, fun zs L dz nL => ?_⟩
      · obtain ⟨n, _, rfl⟩ := List.mem_map.mp hd
        show max 0 (max 0 0) + 1 ≤ 60
        decide
      rw [ordN_eq] at dz
      have hL : upd Hx L (.lst zs) L = some (.lst zs) := upd_same
      have s1 := sx.trans (same_upd (o := .lst zs) nL)
      have dz := dpAll_same (same_upd (o := .lst zs) nL) dz
      have nL0 : H L = none := sx.free nL
      generalize upd Hx L (.lst zs) = H1 at hL s1 dz ⊢
      clear hD sx lu du nL
      simp only [gName, List.set, L2.start]
      have lL : (ordN ps NL).length = NL.length := (ordN_perm ps NL).length_eq
      obtain ⟨L0, eL0⟩ : ∃ L0, L0 = ordN ps NL := ⟨_, rfl⟩
      rw [← eL0] at q dz lL
      have ltL : ∀ n ∈ L0, n < ps.length := fun n hn => ltN n ((ordN_perm ps NL).subset (eL0 ▸ hn))
      obtain ⟨h0, eh0⟩ : ∃ h0 : Int, h0 = (match L0.head? with | some p => cmF ps p | none => 0) := ⟨_, rfl⟩
      refine seq_mid (fun σ Hx => ∃ p hd G Z S v9 v10, σ = [some (.ref a), some (.int (sl : Nat)), some (.ref nb), none, some (.ref L), some (.ref p), some (.ref G), some (.ref Z), some (.ref S), v9, v10] ∧ Same H1 Hx ∧ TnAt C Hx p hd h0 (sl : Nat) [] ∧ H1 p = none ∧ H1 hd = none ∧ H1 G = none ∧ H1 Z = none ∧ H1 S = none ∧ Hx G = some (.dK []) ∧ Hx Z = some (.lst []) ∧ Hx S = some (.lst []) ∧ Z ≠ S ∧ hd ≠ p ∧ hd ≠ G) (fun N hN => ?_) (fun σ H2 h => ?_)
      · refine ⟨_, rfl, _, rfl, (by show 0 ≤ sizeLine; decide), fun E1 nE1 => ?_⟩
        have dE := dpAll_same (same_upd (o := .lst []) nE1) dz
        refine ⟨.list (L0.map (cD ps)), .list [], .lst (SqL.of ((same_upd nE1) _ _ hL)) dE, .lst (SqL.of upd_same) .nil, cD_shaped ok ltL, (by decide), _, rfl, ?_⟩
        have hz1 : upd H1 E1 (.lst []) L = some (.lst zs) := (same_upd nE1) _ _ hL
        have s2 := same_upd (o := .lst []) nE1
        generalize upd H1 E1 (.lst []) = H2 at dE hz1 s2 ⊢
        have ee : (!PyData.eqv (.list (L0.map (cD ps))) (.list [])) = decide (L0 ≠ []) := by
          cases L0 with
          | nil => rfl
          | cons x r => rfl
        rw [ee]
        have fin : ∀ (p hd : Addr) (H3 : Hp) (G Z S t : Addr), H2 p = none → Same H2 H3 → H2 hd = none → hd ≠ p → TnAt C H3 p hd h0 (sl : Nat) [] → H3 G = none → upd H3 G (.dK []) Z = none → upd (upd H3 G (.dK [])) Z (.lst []) S = none → upd (upd (upd H3 G (.dK [])) Z (.lst [])) S (.lst []) t = none → N [some (.ref a), some (.int (sl : Nat)), some (.ref nb), none, some (.ref L), some (.ref p), some (.ref G), some (.ref Z), some (.ref S), none, none] (upd (upd (upd (upd H3 G (.dK [])) Z (.lst [])) S (.lst [])) t (.tup [.ref p, .ref G, .ref Z, .ref S])) := by
          refine fun p hd H3 G Z S t np s3 nh nhp M3 nG nZ nS nt => hN _ _ ⟨p, hd, G, Z, S, none, none, rfl, ?_⟩
          have s4 := ((same_upd (o := .dK []) nG).trans (same_upd (o := .lst []) nZ)).trans ((same_upd (o := .lst []) nS).trans (same_upd (o := .tup [.ref p, .ref G, .ref Z, .ref S]) nt))
          have gG : upd H3 G (.dK []) G = some (.dK []) := upd_same
          have gZ : upd (upd H3 G (.dK [])) Z (.lst []) Z = some (.lst []) := upd_same
          have ZS : Z ≠ S := ne_of_none gZ nS
          obtain ⟨_, hp3⟩ := M3.ob
          refine ⟨s2.trans (s3.trans s4), M3.same s4, s2.free np, s2.free nh, s2.free (s3.free nG), s2.free (s3.free ((same_upd nG).free nZ)), s2.free (s3.free ((same_upd nG).free ((same_upd nZ).free nS))), ?_, ?_, ?_, ZS, nhp, ne_of_none M3.di nG⟩
          · exact ((same_upd nZ).trans ((same_upd nS).trans (same_upd nt))) _ _ gG
          · exact ((same_upd nS).trans (same_upd nt)) _ _ gZ
          · exact (same_upd nt) _ _ upd_same
        by_cases c0 : L0 = []
        · rw [decide_eq_false (by simp [c0])]
          have e0 : h0 = 0 := by rw [eh0, c0]; rfl
          refine iteF ?_
          rw [← e0]
          exact fun p dx np ndx dne => ⟨H2, p, dx, (sl : Nat), h0, rfl, ins_new np ndx, np, upd_same, fun H3 hd s3 nh nhp M3 => ⟨rfl, fun G nG => ⟨Nat.zero_le _, fun Z nZ => ⟨Nat.zero_le _, fun S nS => ⟨(by show 4 ≤ sizeLine; decide), fun t nt => ⟨t, _, rfl, .inl (.inl upd_same), rfl, _, _, rfl, _, _, rfl, _, _, rfl, _, _, rfl, rfl, fin p hd H3 G Z S t np s3 nh nhp M3 nG nZ nS nt⟩⟩⟩⟩⟩⟩
        · rw [decide_eq_true (by simpa using c0)]
          obtain ⟨p0, r0, er⟩ := List.exists_cons_of_ne_nil c0
          have e0 : h0 = cmF ps p0 := by rw [eh0, er]; rfl
          have lz : zs.length = L0.length := dpAll_map_len dE
          obtain ⟨z0, gz0⟩ : ∃ z0, zs[0]? = some z0 := ⟨_, List.getElem?_eq_getElem (by rw [lz, er]; exact Nat.succ_pos _)⟩
          obtain ⟨d0, gd0, dz0⟩ := dpAll_at dE gz0
          rw [List.getElem?_map, er] at gd0
          obtain rfl := Option.some.inj gd0
          obtain ⟨pa, rfl, hpa⟩ := cD_dp dz0
          refine iteT ⟨_, rfl, L, _, (0 : Nat), _, rfl, rfl, SqL.of hz1, atI_nat gz0, pa, _, 0, _, rfl, rfl, hpa, rfl, ?_⟩
          rw [← e0]
          exact fun p dx np ndx dne => ⟨H2, p, dx, (sl : Nat), h0, rfl, ins_new np ndx, np, upd_same, fun H3 hd s3 nh nhp M3 => ⟨rfl, fun G nG => ⟨Nat.zero_le _, fun Z nZ => ⟨Nat.zero_le _, fun S nS => ⟨(by show 4 ≤ sizeLine; decide), fun t nt => ⟨t, _, rfl, .inl (.inl upd_same), rfl, _, _, rfl, _, _, rfl, _, _, rfl, _, _, rfl, rfl, fin p hd H3 G Z S t np s3 nh nhp M3 nG nZ nS nt⟩⟩⟩⟩⟩⟩
      · obtain ⟨p, hd, G, Z, S, v9, v10, rfl, s2, M2, np, nh, nG, nZ, nS, hG, hZ, hS2, ZS, hdp, hdG⟩ := h
        have nlz : zs.length = L0.length := dpAll_map_len dz
        have l40 : L0.length ≤ 40 := by omega
        have ndL : L0.Nodup := by rw [eL0]; exact (ordN_perm ps NL).nodup_iff.mpr nlN
        refine seq_mid (fun σ Hx => ∃ v3 hd hr es v9 v10 us vs, σ = [some (.ref a), some (.int (sl : Nat)), some (.ref nb), v3, some (.ref L), some (.ref p), some (.ref G), some (.ref Z), some (.ref S), v9, v10] ∧ Same H1 Hx ∧ TnAt C Hx p hd hr (sl : Nat) es ∧ H1 hd = none ∧ hd ≠ G ∧ Al ps es (runT ps (sl : Nat) L0).ins ∧ hr = (match L0.getLast? with | some p => cmF ps p | none => 0) ∧ Hx G = some (.dK (gotK (runT ps (sl : Nat) L0).got)) ∧ Hx Z = some (.lst us) ∧ DpAll K Hx us ((runT ps (sl : Nat) L0).gone.map (gD ps)) ∧ us.length ≤ 2400 ∧ Hx S = some (.lst vs) ∧ SeenAt K [Z, S] Hx ps (sl : Nat) L0 L0.length vs) (fun N hN => ?_) (fun σ H3 h => ?_)
        · refine ⟨_, rfl, L, rfl, ⟨_, SqL.of (s2 _ _ hL)⟩, ?_⟩
          refine for_it (walk_list (xs := zs)) (fun i σ Hx => ∃ v3 hd hr es v9 v10 us vs, σ = [some (.ref a), some (.int (sl : Nat)), some (.ref nb), v3, some (.ref L), some (.ref p), some (.ref G), some (.ref Z), some (.ref S), v9, v10] ∧ Same H1 Hx ∧ TnAt C Hx p hd hr (sl : Nat) es ∧ H1 hd = none ∧ hd ≠ G ∧ Al ps es (runT ps (sl : Nat) (L0.take i)).ins ∧ (0 < i → ∃ p, L0[i - 1]? = some p ∧ hr = cmF ps p) ∧ (i = 0 → hr = h0) ∧ Hx G = some (.dK (gotK (runT ps (sl : Nat) (L0.take i)).got)) ∧ Hx Z = some (.lst us) ∧ DpAll K Hx us ((runT ps (sl : Nat) (L0.take i)).gone.map (gD ps)) ∧ us.length ≤ 60 * i ∧ Hx S = some (.lst vs) ∧ SeenAt K [Z, S] Hx ps (sl : Nat) L0 i vs) ?_ ?_ ?_ ?_
          · refine ⟨none, hd, h0, [], v9, v10, [], [], rfl, s2, M2, nh, hdG, Al.nil, fun z => absurd z (Nat.lt_irrefl _), fun _ => rfl, hG, hZ, .nil, Nat.le_refl _, hS2, rfl, fun j _ z => absurd z (Nat.not_lt_zero _)⟩
          · rintro i σ Hx _ ⟨_, _, _, _, _, _, _, _, _, sx, _⟩
            exact sx.seq (SqL.of hL)
          · rintro i y σ Hx Hy hi ⟨v3, hd, hr, es, v9, v10, us, vs, rfl, sx, M, nh, hdG, al, hr1, hr0, hG, hZ, dZ, lu, hS3, se⟩ ⟨rfl, gy⟩
            rw [nlz] at hi
            obtain ⟨d1, gd1, dy⟩ := dpAll_at dz gy
            rw [List.getElem?_map] at gd1
            obtain ⟨n, gn, rfl⟩ := Option.map_eq_some_iff.mp gd1
            obtain ⟨pa, rfl, hpa⟩ := cD_dp dy
            have hn := ltL n (List.mem_of_getElem? gn)
            have el : es.length ≤ 60 := by
              have := nodup_leG (l := slotsF es) (ts := List.range 60) M.nd fun x hx => List.mem_range.mpr (by
                obtain ⟨e, he, rfl⟩ := List.mem_map.mp hx
                have := M.lt e he
                omega)
              rw [List.length_range] at this
              unfold slotsF at this
              rw [List.length_map] at this
              omega
            obtain ⟨dp, hp⟩ := M.ob
            have lt1 : (tnF hd hr (sl : Nat)).lookup ("tick" : Str) = none := tf_no (by decide +kernel) (by decide +kernel) (by decide +kernel)
            have lt2 : (tnF hd hr (sl : Nat)).lookup ("now" : Str) = none := tf_no (by decide +kernel) (by decide +kernel) (by decide +kernel)
            refine ⟨pa, _, rfl, same_tup sx hpa, rfl, _, _, rfl, _, _, rfl, rfl, ?_⟩
            simp only [gName, List.set]
            refine ⟨_, rfl, .inl ⟨rfl, _, SqL.of hZ⟩, _, rfl, p, dp, _, rfl, hp, lt1, _, rfl, _, rfl, p, dp, _, rfl, hp, lt2, p, hd, hr, _, es, rfl, M, _, _, rfl, rfl, ?_⟩
            have ez : hr + (cmF ps n - hr) = cmF ps n := by omega
            refine ⟨p, hd, hr, (sl : Nat), _, es, rfl, M, by omega, fun H4 hd4 R4 us4 s4 nh4 M4 nR4 hR4 d4 => ?_⟩
            rw [ez] at M4 d4
            rw [al.go] at d4
            have ntp : ∀ us, Hy p ≠ some (.tup us) := fun us z => by rw [hp] at z; cases z
            have nZp : Z ≠ p := fun z => by rw [z, hp] at hZ; cases hZ
            have nSp : S ≠ p := fun z => by rw [z, hp] at hS3; cases hS3
            have nGp : G ≠ p := fun z => by rw [z, hp] at hG; cases hG
            have hZ4 := sm_at s4 (by simp [nZp]) hZ
            have hS4 := sm_at s4 (by simp [nSp]) hS3
            have hG4 := sm_at s4 (by simp [nGp]) hG
            have l4 : us4.length ≤ 60 := by
              rw [dpAll_map_len d4]
              unfold goesF
              rw [List.length_mergeSort]
              refine Nat.le_trans (List.length_filter_le _ _) ?_
              rw [← al.len]
              exact el
            refine ⟨Z, R4, us, us4, rfl, rfl, hZ4, SqL.of hR4, by rw [sizeLine_eq]; omega, ?_⟩
            have s5 : Sm [p, Z] Hy (upd H4 Z (.lst (us ++ us4))) := (sm_mono (by simp) s4).trans (sm_wr (by simp))
            have Mo4 := M4.ob
            have hdp4 : hd4 ≠ p := fun z => by rw [z, hp] at nh4; cases nh4
            have hdZ4 : hd4 ≠ Z := fun z => by rw [z, hZ] at nh4; cases nh4
            have hdS4 : hd4 ≠ S := fun z => by rw [z, hS3] at nh4; cases nh4
            have hdG4 : hd4 ≠ G := fun z => by rw [z, hG] at nh4; cases nh4
            have ZG : Z ≠ G := fun z => by rw [z, hG] at hZ; cases hZ
            have SG : S ≠ G := fun z => by rw [z, hG] at hS3; cases hS3
            have M5 := tn_wr (o := .lst (us ++ us4)) M4 nZp hdZ4.symm fun us z => by rw [hZ4] at z; cases z
            have hZ5 : upd H4 Z (.lst (us ++ us4)) Z = some (.lst (us ++ us4)) := upd_same
            have hG5 := (upd_ne (H := H4) (o := .lst (us ++ us4)) ZG.symm).trans hG4
            have hS5 := (upd_ne (H := H4) (o := .lst (us ++ us4)) ZS.symm).trans hS4
            have nt2 : NoTp [p] Hy := fun x hx ob e => by
              rw [List.mem_singleton.mp hx, hp] at e
              obtain rfl := Option.some.inj e
              exact ⟨fun _ z => (by cases z), fun _ _ z => (by cases z)⟩
            have d5 : DpAll K (upd H4 Z (.lst (us ++ us4))) (us ++ us4) (((runT ps (sl : Nat) (L0.take i)).gone ++ goesF ps (runT ps (sl : Nat) (L0.take i)).ins (cmF ps n)).map (gD ps)) := by
              have x1 := dp_nt s4 nt2 (gD_noL _) dZ
              have x2 := dpAll_app' x1 (dpAll_same off_sub d4)
              rw [← List.map_append] at x2
              exact dp_nt (S := [Z]) (sm_wr (by simp)) (ntp_lst hZ4) (gD_noL _) x2
            have se5 : SeenAt K [Z, S] (upd H4 Z (.lst (us ++ us4))) ps (sl : Nat) L0 i vs := (se.sm s4 nt2 fun x hx => .inr fun us z => by rw [List.mem_singleton.mp hx, hp] at z; cases z).sm (W := [Z]) (sm_wr (by simp)) (ntp_lst hZ4) fun x hx => .inl (by rw [List.mem_singleton.mp hx]; simp)
            have l5 : (us ++ us4).length ≤ 60 * (i + 1) := by rw [List.length_append]; omega
            have al5 := al.stay (cmF ps n)
            have el5 : (stay es (cmF ps n)).length ≤ 60 := Nat.le_trans (List.length_filter_le _ _) el
            have sx5 : Same H1 (upd H4 Z (.lst (us ++ us4))) := fun b o e => by
              have e1 := sx _ _ e
              exact sm_at s5 (fun z => by
                rcases List.mem_cons.mp z with rfl | z
                · rw [np] at e; cases e
                · rw [List.mem_singleton.mp z, nZ] at e; cases e) e1
            have nh41 : H1 hd4 = none := sx.free nh4
            generalize upd H4 Z (.lst (us ++ us4)) = H5 at s5 M5 hZ5 hG5 hS5 d5 se5 sx5 ⊢
            generalize us ++ us4 = uz at hZ5 d5 l5 ⊢
            clear s4 nR4 hR4 d4 hZ4 hS4 hG4 M4 M dZ hZ se hG hS3 nt2 Mo4
            obtain ⟨dp5, hp5⟩ := M5.ob
            refine ⟨_, rfl, p, dp5, _, rfl, hp5, p, hd4, _, _, _, rfl, M5, _, rfl, Nat.lt_of_le_of_lt el5 (by decide), ?_⟩
            simp only [gName, List.set]
            obtain ⟨es5, ees⟩ : ∃ es5, es5 = stay es (cmF ps n) := ⟨_, rfl⟩
            rw [← ees] at M5 al5 el5 ⊢
            have hn40 : n < 40 := by have := ok.len; omega
            have rk := run_keys ps (sl : Nat) (L0.take i)
            have ro := runT_one (sl := (sl : Nat)) gn (ps := ps)
            have nin : n ∉ (runT ps (sl : Nat) (L0.take i)).got.map (·.1) := by
              rw [rk]
              intro z
              obtain ⟨j, hj, ej⟩ := List.getElem_of_mem z
              rw [List.length_take] at hj
              rw [List.getElem_take] at ej
              have e2 : L0[j]? = L0[i]? := by rw [gn, List.getElem?_eq_getElem (by omega), ej]
              have := (List.getElem?_inj (by omega) ndL).mp e2
              omega
            have hsl := al5.slots
            have ndI : ((staysF ps (runT ps (sl : Nat) (L0.take i)).ins (cmF ps n)).map (·.2)).Nodup := hsl ▸ M5.nd
            have full := mex_full (ts := slotsF es5) (sl := (sl : Nat)) M5.nd (fun t ht => by
              obtain ⟨e, he, rfl⟩ := List.mem_map.mp ht
              exact M5.lt e he) (by omega)
            have le5 : (slotsF es5).length = es5.length := by unfold slotsF; rw [List.length_map]
            rw [le5] at full
            obtain ⟨v0, gv⟩ : ∃ v0, xs[n]? = some v0 := ⟨_, List.getElem?_eq_getElem (by rw [dpAll_map_len da]; exact hn)⟩
            obtain ⟨qa, rfl, hqa, _, _⟩ := pcs_at da gv
            have gl := congrArg List.length rk
            rw [List.length_map, List.length_take] at gl
            obtain ⟨R0, eR0⟩ : ∃ R0, R0 = runT ps (sl : Nat) (L0.take i) := ⟨_, rfl⟩
            obtain ⟨R, eR⟩ : ∃ R, R = runT ps (sl : Nat) (L0.take (i + 1)) := ⟨_, rfl⟩
            rw [← eR, ← eR0] at ro
            rw [← eR0] at al5 nin hsl ndI hG5 d5 gl
            unfold stepT at ro
            dsimp only at ro
            rw [← hsl] at ro
            have put : ∀ (H6 : Hp) (o : Option Nat), Sm [hd4] H5 H6 → DPut H6 G (.int (n : Nat)) (optN o) (upd H6 G (.dK (gotK (R0.got ++ [(n, o)])))) := fun H6 o s6 => by
              have := DPut.k (k := .inl ((n : Nat) : Int)) (v := optN o) (sm_at s6 (by simp [hdG4.symm]) hG5) (by unfold gotK; rw [List.length_map, gl, sizeLine_eq]; omega)
              rw [gotK_put nin] at this
              exact this
            refine seq_mid (fun σ Hx => ∃ es8 o, σ = [some (.ref a), some (.int (sl : Nat)), some (.ref nb), some (.int (n : Nat)), some (.ref L), some (.ref p), some (.ref G), some (.ref Z), some (.ref S), some (.int (cmF ps n)), some (.int (es5.length : Nat))] ∧ Sm [hd4, G] H5 Hx ∧ TnAt C Hx p hd4 (cmF ps n) (sl : Nat) es8 ∧ es8.length ≤ 61 ∧ Al ps es8 R.ins ∧ Hx G = some (.dK (gotK R.got)) ∧ (n, o) ∈ R.got ∧ (o = none ↔ ((es5.length : Nat) : Int) = (sl : Nat)) ∧ R.gone = R0.gone ++ goesF ps R0.ins (cmF ps n)) (fun N hN => ?_) (fun σ H6 h => ?_)
            · refine ⟨_, rfl, _, rfl, n, rfl, hn40, _, rfl, _, rfl, a, _, n, _, rfl, rfl, (s1.trans sx5).seq hS, atI_nat gv, qa, _, 1, _, rfl, rfl, same_tup (s1.trans sx5) hqa, rfl, p, hd4, cmF ps n, (sl : Nat), es5, nmN n, _, rfl, M5, by omega, by omega, fun c H6 t s6 nt6 M6 => ?_, fun c H6 s6 => ?_⟩
              · refine ⟨_, rfl, _, rfl, G, _, rfl, put H6 (some (mexF (slotsF es5))) s6, hN _ _ ⟨_, some (mexF (slotsF es5)), rfl, (sm_mono (by simp) s6).trans (sm_wr (by simp)), tn_wr M6 nGp hdG4.symm (fun us z => by rw [sm_at s6 (by simp [hdG4.symm]) hG5] at z; cases z), ?_⟩⟩
                rw [if_pos c] at ro
                refine ⟨by rw [List.length_append]; show _ + 1 ≤ _; omega, ?_, ?_, ?_, ⟨fun z => (by cases z), fun z => ?_⟩, ?_⟩
                · rw [ro]; exact al5.snoc
                · rw [ro]; exact upd_same
                · rw [ro]; exact List.mem_append_right _ List.mem_cons_self
                · have := full.mpr z; omega
                · rw [ro]
              · have s6' : Sm [hd4] H5 H6 := sm_of s6
                refine ⟨_, rfl, _, rfl, G, _, rfl, put H6 none s6', hN _ _ ⟨_, none, rfl, (sm_of s6).trans (sm_wr (by simp)), tn_wr (M5.same s6) nGp hdG4.symm (fun us z => by rw [s6 _ _ hG5] at z; cases z), ?_⟩⟩
                rw [if_neg (by omega)] at ro
                refine ⟨by omega, ?_, ?_, ?_, ⟨fun _ => full.mp c, fun _ => rfl⟩, ?_⟩
                · rw [ro]; exact al5
                · rw [ro]; exact upd_same
                · rw [ro]; exact List.mem_append_right _ List.mem_cons_self
                · rw [ro]
            · obtain ⟨es8, o, rfl, s6, M6, l8, al8, hG6, mo, oi, gone⟩ := h
              have rk2 := run_keys ps (sl : Nat) (L0.take (i + 1))
              rw [← eR] at rk2
              have ndR : (R.got.map (·.1)).Nodup := by rw [rk2]; exact ndL.sublist (List.take_sublist _ _)
              have dg : DGet H6 G (.int (n : Nat)) (some (optN o)) := by
                have := DGet.k (k := .inl ((n : Nat) : Int)) hG6
                rw [gotK_get ndR mo] at this
                exact this
              have test : (!decide (V.bl (decide (optN o = V.non)) = V.bl (decide (V.int ((es5.length : Nat) : Int) = V.int (sl : Nat))))) = false := by
                have e1 : (optN o = V.non) ↔ o = none := by
                  cases o with
                  | none => exact ⟨fun _ => rfl, fun _ => rfl⟩
                  | some x => exact ⟨fun z => (by cases z), fun z => (by cases z)⟩
                have e2 : (V.int ((es5.length : Nat) : Int) = V.int (sl : Nat)) ↔ ((es5.length : Nat) : Int) = (sl : Nat) := ⟨fun z => V.int.inj z, fun z => by rw [z]⟩
                have e3 : decide (optN o = V.non) = decide (V.int ((es5.length : Nat) : Int) = V.int (sl : Nat)) := decide_eq_decide.mpr (e1.trans (oi.trans e2.symm))
                rw [e3]
                simp
              refine ⟨_, rfl, _, rfl, G, optN o, rfl, dg, rfl, _, rfl, _, rfl, rfl, rfl, _, rfl, ?_⟩
              rw [test]
              refine iteF ?_
              obtain ⟨dp6, hp6⟩ := M6.ob
              have hS6 := sm_at s6 (by simp [hdS4.symm, SG]) hS5
              have lt3 : (tnF hd4 (cmF ps n) (sl : Nat)).lookup ("inside" : Str) = none := tf_no (by decide +kernel) (by decide +kernel) (by decide +kernel)
              refine ⟨_, rfl, .inl ⟨rfl, _, SqL.of hS6⟩, _, rfl, _, rfl, p, dp6, _, rfl, hp6, lt3, p, hd4, cmF ps n, (sl : Nat), es8, rfl, M6, by omega, fun H7 R7 us7 s7 n7 h7 d7 => ⟨(by show 2 ≤ sizeLine; decide), fun tp ntp => ?_⟩⟩
              have lv : vs.length = i := se5.1
              have s67 := s7.trans (same_upd (o := .tup [.int (cmF ps n), .ref R7]) ntp)
              refine ⟨S, vs, _, rfl, rfl, s67 _ _ hS6, by rw [lv, sizeLine_eq]; omega, ?_⟩
              rw [al8.ins] at d7
              have nt56 : NoTp [hd4, G] H5 := fun x hx ob e => by
                rcases List.mem_cons.mp hx with rfl | hx
                · rw [M5.di] at e
                  obtain rfl := Option.some.inj e
                  exact ⟨fun _ z => (by cases z), fun _ _ z => (by cases z)⟩
                · rw [List.mem_singleton.mp hx, hG5] at e
                  obtain rfl := Option.some.inj e
                  exact ⟨fun _ z => (by cases z), fun _ _ z => (by cases z)⟩
              have hZ6 := sm_at s6 (by simp [hdZ4.symm, ZG]) hZ5
              have hS8 := s67 _ _ hS6
              have tpS : tp ≠ S := fun z => by rw [z, s7 _ _ hS6] at ntp; cases ntp
              have R7S : R7 ≠ S := fun z => by rw [z, hS6] at n7; cases n7
              have R7Z : R7 ≠ Z := fun z => by rw [z, hZ6] at n7; cases n7
              have hR8 := (same_upd (o := .tup [.int (cmF ps n), .ref R7]) ntp) _ _ h7
              have dR8 := dpAll_same (same_upd (o := .tup [.int (cmF ps n), .ref R7]) ntp) (dpAll_same off_sub d7)
              have ht8 : upd H7 tp (.tup [.int (cmF ps n), .ref R7]) tp = some (.tup [.int (cmF ps n), .ref R7]) := upd_same
              generalize upd H7 tp (.tup [.int (cmF ps n), .ref R7]) = H8 at s67 hS8 hR8 dR8 ht8 ⊢
              rw [← eR]
              have d8 := dpAll_same s67 (dp_nt s6 nt56 (gD_noL _) d5)
              rw [← gone] at d8
              have se8 := ((se5.sm s6 nt56 fun x hx => .inr fun us z => by
                rcases List.mem_cons.mp hx with rfl | hx
                · rw [M5.di] at z; cases z
                · rw [List.mem_singleton.mp hx, hG5] at z; cases z).sm (W := []) (sm_of s67) (fun x hx => absurd hx List.not_mem_nil) fun x hx => absurd hx List.not_mem_nil).sm (W := [S]) (sm_wr (p := S) (o := .lst (vs ++ [.ref tp])) (by simp)) (ntp_lst hS8) fun x hx => .inl (by rw [List.mem_singleton.mp hx]; simp)
              refine ⟨_, hd4, cmF ps n, es8, _, _, uz, vs ++ [.ref tp], rfl, fun b o e => ?_, tn_wr (M6.same s67) nSp hdS4.symm (fun us z => by rw [hS8] at z; cases z), nh41, hdG4, al8, fun _ => ⟨n, gn, rfl⟩, fun z => absurd z (Nat.succ_ne_zero _), (upd_ne SG.symm).trans (s67 _ _ hG6), (upd_ne ZS).trans (s67 _ _ hZ6), dp_nt (S := [S]) (sm_wr (by simp)) (ntp_lst hS8) (gD_noL _) d8, l5, upd_same, ?_⟩
              · have bS : b ≠ S := ne_of_none e nS
                rw [upd_ne bS]
                have b1 : b ≠ hd4 := ne_of_none e nh41
                have b2 : b ≠ G := ne_of_none e nG
                exact s67 _ _ (sm_at s6 (by simp [b1, b2]) (sx5 _ _ e))
              · refine se8.snoc gn ((upd_ne tpS).trans ht8) ((upd_ne R7S).trans hR8) (by simp [R7Z, R7S]) ?_
                rw [← eR]
                exact dp_nt (S := [S]) (sm_wr (by simp)) (ntp_lst hS8) (iD_noL _) dR8
          · rintro σ Hx ⟨v3, hd, hr, es, v9, v10, us, vs, rfl, sx, M, nh, hdG, al, hr1, hr0, hG, hZ, dZ, lu, hS3, se⟩
            rw [nlz] at al hr1 hr0 hG dZ lu se
            rw [List.take_of_length_le (Nat.le_refl _)] at al hG dZ
            refine hN _ _ ⟨v3, hd, hr, es, v9, v10, us, vs, rfl, sx, M, nh, hdG, al, ?_, hG, hZ, dZ, by omega, hS3, se⟩
            cases e : L0.getLast? with
            | none =>
              obtain rfl := List.getLast?_eq_none_iff.mp e
              rw [hr0 rfl, eh0]; rfl
            | some q =>
              have l0 : 0 < L0.length := by
                cases L0 with
                | nil => cases e
                | cons x r => exact Nat.succ_pos _
              obtain ⟨q2, g2, e2⟩ := hr1 l0
              rw [List.getLast?_eq_getElem?, g2] at e
              rw [e2, Option.some.inj e]
        · obtain ⟨v3, hd, hr, es, v9, v10, us, vs, rfl, sx, M, nh, hdG, al, ehr, hG, hZ, dZ, lu, hS3, se⟩ := h
          obtain ⟨dp, hp⟩ := M.ob
          have lt1 : (tnF hd hr (sl : Nat)).lookup ("tick" : Str) = none := tf_no (by decide +kernel) (by decide +kernel) (by decide +kernel)
          have el : es.length ≤ 60 := by
            have := nodup_leG (l := slotsF es) (ts := List.range 60) M.nd fun x hx => List.mem_range.mpr (by
              obtain ⟨e, he, rfl⟩ := List.mem_map.mp hx
              have := M.lt e he
              omega)
            rw [List.length_range] at this
            unfold slotsF at this
            rw [List.length_map] at this
            omega
          have pwL : L0.Pairwise (RO ps) := by rw [eL0]; exact ordN_RO nlN
          have alz := al.stay (hr + 99)
          have none_ : staysF ps (runT ps (sl : Nat) L0).ins (hr + 99) = [] := by
            refine List.filter_eq_nil_iff.mpr fun q hq => ?_
            have m1 := ins_mem q hq
            have m2 := ltL _ m1
            have := ok.each (ps.getD q.1 pc0) (by rw [List.getD_eq_getElem?_getD, List.getElem?_eq_getElem m2]; exact List.getElem_mem m2)
            cases e : L0.getLast? with
            | none =>
              obtain rfl := List.getLast?_eq_none_iff.mp e
              exact absurd m1 List.not_mem_nil
            | some z =>
              rw [e] at ehr
              have h1 := last_ge pwL e _ m1
              have ehr : hr = cmF ps z := ehr
              rw [decide_eq_true_eq]
              unfold outF
              unfold cmF at h1 ehr
              omega
          rw [none_] at alz
          have es0 : stay es (hr + 99) = [] := List.eq_nil_of_length_eq_zero alz.len
          have ntp : NoTp [p] H3 := fun x hx ob e => by
            rw [List.mem_singleton.mp hx, hp] at e
            obtain rfl := Option.some.inj e
            exact ⟨fun _ z => (by cases z), fun _ _ z => (by cases z)⟩
          have nZp : Z ≠ p := fun z => by rw [z, hp] at hZ; cases hZ
          have nSp : S ≠ p := fun z => by rw [z, hp] at hS3; cases hS3
          have nGp : G ≠ p := fun z => by rw [z, hp] at hG; cases hG
          refine ⟨_, rfl, .inl ⟨rfl, _, SqL.of hZ⟩, _, rfl, p, dp, _, rfl, hp, lt1, p, hd, hr, (sl : Nat), _, es, rfl, M, by omega, fun H4 hd4 R4 us4 s4 nh4 M4 nR4 hR4 d4 => ?_⟩
          rw [al.go] at d4
          rw [es0] at M4
          have l4 : us4.length ≤ 60 := by
            rw [dpAll_map_len d4]
            unfold goesF
            rw [List.length_mergeSort]
            refine Nat.le_trans (List.length_filter_le _ _) ?_
            rw [← al.len]
            exact el
          have hZ4 := sm_at s4 (by simp [nZp]) hZ
          have hS4 := sm_at s4 (by simp [nSp]) hS3
          have hG4 := sm_at s4 (by simp [nGp]) hG
          have hdZ4 : hd4 ≠ Z := fun z => by rw [z, hZ] at nh4; cases nh4
          refine ⟨Z, R4, us, us4, rfl, rfl, hZ4, SqL.of hR4, by rw [sizeLine_eq]; omega, ?_⟩
          have M5 := tn_wr (o := .lst (us ++ us4)) M4 nZp hdZ4.symm fun us z => by rw [hZ4] at z; cases z
          have hZ5 : upd H4 Z (.lst (us ++ us4)) Z = some (.lst (us ++ us4)) := upd_same
          have ZG : Z ≠ G := fun z => by rw [z, hG] at hZ; cases hZ
          have hG5 := (upd_ne (H := H4) (o := .lst (us ++ us4)) ZG.symm).trans hG4
          have hS5 := (upd_ne (H := H4) (o := .lst (us ++ us4)) ZS.symm).trans hS4
          have d5 : DpAll K (upd H4 Z (.lst (us ++ us4))) (us ++ us4) ((goneA ps (sl : Nat) L0).map (gD ps)) := by
            have x1 := dp_nt s4 ntp (gD_noL _) dZ
            have x2 := dpAll_app' x1 (dpAll_same off_sub d4)
            rw [← List.map_append] at x2
            have x3 := dp_nt (S := [Z]) (sm_wr (by simp)) (ntp_lst hZ4) (gD_noL _) x2 (H' := upd H4 Z (.lst (us ++ us4)))
            have e : goneA ps (sl : Nat) L0 = (runT ps (sl : Nat) L0).gone ++ goesF ps (runT ps (sl : Nat) L0).ins (hr + 99) := by
              unfold goneA
              rw [ehr]
              cases L0.getLast? with
              | none => rfl
              | some z => rfl
            rw [e]
            exact x3
          have se5 : SeenAt K [Z, S] (upd H4 Z (.lst (us ++ us4))) ps (sl : Nat) L0 L0.length vs := (se.sm s4 ntp fun x hx => .inr fun us z => by rw [List.mem_singleton.mp hx, hp] at z; cases z).sm (W := [Z]) (sm_wr (by simp)) (ntp_lst hZ4) fun x hx => .inl (by rw [List.mem_singleton.mp hx]; simp)
          have sx5 : Same H1 (upd H4 Z (.lst (us ++ us4))) := fun b o e => by
            have e1 := sx _ _ e
            have b1 : b ≠ p := ne_of_none e np
            have b2 : b ≠ Z := ne_of_none e nZ
            rw [upd_ne b2]
            exact sm_at s4 (by simp [b1]) e1
          generalize upd H4 Z (.lst (us ++ us4)) = H5 at M5 hZ5 hG5 hS5 d5 se5 sx5 ⊢
          generalize us ++ us4 = uz at hZ5 d5 ⊢
          obtain ⟨dp5, hp5⟩ := M5.ob
          have lt2 : (tnF hd4 (hr + 99) (sl : Nat)).lookup ("inside" : Str) = none := tf_no (by decide +kernel) (by decide +kernel) (by decide +kernel)
          refine ⟨_, rfl, p, dp5, _, rfl, hp5, lt2, p, hd4, _, (sl : Nat), [], rfl, M5, Nat.zero_le _, fun H7 R7 us7 s7 n7 h7 d7 => ?_⟩
          have d7 : DpAll K (off H7 [R7]) us7 [] := by
            have : (([] : List En).mergeSort (PySem.W.dataLe false fun e => inD e (hr + 99))) = [] := List.mergeSort_nil
            rw [this] at d7
            exact d7
          refine ⟨Nat.zero_le _, fun E1 nE1 => ⟨.list [], .list [], .lst (SqL.of ((same_upd nE1) _ _ h7)) (by cases d7; exact .nil), .lst (SqL.of upd_same) .nil, (by decide), (by decide), _, rfl, iteF ⟨_, rfl, _, rfl, _, rfl, (by show 3 ≤ sizeLine; decide), fun t nt => ?_⟩⟩⟩
          have s9 := s7.trans ((same_upd (o := .lst []) nE1).trans (same_upd (o := .tup [.ref G, .ref Z, .ref S]) nt))
          have ht : upd (upd H7 E1 (.lst [])) t (.tup [.ref G, .ref Z, .ref S]) t = some (.tup [.ref G, .ref Z, .ref S]) := upd_same
          generalize upd (upd H7 E1 (.lst [])) t (.tup [.ref G, .ref Z, .ref S]) = H9 at s9 ht ⊢
          refine q H9 t G Z S uz vs (s1.trans (sx5.trans s9)) ht (s1.free nG) (s1.free nZ) (s1.free nS) (s9 _ _ hG5) (s9 _ _ hZ5) (dpAll_same s9 d5) (s9 _ _ hS5) ?_
          rw [← lL]
          exact se5.sm (W := []) (sm_of s9) (fun x hx => absurd hx List.not_mem_nil) fun x hx => absurd hx List.not_mem_nil

end
end Pot

namespace Pot
open PySem PySem.Spec PyProof.Rows L2
section
variable {P : Program} {w : World} {K : PySem.W.Frag} {mg : Str → Option Value} {base : Heap}
def somesF (l : List (Nat × Option Nat)) : List (Nat × Nat) := l.filterMap fun q => q.2.map fun j => (q.1, j)
theorem somesF_app (l m : List (Nat × Option Nat)) : somesF (l ++ m) = somesF l ++ somesF m := List.filterMap_append ..
def outR (ps : List Pc) (l : List (Nat × Nat)) : List (Nat × Nat) := l.mergeSort (PySem.W.dataLe false (gD ps))
theorem outR_eq (ps : List Pc) (l : List (Nat × Nat)) : (l.map (gD ps)).mergeSort (PySem.W.dataLe false fun d => d) = (outR ps l).map (gD ps) := (List.map_mergeSort (r := PySem.W.dataLe false (gD ps)) (s := PySem.W.dataLe false fun d => d) (f := gD ps) fun _ _ _ _ => rfl).symm
theorem gD_cmp {ps : List Pc} {ns : List (Nat × Nat)} : RowsCmp (ns.map (gD ps)) := by
  refine ⟨fun d hd => ?_, fun x r x2 r2 h1 h2 => ?_, fun xs ys h1 h2 => ?_⟩
  · obtain ⟨c, _, rfl⟩ := List.mem_map.mp hd
    exact ⟨_, _, rfl⟩
  · obtain ⟨c, _, e⟩ := List.mem_map.mp h1
    obtain ⟨c2, _, e2⟩ := List.mem_map.mp h2
    obtain ⟨rfl, _⟩ := List.cons.inj (PyData.tuple.inj e)
    obtain ⟨rfl, _⟩ := List.cons.inj (PyData.tuple.inj e2)
    rfl
  · obtain ⟨c, _, e⟩ := List.mem_map.mp h1
    obtain ⟨c2, _, e2⟩ := List.mem_map.mp h2
    cases PyData.tuple.inj e
    cases PyData.tuple.inj e2
    simp [okCmp, PySem.W.alike]
theorem iD_cmp {ps : List Pc} {z : Int} {ns : List (Nat × Nat)} : RowsCmp (ns.map (iD ps z)) := by
  refine ⟨fun d hd => ?_, fun x r x2 r2 h1 h2 => ?_, fun xs ys h1 h2 => ?_⟩
  · obtain ⟨c, _, rfl⟩ := List.mem_map.mp hd
    exact ⟨_, _, rfl⟩
  · obtain ⟨c, _, e⟩ := List.mem_map.mp h1
    obtain ⟨c2, _, e2⟩ := List.mem_map.mp h2
    obtain ⟨rfl, _⟩ := List.cons.inj (PyData.tuple.inj e)
    obtain ⟨rfl, _⟩ := List.cons.inj (PyData.tuple.inj e2)
    rfl
  · obtain ⟨c, _, e⟩ := List.mem_map.mp h1
    obtain ⟨c2, _, e2⟩ := List.mem_map.mp h2
    cases PyData.tuple.inj e
    cases PyData.tuple.inj e2
    simp [okCmp, PySem.W.alike]
theorem ps_sm {H H' : Hp} {D : Addr} {xs : List V} {ps : List Pc} (s : Sm [D] H H') (nt : NoTp [D] H) (d : DpAll K H xs (ps.map pcD)) : DpAll K H' xs (ps.map pcD) := dp_nt s nt (noL_map (f := pcD) (fun _ => ⟨trivial, trivial, trivial⟩) _) d
theorem sqL_nl {H H' : Hp} {D a : Addr} {xs : List V} (s : Sm [D] H H') (ne : ∀ us, H D ≠ some (.lst us)) (ne2 : ∀ o us, H D ≠ some (.frz o (.lst us))) (h : SqL K H a xs) : SqL K H' a xs := by
  have aD : ∀ {o}, H a = some o → (∀ us, o ≠ .lst us) ∨ a ≠ D := fun {o} e => by
    by_cases c : a = D
    · exact .inl fun us z => ne us (by rw [← c, e, z])
    · exact .inr c
  rcases h with (h | ⟨o2, h⟩) | h
  · refine .inl (.inl (sm_at s (fun z => ?_) h))
    rw [List.mem_singleton.mp z] at h
    exact ne _ h
  · refine .inl (.inr ⟨o2, sm_at s (fun z => ?_) h⟩)
    rw [List.mem_singleton.mp z] at h
    exact ne2 _ _ h
  · exact .inr h
theorem ntp_dk {H : Hp} {D : Addr} {kv : List (Key × V)} (h : H D = some (.dK kv)) : NoTp [D] H := fun x hx ob e => by
  rw [List.mem_singleton.mp hx, h] at e
  obtain rfl := Option.some.inj e
  exact ⟨fun _ z => (by cases z), fun _ _ z => (by cases z)⟩
theorem ntp_fz {H : Hp} {D : Addr} {o : Obj} {kv : List (Key × V)} (h : H D = some (.frz o (.dK kv))) : NoTp [D] H := fun x hx ob e => by
  rw [List.mem_singleton.mp hx, h] at e
  obtain rfl := Option.some.inj e
  exact ⟨fun _ z => (by cases z), fun _ _ z => (by cases z)⟩
def spLOut (K : PySem.W.Frag) : Sp := fun vs H Q _ => ∃ (a G : Addr) (xs : List V) (ps : List Pc) (l : List (Nat × Option Nat)), vs = [.ref a, .ref G] ∧ SqL K H a xs ∧ DpAll K H xs (ps.map pcD) ∧ PcOk ps ∧ H G = some (.dK (gotK l)) ∧ (l.map (·.1)).Nodup ∧ (∀ q ∈ l, q.1 < ps.length) ∧
  ∀ (H' : Hp) (R : Addr) (us : List V), Same H H' → H R = none → H' R = some (.lst us) → DpAll K H' us ((outR ps (somesF l)).map (gD ps)) → Q (.ref R) H'
abbrev s__law_out : Stmt := topS 27
def n__law_out : List Str := ["_law_pieces_here", "_law_got", "_law_number"]
theorem sc__law_out : FnScope n__law_out ["_law_pieces_here", "_law_got"] (defScope s__law_out) := ⟨rfl, rfl, rfl, by decide +kernel, rfl, by decide +kernel, by decide +kernel⟩
theorem ok_lout {f : Addr} {fd : FuncData} {k : Nat} (F : Fun K "_law_out" "_law_out" s__law_out f fd) (T : Txt mg) (c__law_name : Cl P w K mg base 1 "_law_name" spNm) : FnOk P w K mg base CX0 (k + 2) f fd ["_law_pieces_here", "_law_got"] (spLOut K) := by
  refine F.ok sc__law_out (fun vs H Q E h => ?_) (fun cdv A outer s H vs Q E hr h => ?_)
  · obtain ⟨a, G, xs, ps, l, rfl, _⟩ := h
    rfl
  · obtain ⟨a, G, xs, ps, l, rfl, hS, da, ok, hG, ndl, ltl, q⟩ := h
    have nd := sc__law_out.nd
    have hu := hu_of hr
    have hu64 := hr.units
    have hu70 : (A.deeper (envOfC (Str.ofString "_law_out") (defScope s__law_out) s.heap.objs.size f cdv)).units + 70 < cLine := by have := hr.un; omega
    /- 0 _law_pieces_here, 1 _law_got, 2 _law_number -/
    refine ⟨_, (pss_one (ps_ret (pe_callB (kc_sortedM (K := K) hu70) (by rfl) T.sorted (by decide +kernel) (pa_cons (pe_lock (pe_lc (own := [("_law_number", 2)]) rfl nd (pi_keys (pv 1)) (blkOk_by (N := n__law_out) (sc := defScope s__law_out) (by decide +kernel)) (fun _ _ _ _ _ => (pg_name (i := 2) nd rfl (.inl rfl))) (fun _ _ _ _ _ => (pts_one (pt_cmpR op_notN (pe_dget hu (pv 1) (pv 2) (fun _ _ => rfl)) pe_non (nomark _)))) (fun _ _ _ _ _ => (pe_tup (pa_cons (pe_callB (kc_sumT (K := K)) (by rfl) T.sum (by decide +kernel) (pa_cons (pe_ix (kx_list (K := K)) (pv 0) (pv 2) (fun _ _ => rfl)) pa_nil)) (pa_cons (pe_dget hu (pv 1) (pv 2) (fun _ _ => rfl)) (pa_cons (pe_cl c__law_name hr (by omega) (by rfl) (pa_cons (pv 2) pa_nil)) pa_nil))))))) pa_nil)))), ?_⟩
    have l40 := ok.len
    have ll : l.length ≤ 40 := by
      have := nodup_leG (l := l.map (·.1)) (ts := List.range ps.length) ndl fun x hx => List.mem_range.mpr (by
        obtain ⟨q, hq, rfl⟩ := List.mem_map.mp hx
        exact ltl q hq)
      rw [List.length_map, List.length_range] at this
      omega
    refine ⟨G, _, hG, trivial, fun od => ?_⟩
    have sF : Sm [G] H (upd H G (.frz od (.dK (gotK l)))) := sm_wr (by simp)
    have hF : upd H G (.frz od (.dK (gotK l))) G = some (.frz od (.dK (gotK l))) := upd_same
    have daF := ps_sm sF (ntp_dk hG) da
    have hSF := sqL_nl sF (fun us z => by rw [hG] at z; cases z) (fun o us z => by rw [hG] at z; cases z) hS
    generalize upd H G (.frz od (.dK (gotK l))) = HF at sF hF daF hSF ⊢
    refine ⟨_, rfl, G, od, rfl, .inl ⟨_, hF, fun D nD => ?_⟩⟩
    refine lc_it (walk_keys (kvs := gotK l)) (fun i Hx => ∃ us, Hx D = some (.lst us) ∧ Same HF Hx ∧ us.length ≤ i ∧ DpAll K Hx us ((somesF (l.take i)).map (gD ps))) ⟨[], upd_same, same_upd nD, Nat.le_refl _, .nil⟩ (fun i Hx _ h => by
      obtain ⟨us, hD, sx, _⟩ := h
      exact sx _ _ hF) ?_ ?_
    · rintro i y Hx Hy hi ⟨us, hD, sx, lu, du⟩ ⟨rfl, key, v, gk, rfl⟩
      unfold gotK at gk hi
      rw [List.getElem?_map] at gk
      rw [List.length_map] at hi
      obtain ⟨⟨n, o⟩, gn, ek⟩ := Option.map_eq_some_iff.mp gk
      obtain ⟨rfl, rfl⟩ := Prod.mk.inj ek
      have mn := List.mem_of_getElem? gn
      have hn : n < ps.length := ltl _ mn
      have dg : DGet Hy G (.int (n : Nat)) (some (optN o)) := .inl ⟨gotK l, .inl ((n : Nat) : Int), .inr ⟨od, sx _ _ hF⟩, rfl, (gotK_get ndl mn).symm⟩
      have et : somesF (l.take (i + 1)) = somesF (l.take i) ++ somesF [(n, o)] := by rw [List.take_add_one, gn, somesF_app]; rfl
      obtain ⟨v0, gv⟩ : ∃ v0, xs[n]? = some v0 := ⟨_, List.getElem?_eq_getElem (by rw [dpAll_map_len da]; exact hn)⟩
      obtain ⟨pa, rfl, hpa, _, _⟩ := pcs_at daF gv
      refine ⟨rfl, _, rfl, _, rfl, G, _, rfl, dg, rfl, _, rfl, ?_⟩
      cases o with
      | none =>
        refine iteF ⟨us, hD, sx, by omega, ?_⟩
        rw [et, show somesF [(n, none)] = [] from rfl, List.append_nil]
        exact du
      | some j =>
        have es : [(ps.getD n pc0).1, (ps.getD n pc0).2].sum = outF ps n := by
          show (ps.getD n pc0).1 + ((ps.getD n pc0).2 + 0) = (ps.getD n pc0).1 + (ps.getD n pc0).2
          omega
        refine iteT ⟨_, rfl, _, rfl, a, _, n, _, rfl, rfl, sx.seq hSF, atI_nat gv, pa, [(ps.getD n pc0).1, (ps.getD n pc0).2], rfl, same_tup sx hpa, ?_⟩
        rw [es]
        refine ⟨_, rfl, _, rfl, G, _, rfl, dg, _, rfl, n, rfl, by omega, (by show 3 ≤ sizeLine; decide), fun pt npt => ?_⟩
        have pD : D ≠ pt := ne_of_none hD npt
        refine ⟨us, by rw [upd_ne pD]; exact hD, by rw [sizeLine_eq]; omega, us ++ [.ref pt], upd_same, same_in (sx.trans (same_upd npt)) nD, by rw [List.length_append]; show _ + 1 ≤ _; omega, ?_⟩
        have du2 := dpAll_app' (dpAll_same (same_upd (o := .tup [.int (outF ps n), .int (j : Nat), .str (nmN n)]) npt) du) (.cons (.tup (.inl (.inl upd_same)) (.cons (.int _) (.cons (.int _) (.cons (.str _) .nil)))) .nil)
        have e : (somesF (l.take (i + 1))).map (gD ps) = (somesF (l.take i)).map (gD ps) ++ [gD ps (n, j)] := by rw [et, List.map_append]; rfl
        rw [e]
        exact dp_nt (S := [D]) (sm_wr (by simp)) (ntp_lst (by rw [upd_ne pD]; exact hD)) (e ▸ gD_noL _) du2
    · rintro Hx ⟨us, hD, sx, lu, du⟩
      have gl : (gotK l).length = l.length := by unfold gotK; rw [List.length_map]
      rw [gl] at lu du
      rw [List.take_of_length_le (Nat.le_refl _)] at du
      have DG : D ≠ G := fun z => by rw [z, hF] at nD; cases nD
      refine ⟨sx _ _ hF, D, us, _, rfl, SqL.of ((upd_ne DG).trans hD), dp_nt (S := [G]) (sm_wr (by simp)) (ntp_fz (sx _ _ hF)) (gD_noL _) du, gD_cmp, fun d hd => ?_, fun zs R dz nR => ?_⟩
      · obtain ⟨n, _, rfl⟩ := List.mem_map.mp hd
        show max 0 (max 0 (max 0 0)) + 1 ≤ 60
        decide
      rw [outR_eq] at dz
      have sH : Same H (upd Hx G (.dK (gotK l))) := fun b o e => by
        by_cases c : b = G
        · rw [c, hG] at e
          rw [c, ← Option.some.inj e]
          exact upd_same
        · rw [upd_ne c]
          exact sx _ _ (sm_at sF (by simp [c]) e)
      exact q _ R zs (sH.trans (same_upd nR)) (sH.free nR) upd_same (dpAll_same (same_upd nR) dz)

end
end Pot

namespace Pot
open PySem PySem.Spec PyProof.Rows L2
section
variable {P : Program} {w : World} {K : PySem.W.Frag} {mg : Str → Option Value} {base : Heap}
/-! ### a walk through, as numbers -/
def gLe (ps : List Pc) (a b : Nat × Nat) : Prop := PySem.W.dataLt (gD ps b) (gD ps a) = false
theorem gLe_out {ps : List Pc} {a b : Nat × Nat} (h : outF ps a.1 < outF ps b.1) : gLe ps a b := by
  unfold gLe gD
  rw [PySem.W.dataLt_tuple, PySem.W.dataLt_cons rfl, if_neg (by simp [PyData.eqv]; omega), PySem.W.dataLt_int]
  exact decide_eq_false (by omega)
structure Ru (ps : List Pc) (sl : Int) (s : RS) (z : Int) : Prop where
  ins : s.ins = (somesF s.got).filter fun q => decide (z < outF ps q.1)
  cm : ∀ q ∈ somesF s.got, cmF ps q.1 ≤ z
  nd : (s.ins.map (·.2)).Nodup
  lt : ∀ q ∈ s.ins, ((q.2 : Nat) : Int) < sl
  gone : s.gone.Perm ((somesF s.got).filter fun q => decide (outF ps q.1 ≤ z))
  gs : s.gone.Pairwise (gLe ps)
  fit : ∀ h, (((somesF s.got).countP fun q => innF ps h q.1 : Nat) : Int) ≤ sl
theorem Ru.stays {ps : List Pc} {sl : Int} {s : RS} {z z' : Int} (r : Ru ps sl s z) (h : z ≤ z') : staysF ps s.ins z' = (somesF s.got).filter fun q => decide (z' < outF ps q.1) := by
  unfold staysF
  rw [r.ins, List.filter_filter]
  refine List.filter_congr fun q _ => ?_
  rw [Bool.eq_iff_iff, Bool.and_eq_true, decide_eq_true_eq, decide_eq_true_eq]
  omega
theorem Ru.goes {ps : List Pc} {sl : Int} {s : RS} {z z' : Int} (r : Ru ps sl s z) (h : z ≤ z') : (s.gone ++ goesF ps s.ins z').Perm ((somesF s.got).filter fun q => decide (outF ps q.1 ≤ z')) ∧ (s.gone ++ goesF ps s.ins z').Pairwise (gLe ps) := by
  constructor
  · have p1 : (goesF ps s.ins z').Perm (((somesF s.got).filter fun q => decide (outF ps q.1 ≤ z')).filter fun q => !decide (outF ps q.1 ≤ z)) := by
      unfold goesF
      refine (List.mergeSort_perm _ _).trans ?_
      rw [r.ins, List.filter_filter, List.filter_filter]
      refine .of_eq (List.filter_congr fun q _ => ?_)
      rw [Bool.eq_iff_iff, Bool.and_eq_true, Bool.and_eq_true, Bool.not_eq_true', decide_eq_false_iff_not, decide_eq_true_eq, decide_eq_true_eq]
      omega
    have p2 : s.gone.Perm (((somesF s.got).filter fun q => decide (outF ps q.1 ≤ z')).filter fun q => decide (outF ps q.1 ≤ z)) := by
      refine r.gone.trans ?_
      rw [List.filter_filter]
      refine .of_eq (List.filter_congr fun q _ => ?_)
      rw [Bool.eq_iff_iff, Bool.and_eq_true, decide_eq_true_eq, decide_eq_true_eq]
      omega
    exact (p2.append p1).trans (List.filter_append_perm _ _)
  · refine List.pairwise_append.mpr ⟨r.gs, dl_pairI (gD ps) _, fun a ha b hb => gLe_out ?_⟩
    have h1 := (List.mem_filter.mp (r.gone.subset ha)).2
    have h2 := (List.mem_filter.mp ((List.mergeSort_perm _ _).subset hb)).1
    rw [r.ins] at h2
    have h2 := (List.mem_filter.mp h2).2
    rw [decide_eq_true_eq] at h1 h2
    omega
theorem Ru.step {ps : List Pc} {sl : Int} {s : RS} {z : Int} {p : Nat} (r : Ru ps sl s z) (h : z ≤ cmF ps p) (pos : cmF ps p < outF ps p) : Ru ps sl (stepT ps sl s p) (cmF ps p) := by
  have st := r.stays h
  obtain ⟨g1, g2⟩ := r.goes h
  have ndS : ((staysF ps s.ins (cmF ps p)).map (·.2)).Nodup := r.nd.sublist (List.filter_sublist.map _)
  have ltS : ∀ q ∈ staysF ps s.ins (cmF ps p), ((q.2 : Nat) : Int) < sl := fun q hq => r.lt q (List.mem_filter.mp hq).1
  have cmS : ∀ q ∈ somesF s.got, cmF ps q.1 ≤ cmF ps p := fun q hq => Int.le_trans (r.cm q hq) h
  unfold stepT
  dsimp only
  by_cases c : ((mexF ((staysF ps s.ins (cmF ps p)).map (·.2)) : Nat) : Int) < sl
  · rw [if_pos c]
    obtain ⟨m1, m2, m3⟩ := mex_is (ts := (staysF ps s.ins (cmF ps p)).map (·.2))
    generalize mexF ((staysF ps s.ins (cmF ps p)).map (·.2)) = j at c m1 m2 m3
    have e : somesF (s.got ++ [(p, some j)]) = somesF s.got ++ [(p, j)] := somesF_app _ _
    have nd2 : ((staysF ps s.ins (cmF ps p) ++ [(p, j)]).map (·.2)).Nodup := by
      rw [List.map_append]
      exact List.nodup_append.mpr ⟨ndS, List.nodup_cons.mpr ⟨List.not_mem_nil, List.nodup_nil⟩, fun a ha b hb e => m1 (by have e2 : a = j := e.trans (List.mem_singleton.mp hb); exact e2 ▸ ha)⟩
    have lt2 : ∀ q ∈ staysF ps s.ins (cmF ps p) ++ [(p, j)], ((q.2 : Nat) : Int) < sl := fun q hq => by
      rcases List.mem_append.mp hq with hq | hq
      · exact ltS q hq
      · rw [List.mem_singleton.mp hq]; exact c
    refine ⟨?_, ?_, nd2, lt2, ?_, g2, fun h' => ?_⟩
    · show _ = (somesF (s.got ++ [(p, some j)])).filter _
      rw [e, List.filter_append, st, List.filter_cons_of_pos (by simp [pos]), List.filter_nil]
    · show ∀ q ∈ somesF (s.got ++ [(p, some j)]), _
      rw [e]
      intro q hq
      rcases List.mem_append.mp hq with hq | hq
      · exact cmS q hq
      · rw [List.mem_singleton.mp hq]; exact Int.le_refl _
    · show List.Perm _ ((somesF (s.got ++ [(p, some j)])).filter _)
      rw [e, List.filter_append, List.filter_cons_of_neg (by simp; omega), List.filter_nil, List.append_nil]
      exact g1
    · show (((somesF (s.got ++ [(p, some j)])).countP fun q => innF ps h' q.1 : Nat) : Int) ≤ sl
      rw [e, List.countP_append]
      by_cases ci : innF ps h' p = true
      · have hc : cmF ps p ≤ h' := by
          unfold innF inB at ci
          rw [Bool.and_eq_true, decide_eq_true_eq] at ci
          exact ci.1
        have l1 : ((somesF s.got).countP fun q => innF ps h' q.1) ≤ (staysF ps s.ins (cmF ps p)).length := by
          rw [st, ← List.countP_eq_length_filter]
          refine List.countP_mono_left fun q hq hi => ?_
          unfold innF inB at hi
          rw [Bool.and_eq_true, decide_eq_true_eq, decide_eq_true_eq] at hi
          rw [decide_eq_true_eq]
          unfold outF cmF at *
          omega
        have l2 := nodup_leG (l := (staysF ps s.ins (cmF ps p) ++ [(p, j)]).map (·.2)) (ts := List.range sl.toNat) nd2 fun x hx => by
          obtain ⟨q, hq, rfl⟩ := List.mem_map.mp hx
          have := lt2 q hq
          exact List.mem_range.mpr (by omega)
        rw [List.length_map, List.length_append, List.length_range] at l2
        have l3 : ([(p, j)].countP fun q : Nat × Nat => innF ps h' q.1) ≤ 1 := List.countP_le_length
        have l4 : ([(p, j)] : List (Nat × Nat)).length = 1 := rfl
        omega
      · have l3 : ([(p, j)].countP fun q : Nat × Nat => innF ps h' q.1) = 0 := by
          rw [List.countP_cons_of_neg (by simpa using ci), List.countP_nil]
        have := r.fit h'
        omega
  · rw [if_neg c]
    have e : somesF (s.got ++ [(p, none)]) = somesF s.got := (somesF_app _ _).trans (List.append_nil _)
    refine ⟨?_, ?_, ndS, ltS, ?_, g2, fun h' => ?_⟩
    · show _ = (somesF (s.got ++ [(p, none)])).filter _
      rw [e]; exact st
    · show ∀ q ∈ somesF (s.got ++ [(p, none)]), _
      rw [e]; exact cmS
    · show List.Perm _ ((somesF (s.got ++ [(p, none)])).filter _)
      rw [e]; exact g1
    · show (((somesF (s.got ++ [(p, none)])).countP fun q => innF ps h' q.1 : Nat) : Int) ≤ sl
      rw [e]; exact r.fit h'
/-- the hour of the last that came -/
def zF (ps : List Pc) (L : List Nat) : Nat → Int
  | 0 => 0
  | i + 1 => match L[i]? with | some p => cmF ps p | none => 0
theorem zF_of {ps : List Pc} {L : List Nat} {i p : Nat} (g : L[i]? = some p) : zF ps L (i + 1) = cmF ps p := by
  show (match L[i]? with | some p => cmF ps p | none => 0) = _
  rw [g]
theorem ru_all {ps : List Pc} {sl : Int} {L : List Nat} (sl0 : 0 ≤ sl) (pw : L.Pairwise (RO ps)) (pos : ∀ p ∈ L, 0 ≤ cmF ps p ∧ cmF ps p < outF ps p) : ∀ i, i ≤ L.length → Ru ps sl (runT ps sl (L.take i)) (zF ps L i)
  | 0, _ => ⟨rfl, fun _ h => absurd h List.not_mem_nil, List.nodup_nil, fun _ h => absurd h List.not_mem_nil, .nil, .nil, fun _ => sl0⟩
  | i + 1, hi => by
    have ih := ru_all sl0 pw pos i (by omega)
    have g := List.getElem?_eq_getElem (show i < L.length by omega)
    have m := List.getElem_mem (show i < L.length by omega)
    have hp := pos _ m
    have e : zF ps L (i + 1) = cmF ps (L[i]'(by omega)) := zF_of g
    rw [runT_one g, e]
    refine ih.step ?_ hp.2
    cases i with
    | zero => exact hp.1
    | succ j =>
      have g2 := List.getElem?_eq_getElem (show j < L.length by omega)
      have e2 : zF ps L (j + 1) = cmF ps (L[j]'(by omega)) := zF_of g2
      rw [e2]
      rcases List.pairwise_iff_getElem.mp pw j (j + 1) (by omega) (by omega) (by omega) with h | h <;> omega
theorem nm_inj : ∀ n, n < 40 → ∀ m, m < 40 → nmN n = nmN m → n = m := by decide +kernel
theorem str_tri {x y : Str} (h1 : PySem.W.dataLt (.str x) (.str y) = false) (h2 : PySem.W.dataLt (.str y) (.str x) = false) : x = y := by
  rw [PySem.W.dataLt_str] at h1 h2
  have h1 := of_decide_eq_false h1
  have h2 := of_decide_eq_false h2
  have e : x.cps.toList = y.cps.toList := List.le_antisymm (List.not_lt.mp h2) (List.not_lt.mp h1)
  have : x.cps = y.cps := Array.toList_inj.mp e
  cases x
  cases y
  congr 1
theorem gLe_anti {ps : List Pc} {a b : Nat × Nat} (ha : a.1 < 40) (hb : b.1 < 40) (h1 : gLe ps a b) (h2 : gLe ps b a) : a = b := by
  unfold gLe gD at h1 h2
  rw [PySem.W.dataLt_tuple, PySem.W.dataLt_cons rfl] at h1 h2
  have eo : outF ps a.1 = outF ps b.1 := by
    refine Classical.byContradiction fun n => ?_
    rw [if_neg (by simp [PyData.eqv]; omega), PySem.W.dataLt_int] at h1 h2
    have := of_decide_eq_false h1
    have := of_decide_eq_false h2
    omega
  rw [if_pos (by rw [eo]; simp [PyData.eqv]), PySem.W.dataLt_cons rfl] at h1 h2
  have es : a.2 = b.2 := by
    refine Classical.byContradiction fun n => ?_
    rw [if_neg (by simp [PyData.eqv]; omega), PySem.W.dataLt_int] at h1 h2
    have := of_decide_eq_false h1
    have := of_decide_eq_false h2
    omega
  rw [if_pos (by rw [es]; simp [PyData.eqv]), PySem.W.dataLt_cons rfl] at h1 h2
  have en : nmN a.1 = nmN b.1 := by
    refine Classical.byContradiction fun n => ?_
    rw [if_neg (by simp [PyData.eqv]; exact fun z => n z.symm)] at h1
    rw [if_neg (by simp [PyData.eqv]; exact n)] at h2
    exact n (str_tri h2 h1)
  obtain ⟨p, i⟩ := a
  obtain ⟨q, j⟩ := b
  have e1 : p = q := nm_inj p ha q hb en
  have e2 : i = j := es
  rw [e1, e2]

end
end Pot

namespace Pot
open PySem PySem.Spec PyProof.Rows L2
section
variable {P : Program} {w : World} {K : PySem.W.Frag} {mg : Str → Option Value} {base : Heap}
theorem somes_key {l : List (Nat × Option Nat)} {q : Nat × Nat} (h : q ∈ somesF l) : q.1 ∈ l.map (·.1) ∧ (q.1, some q.2) ∈ l := by
  obtain ⟨⟨p, o⟩, hx, e⟩ := List.mem_filterMap.mp h
  cases o with
  | none => cases e
  | some j =>
    obtain rfl := Option.some.inj e
    exact ⟨List.mem_map.mpr ⟨_, hx, rfl⟩, hx⟩
theorem run_key {ps : List Pc} {sl : Int} {L : List Nat} {q : Nat × Nat} (h : q ∈ somesF (runT ps sl L).got) : q.1 ∈ L := by
  have := (somes_key h).1
  rwa [run_keys] at this
theorem pc_of {ps : List Pc} (ok : PcOk ps) {p : Nat} (h : p < ps.length) : 0 ≤ cmF ps p ∧ cmF ps p < outF ps p ∧ outF ps p ≤ cmF ps p + 99 ∧ p < 40 := by
  have := ok.each (ps.getD p pc0) (by rw [List.getD_eq_getElem?_getD, List.getElem?_eq_getElem h]; exact List.getElem_mem h)
  have := ok.len
  unfold cmF outF
  omega
theorem ru_of {ps : List Pc} {sl : Int} {L : List Nat} (ok : PcOk ps) (sl0 : 0 ≤ sl) (pw : L.Pairwise (RO ps)) (lt : ∀ p ∈ L, p < ps.length) {i : Nat} (hi : i ≤ L.length) : Ru ps sl (runT ps sl (L.take i)) (zF ps L i) := ru_all sl0 pw (fun p hp => ⟨(pc_of ok (lt p hp)).1, (pc_of ok (lt p hp)).2.1⟩) i hi
theorem ru_end {ps : List Pc} {sl : Int} {L : List Nat} (ok : PcOk ps) (sl0 : 0 ≤ sl) (pw : L.Pairwise (RO ps)) (lt : ∀ p ∈ L, p < ps.length) : Ru ps sl (runT ps sl L) (zF ps L L.length) := by
  have := ru_of (i := L.length) ok sl0 pw lt (Nat.le_refl _)
  rwa [List.take_length] at this
theorem outR_pw (ps : List Pc) (l : List (Nat × Nat)) : (outR ps l).Pairwise (gLe ps) := dl_pairI (gD ps) l
theorem outR_perm (ps : List Pc) (l : List (Nat × Nat)) : (outR ps l).Perm l := List.mergeSort_perm _ _
/-- what comes out comes by hours, then by slots -/
theorem gone_eq {ps : List Pc} {sl : Int} {L : List Nat} (ok : PcOk ps) (sl0 : 0 ≤ sl) (pw : L.Pairwise (RO ps)) (lt : ∀ p ∈ L, p < ps.length) : goneA ps sl L = outR ps (somesF (runT ps sl L).got) := by
  have r := ru_end ok sl0 pw lt
  have eg : goneA ps sl L = (runT ps sl L).gone ++ goesF ps (runT ps sl L).ins (zF ps L L.length + 99) := by
    unfold goneA
    cases hL : L.getLast? with
    | none =>
      obtain rfl := List.getLast?_eq_none_iff.mp hL
      rfl
    | some q =>
      obtain ⟨ys, rfl⟩ := List.getLast?_eq_some_iff.mp hL
      have g : (ys ++ [q])[ys.length]? = some q := by rw [List.getElem?_append_right (Nat.le_refl _), Nat.sub_self]; rfl
      rw [show (ys ++ [q]).length = ys.length + 1 by rw [List.length_append]; rfl, zF_of g]
  rw [eg]
  obtain ⟨g1, g2⟩ := r.goes (z' := zF ps L L.length + 99) (by omega)
  have eW : ((somesF (runT ps sl L).got).filter fun q => decide (outF ps q.1 ≤ zF ps L L.length + 99)) = somesF (runT ps sl L).got := List.filter_eq_self.mpr fun q hq => by
    have h1 := r.cm q hq
    have h2 := (pc_of ok (lt _ (run_key hq))).2.2.1
    exact decide_eq_true (by omega)
  rw [eW] at g1
  refine List.Perm.eq_of_pairwise (le := gLe ps) (fun a b ha hb h1 h2 => ?_) g2 (outR_pw ps _) (g1.trans (outR_perm ps _).symm)
  exact gLe_anti (pc_of ok (lt _ (run_key (g1.subset ha)))).2.2.2 (pc_of ok (lt _ (run_key ((outR_perm ps _).subset hb)))).2.2.2 h1 h2
theorem somes_all (S : List (Nat × Nat)) : somesF (S.map fun q => (q.1, some q.2)) = S := by
  induction S with
  | nil => rfl
  | cons x S ih =>
    rw [List.map_cons]
    show x :: somesF _ = _
    rw [ih]
/-- where no more are in than there are slots, none is refused -/
theorem none_out {ps : List Pc} {sl : Int} {L : List Nat} (ok : PcOk ps) (sl0 : 0 ≤ sl) (pw : L.Pairwise (RO ps)) (nd : L.Nodup) (lt : ∀ p ∈ L, p < ps.length) (cap : ∀ p ∈ L, ((L.countP (innF ps (cmF ps p)) : Nat) : Int) ≤ sl) : ∀ i, i ≤ L.length → (runT ps sl (L.take i)).got = (allS ps (L.take i)).map fun q => (q.1, some q.2)
  | 0, _ => rfl
  | i + 1, hi => by
    have ih := none_out ok sl0 pw nd lt cap i (by omega)
    have r := ru_of (i := i) ok sl0 pw lt (by omega)
    have r2 := ru_of (i := i + 1) ok sl0 pw lt hi
    have g := List.getElem?_eq_getElem (show i < L.length by omega)
    have m := List.getElem_mem (show i < L.length by omega)
    generalize L[i]'(by omega) = p at g m
    have hz : zF ps L i ≤ cmF ps p := by
      cases i with
      | zero => exact (pc_of ok (lt p m)).1
      | succ j =>
        have g2 := List.getElem?_eq_getElem (show j < L.length by omega)
        rw [zF_of g2]
        have := List.pairwise_iff_getElem.mp pw j (j + 1) (by omega) (by omega) (by omega)
        have e : L[j + 1]'(by omega) = p := Option.some.inj ((List.getElem?_eq_getElem (show j + 1 < L.length by omega)).symm.trans g)
        rw [e] at this
        rcases this with h | h <;> omega
    have st := r.stays hz
    have eW : somesF (runT ps sl (L.take i)).got = allS ps (L.take i) := by rw [ih]; exact somes_all _
    rw [eW] at st
    have esl : slF ps (allS ps (L.take i)) p = (staysF ps (runT ps sl (L.take i)).ins (cmF ps p)).map (·.2) := by
      unfold slF
      rw [st]
      refine congrArg _ (List.filter_congr fun q hq => ?_)
      have h1 := r.cm q (eW ▸ hq)
      unfold inB
      rw [Bool.eq_iff_iff, Bool.and_eq_true, decide_eq_true_eq, decide_eq_true_eq, decide_eq_true_eq]
      unfold outF cmF at *
      omega
    obtain ⟨_, _, m3⟩ := mex_is (ts := (staysF ps (runT ps sl (L.take i)).ins (cmF ps p)).map (·.2))
    have cnt : (staysF ps (runT ps sl (L.take i)).ins (cmF ps p)).length + 1 ≤ L.countP (innF ps (cmF ps p)) := by
      have kn : ((staysF ps (runT ps sl (L.take i)).ins (cmF ps p)).map (·.1)).Sublist (L.take i) := by
        rw [st]
        have := (List.filter_sublist (p := fun q : Nat × Nat => decide (cmF ps p < outF ps q.1)) (l := allS ps (L.take i))).map (·.1)
        rwa [keys_all] at this
      have pn := take_new nd g
      rw [List.countP_eq_length_filter]
      have := nodup_leG (l := p :: (staysF ps (runT ps sl (L.take i)).ins (cmF ps p)).map (·.1)) (ts := L.filter (innF ps (cmF ps p))) (List.nodup_cons.mpr ⟨fun z => pn (kn.subset z), (nd.sublist (List.take_sublist _ _)).sublist kn⟩) fun x hx => by
        rcases List.mem_cons.mp hx with rfl | hx
        · refine List.mem_filter.mpr ⟨m, ?_⟩
          have := (pc_of ok (lt x m)).2.1
          unfold innF inB
          unfold outF cmF at *
          rw [Bool.and_eq_true, decide_eq_true_eq, decide_eq_true_eq]
          omega
        · refine List.mem_filter.mpr ⟨List.mem_of_mem_take (kn.subset hx), ?_⟩
          obtain ⟨q, hq, rfl⟩ := List.mem_map.mp hx
          rw [st] at hq
          obtain ⟨q1, q2⟩ := List.mem_filter.mp hq
          have h1 := r.cm q (eW ▸ q1)
          rw [decide_eq_true_eq] at q2
          unfold innF inB
          unfold outF cmF at *
          rw [Bool.and_eq_true, decide_eq_true_eq, decide_eq_true_eq]
          omega
      rw [List.length_cons, List.length_map] at this
      exact this
    have cp := cap p m
    rw [List.length_map] at m3
    rw [runT_one g, allS_one g]
    unfold stepT stepS
    dsimp only
    rw [if_pos (by omega), List.map_append, ih, esl]
    rfl
theorem none_out' {ps : List Pc} {sl : Int} {L : List Nat} (ok : PcOk ps) (sl0 : 0 ≤ sl) (pw : L.Pairwise (RO ps)) (nd : L.Nodup) (lt : ∀ p ∈ L, p < ps.length) (cap : ∀ p ∈ L, ((L.countP (innF ps (cmF ps p)) : Nat) : Int) ≤ sl) : (runT ps sl L).got = (allS ps L).map fun q => (q.1, some q.2) := by
  have := none_out ok sl0 pw nd lt cap L.length (Nat.le_refl _)
  rwa [List.take_length] at this
theorem RO_anti {ps : List Pc} {a b : Nat} (h1 : RO ps a b) (h2 : RO ps b a) : a = b := by
  unfold RO at h1 h2
  omega
theorem ord_eq (ps : List Pc) : ordN ps (List.range ps.length) = ordF ps := List.Perm.eq_of_pairwise (le := RO ps) (fun _ _ _ _ h1 h2 => RO_anti h1 h2) (ordN_RO List.nodup_range) (ordF_RO ps) ((ordN_perm ps _).trans (ordF_perm ps).symm)
/-! ### the hour at which most are in -/
theorem best_all {ps : List Pc} {zs : List Int} : ∀ i, i ≤ zs.length → 0 ≤ (bestF ps (zs.take i)).1 ∧ (∀ j z, j < i → zs[j]? = some z → ((hereF ps z).length : Int) ≤ (bestF ps (zs.take i)).1) ∧ ((bestF ps (zs.take i) = (0, none)) ∨ ∃ j z, j < i ∧ zs[j]? = some z ∧ bestF ps (zs.take i) = (((hereF ps z).length : Int), some z) ∧ ∀ (j2 : Nat) (z2 : Int), j2 < j → zs[j2]? = some z2 → ((hereF ps z2).length : Int) < ((hereF ps z).length : Int))
  | 0, _ => ⟨Int.le_refl _, fun j _ h => absurd h (Nat.not_lt_zero _), .inl rfl⟩
  | i + 1, hi => by
    obtain ⟨h0, h1, h2⟩ := best_all (ps := ps) (zs := zs) i (by omega)
    have g := List.getElem?_eq_getElem (show i < zs.length by omega)
    generalize zs[i]'(by omega) = z at g
    rw [bestF_one g]
    generalize bestF ps (zs.take i) = b at h0 h1 h2
    unfold stepM
    by_cases c : b.1 < ((hereF ps z).length : Int)
    · rw [if_pos c]
      refine ⟨by show (0 : Int) ≤ _; omega, fun j z2 hj g2 => ?_, .inr ⟨i, z, Nat.lt_succ_self _, g, rfl, fun j2 z2 hj g2 => ?_⟩⟩
      · rcases Nat.lt_or_ge j i with l | l
        · have := h1 j z2 l g2
          show _ ≤ ((hereF ps z).length : Int)
          omega
        · obtain rfl : j = i := by omega
          obtain rfl := Option.some.inj (g.symm.trans g2)
          exact Int.le_refl _
      · have := h1 j2 z2 hj g2
        omega
    · rw [if_neg c]
      refine ⟨h0, fun j z2 hj g2 => ?_, ?_⟩
      · rcases Nat.lt_or_ge j i with l | l
        · exact h1 j z2 l g2
        · obtain rfl : j = i := by omega
          obtain rfl := Option.some.inj (g.symm.trans g2)
          omega
      · rcases h2 with h2 | ⟨j, z2, hj, g2, e, f⟩
        · exact .inl h2
        · exact .inr ⟨j, z2, by omega, g2, e, f⟩
theorem best_end (ps : List Pc) (zs : List Int) : 0 ≤ (bestF ps zs).1 ∧ (∀ z ∈ zs, ((hereF ps z).length : Int) ≤ (bestF ps zs).1) ∧ ((bestF ps zs = (0, none)) ∨ ∃ (j : Nat) (z : Int), zs[j]? = some z ∧ bestF ps zs = (((hereF ps z).length : Int), some z) ∧ ∀ (j2 : Nat) (z2 : Int), j2 < j → zs[j2]? = some z2 → ((hereF ps z2).length : Int) < ((hereF ps z).length : Int)) := by
  obtain ⟨h0, h1, h2⟩ := best_all (ps := ps) (zs := zs) zs.length (Nat.le_refl _)
  rw [List.take_length] at h0 h1 h2
  refine ⟨h0, fun z hz => ?_, ?_⟩
  · obtain ⟨j, hj, rfl⟩ := List.getElem_of_mem hz
    exact h1 j _ hj (List.getElem?_eq_getElem hj)
  · rcases h2 with h2 | ⟨j, z2, hj, g2, e, f⟩
    · exact .inl h2
    · exact .inr ⟨j, z2, g2, e, f⟩
/-- most_in's number holds all -/
theorem cap_best {ps : List Pc} {zs : List Int} (hz : HoursOk ps zs) {p : Nat} (hp : p < ps.length) : (((ordF ps).countP (innF ps (cmF ps p)) : Nat) : Int) ≤ (bestF ps zs).1 := by
  have e : (ordF ps).countP (innF ps (cmF ps p)) = (hereF ps (cmF ps p)).length := by
    rw [(ordF_perm ps).countP_eq, List.countP_eq_length_filter]
    unfold hereF hereN
    rw [List.length_map]
    rfl
  rw [e]
  refine (best_end ps zs).2.1 _ ((hz.2 _).mpr ?_)
  unfold cmF
  rw [List.getD_eq_getElem?_getD, List.getElem?_eq_getElem hp]
  exact List.mem_map.mpr ⟨_, List.getElem_mem hp, rfl⟩

end
end Pot

namespace Pot
open PySem PySem.Spec PyProof.Rows L2
section
variable {P : Program} {w : World} {K : PySem.W.Frag} {mg : Str → Option Value} {base : Heap}
/-! ### those that are in, and a dict of the last told -/
def iLe (ps : List Pc) (z : Int) (a b : Nat × Nat) : Prop := PySem.W.dataLt (iD ps z b) (iD ps z a) = false
theorem iLe_anti {ps : List Pc} {z : Int} {a b : Nat × Nat} (ha : a.1 < 40) (hb : b.1 < 40) (h1 : iLe ps z a b) (h2 : iLe ps z b a) : a = b := by
  unfold iLe iD at h1 h2
  rw [PySem.W.dataLt_tuple, PySem.W.dataLt_cons rfl] at h1 h2
  have es : a.2 = b.2 := by
    refine Classical.byContradiction fun n => ?_
    rw [if_neg (by simp [PyData.eqv]; omega), PySem.W.dataLt_int] at h1 h2
    have := of_decide_eq_false h1
    have := of_decide_eq_false h2
    omega
  rw [if_pos (by rw [es]; simp [PyData.eqv]), PySem.W.dataLt_cons rfl] at h1 h2
  have en : nmN a.1 = nmN b.1 := by
    refine Classical.byContradiction fun n => ?_
    rw [if_neg (by simp [PyData.eqv]; exact fun z => n z.symm)] at h1
    rw [if_neg (by simp [PyData.eqv]; exact n)] at h2
    exact n (str_tri h2 h1)
  obtain ⟨p, i⟩ := a
  obtain ⟨q, j⟩ := b
  have e1 : p = q := nm_inj p ha q hb en
  have e2 : i = j := es
  rw [e1, e2]
theorem inR_perm {ps : List Pc} {z : Int} {l m : List (Nat × Nat)} (p : l.Perm m) (lt : ∀ q ∈ l, q.1 < 40) : inR ps l z = inR ps m z :=
  List.Perm.eq_of_pairwise (le := iLe ps z) (fun a b ha hb h1 h2 => iLe_anti (lt a ((List.mergeSort_perm _ _).subset ha)) (lt b (p.symm.subset ((List.mergeSort_perm _ _).subset hb))) h1 h2) (dl_pairI (iD ps z) l) (dl_pairI (iD ps z) m) (((List.mergeSort_perm _ _).trans p).trans (List.mergeSort_perm _ _).symm)
theorem fold_pre {ps : List Pc} : ∀ (l : List Nat) (S : List (Nat × Nat)), ∃ T, l.foldl (stepS ps) S = S ++ T
  | [], S => ⟨[], (List.append_nil _).symm⟩
  | p :: l, S => by
    obtain ⟨T, h⟩ := fold_pre (ps := ps) l (stepS ps S p)
    refine ⟨(p, mexF (slF ps S p)) :: T, ?_⟩
    rw [List.foldl_cons, h]
    unfold stepS
    rw [List.append_assoc]; rfl
theorem allS_pre {ps : List Pc} (L : List Nat) (i : Nat) : ∀ q ∈ allS ps (L.take i), q ∈ allS ps L := by
  intro q hq
  obtain ⟨T, h⟩ := fold_pre (ps := ps) (L.drop i) (allS ps (L.take i))
  have e : allS ps L = allS ps (L.take i) ++ T := by
    rw [← h]
    unfold allS
    rw [← List.foldl_append, List.take_append_drop]
  rw [e]
  exact List.mem_append_left _ hq
theorem nd_of_keys {l : List (Nat × Nat)} (h : (l.map (·.1)).Nodup) : l.Nodup := (List.pairwise_map.mp h).imp fun {a b} n e => n (congrArg Prod.fst e)
theorem due_perm {ps : List Pc} {sl : Int} (ok : PcOk ps) (sl0 : 0 ≤ sl) (cap : ∀ p ∈ ordF ps, (((ordF ps).countP (innF ps (cmF ps p)) : Nat) : Int) ≤ sl) {j p : Nat} (g : (ordF ps)[j]? = some p) (last : ∀ j2 p2, j < j2 → (ordF ps)[j2]? = some p2 → cmF ps p2 ≠ cmF ps p) :
    ((runT ps sl ((ordF ps).take (j + 1))).ins).Perm ((hereN ps (cmF ps p) ps.length).map fun n => (n, getS (allS ps (ordF ps)) n)) := by
  have lt : ∀ p ∈ ordF ps, p < ps.length := fun p hp => ordF_mem.mp hp
  have pw := ordF_RO ps
  have nd := ordF_nodup ps
  have hj : j < (ordF ps).length := (List.getElem?_eq_some_iff.mp g).1
  have r := ru_of (i := j + 1) ok sl0 pw lt (by omega)
  rw [zF_of g] at r
  have eg := none_out ok sl0 pw nd lt cap (j + 1) (by omega)
  have eW : somesF (runT ps sl ((ordF ps).take (j + 1))).got = allS ps ((ordF ps).take (j + 1)) := by rw [eg]; exact somes_all _
  have ri := r.ins
  rw [eW] at ri
  have ndW : ((allS ps ((ordF ps).take (j + 1))).map (·.1)).Nodup := by rw [keys_all]; exact nd.sublist (List.take_sublist _ _)
  have ndS : ((allS ps (ordF ps)).map (·.1)).Nodup := by rw [keys_all]; exact nd
  rw [ri]
  refine (List.perm_ext_iff_of_nodup ?_ ?_).mpr fun x => ?_
  · exact (nd_of_keys ndW).sublist List.filter_sublist
  · refine nd_of_keys ?_
    rw [List.map_map]
    have : ((fun x : Nat × Nat => x.1) ∘ fun n => (n, getS (allS ps (ordF ps)) n)) = id := rfl
    rw [this, List.map_id]
    exact List.nodup_range.sublist List.filter_sublist
  · constructor
    · intro h
      obtain ⟨h1, h2⟩ := List.mem_filter.mp h
      rw [decide_eq_true_eq] at h2
      have h3 := r.cm x (eW ▸ h1)
      have km : x.1 ∈ (ordF ps).take (j + 1) := by
        have := List.mem_map_of_mem (f := (·.1)) h1
        rwa [keys_all] at this
      have hx := lt _ (List.mem_of_mem_take km)
      refine List.mem_map.mpr ⟨x.1, List.mem_filter.mpr ⟨List.mem_range.mpr hx, ?_⟩, ?_⟩
      · unfold inB
        unfold outF cmF at *
        rw [Bool.and_eq_true, decide_eq_true_eq, decide_eq_true_eq]
        omega
      · have := getS_nodup ndS (p := x.1) (x := x.2) (allS_pre _ _ _ h1)
        rw [this]
    · intro h
      obtain ⟨n, hn, rfl⟩ := List.mem_map.mp h
      obtain ⟨n1, n2⟩ := List.mem_filter.mp hn
      have n1 := List.mem_range.mp n1
      unfold inB at n2
      rw [Bool.and_eq_true, decide_eq_true_eq, decide_eq_true_eq] at n2
      obtain ⟨j2, h2, e2⟩ := List.getElem_of_mem (ordF_mem.mpr n1)
      have g2 : (ordF ps)[j2]? = some n := by rw [List.getElem?_eq_getElem h2, e2]
      have jl : j2 < j + 1 := by
        refine Classical.byContradiction fun c => ?_
        have l2 := last j2 n (by omega) g2
        have := List.pairwise_iff_getElem.mp pw j j2 hj h2 (by omega)
        have ep : (ordF ps)[j]'hj = p := Option.some.inj ((List.getElem?_eq_getElem hj).symm.trans g)
        rw [ep, e2] at this
        unfold RO at this
        unfold cmF at *
        omega
      have km : n ∈ (allS ps ((ordF ps).take (j + 1))).map (·.1) := by
        rw [keys_all]
        have : ((ordF ps).take (j + 1))[j2]? = some n := by rw [List.getElem?_take_of_lt jl]; exact g2
        exact List.mem_of_getElem? this
      obtain ⟨q, hq, rfl⟩ := List.mem_map.mp km
      have := getS_nodup ndS (p := q.1) (x := q.2) (allS_pre _ _ _ hq)
      rw [this]
      refine List.mem_filter.mpr ⟨hq, decide_eq_true ?_⟩
      show cmF ps p < outF ps q.1
      unfold outF
      unfold cmF at n2 ⊢
      exact n2.2
def lastK (hs : List (Int × Addr)) : List (Key × V) := mergeK [] (hs.map fun h => (.inl h.1, .ref h.2))
theorem lastK_snoc (hs : List (Int × Addr)) (h : Int × Addr) : lastK (hs ++ [h]) = putK (lastK hs) (.inl h.1) (.ref h.2) := by
  unfold lastK mergeK
  rw [List.map_append, List.foldl_append]; rfl
theorem last_of : ∀ (rs : List (Int × Addr)) (k : Key) (v : V), valV (lastK rs.reverse) k = some v → ∃ (j : Nat) (h : Int × Addr), rs.reverse[j]? = some h ∧ k = .inl h.1 ∧ v = .ref h.2 ∧ ∀ (j2 : Nat) (h2 : Int × Addr), j < j2 → rs.reverse[j2]? = some h2 → h2.1 ≠ h.1
  | [], k, v, e => by cases e
  | x :: rs, k, v, e => by
    rw [List.reverse_cons, lastK_snoc, valV_put] at e
    rw [List.reverse_cons]
    by_cases c : k = .inl x.1
    · rw [if_pos c] at e
      refine ⟨rs.reverse.length, x, by rw [List.getElem?_append_right (Nat.le_refl _), Nat.sub_self]; rfl, c, (Option.some.inj e).symm, fun j2 h2 l g => ?_⟩
      have := (List.getElem?_eq_some_iff.mp g).1
      rw [List.length_append] at this
      have : ([x] : List (Int × Addr)).length = 1 := rfl
      omega
    · rw [if_neg c] at e
      obtain ⟨j, h, g, ek, ev, f⟩ := last_of rs k v e
      have hj := (List.getElem?_eq_some_iff.mp g).1
      refine ⟨j, h, by rw [List.getElem?_append_left hj]; exact g, ek, ev, fun j2 h2 l g2 => ?_⟩
      rcases Nat.lt_or_ge j2 rs.reverse.length with l2 | l2
      · rw [List.getElem?_append_left l2] at g2
        exact f j2 h2 l g2
      · rw [List.getElem?_append_right l2] at g2
        have : h2 = x := by
          have := List.mem_of_getElem? g2
          exact List.mem_singleton.mp this
        rw [this]
        intro z
        exact c (by rw [ek, z])
theorem last_at {hs : List (Int × Addr)} {k : Key} {v : V} (e : valV (lastK hs) k = some v) : ∃ (j : Nat) (h : Int × Addr), hs[j]? = some h ∧ k = .inl h.1 ∧ v = .ref h.2 ∧ ∀ (j2 : Nat) (h2 : Int × Addr), j < j2 → hs[j2]? = some h2 → h2.1 ≠ h.1 := by
  have := last_of hs.reverse k v
  rw [List.reverse_reverse] at this
  exact this e
theorem last_has : ∀ (rs : List (Int × Addr)), ∀ h ∈ rs.reverse, ∃ v, valV (lastK rs.reverse) (.inl h.1) = some v
  | [], h, m => absurd m List.not_mem_nil
  | x :: rs, h, m => by
    rw [List.reverse_cons] at m
    rw [List.reverse_cons, lastK_snoc, valV_put]
    by_cases c : (Sum.inl h.1 : Key) = .inl x.1
    · rw [if_pos c]; exact ⟨_, rfl⟩
    · rw [if_neg c]
      rcases List.mem_append.mp m with m | m
      · exact last_has rs h m
      · exact absurd (by rw [List.mem_singleton.mp m]) c
theorem has_last {hs : List (Int × Addr)} {h : Int × Addr} (m : h ∈ hs) : ∃ v, valV (lastK hs) (.inl h.1) = some v := by
  have := last_has hs.reverse h
  rw [List.reverse_reverse] at this
  exact this m
theorem val_of_mem {kvs : List (Key × V)} {k : Key} {v : V} (m : (k, v) ∈ kvs) : ∃ v2, valV kvs k = some v2 := by
  have h := valV_any k kvs
  have a : (kvs.any fun kv => decide (kv.1 = k)) = true := List.any_eq_true.mpr ⟨_, m, decide_eq_true rfl⟩
  rw [a] at h
  exact Option.isSome_iff_exists.mp h.symm
theorem lastK_len (hs : List (Int × Addr)) : (lastK hs).length ≤ hs.length := by
  have : ∀ rs : List (Int × Addr), (lastK rs.reverse).length ≤ rs.length := by
    intro rs
    induction rs with
    | nil => exact Nat.le_refl _
    | cons x rs ih =>
      rw [List.reverse_cons, lastK_snoc, List.length_cons]
      exact Nat.le_trans (length_putK _ _ _) (Nat.succ_le_succ ih)
  have h := this hs.reverse
  rwa [List.reverse_reverse, List.length_reverse] at h
theorem nm_ok : ∀ n, n < 40 → PyData.strOk (nmN n) = true := by decide +kernel

end
end Pot

namespace Pot
open PySem PySem.Spec PyProof.Rows L2
section
variable {P : Program} {w : World} {K : PySem.W.Frag} {mg : Str → Option Value} {base : Heap}
theorem gd_exR : ∀ {l : List PyData}, (∀ d ∈ l, ∃ m, gd m d) → ∃ k, gdAll k l
  | [], _ => ⟨0, trivial⟩
  | x :: l, h => by
    obtain ⟨m, hm⟩ := h x List.mem_cons_self
    obtain ⟨k, hk⟩ := gd_exR (l := l) fun d hd => h d (List.mem_cons_of_mem _ hd)
    exact ⟨m + k, gd_mono (Nat.le_add_right _ _) _ hm, gdAll_mono (Nat.le_add_left _ _) _ hk⟩
theorem dp_ext {H H' : Hp} {us : List V} {ds : List PyData} (s : LamX.ExtN H H') (n : noLAll ds) (d : DpAll K H us ds) : DpAll K H' us ds := dpAll_go (fun _ _ h => RLam.sqT_ext h s) n d
theorem SeenAt.ext {N : List Addr} {H H' : Hp} {ps : List Pc} {sl : Int} {L : List Nat} {i : Nat} {vs : List V} (h : SeenAt K N H ps sl L i vs) (s : LamX.ExtN H H') : SeenAt K N H' ps sl L i vs := by
  refine ⟨h.1, fun j p hj g => ?_⟩
  obtain ⟨t, R, us, a, b, c2, d, e⟩ := h.2 j p hj g
  exact ⟨t, R, us, a, s _ _ b (fun _ z => by cases z), s _ _ c2 (fun _ z => by cases z), d, dp_ext s (iD_noL _) e⟩
theorem list_of {α : Type} {P : Nat → α → Prop} : ∀ {n : Nat}, (∀ j, j < n → ∃ x, P j x) → ∃ l : List α, l.length = n ∧ ∀ (j : Nat) (x : α), l[j]? = some x → P j x
  | 0, _ => ⟨[], rfl, fun j x e => by cases e⟩
  | n + 1, h => by
    obtain ⟨l, hl, f⟩ := list_of (P := P) (n := n) fun j hj => h j (by omega)
    obtain ⟨x, hx⟩ := h n (Nat.lt_succ_self n)
    refine ⟨l ++ [x], by rw [List.length_append, hl]; rfl, fun j y e => ?_⟩
    rcases Nat.lt_or_ge j l.length with c | c
    · rw [List.getElem?_append_left c] at e
      exact f j y e
    · rw [List.getElem?_append_right c] at e
      obtain rfl := List.mem_singleton.mp (List.mem_of_getElem? e)
      have hj := (List.getElem?_eq_some_iff.mp e).1
      have h1 : ([y] : List α).length = 1 := rfl
      obtain rfl : j = n := by omega
      exact hx
/-- what is told of the hours, as pairs -/
theorem SeenAt.list {N : List Addr} {H : Hp} {ps : List Pc} {sl : Int} {L : List Nat} {vs : List V} (h : SeenAt K N H ps sl L L.length vs) : ∃ hs : List (Int × Addr), hs.length = L.length ∧ ∀ (j : Nat) (x : Int × Addr), hs[j]? = some x → ∃ (t : Addr) (p : Nat) (us : List V), vs[j]? = some (.ref t) ∧ L[j]? = some p ∧ x.1 = cmF ps p ∧ H t = some (.tup [.int x.1, .ref x.2]) ∧ H x.2 = some (.lst us) ∧ DpAll K H us ((inR ps (runT ps sl (L.take (j + 1))).ins x.1).map (iD ps x.1)) := by
  refine list_of (P := fun (j : Nat) (x : Int × Addr) => ∃ (t : Addr) (p : Nat) (us : List V), vs[j]? = some (.ref t) ∧ L[j]? = some p ∧ x.1 = cmF ps p ∧ H t = some (.tup [.int x.1, .ref x.2]) ∧ H x.2 = some (.lst us) ∧ DpAll K H us ((inR ps (runT ps sl (L.take (j + 1))).ins x.1).map (iD ps x.1))) fun j hj => ?_
  obtain ⟨t, R, us, a, b, c, _, e⟩ := h.2 j _ hj (List.getElem?_eq_getElem hj)
  exact ⟨(cmF ps L[j], R), t, L[j], us, a, List.getElem?_eq_getElem hj, rfl, b, c, e⟩
theorem paired_of {α β : Type} {F : α → β → Prop} : ∀ {l : List α} {m : List β}, l.length = m.length → (∀ (j : Nat) (a : α) (b : β), l[j]? = some a → m[j]? = some b → F a b) → Paired F l m
  | [], [], _, _ => .nil
  | a :: l, b :: m, e, h => .cons (h 0 a b rfl rfl) (paired_of (Nat.succ.inj e) fun j a b h1 h2 => h (j + 1) a b h1 h2)
  | [], _ :: _, e, _ => by cases e
  | _ :: _, [], e, _ => by cases e
theorem inR_eq (ps : List Pc) (z : Int) (l : List (Nat × Nat)) : (l.map (iD ps z)).mergeSort (PySem.W.dataLe false fun d => d) = (inR ps l z).map (iD ps z) := (List.map_mergeSort (r := PySem.W.dataLe false (iD ps z)) (s := PySem.W.dataLe false fun d => d) (f := iD ps z) fun _ _ _ _ => rfl).symm
theorem nv_ints (l : List Nat) (f : Nat → Nat) : (l.map fun n => natV (f n)) = (l.map fun n => ((f n : Nat) : Int)).map V.int := by rw [List.map_map]; rfl
theorem ints_shE (ns : List Int) : SeqAt.shaped (.list (ns.map PyData.int)) = true ∧ PyData.eqv (.list (ns.map PyData.int)) (.list (ns.map PyData.int)) = true := by
  obtain ⟨k, hk⟩ : ∃ k, gdAll k (ns.map PyData.int) := gd_exR fun d hd => by
    obtain ⟨q, _, rfl⟩ := List.mem_map.mp hd
    exact ⟨q.natAbs, Nat.le_refl _⟩
  refine ⟨gd_shaped (m := k) (d := .list (ns.map PyData.int)) hk ?_, SeqAt.eqv_refl _ (gd_lay _ (show gd k (.list (ns.map PyData.int)) from hk))⟩
  have : PyData.depthAll (ns.map PyData.int) ≤ 1 := depthAll_iff.mpr fun d hd => by
    obtain ⟨q, _, rfl⟩ := List.mem_map.mp hd
    exact Nat.zero_le _
  show PyData.depthAll _ + 1 ≤ 64
  omega
theorem rg_nat (n : Nat) : rgV 0 (n : Nat) = (List.range n).map natV := by
  unfold rgV
  have e : (((n : Nat) : Int) - 0).toNat = n := by omega
  rw [e]
  exact List.map_congr_left fun i _ => by show V.int (0 + (i : Int)) = V.int (i : Int); rw [Int.zero_add]
theorem nm_gd : ∀ n, n < 40 → (nmN n).length ≤ 100 ∧ ∀ c ∈ (nmN n).cps.toList, c < 128 := by decide +kernel
theorem st_gd {n : Nat} (h : n < 40) (m : Nat) : gd m (.str (nmN n)) := ⟨Nat.le_trans (nm_gd n h).1 (by decide), fun c hc => by have := (nm_gd n h).2 c hc; omega⟩
theorem rows_sh {ps : List Pc} {l : List (Nat × Nat)} (lt : ∀ q ∈ l, q.1 < 40) : SeqAt.shaped (.list (l.map (gD ps))) = true ∧ PyData.eqv (.list (l.map (gD ps))) (.list (l.map (gD ps))) = true := by
  obtain ⟨k, hk⟩ : ∃ k, gdAll k (l.map (gD ps)) := gd_exR fun d hd => by
    obtain ⟨q, hq, rfl⟩ := List.mem_map.mp hd
    exact ⟨(outF ps q.1).natAbs + q.2, (by show Int.natAbs _ ≤ _; omega), (by show Int.natAbs ((q.2 : Nat) : Int) ≤ _; omega), st_gd (lt q hq) _, trivial⟩
  refine ⟨gd_shaped (m := k) (d := .list (l.map (gD ps))) hk ?_, SeqAt.eqv_refl _ (gd_lay _ (show gd k (.list (l.map (gD ps))) from hk))⟩
  have : PyData.depthAll (l.map (gD ps)) ≤ 1 := depthAll_iff.mpr fun d hd => by
    obtain ⟨q, _, rfl⟩ := List.mem_map.mp hd
    show max 0 (max 0 (max 0 0)) + 1 ≤ 1
    decide
  show PyData.depthAll _ + 1 ≤ 64
  omega
theorem rows_shI {ps : List Pc} {z : Int} {l : List (Nat × Nat)} (lt : ∀ q ∈ l, q.1 < 40) : SeqAt.shaped (.list (l.map (iD ps z))) = true ∧ PyData.eqv (.list (l.map (iD ps z))) (.list (l.map (iD ps z))) = true := by
  obtain ⟨k, hk⟩ : ∃ k, gdAll k (l.map (iD ps z)) := gd_exR fun d hd => by
    obtain ⟨q, hq, rfl⟩ := List.mem_map.mp hd
    exact ⟨(outF ps q.1 - z).natAbs + q.2, (by show Int.natAbs ((q.2 : Nat) : Int) ≤ _; omega), st_gd (lt q hq) _, (by show Int.natAbs _ ≤ _; omega), trivial⟩
  refine ⟨gd_shaped (m := k) (d := .list (l.map (iD ps z))) hk ?_, SeqAt.eqv_refl _ (gd_lay _ (show gd k (.list (l.map (iD ps z))) from hk))⟩
  have : PyData.depthAll (l.map (iD ps z)) ≤ 1 := depthAll_iff.mpr fun d hd => by
    obtain ⟨q, _, rfl⟩ := List.mem_map.mp hd
    show max 0 (max 0 (max 0 0)) + 1 ≤ 1
    decide
  show PyData.depthAll _ + 1 ≤ 64
  omega
def spLR (K : PySem.W.Frag) (Pt Pk : Addr) : Sp := fun vs H Q _ => ∃ (a m : Addr) (xs : List V) (ps : List Pc) (zs : List Int), vs = [.ref a, .ref m] ∧ SqL K H a xs ∧ DpAll K H xs (ps.map pcD) ∧ PcOk ps ∧ HoursOk ps zs ∧ SqT K H m [.int (bestF ps zs).1, opV (bestF ps zs).2] ∧ LamX.Tabs (TT Pt Pk) H ∧
  ∀ (H' : Hp), LamX.ExtN H H' → LamX.Tabs (TT Pt Pk) H' → Q (.bl true) H'
abbrev s__law_all_right : Stmt := topS 28
def n__law_all_right : List Str := ["_law_pieces_here", "_law_most", "_law_numbers", "_law_found", "_law_number", "_law_hour", "_law_last", "_law_due", "_law_inside"]
theorem sc__law_all_right : FnScope n__law_all_right ["_law_pieces_here", "_law_most"] (defScope s__law_all_right) := ⟨rfl, rfl, rfl, by decide +kernel, rfl, by decide +kernel, by decide +kernel⟩
set_option maxHeartbeats 2000000 in
theorem ok_lr {C Pt Pk f : Addr} {fd : FuncData} {k : Nat} (F : Fun K "_law_all_right" "_law_all_right" s__law_all_right f fd) (T : Txt mg) (LD : Dct mg) (c__law_name : Cl P w K mg base 1 "_law_name" spNm) (c__law_through : Cl P w K mg base 5 "_law_through" (spThr K C)) (c__law_out : Cl P w K mg base 2 "_law_out" (spLOut K)) (c_slotted : Cl P w K mg base 3 "slotted" (spSlot K Pt Pk)) (c_in_at : Cl P w K mg base 3 "in_at" (spAt K)) : FnOk P w K mg base CX0 (k + 6) f fd ["_law_pieces_here", "_law_most"] (spLR K Pt Pk) := by
  refine F.ok sc__law_all_right (fun vs H Q E h => ?_) (fun cdv A outer s H vs Q E hr h => ?_)
  · obtain ⟨a, m, xs, ps, zs, rfl, _⟩ := h
    rfl
  · obtain ⟨a, m, xs, ps, zs, rfl, hS, da, ok, hz, hm, tb0, q⟩ := h
    have nd := sc__law_all_right.nd
    have hu := hu_of hr
    have hu64 := hr.units
    have hu70 : (A.deeper (envOfC (Str.ofString "_law_all_right") (defScope s__law_all_right) s.heap.objs.size f cdv)).units + 70 < cLine := by have := hr.un; omega
    /- 0 _law_pieces_here, 1 _law_most, 2 _law_numbers, 3 _law_found, 4 _law_number, 5 _law_hour, 6 _law_last, 7 _law_due, 8 _law_inside -/
    refine ⟨_, (pss_cons (ps_set (i := 2) nd rfl (.inl rfl) (pe_listRg rfl (by rfl) T.list (prg_1 (by rfl) T.range (pe_callB (kc_len (K := K)) (by rfl) T.len PySem.boot_len (pa_cons (pv 0) pa_nil)))))
      (pss_cons (ps_set (i := 3) nd rfl (.inr rfl) (pe_cl c__law_through hr (by omega) (by rfl) (pa_cons (pv 0) (pa_cons (pe_ix (kx_tup (K := K)) (pv 1) pe_int (fun _ _ => rfl)) (pa_cons (pv 2) pa_nil)))))
      (pss_cons (ps_if ((pw_or (pt_cmpR op_isN (pv 3) pe_non (nomark _)) (pw_or1 (pt_cmpR (ko_ne (K := K) hu64) (pe_ix (kx_tup (K := K)) (pv 3) pe_int (fun _ _ => rfl)) (pe_cl c__law_out hr (by omega) (by rfl) (pa_cons (pv 0) (pa_cons (pe_ix (kx_tup (K := K)) (pv 3) pe_int (fun _ _ => rfl)) pa_nil))) (nomark _))))).pt
          pss_never
          pss_nil)
      (pss_cons (ps_if (pt_cmpR (ko_ne (K := K) hu64) (pe_lc (own := [("_law_number", 4)]) rfl nd (ki_list (K := K) (pv 2)) (blkOk_by (N := n__law_all_right) (sc := defScope s__law_all_right) (by decide +kernel)) (fun _ _ _ _ _ => (pg_name (i := 4) nd rfl (.inl rfl))) (fun _ _ _ _ _ => pts_nil) (fun _ _ _ _ _ => (pe_dget hu (pe_ix (kx_tup (K := K)) (pv 3) pe_int (fun _ _ => rfl)) (pv 4) (fun _ _ => rfl)))) (pe_cl c_slotted hr (by omega) (by rfl) (pa_cons (pv 0) pa_nil)) (nomark _))
          pss_never
          pss_nil)
      (pss_cons (ps_set (i := 6) nd rfl (.inl rfl) (pe_callTy (kc_dictP (K := K)) (by rfl) LD (by decide +kernel) (pa_cons (pe_lc (own := [("_law_hour", 5), ("_law_inside", 8)]) rfl nd (ki_list (K := K) (pe_ix (kx_tup (K := K)) (pv 3) pe_int (fun _ _ => rfl))) (blkOk_by (N := n__law_all_right) (sc := defScope s__law_all_right) (by decide +kernel)) (fun _ _ _ _ _ => (kg_tup (K := K) (n := 2) (pgs_cons (pg_name (i := 5) nd rfl (.inl rfl)) (pgs_cons (pg_name (i := 8) nd rfl (.inl rfl)) pgs_nil)))) (fun _ _ _ _ _ => pts_nil) (fun _ _ _ _ _ => (pe_tup (pa_cons (pv 5) (pa_cons (pv 8) pa_nil))))) pa_nil)))
      (pss_cons (ps_lock (ps_for PassesOwn.never rfl (pi_keys (pv 6)) (pg_name (i := 5) nd rfl (.inl rfl))
          (pss_cons (ps_set (i := 7) nd rfl (.inl rfl) (pe_lst pa_nil))
          (pss_cons (ps_for PassesOwn.never rfl (ki_list (K := K) (pe_cl c_in_at hr (by omega) (by rfl) (pa_cons (pv 0) (pa_cons (pv 5) pa_nil)))) (pg_name (i := 4) nd rfl (.inl rfl))
              (pss_one (ps_expr (pe_bm PySem.F.plainAttrs_list PySem.F.slot_list_append PySem.F.type_list_append mt_append (pv 7) (pa_cons (pe_tup (pa_cons (pe_dget hu (pe_ix (kx_tup (K := K)) (pv 3) pe_int (fun _ _ => rfl)) (pv 4) (fun _ _ => rfl)) (pa_cons (pe_cl c__law_name hr (by omega) (by rfl) (pa_cons (pv 4) pa_nil)) (pa_cons (pe_op op_sub (pe_callB (kc_sumT (K := K)) (by rfl) T.sum (by decide +kernel) (pa_cons (pe_ix (kx_list (K := K)) (pv 0) (pv 4) (fun _ _ => rfl)) pa_nil)) (pv 5)) pa_nil)))) pa_nil)))))
          (pss_one (ps_if ((pw_or (pt_cmpR (ko_ne (K := K) hu64) (pe_dget hu (pv 6) (pv 5) (fun _ _ => rfl)) (pe_callB (kc_sortedM (K := K) hu70) (by rfl) T.sorted (by decide +kernel) (pa_cons (pv 7) pa_nil)) (nomark _)) (pw_or (pt_cmpR op_gt (pe_callB (kc_len (K := K)) (by rfl) T.len PySem.boot_len (pa_cons (pv 7) pa_nil)) (pe_ix (kx_tup (K := K)) (pv 1) pe_int (fun _ _ => rfl)) (nomark _)) (pw_or1 ((pw_and (pt_cmpR op_eq (pe_callB (kc_len (K := K)) (by rfl) T.len PySem.boot_len (pa_cons (pv 7) pa_nil)) (pe_ix (kx_tup (K := K)) (pv 1) pe_int (fun _ _ => rfl)) (nomark _)) (pw_and1 (pt_cmpR op_lt (pv 5) (pe_ix (kx_tup (K := K)) (pv 1) pe_int (fun _ _ => rfl)) (nomark _))))).pt)))).pt
              pss_never
              pss_nil))))))
      (pss_one (ps_ret (pe_or (pe_cmpR op_eq (pe_ix (kx_tup (K := K)) (pv 1) pe_int (fun _ _ => rfl)) pe_int (nomark _)) (pe_one (pe_cmpR op_eq (pe_callB (kc_len (K := K)) (by rfl) T.len PySem.boot_len (pa_cons (pe_dget hu (pv 6) (pe_ix (kx_tup (K := K)) (pv 1) pe_int (fun _ _ => rfl)) (fun _ _ => rfl)) pa_nil)) (pe_ix (kx_tup (K := K)) (pv 1) pe_int (fun _ _ => rfl)) (nomark _)))))))))))), ?_⟩
    have l40 := ok.len
    have lx : xs.length = ps.length := dpAll_map_len da
    obtain ⟨b0, b1, b2⟩ := best_end ps zs
    obtain ⟨sl, esl⟩ : ∃ sl : Nat, (bestF ps zs).1 = (sl : Nat) := ⟨(bestF ps zs).1.toNat, by omega⟩
    have sl40 : sl ≤ 40 := by
      rcases b2 with b2 | ⟨j, z, _, e, _⟩
      · rw [b2] at esl; have : (0 : Int) = (sl : Nat) := esl; omega
      · rw [e] at esl
        have h1 : (((hereF ps z).length : Nat) : Int) = (sl : Nat) := esl
        have := hereF_len ps z
        omega
    have cap : ∀ p ∈ ordF ps, (((ordF ps).countP (innF ps (cmF ps p)) : Nat) : Int) ≤ (sl : Nat) := fun p hp => esl ▸ cap_best hz (ordF_mem.mp hp)
    have ltO : ∀ p ∈ ordF ps, p < ps.length := fun p hp => ordF_mem.mp hp
    have eg := none_out' ok (by omega) (ordF_RO ps) (ordF_nodup ps) ltO cap
    have ego := gone_eq (sl := (sl : Nat)) ok (by omega) (ordF_RO ps) ltO
    have eWS : somesF (runT ps (sl : Nat) (ordF ps)).got = allS ps (ordF ps) := by rw [eg]; exact somes_all _
    rw [eWS] at ego
    rw [esl] at hm
    refine ⟨_, rfl, _, _, rfl, .inl ⟨_, hS, rfl⟩, _, rfl, RgOk.of_le (by decide) (by omega) (by decide) (by omega), fun N nN => ?_⟩
    rw [lx, rg_nat]
    have s1 := same_upd (o := .lst ((List.range ps.length).map natV)) nN
    have hN : upd H N (.lst ((List.range ps.length).map natV)) N = some (.lst ((List.range ps.length).map natV)) := upd_same
    generalize upd H N (.lst ((List.range ps.length).map natV)) = H1 at s1 hN ⊢
    simp only [gName, List.set, L2.start]
    refine ⟨_, rfl, _, rfl, m, _, 0, _, rfl, rfl, same_tup s1 hm, rfl, _, rfl, a, N, xs, ps, sl, List.range ps.length, rfl, s1.seq hS, dpAll_same s1 da, ok, by omega, SqL.of hN, List.nodup_range, fun n hn => List.mem_range.mp hn, fun H2 t G Z S us vs s12 ht nG nZ nS hG hZ dZ hSS se => ?_⟩
    rw [ord_eq] at hG dZ se
    rw [ego] at dZ
    rw [eg] at hG
    have s2 := s1.trans s12
    have hN2 := s12 _ _ hN
    have hGF : H2 G = some (.dK (gotK ((allS ps (ordF ps)).map fun q => (q.1, some q.2)))) := hG
    have ndS : ((allS ps (ordF ps)).map (·.1)).Nodup := by rw [keys_all]; exact ordF_nodup ps
    have mkey : ((allS ps (ordF ps)).map fun q => (q.1, some q.2)).map (·.1) = ordF ps := by rw [List.map_map]; exact keys_all (ps := ps) (ordF ps)
    have ltS : ∀ q ∈ allS ps (ordF ps), q.1 < ps.length := fun q hq => ltO _ (by
      have := List.mem_map_of_mem (f := (·.1)) hq
      rwa [keys_all] at this)
    simp only [gName, List.set]
    have e0 : decide (V.ref t = V.non) = false := rfl
    refine ⟨_, rfl, rfl, _, rfl, ?_⟩
    rw [e0]
    refine iteF ?_
    have lt40 : ∀ q ∈ allS ps (ordF ps), q.1 < 40 := fun q hq => by have := ltS q hq; omega
    refine ⟨_, rfl, t, _, 1, _, rfl, rfl, .inl (.inl ht), rfl, _, rfl, _, rfl, t, _, 0, _, rfl, rfl, .inl (.inl ht), rfl, a, G, xs, ps, _, rfl, s2.seq hS, dpAll_same s2 da, ok, hG, (by rw [mkey]; exact ordF_nodup ps), fun q hq => ?_, fun H3 R ws s3 nR hR dR => ?_⟩
    · obtain ⟨q2, h2, rfl⟩ := List.mem_map.mp hq
      exact ltS q2 h2
    rw [somes_all] at dR
    have ltOut : ∀ q ∈ outR ps (allS ps (ordF ps)), q.1 < 40 := fun q hq => lt40 q ((outR_perm ps _).subset hq)
    obtain ⟨sh, ev⟩ := rows_sh (ps := ps) ltOut
    refine ⟨_, _, .lst (SqL.of (s3 _ _ hZ)) (dpAll_same s3 dZ), .lst (SqL.of hR) dR, sh, sh, _, rfl, ?_⟩
    rw [ev]
    refine iteF ?_
    have getG : ∀ (Hx : Hp) (n : Nat), n < ps.length → Hx G = some (.dK (gotK ((allS ps (ordF ps)).map fun q => (q.1, some q.2)))) → DGet Hx G (.int (n : Nat)) (some (natV (getS (allS ps (ordF ps)) n))) := fun Hx n hn e => by
      have h1 := (getS_of (S := allS ps (ordF ps)) (p := n) (by rw [keys_all]; exact ordF_mem.mpr hn)).2
      have := DGet.k (k := .inl ((n : Nat) : Int)) e
      rw [gotK_get (o := some (getS (allS ps (ordF ps)) n)) (by rw [mkey]; exact ordF_nodup ps) (List.mem_map.mpr ⟨_, h1, rfl⟩)] at this
      exact this
    refine ⟨_, rfl, N, rfl, ⟨_, SqL.of (s3 _ _ hN2)⟩, fun D nD => ?_⟩
    refine lc_it (walk_list (xs := (List.range ps.length).map natV)) (PvL H3 D fun i => ((List.range ps.length).take i).map fun n => natV (getS (allS ps (ordF ps)) n)) (pv_start nD rfl) (fun i Hx _ h => SqL.of (h.1 _ _ (s3 _ _ hN2))) ?_ ?_
    · rintro i y Hx Hy hi pz ⟨rfl, gy⟩
      rw [List.getElem?_map] at gy
      obtain ⟨n, gn, rfl⟩ := Option.map_eq_some_iff.mp gy
      have hn : n < ps.length := List.mem_range.mp (List.mem_of_getElem? gn)
      refine ⟨rfl, tYes_at ?_⟩
      rw [if_pos rfl]
      have sy := s3.trans pz.1
      refine ⟨_, rfl, t, _, 0, _, rfl, rfl, .inl (.inl (sy _ _ ht)), rfl, _, rfl, G, _, rfl, getG _ n hn (sy _ _ hG), ?_⟩
      exact pv_put nD pz (Same.refl _) (take_map (fun n => natV (getS (allS ps (ordF ps)) n)) gn) (by rw [List.length_map, List.length_take, sizeLine_eq, List.length_range]; omega)
    · intro Hx pz
      obtain ⟨s4, hD⟩ := pv_end pz (show _ = (List.range ps.length).map fun n => natV (getS (allS ps (ordF ps)) n) by rw [List.length_map, List.take_length])
      have s24 := s3.trans s4
      have s04 := s2.trans s24
      refine ⟨_, rfl, a, xs, ps, rfl, s04.seq hS, dpAll_same s04 da, by omega, tb0.ext s04, fun H5 L x5 tb5 fr5 hL => ?_⟩
      have nt : ∀ {xs : List V} (ps : Array Value), HO.lst xs ≠ .tbl ps := fun ps z => by cases z
      obtain ⟨shI, evI⟩ := ints_shE ((List.range ps.length).map fun n => ((getS (allS ps (ordF ps)) n : Nat) : Int))
      have hD5 := x5 _ _ hD nt
      rw [nv_ints] at hD5 hL
      refine ⟨_, _, .lst (SqL.of hD5) (dp_ints _), .lst (SqL.of hL) (dp_ints _), shI, shI, _, rfl, ?_⟩
      rw [evI]
      refine iteF ?_
      have x25 : LamX.ExtN H2 H5 := (LamX.ExtN.of s24).trans x5
      have x05 : LamX.ExtN H H5 := (LamX.ExtN.of s04).trans x5
      have ht5 := x25 _ _ ht (fun _ z => by cases z)
      have hG5 := x25 _ _ hG (fun _ z => by cases z)
      have hS5 := x25 _ _ hSS nt
      have hA5 := RLam.sqL_ext hS x05
      have da5 := pcs_ext x05 da
      have hm5 := RLam.sqT_ext hm x05
      have lO := ordF_len ps
      have se5 := se.ext x25
      rw [List.length_range, ← lO] at se5
      obtain ⟨hs, lhs, seen⟩ := se5.list
      have lvs0 := se5.1
      clear se5 se x5 fr5 hL hD5 shI evI pz s24 s4 hD nD dR hR s3 nR ws sh ev dZ hZ hSS hGF
      simp only [gName, List.set]
      refine ⟨_, rfl, t, _, 2, _, rfl, rfl, .inl (.inl ht5), rfl, S, rfl, ⟨_, SqL.of hS5⟩, fun D2 nD2 => ?_⟩
      have lvs : vs.length = hs.length := by
        rw [lhs]
        exact lvs0
      refine lc_it (walk_list (xs := vs)) (fun i Hy => ∃ as : List Addr, Hy D2 = some (.lst (as.map V.ref)) ∧ Same H5 Hy ∧ as.length = i ∧ ∀ (j : Nat) (b : Addr) (h : Int × Addr), as[j]? = some b → hs[j]? = some h → Hy b = some (.tup [.int h.1, .ref h.2])) ⟨[], upd_same, same_upd nD2, rfl, fun j b h e => by cases e⟩ (fun i Hy _ h => by
        obtain ⟨as, _, sy, _⟩ := h
        exact SqL.of (sy _ _ hS5)) ?_ ?_
      · rintro i y Hy Hw hi ⟨as, hD, sy, la, pr⟩ ⟨rfl, gy⟩
        rw [lvs] at hi
        obtain ⟨tj, pj, uj, g1, g2, e1, ht1, hR1, dR1⟩ := seen i _ (List.getElem?_eq_getElem hi)
        have gi := List.getElem?_eq_getElem hi
        generalize hs[i]'hi = x at g1 g2 e1 ht1 hR1 dR1 gi
        rw [g1] at gy
        obtain rfl := Option.some.inj gy
        refine ⟨tj, _, rfl, .inl (.inl (sy _ _ ht1)), rfl, _, _, rfl, _, _, rfl, rfl, rfl, tYes_at ?_⟩
        rw [if_pos rfl]
        refine ⟨_, rfl, _, rfl, (by show 2 ≤ sizeLine; decide), fun pt npt => ?_⟩
        have pD : D2 ≠ pt := ne_of_none hD npt
        refine ⟨as.map V.ref, (upd_ne pD).trans hD, by rw [List.length_map, la, sizeLine_eq]; omega, as ++ [pt], by rw [upd_same, List.map_append]; rfl, same_in (sy.trans (same_upd npt)) nD2, by rw [List.length_append, la]; rfl, fun j b h gb gh => ?_⟩
        rcases Nat.lt_or_ge j as.length with c | c
        · rw [List.getElem?_append_left c] at gb
          have hb := pr j b h gb gh
          have bD : b ≠ D2 := fun z => by rw [z, hD] at hb; cases hb
          rw [upd_ne bD]
          exact (same_upd npt) _ _ hb
        · rw [List.getElem?_append_right c] at gb
          obtain rfl := List.mem_singleton.mp (List.mem_of_getElem? gb)
          have hj := (List.getElem?_eq_some_iff.mp gb).1
          have h1 : ([b] : List Addr).length = 1 := rfl
          obtain rfl : j = i := by omega
          obtain rfl := Option.some.inj (gi.symm.trans gh)
          rw [upd_ne pD.symm]
          exact upd_same
      · rintro Hy ⟨as, hD, sy, la, pr⟩
        refine ⟨D2, as, hs.map fun h => (.inl h.1, .ref h.2), rfl, SqL.of hD, paired_of (by rw [List.length_map, la, lvs]) (fun j b c gb gc => ?_), fun Ld nL => ?_⟩
        · rw [List.getElem?_map] at gc
          obtain ⟨h, gh, rfl⟩ := Option.map_eq_some_iff.mp gc
          exact .inl (.inl (pr j b h gb gh))
        have hL6 : upd Hy Ld (.dK (lastK hs)) Ld = some (.dK (lastK hs)) := upd_same
        have s6 := sy.trans (same_upd (o := .dK (lastK hs)) nL)
        have nL5 := sy.free nL
        show gName 6 _ _ (upd Hy Ld (.dK (lastK hs))) _
        generalize upd Hy Ld (.dK (lastK hs)) = H6 at hL6 s6 ⊢
        clear nL pr hD sy la hS5 lvs lvs0
        simp only [gName, List.set]
        have ht6 := s6 _ _ ht5
        have hG6 := s6 _ _ hG5
        have hA6 := s6.seq hA5
        have da6 := dpAll_same s6 da5
        have hm6 := same_tup s6 hm5
        -- each hour of the dict, and what is told of it
        have at_ : ∀ (k : Key) (v : V), valV (lastK hs) k = some v → ∃ (z : Int) (R : Addr) (us : List V), k = .inl z ∧ v = .ref R ∧ H6 R = some (.lst us) ∧ DpAll K H6 us ((inR ps ((hereN ps z ps.length).map fun n => (n, getS (allS ps (ordF ps)) n)) z).map (iD ps z)) ∧ z ∈ zs := fun k v e => by
          obtain ⟨j, h, gh, ek, ev, la⟩ := last_at e
          obtain ⟨tj, p, us, _, gp, e1, _, hR, dR⟩ := seen j h gh
          have mp := List.mem_of_getElem? gp
          have dp := due_perm (sl := (sl : Nat)) ok (by omega) cap gp fun j2 p2 lj g2 => by
            have hj2 := (List.getElem?_eq_some_iff.mp g2).1
            have g3 : hs[j2]? = some (hs[j2]'(by omega)) := List.getElem?_eq_getElem _
            obtain ⟨_, p3, _, _, gp3, e3, _⟩ := seen j2 _ g3
            obtain rfl := Option.some.inj (g2.symm.trans gp3)
            have := la j2 _ lj g3
            rw [e3, e1] at this
            exact this
          rw [← e1] at dp
          refine ⟨h.1, h.2, us, ek, ev, s6 _ _ hR, ?_, ?_⟩
          · rw [← inR_perm dp fun q hq => by
              have := ins_mem q hq
              have := ltO _ (List.mem_of_mem_take this)
              omega]
            exact dpAll_same s6 dR
          · rw [e1]
            have hp := ltO _ mp
            refine (hz.2 _).mpr ?_
            unfold cmF
            rw [List.getD_eq_getElem?_getD, List.getElem?_eq_getElem hp]
            exact List.mem_map.mpr ⟨_, List.getElem_mem hp, rfl⟩
        have ndZ : ∀ z, ((hereN ps z ps.length).map fun n => (n, getS (allS ps (ordF ps)) n)).length = (hereF ps z).length := fun z => by
          unfold hereF
          rw [List.length_map, List.length_map]
        refine seq_mid (fun σ Hx => ∃ v4 v5 v7, σ = [some (.ref a), some (.ref m), some (.ref N), some (.ref t), v4, v5, some (.ref Ld), v7, none] ∧ Same H6 Hx) (fun N' hN' => ?_) (fun σ H7 h => ?_)
        · refine ⟨Ld, _, hL6, trivial, fun od => ?_⟩
          have sF : Sm [Ld] H6 (upd H6 Ld (.frz od (.dK (lastK hs)))) := sm_wr (by simp)
          have hF : upd H6 Ld (.frz od (.dK (lastK hs))) Ld = some (.frz od (.dK (lastK hs))) := upd_same
          generalize upd H6 Ld (.frz od (.dK (lastK hs))) = HF at sF hF ⊢
          have ntF := ntp_dk hL6
          have htF := sm_at sF (by simp [ne_of_none ht5 nL5]) ht6
          have hGF := sm_at sF (by simp [ne_of_none hG5 nL5]) hG6
          have hAF := sqL_nl sF (fun us z => by rw [hL6] at z; cases z) (fun o us z => by rw [hL6] at z; cases z) hA6
          have daF := ps_sm sF ntF da6
          have hmF := sqT_sm hm6 sF ntF
          refine ⟨_, rfl, Ld, od, rfl, .inl ⟨_, hF, ?_⟩⟩
          refine for_it (walk_keys (kvs := lastK hs)) (fun i σ Hx => ∃ v4 v5 v7, σ = [some (.ref a), some (.ref m), some (.ref N), some (.ref t), v4, v5, some (.ref Ld), v7, none] ∧ Same HF Hx) ⟨none, none, none, rfl, Same.refl _⟩ ?_ ?_ ?_
          · rintro i σ Hx _ ⟨_, _, _, _, sx⟩
            exact sx _ _ hF
          · rintro i y σ Hx Hz hi ⟨v4, v5, v7, rfl, sx⟩ ⟨rfl, key, v, gk, rfl⟩
            obtain ⟨v2, ev⟩ := val_of_mem (List.mem_of_getElem? gk)
            obtain ⟨z, R, us, rfl, rfl, hR6, dR6, zm⟩ := at_ key v2 ev
            have hRF := sm_at sF (by simp [show R ≠ Ld from fun e => by rw [e, hL6] at hR6; cases hR6]) hR6
            have dRF := dp_nt sF ntF (iD_noL _) dR6
            have dgL : ∀ Hx, Same HF Hx → DGet Hx Ld (.int z) (some (.ref R)) := fun Hx sx => .inl ⟨lastK hs, .inl z, .inr ⟨od, sx _ _ hF⟩, rfl, ev.symm⟩
            simp only [gName, List.set]
            refine ⟨Nat.zero_le _, fun E1 nE1 => ?_⟩
            have sE := sx.trans (same_upd (o := .lst []) nE1)
            have nE1F := sx.free nE1
            have hE : upd Hz E1 (.lst []) E1 = some (.lst []) := upd_same
            generalize upd Hz E1 (.lst []) = Ha at sE hE ⊢
            simp only [gName, List.set]
            refine seq_mid (fun σ Hx => ∃ v4 us, σ = [some (.ref a), some (.ref m), some (.ref N), some (.ref t), v4, some (.int z), some (.ref Ld), some (.ref E1), none] ∧ Same HF Hx ∧ Hx E1 = some (.lst us) ∧ DpAll K Hx us (((hereN ps z ps.length).map fun n => (n, getS (allS ps (ordF ps)) n)).map (iD ps z))) (fun N2 hN2 => ?_) (fun σ Hb h => ?_)
            · refine ⟨_, rfl, _, rfl, a, xs, ps, z, rfl, sE.seq hAF, dpAll_same sE daF, by omega, fun Hb L8 s8 n8 hL8 => ?_⟩
              rw [← hereF_map] at hL8
              refine ⟨L8, rfl, ⟨_, SqL.of hL8⟩, ?_⟩
              have EL : E1 ≠ L8 := ne_of_none hE n8
              have lh : (hereN ps z ps.length).length ≤ 40 := Nat.le_trans (hereN_len _ _ _) l40
              refine for_it (walk_list (xs := (hereN ps z ps.length).map natV)) (fun j σ Hx => ∃ v4 us, σ = [some (.ref a), some (.ref m), some (.ref N), some (.ref t), v4, some (.int z), some (.ref Ld), some (.ref E1), none] ∧ Same HF Hx ∧ Hx L8 = some (.lst ((hereN ps z ps.length).map natV)) ∧ Hx E1 = some (.lst us) ∧ us.length ≤ j ∧ DpAll K Hx us ((((hereN ps z ps.length).take j).map fun n => (n, getS (allS ps (ordF ps)) n)).map (iD ps z))) ⟨v4, [], rfl, sE.trans s8, hL8, s8 _ _ hE, Nat.le_refl _, .nil⟩ ?_ ?_ ?_
              · rintro j σ Hx _ ⟨_, _, _, _, hl, _⟩
                exact SqL.of hl
              · rintro j y σ Hx Hw hj ⟨v4, us2, rfl, sw, hl, hEx, lu, du⟩ ⟨rfl, gy⟩
                rw [List.getElem?_map] at gy
                obtain ⟨n, gn, rfl⟩ := Option.map_eq_some_iff.mp gy
                have hn : n < ps.length := List.mem_range.mp (List.mem_filter.mp (List.mem_of_getElem? gn)).1
                rw [List.length_map] at hj
                obtain ⟨v0, gv⟩ : ∃ v0, xs[n]? = some v0 := ⟨_, List.getElem?_eq_getElem (by rw [lx]; exact hn)⟩
                obtain ⟨pa, rfl, hpa, _, _⟩ := pcs_at daF gv
                have es : [(ps.getD n pc0).1, (ps.getD n pc0).2].sum = outF ps n := by
                  show (ps.getD n pc0).1 + ((ps.getD n pc0).2 + 0) = (ps.getD n pc0).1 + (ps.getD n pc0).2
                  omega
                refine ⟨_, rfl, .inl ⟨rfl, _, SqL.of hEx⟩, _, rfl, t, _, 0, _, rfl, rfl, .inl (.inl (sw _ _ htF)), rfl, _, rfl, G, _, rfl, getG _ n hn (sw _ _ hGF), _, rfl, n, rfl, by omega, _, rfl, _, rfl, a, _, n, _, rfl, rfl, sw.seq hAF, atI_nat gv, pa, [(ps.getD n pc0).1, (ps.getD n pc0).2], rfl, same_tup sw hpa, ?_⟩
                rw [es]
                refine ⟨_, rfl, _, _, rfl, rfl, (by show 3 ≤ sizeLine; decide), fun pt npt => ?_⟩
                have hEx2 := (same_upd (o := .tup [natV (getS (allS ps (ordF ps)) n), .str (nmN n), .int (outF ps n - z)]) npt) _ _ hEx
                have pE : pt ≠ E1 := fun e => by rw [e, hEx] at npt; cases npt
                have pL : pt ≠ L8 := fun e => by rw [e, hl] at npt; cases npt
                refine ⟨E1, us2, _, rfl, rfl, hEx2, by rw [sizeLine_eq]; omega, some (.int (n : Nat)), us2 ++ [.ref pt], rfl, same_in (sw.trans (same_upd npt)) nE1F, ?_, upd_same, by rw [List.length_append]; show _ + 1 ≤ _; omega, ?_⟩
                · rw [upd_ne EL.symm]
                  exact (same_upd npt) _ _ hl
                · have du2 := dpAll_app' (dpAll_same (same_upd (o := .tup [natV (getS (allS ps (ordF ps)) n), .str (nmN n), .int (outF ps n - z)]) npt) du) (.cons (.tup (.inl (.inl upd_same)) (.cons (.int _) (.cons (.str _) (.cons (.int _) .nil)))) .nil)
                  have e : (((hereN ps z ps.length).take (j + 1)).map fun n => (n, getS (allS ps (ordF ps)) n)).map (iD ps z) = (((hereN ps z ps.length).take j).map fun n => (n, getS (allS ps (ordF ps)) n)).map (iD ps z) ++ [iD ps z (n, getS (allS ps (ordF ps)) n)] := by
                    rw [List.take_add_one, gn, List.map_append, List.map_append]; rfl
                  rw [e]
                  exact dp_nt (S := [E1]) (sm_wr (by simp)) (ntp_lst hEx2) (e ▸ iD_noL _) du2
              · rintro σ Hx ⟨v4, us2, rfl, sw, hl, hEx, lu, du⟩
                rw [List.length_map, List.take_of_length_le (Nat.le_refl _)] at du
                exact hN2 _ _ ⟨v4, us2, rfl, sw, hEx, du⟩
            · obtain ⟨v4, ws, rfl, sb, hEb, dEb⟩ := h
              have lws : ws.length = (hereF ps z).length := by
                rw [dpAll_map_len dEb, ndZ]
              have hlt : ∀ q ∈ (hereN ps z ps.length).map fun n => (n, getS (allS ps (ordF ps)) n), q.1 < 40 := fun q hq => by
                obtain ⟨n, hn, rfl⟩ := List.mem_map.mp hq
                have := List.mem_range.mp (List.mem_filter.mp hn).1
                show n < 40
                omega
              obtain ⟨sh, ev2⟩ := rows_shI (ps := ps) (z := z) (l := inR ps ((hereN ps z ps.length).map fun n => (n, getS (allS ps (ordF ps)) n)) z) fun q hq => hlt q ((List.mergeSort_perm _ _).subset hq)
              refine ⟨_, rfl, _, rfl, Ld, _, rfl, dgL _ sb, _, rfl, E1, ws, _, rfl, SqL.of hEb, dEb, iD_cmp, fun d hd => ?_, fun ys Y dy nY => ?_⟩
              · obtain ⟨n, _, rfl⟩ := List.mem_map.mp hd
                show max 0 (max 0 (max 0 0)) + 1 ≤ 60
                decide
              rw [inR_eq] at dy
              have sY := same_upd (o := .lst ys) nY
              refine ⟨_, _, .lst (SqL.of ((sb.trans sY) _ _ hRF)) (dpAll_same (sb.trans sY) dRF), .lst (SqL.of upd_same) (dpAll_same sY dy), sh, sh, _, rfl, ?_⟩
              rw [ev2]
              refine iteF ?_
              have hEY := sY _ _ hEb
              have hmY := same_tup (sb.trans sY) hmF
              have sbY := sb.trans sY
              generalize upd Hb Y (.lst ys) = HY at hEY hmY sbY ⊢
              have c1 : decide ((sl : Int) < ((ws.length : Nat) : Int)) = false := decide_eq_false (by
                have := b1 z zm
                rw [lws]
                omega)
              refine ⟨_, rfl, _, _, rfl, .inl ⟨_, SqL.of hEY, rfl⟩, _, rfl, m, _, 0, _, rfl, rfl, hmY, rfl, _, _, rfl, rfl, _, rfl, ?_⟩
              rw [c1]
              refine iteF ⟨_, rfl, _, _, rfl, .inl ⟨_, SqL.of hEY, rfl⟩, _, rfl, m, _, 0, _, rfl, rfl, hmY, rfl, rfl, _, rfl, ?_⟩
              by_cases c2 : ws.length = sl
              · have e2 : decide (V.int ((ws.length : Nat) : Int) = V.int (sl : Nat)) = true := decide_eq_true (by rw [c2])
                rw [e2]
                have zin : 1 ≤ (hereF ps z).length := by
                  obtain ⟨pc, hpc, ez⟩ := List.mem_map.mp ((hz.2 z).mp zm)
                  obtain ⟨i1, hi1, ei1⟩ := List.getElem_of_mem hpc
                  have g1 : ps.getD i1 pc0 = pc := by rw [List.getD_eq_getElem?_getD, List.getElem?_eq_getElem hi1, ei1]; rfl
                  have := pc_of ok hi1
                  have m1 : i1 ∈ hereN ps z ps.length := List.mem_filter.mpr ⟨List.mem_range.mpr hi1, by
                    unfold inB
                    unfold outF cmF at this
                    rw [g1] at this ⊢
                    rw [Bool.and_eq_true, decide_eq_true_eq, decide_eq_true_eq]
                    have ez : pc.1 = z := ez
                    omega⟩
                  have l1 := List.length_pos_of_mem m1
                  unfold hereF
                  rw [List.length_map]
                  exact l1
                rcases b2 with b2 | ⟨jb, zb, gb, eb, fb⟩
                · rw [b2] at esl
                  have : (0 : Int) = (sl : Nat) := esl
                  omega
                · have eo : opV (bestF ps zs).2 = .int zb := by rw [eb]; rfl
                  rw [eo] at hmY
                  have c3 : decide (z < zb) = false := decide_eq_false (fun lt => by
                    obtain ⟨jz, hjz, ejz⟩ := List.getElem_of_mem zm
                    have gz : zs[jz]? = some z := by rw [List.getElem?_eq_getElem hjz, ejz]
                    have hjb := (List.getElem?_eq_some_iff.mp gb).1
                    have ejb := (List.getElem?_eq_some_iff.mp gb).2
                    have jl : jz < jb := by
                      refine Classical.byContradiction fun n => ?_
                      rcases Nat.lt_or_ge jb jz with l | l
                      · have := List.pairwise_iff_getElem.mp hz.1 jb jz hjb hjz l
                        rw [ejz, ejb] at this
                        omega
                      · obtain rfl : jz = jb := by omega
                        rw [gz] at gb
                        have := Option.some.inj gb
                        omega
                    have h1 := fb jz z jl gz
                    rw [eb] at esl
                    have h2 : (((hereF ps zb).length : Nat) : Int) = (sl : Nat) := esl
                    omega)
                  refine iteT ⟨_, rfl, _, rfl, m, _, 1, _, rfl, rfl, hmY, rfl, _, _, rfl, rfl, _, rfl, ?_⟩
                  rw [c3]
                  exact iteF ⟨_, _, _, rfl, sbY⟩
              · have e2 : decide (V.int ((ws.length : Nat) : Int) = V.int (sl : Nat)) = false := decide_eq_false (fun e => c2 (by have := V.int.inj e; omega))
                rw [e2]
                exact iteF (iteF ⟨_, _, _, rfl, sbY⟩)
          · rintro σ Hx ⟨v4, v5, v7, rfl, sx⟩
            refine ⟨sx _ _ hF, hN' _ _ ⟨v4, v5, v7, rfl, fun b o e => ?_⟩⟩
            by_cases c : b = Ld
            · rw [c, hL6] at e
              rw [c, ← Option.some.inj e]
              exact upd_same
            · rw [upd_ne c]
              exact sx _ _ (sm_at sF (by simp [c]) e)
        · obtain ⟨v4, v5, v7, rfl, s7⟩ := h
          have fin := q H7 (x05.trans (.of (s6.trans s7))) (tb5.ext (s6.trans s7))
          refine ⟨_, rfl, m, _, 0, _, rfl, rfl, same_tup s7 hm6, rfl, ?_⟩
          refine ⟨rfl, _, rfl, ?_⟩
          by_cases c0 : sl = 0
          · have e2 : decide (V.int (sl : Nat) = V.int 0) = true := decide_eq_true (by rw [c0]; rfl)
            rw [e2]
            exact iteT fin
          · have e2 : decide (V.int (sl : Nat) = V.int 0) = false := decide_eq_false (fun e => c0 (by have := V.int.inj e; omega))
            rw [e2]
            rcases b2 with b2 | ⟨jb, zb, gb, eb, fb⟩
            · rw [b2] at esl
              have : (0 : Int) = (sl : Nat) := esl
              omega
            · have eo : opV (bestF ps zs).2 = .int zb := by rw [eb]; rfl
              have hm7 := same_tup s7 hm6
              rw [eo] at hm7
              obtain ⟨pc, hpc, ez⟩ := List.mem_map.mp ((hz.2 zb).mp (List.mem_of_getElem? gb))
              obtain ⟨i1, hi1, ei1⟩ := List.getElem_of_mem hpc
              have g1 : cmF ps i1 = zb := by
                unfold cmF
                rw [List.getD_eq_getElem?_getD, List.getElem?_eq_getElem hi1, ei1]
                exact ez
              obtain ⟨i2, hi2, ei2⟩ := List.getElem_of_mem (ordF_mem.mpr hi1)
              have g2 : hs[i2]? = some (hs[i2]'(by omega)) := List.getElem?_eq_getElem _
              obtain ⟨_, p2, _, _, gp2, e3, _⟩ := seen i2 _ g2
              have e4 : p2 = i1 := by
                rw [List.getElem?_eq_getElem hi2, ei2] at gp2
                exact (Option.some.inj gp2).symm
              obtain ⟨v, hv⟩ := has_last (List.mem_of_getElem? g2)
              rw [e3, e4, g1] at hv
              obtain ⟨z, R, us, ek, rfl, hR6, dR6, _⟩ := at_ _ v hv
              obtain rfl := Sum.inl.inj ek
              have dg : DGet H7 Ld (.int zb) (some (.ref R)) := by
                have := DGet.k (k := .inl zb) (s7 _ _ hL6)
                rw [hv] at this
                exact this
              have lus : us.length = sl := by
                rw [dpAll_map_len dR6]
                unfold inR
                rw [List.length_mergeSort, ndZ]
                rw [eb] at esl
                have h2 : (((hereF ps zb).length : Nat) : Int) = (sl : Nat) := esl
                omega
              have e5 : decide (V.int ((us.length : Nat) : Int) = V.int (sl : Nat)) = true := decide_eq_true (by rw [lus])
              refine iteF ⟨_, rfl, _, rfl, m, _, 1, _, rfl, rfl, hm7, rfl, Ld, _, rfl, dg, _, _, rfl, .inl ⟨_, SqL.of (s7 _ _ hR6), rfl⟩, _, rfl, m, _, 0, _, rfl, rfl, hm7, rfl, rfl, ?_⟩
              rw [e5]
              exact fin

end
end Pot

namespace Pot
open PySem PySem.Spec PyProof.Rows L2
section
variable {P : Program} {w : World} {K : PySem.W.Frag} {mg : Str → Option Value} {base : Heap}
theorem sm_lists {H H' : Hp} {S : List Addr} (h : ∀ s ∈ S, ∃ xs, H s = some (.lst xs)) (s : Sm S H H') {b : Addr} {o : HO} (e : H b = some o) (n : ∀ xs, o ≠ .lst xs) : H' b = some o := sm_at s (fun hb => by
  obtain ⟨xs, e2⟩ := h b hb
  rw [e] at e2
  exact n xs (Option.some.inj e2)) e
theorem tabs_sm {T : List (Addr × Str)} {H H' : Hp} {S : List Addr} (h : ∀ s ∈ S, ∃ xs, H s = some (.lst xs)) (s : Sm S H H') (t : LamX.Tabs T H) : LamX.Tabs T H' := fun p hp => by
  obtain ⟨ps, h1, h2, h3⟩ := t p hp
  exact ⟨ps, sm_lists h s h1 (fun xs z => by cases z), h2, fun pos cv hc => (h3 pos cv hc).imp fun c z => ⟨z.1, sm_lists h s z.2 (fun xs q => by unfold LamX.CodeO at q; cases q)⟩⟩
theorem extN_sm {H H1 H2 : Hp} {S : List Addr} (x : LamX.ExtN H H1) (s : Sm S H1 H2) (f : ∀ s ∈ S, H s = none) : LamX.ExtN H H2 := fun b o e n => sm_at s (fun hb => by rw [f b hb] at e; cases e) (x b o e n)

def spLaw (K : PySem.W.Frag) (Pt Pk : Addr) : Sp := fun vs H Q _ => ∃ (a : Addr) (ns : List Int), vs = [.ref a] ∧ SqL K H a (ns.map V.int) ∧ ns.length ≤ 63 ∧ LamX.Tabs (TT Pt Pk) H ∧ ∀ H', Q (.bl true) H'
abbrev s_law : Stmt := topS 29
def n_law : List Str := ["_law_script", "_law_k", "_law_state", "_law_pieces_here", "_law_most", "_law_slots", "_law_numbers", "_law_hours", "_law_kept", "_law_everyone", "_law_taken", "_law_number"]
theorem sc_law : FnScope n_law ["_law_script"] (defScope s_law) := ⟨rfl, rfl, rfl, by decide +kernel, rfl, by decide +kernel, by decide +kernel⟩
set_option maxHeartbeats 4000000 in
theorem ok_law {C f Pt Pk : Addr} {fd : FuncData} {k : Nat} (F : Fun K "law" "law" s_law f fd) (T : Txt mg) (c__law_take : Cl P w K mg base 1 "_law_take" spTake) (c__law_begin : Cl P w K mg base 1 "_law_begin" (spBegin K)) (c__law_pieces : Cl P w K mg base 2 "_law_pieces" (spPieces K)) (c_most_in : Cl P w K mg base 4 "most_in" (spMost K)) (c__law_all_right : Cl P w K mg base 6 "_law_all_right" (spLR K Pt Pk)) (c_most_cooled : Cl P w K mg base 5 "most_cooled" (spMC K Pt Pk)) (c__law_through : Cl P w K mg base 5 "_law_through" (spThr K C)) (c__law_out : Cl P w K mg base 2 "_law_out" (spLOut K)) (c_bound_by : Cl P w K mg base 3 "bound_by" (spBnd K)) : FnG P w K mg base (k + 7) f fd ["_law_script"] (spLaw K Pt Pk) := by
  refine okG F sc_law (fun vs H Q E h => ?_) (fun cdv A outer s H vs Q gd hr h => ?_)
  · obtain ⟨a, ns, rfl, _⟩ := h
    rfl
  · obtain ⟨a, ns, rfl, hS, h63, tb0, q⟩ := h
    have nd := sc_law.nd
    have hu := hu_of hr
    have hu64 := hr.units
    /- 0 _law_script, 1 _law_k, 2 _law_state, 3 _law_pieces_here, 4 _law_most, 5 _law_slots, 6 _law_numbers, 7 _law_hours, 8 _law_kept, 9 _law_everyone, 10 _law_taken, 11 _law_number -/
    refine ⟨_, (pss_cons (ps_for PassesOwn.never rfl (pi_range1 (by rfl) T.range (pa_cons (pe_op op_add pe_int (pe_callB (call_min2 rfl) (by rfl) T.min (by decide +kernel) (pa_cons pe_int (pa_cons (pe_callB (kc_len (K := K)) (by rfl) T.len PySem.boot_len (pa_cons (pv 0) pa_nil)) pa_nil)))) pa_nil)) (pg_name (i := 1) nd rfl (.inl rfl))
          (pss_cons (ps_set (i := 2) nd rfl (.inl rfl) (pe_cl c__law_begin hr (by omega) (by rfl) (pa_cons (pv 0) (pa_cons (pv 1) pa_nil))))
          (pss_cons (ps_set (i := 3) nd rfl (.inl rfl) (pe_cl c__law_pieces hr (by omega) (by rfl) (pa_cons (pv 2) (pa_cons pe_int pa_nil))))
          (pss_cons (ps_set (i := 4) nd rfl (.inl rfl) (pe_cl c_most_in hr (by omega) (by rfl) (pa_cons (pv 3) pa_nil)))
          (pss_cons (ps_if (pt_not (kt_truth (K := K) (pe_cl c__law_all_right hr (by omega) (by rfl) (pa_cons (pv 3) (pa_cons (pv 4) pa_nil)))))
              pss_never
              pss_nil)
          (pss_cons (ps_set (i := 5) nd rfl (.inl rfl) (pe_ix (kx_list (K := K)) (pe_lst (pa_cons (pe_cl c__law_take hr (by omega) (by rfl) (pa_cons (pv 2) (pa_cons (pe_op op_add (pe_ix (kx_tup (K := K)) (pv 4) pe_int (fun _ _ => rfl)) pe_int) pa_nil))) (pa_cons (pe_callB (call_max2 rfl) (by rfl) T.max (by decide +kernel) (pa_cons pe_int (pa_cons (pe_op op_sub (pe_ix (kx_tup (K := K)) (pv 4) pe_int (fun _ _ => rfl)) pe_int) pa_nil))) (pa_cons pe_int pa_nil)))) (pe_cl c__law_take hr (by omega) (by rfl) (pa_cons (pv 2) (pa_cons pe_int pa_nil))) (fun _ _ => rfl)))
          (pss_cons (ps_asg (pe_cl c_most_cooled hr (by omega) (by rfl) (pa_cons (pv 3) (pa_cons (pv 5) pa_nil))) (kg_tup (K := K) (n := 2) (pgs_cons (pg_name (i := 6) nd rfl (.inl rfl)) (pgs_cons (pg_name (i := 7) nd rfl (.inl rfl)) pgs_nil))))
          (pss_cons (ps_asg (pe_tup (pa_cons (pe_cl c__law_through hr (by omega) (by rfl) (pa_cons (pv 3) (pa_cons (pv 5) (pa_cons (pv 6) pa_nil)))) (pa_cons (pe_cl c__law_through hr (by omega) (by rfl) (pa_cons (pv 3) (pa_cons (pv 5) (pa_cons (pe_listRg rfl (by rfl) T.list (prg_1 (by rfl) T.range (pe_callB (kc_len (K := K)) (by rfl) T.len PySem.boot_len (pa_cons (pv 3) pa_nil)))) pa_nil)))) pa_nil))) (kg_tup (K := K) (n := 2) (pgs_cons (pg_name (i := 8) nd rfl (.inl rfl)) (pgs_cons (pg_name (i := 9) nd rfl (.inr rfl)) pgs_nil))))
          (pss_cons (ps_if ((pw_or (pt_cmpR op_isN (pv 8) pe_non (nomark _)) (pw_or (pt_cmpR op_isN (pv 9) pe_non (nomark _)) (pw_or (pt_cmpR ko_inVals pe_non (pe_bm0 PySem.F.plainAttrs_dict PySem.F.slot_dict_values PySem.F.type_dict_values mt_valuesK (pe_ix (kx_tup (K := K)) (pv 8) pe_int (fun _ _ => rfl))) rfl) (pw_or1 (pt_cmpR (ko_ne (K := K) hu64) (pe_ix (kx_tup (K := K)) (pv 8) pe_int (fun _ _ => rfl)) (pe_cl c__law_out hr (by omega) (by rfl) (pa_cons (pv 3) (pa_cons (pe_ix (kx_tup (K := K)) (pv 8) pe_int (fun _ _ => rfl)) pa_nil))) (nomark _))))))).pt
              pss_never
              pss_nil)
          (pss_cons (ps_lock (ps_setLc (i := 10) (own := [("_law_number", 11)]) rfl nd rfl rfl (sw_true rfl rfl rfl (by decide +kernel)) (pi_keys (pe_ix (kx_tup (K := K)) (pv 9) pe_int (fun _ _ => rfl))) (blkOk_by (N := n_law) (sc := defScope s_law) (by decide +kernel)) (fun _ _ _ _ _ => (pg_name (i := 11) nd rfl (.inl rfl))) (fun _ _ _ _ _ => (pts_one (pt_cmpR op_notN (pe_dget hu (pe_ix (kx_tup (K := K)) (pv 9) pe_int (fun _ _ => rfl)) (pv 11) (fun _ _ => rfl)) pe_non (nomark _)))) (fun _ _ _ _ _ => (pv 11))))
          (pss_cons (ps_if ((pw_or (pt_cmpR op_gt (pe_callB (kc_len (K := K)) (by rfl) T.len PySem.boot_len (pa_cons (pv 10) pa_nil)) (pe_callB (kc_len (K := K)) (by rfl) T.len PySem.boot_len (pa_cons (pv 6) pa_nil)) (nomark _)) (pw_or1 (pt_cmpR op_ne (pe_cl c_bound_by hr (by omega) (by rfl) (pa_cons (pv 3) (pa_cons (pv 5) (pa_cons (pv 7) pa_nil)))) (pe_callB (kc_len (K := K)) (by rfl) T.len PySem.boot_len (pa_cons (pv 6) pa_nil)) (nomark _))))).pt
              pss_never
              pss_nil)
          (pss_one (ps_if (pt_cmpR (ko_ne (K := K) hu64) (pe_ix (kx_tup (K := K)) (pv 9) pe_int (fun _ _ => rfl)) (pe_cl c__law_out hr (by omega) (by rfl) (pa_cons (pv 3) (pa_cons (pe_ix (kx_tup (K := K)) (pv 9) pe_int (fun _ _ => rfl)) pa_nil))) (nomark _))
              pss_never
              pss_nil)))))))))))))
      (pss_one (ps_ret pe_bl))), ?_⟩
    refine ⟨_, rfl, _, _, rfl, .inl ⟨_, hS, rfl⟩, _, _, rfl, _, _, rfl, rfl, _, rfl, (by split <;> rw [List.length_map] at * <;> omega), (by split <;> rw [List.length_map] at * <;> omega), ?_⟩
    refine for_it walk_range (fun i σ H2 => ∃ v1 v2 v3 v4 v5 v6 v7 v8 v9 va vb, σ = [some (.ref a), v1, v2, v3, v4, v5, v6, v7, v8, v9, va, vb] ∧ LamX.ExtN H H2 ∧ LamX.Tabs (TT Pt Pk) H2) ⟨_, _, _, _, _, _, _, _, _, _, _, rfl, LamX.ExtN.refl _, tb0⟩ (fun _ _ _ _ _ => trivial) ?_ ?_
    · rintro i x σ H2 H3 hi ⟨v1, v2, v3, v4, v5, v6, v7, v8, v9, va, vb, rfl, x3, tb3⟩ ⟨rfl, rfl⟩
      have hi7 : i ≤ 63 := by
        have h2 : (1 + if ((List.map V.int ns).length : Int) < 4 then ((List.map V.int ns).length : Int) else 4) ≤ 7 := by split <;> omega
        omega
      refine ⟨_, rfl, _, rfl, a, ns, i, (by show [_, V.int (0 + (i : Int))] = _; rw [Int.zero_add]), RLam.sqL_ext hS x3, hi7, fun H4 b s4 B4 nb => ?_⟩
      refine ⟨_, rfl, b, 0, rfl, B4, by decide, fun H5 L xs ps B5 s5 nL hL da ok => ?_⟩
      have lx : xs.length = ps.length := dpAll_map_len da
      have l40 := ok.len
      have l60 : ps.length ≤ 60 := by omega
      have pos : ∀ p, p < ps.length → cmF ps p < outF ps p := fun p hp => (pc_of ok hp).2.1
      have Lb : L ≠ b := by
        obtain ⟨_, _, _, e⟩ := B4.bx
        exact fun z => by rw [z, e] at nL; cases nL
      have fL : off H5 [b] L = some (.lst xs) := by rw [off_out (by simp [Lb])]; exact hL
      have da : DpAll K (off H5 [b]) xs (ps.map pcD) := dpAll_same (off_mono (by simp)) da
      have nb3 : H3 b = none := nb
      have bl4 : ∀ s ∈ [b], ∃ xs, H4 s = some (.lst xs) := fun s hs => by
        rw [List.mem_singleton.mp hs]
        obtain ⟨_, _, _, e⟩ := B4.bx
        exact ⟨_, e⟩
      have nbs : ∀ s ∈ [b], H3 s = none := fun s hs => by rw [List.mem_singleton.mp hs]; exact nb
      have x5 : LamX.ExtN H3 H5 := extN_sm (.of s4) s5 nbs
      have tb5 := tabs_sm bl4 s5 (tb3.ext s4)
      clear bl4 B4 s4 s5 nL nb hL
      have LB : ∀ {HX : Hp} {n : Nat}, Bq HX b n → ∀ s ∈ [b], ∃ xs, HX s = some (.lst xs) := fun B s hs => by
        rw [List.mem_singleton.mp hs]
        obtain ⟨_, _, _, e⟩ := B.bx
        exact ⟨_, e⟩
      simp only [gName, List.set]
      refine ⟨_, rfl, L, xs, ps, rfl, SqL.of (at_off fL), dpAll_same off_sub da, l60, fun H6 t zs s6 hz hm6 => ?_⟩
      have fL6 := (sm_of (S := [b]) s6) _ _ fL
      have da6 := dpAll_same (sm_of (S := [b]) s6) da
      simp only [gName, List.set]
      refine ⟨_, rfl, _, rfl, L, t, xs, ps, zs, rfl, SqL.of (at_off fL6), dpAll_same off_sub da6, ok, hz, hm6, tb5.ext s6, fun H7 x7 tb7 => ⟨_, rfl, iteF ?_⟩⟩
      have nt : ∀ {xs : List V} (ps : Array Value), HO.lst xs ≠ .tbl ps := fun ps z => by cases z
      obtain ⟨bs0, eb5⟩ : ∃ bs, H5 b = some (.lst bs) := by
        obtain ⟨_, _, _, e⟩ := B5.bx
        exact ⟨_, e⟩
      have x57 : LamX.ExtN H5 H7 := (LamX.ExtN.of s6).trans x7
      have hL7 := x57 _ _ (at_off fL) nt
      have da7 := pcs_ext x57 (dpAll_same off_sub da)
      have hm7 := RLam.sqT_ext hm6 x7
      have B7 : Bq H7 b (0 + 250) := by
        obtain ⟨x, y, z, e, e2⟩ := B5
        exact ⟨x, y, z, x57 _ _ e nt, e2⟩
      have x37 := x5.trans x57
      have bst : 0 ≤ (bestF ps zs).1 ∧ (bestF ps zs).1 ≤ 40 := by
        obtain ⟨b0, _, b2⟩ := best_end ps zs
        refine ⟨b0, ?_⟩
        rcases b2 with b2 | ⟨j, z, _, e, _⟩
        · rw [b2]; decide
        · rw [e]
          have := hereF_len ps z
          show (((hereF ps z).length : Nat) : Int) ≤ 40
          omega
      generalize (bestF ps zs).1 = bm at bst hm7
      generalize (bestF ps zs).2 = bo at hm7
      clear x57 fL6 da6 hm6 x7 s6 fL da x5 tb5 eb5 B5 hz
      simp only [tNext, List.set]
      refine seq_mid (fun σ Hx => ∃ (sl : Nat) (v6 v7 v8 v9 va vb : Option V), σ = [some (.ref a), some (.int (0 + (i : Int))), some (.ref b), some (.ref L), some (.ref t), some (.int (sl : Nat)), v6, v7, v8, v9, va, vb] ∧ sl ≤ 60 ∧ LamX.ExtN H3 Hx ∧ LamX.Tabs (TT Pt Pk) Hx ∧ Hx L = some (.lst xs) ∧ DpAll K Hx xs (ps.map pcD)) (fun N hN => ?_) (fun σ H8 h => ?_)
      · have ntb : ∀ {Hx : Hp} {n : Nat}, Bq Hx b n → NoTp [b] Hx := fun B => by
          obtain ⟨x, y, z, e, _⟩ := B
          exact ntp_lst e
        refine ⟨_, rfl, _, rfl, t, _, 0, _, rfl, rfl, hm7, rfl, _, _, rfl, rfl, b, bm + 1, _, rfl, by omega, by omega, B7, by omega, fun H8 r r0 r1 B8 s8 => ?_⟩
        have hm8 := sqT_sm hm7 s8 (ntb B7)
        refine ⟨_, rfl, t, _, 0, _, rfl, rfl, hm8, rfl, _, _, rfl, rfl, 0, bm - 1, rfl, ?_⟩
        have mx : ∃ m2 : Nat, (if bm - 1 > 0 then bm - 1 else 0) = (m2 : Int) ∧ m2 ≤ 60 := by
          by_cases c : bm - 1 > 0
          · exact ⟨(bm - 1).toNat, by rw [if_pos c]; omega, by omega⟩
          · exact ⟨0, by rw [if_neg c]; rfl, by omega⟩
        obtain ⟨m2, em2, lm2⟩ := mx
        show tCons (tC (V.int 1)) tNil _ _ _
        rw [em2]
        refine ⟨(by show 3 ≤ sizeLine; decide), fun p np => ⟨_, rfl, b, 3, _, rfl, (by decide), (by decide), B8.same (same_upd np), by omega, fun H9 u u0 u1 B9 s9 => ?_⟩⟩
        have pb : p ≠ b := B8.ne np
        have sp := same_upd (o := .lst [.int r, .int (m2 : Nat), .int 1]) np
        have hp9 := sm_at s9 (by simp [pb]) (show upd H8 p (.lst [.int r, .int (m2 : Nat), .int 1]) p = _ from upd_same)
        have s79 : Sm [b] H7 H9 := s8.trans ((sm_of sp).trans s9)
        obtain ⟨sl, hat, l60⟩ : ∃ sl : Nat, atI [V.int r, .int (m2 : Nat), .int 1] u = some (.int (sl : Nat)) ∧ sl ≤ 60 := by
          have : u = 0 ∨ u = 1 ∨ u = 2 := by omega
          rcases this with rfl | rfl | rfl
          · exact ⟨r.toNat, by rw [show ((r.toNat : Nat) : Int) = r by omega]; rfl, by omega⟩
          · exact ⟨m2, rfl, lm2⟩
          · exact ⟨1, rfl, by omega⟩
        refine ⟨p, _, u, .int (sl : Nat), rfl, rfl, SqL.of hp9, hat, hN _ _ ⟨sl, v6, v7, v8, v9, va, vb, rfl, l60, extN_sm x37 s79 nbs, tabs_sm (LB B7) s79 tb7, sm_at s79 (by simp [Lb]) hL7, ps_sm s79 (ntb B7) da7⟩⟩
      · obtain ⟨sl, v6, v7, v8, v9, va, vb, rfl, sl60, x8, tb8, hL8, da8⟩ := h
        refine ⟨_, rfl, _, rfl, L, xs, ps, sl, rfl, SqL.of hL8, da8, l60, pos, tb8, fun H9 t2 A M ks zs2 x9 tb9 ht2 hA hM AM fr pw mem nn len hz2 => ?_⟩
        refine ⟨t2, _, rfl, .inl (.inl ht2), rfl, _, _, rfl, _, _, rfl, rfl, ?_⟩
        have hL9 := x9 _ _ hL8 nt
        have da9 := pcs_ext x9 da8
        have x39 := x8.trans x9
        obtain ⟨NL, eNL⟩ : ∃ NL : List Nat, NL = ks.map Int.toNat := ⟨_, rfl⟩
        have eks : ks.map V.int = NL.map natV := by
          rw [eNL, List.map_map]
          refine List.map_congr_left fun z hz => ?_
          show V.int z = V.int ((z.toNat : Nat) : Int)
          rw [show ((z.toNat : Nat) : Int) = z by have := nn z hz; omega]
        have ndN : NL.Nodup := by
          rw [eNL]
          exact List.pairwise_map.mpr (pw.imp_of_mem fun {a b} ha hb l => by
            have := nn a ha
            have := nn b hb
            omega)
        obtain ⟨kf1, kf2, kf3⟩ := kept_fit sl pos
        have memN : ∀ n ∈ NL, n ∈ keptF ps sl := fun n hn => by
          rw [eNL] at hn
          obtain ⟨z, hz, rfl⟩ := List.mem_map.mp hn
          exact (mem z.toNat).mp (by rw [show ((z.toNat : Nat) : Int) = z by have := nn z hz; omega]; exact hz)
        have ltN : ∀ n ∈ NL, n < ps.length := fun n hn => kf2 n (memN n hn)
        have lNL : NL.length = (keptF ps sl).length := by rw [eNL, List.length_map]; exact len
        rw [eks] at hA
        have hkept := sc_kept sl pos hz2
        have lHs0 : (scF ps sl zs2).1.2.length ≤ 1000 := by
          obtain ⟨b1, b2, _⟩ := (sc_inv sl pos hz2.1).best
          have := nodup_le (l := ps.map (·.1)) (b1.imp fun h => by omega) fun z hz3 => (hz2.2 z).mp (b2 z hz3)
          rw [List.length_map] at this
          omega
        generalize (scF ps sl zs2).1.2 = Hs at hM hkept lHs0
        simp only [gName, List.set]
        refine ⟨_, rfl, _, rfl, _, rfl, L, A, xs, ps, sl, NL, rfl, SqL.of hL9, da9, ok, sl60, SqL.of hA, ndN, ltN, fun HA t3 G3 Z3 S3 us3 vs3 sA ht3 nG3 nZ3 nS3 hG3 hZ3 dZ3 hSS3 _ => ?_⟩
        refine ⟨_, rfl, _, rfl, _, rfl, _, _, rfl, .inl ⟨_, SqL.of (sA _ _ hL9), rfl⟩, _, rfl, RgOk.of_le (by decide) (by omega) (by decide) (by omega), fun Nr nNr => ?_⟩
        rw [lx, rg_nat]
        have sR := same_upd (o := .lst ((List.range ps.length).map natV)) nNr
        have hNr : upd HA Nr (.lst ((List.range ps.length).map natV)) Nr = some (.lst ((List.range ps.length).map natV)) := upd_same
        generalize upd HA Nr (.lst ((List.range ps.length).map natV)) = HA2 at sR hNr ⊢
        have sA2 := sA.trans sR
        refine ⟨L, Nr, xs, ps, sl, List.range ps.length, rfl, SqL.of (sA2 _ _ hL9), dpAll_same sA2 da9, ok, sl60, SqL.of hNr, List.nodup_range, fun n hn => List.mem_range.mp hn, fun HB t4 G4 Z4 S4 us4 vs4 sB ht4 nG4 nZ4 nS4 hG4 hZ4 dZ4 _ _ => ⟨(by show 2 ≤ sizeLine; decide), fun tt ntt => ⟨tt, _, rfl, .inl (.inl upd_same), rfl, _, _, rfl, _, _, rfl, rfl, ?_⟩⟩⟩
        rw [ord_eq] at hG4 dZ4
        have sB2 := sB.trans (same_upd (o := .tup [.ref t3, .ref t4]) ntt)
        have sC := (same_upd (o := .tup [.ref t3, .ref t4]) ntt)
        generalize upd HB tt (.tup [.ref t3, .ref t4]) = HC at sB2 sC ⊢
        have sAC := sR.trans sB2
        have s9C := sA2.trans sB2
        have ht3 := sAC _ _ ht3
        have hG3 := sAC _ _ hG3
        have hZ3 := sAC _ _ hZ3
        have dZ3 := dpAll_same sAC dZ3
        have ht4 := sC _ _ ht4
        have hG4 := sC _ _ hG4
        have hZ4 := sC _ _ hZ4
        have dZ4 := dpAll_same sC dZ4
        have hLC := s9C _ _ hL9
        have daC := dpAll_same s9C da9
        have hAC := s9C _ _ hA
        have hMC := s9C _ _ hM
        clear sA sR sA2 sB sC sB2 sAC hNr nNr ntt hL9 da9 hA hM nG3 nZ3 nS3 nG4 nZ4 nS4 hSS3 fr
        simp only [gName, List.set]
        -- what is kept is never refused
        have ltO3 : ∀ p ∈ ordN ps NL, p < ps.length := fun p hp => ltN p ((ordN_perm ps NL).subset hp)
        have pw3 := ordN_RO (ps := ps) ndN
        have nd3 : (ordN ps NL).Nodup := (ordN_perm ps NL).nodup_iff.mpr ndN
        have cap3 : ∀ p ∈ ordN ps NL, (((ordN ps NL).countP (innF ps (cmF ps p)) : Nat) : Int) ≤ (sl : Nat) := fun p _ => by
          rw [(ordN_perm ps NL).countP_eq, List.countP_eq_length_filter]
          have h1 := nodup_leG (l := NL.filter (innF ps (cmF ps p))) (ts := (keptF ps sl).filter (innF ps (cmF ps p))) (ndN.sublist List.filter_sublist) fun x hx => by
            obtain ⟨x1, x2⟩ := List.mem_filter.mp hx
            exact List.mem_filter.mpr ⟨memN x x1, x2⟩
          have h2 := kf3 (cmF ps p)
          rw [List.countP_eq_length_filter] at h2
          omega
        have eg3 := none_out' ok (by omega) pw3 nd3 ltO3 cap3
        have ego3 := gone_eq (sl := (sl : Nat)) ok (by omega) pw3 ltO3
        have eW3 : somesF (runT ps (sl : Nat) (ordN ps NL)).got = allS ps (ordN ps NL) := by rw [eg3]; exact somes_all _
        rw [ego3, eW3] at dZ3
        rw [eg3] at hG3
        -- and all that come
        have ltO4 : ∀ p ∈ ordF ps, p < ps.length := fun p hp => ordF_mem.mp hp
        have ru4 := ru_end (sl := (sl : Nat)) ok (by omega) (ordF_RO ps) ltO4
        have ego4 := gone_eq (sl := (sl : Nat)) ok (by omega) (ordF_RO ps) ltO4
        rw [ego4] at dZ4
        have keys4 := run_keys ps (sl : Nat) (ordF ps)
        have fit4 := ru4.fit
        clear ru4 ego4
        generalize (runT ps (sl : Nat) (ordF ps)).got = g4 at hG4 dZ4 keys4 fit4
        have e0 : decide (V.ref t3 = V.non) = false := rfl
        have e1 : decide (V.ref t4 = V.non) = false := rfl
        refine ⟨_, rfl, rfl, _, rfl, ?_⟩
        rw [e0]
        refine iteF ⟨_, rfl, rfl, _, rfl, ?_⟩
        rw [e1]
        refine iteF ?_
        have vals3 : (gotK ((allS ps (ordN ps NL)).map fun q => (q.1, some q.2))).map Prod.snd = ((allS ps (ordN ps NL)).map fun q => ((q.2 : Nat) : Int)).map V.int := by
          unfold gotK
          rw [List.map_map, List.map_map, List.map_map]
          rfl
        have key3 : ((allS ps (ordN ps NL)).map fun q => (q.1, some q.2)).map (·.1) = ordN ps NL := by rw [List.map_map]; exact keys_all (ps := ps) (ordN ps NL)
        have ltS3 : ∀ q ∈ allS ps (ordN ps NL), q.1 < ps.length := fun q hq => ltO3 _ (by
          have := List.mem_map_of_mem (f := (·.1)) hq
          rwa [keys_all] at this)
        refine ⟨_, rfl, t3, _, 0, _, rfl, rfl, .inl (.inl ht3), rfl, .inr (.inr (.inl ⟨rfl, .inl ⟨_, hG3⟩⟩)), G3, _, rfl, rfl, hG3, fun vp nvp => ⟨vp, G3, _, _, rfl, rfl, upd_same, (same_upd nvp) _ _ hG3, vals3, _, rfl, iteF ?_⟩⟩
        have sV := same_upd (o := viewO "dict_values" vp G3) nvp
        generalize upd HC vp (viewO "dict_values" vp G3) = HD at sV ⊢
        have ht3D := sV _ _ ht3
        refine ⟨_, rfl, t3, _, 1, _, rfl, rfl, .inl (.inl ht3D), rfl, _, rfl, _, rfl, t3, _, 0, _, rfl, rfl, .inl (.inl ht3D), rfl, L, G3, xs, ps, _, rfl, SqL.of (sV _ _ hLC), dpAll_same sV daC, ok, sV _ _ hG3, by rw [key3]; exact nd3, fun q hq => ?_, fun HE R3 ws3 sE nR3 hR3 dR3 => ?_⟩
        · obtain ⟨q2, h2, rfl⟩ := List.mem_map.mp hq
          exact ltS3 q2 h2
        rw [somes_all] at dR3
        obtain ⟨sh3, ev3⟩ := rows_sh (ps := ps) (l := outR ps (allS ps (ordN ps NL))) fun q hq => by
          have := ltS3 q ((outR_perm ps _).subset hq)
          omega
        refine ⟨_, _, .lst (SqL.of ((sV.trans sE) _ _ hZ3)) (dpAll_same (sV.trans sE) dZ3), .lst (SqL.of hR3) dR3, sh3, sh3, _, rfl, ?_⟩
        rw [ev3]
        refine iteF ?_
        have sCE := sV.trans sE
        have ht4 := sCE _ _ ht4
        have hG4 := sCE _ _ hG4
        have hZ4 := sCE _ _ hZ4
        have dZ4 := dpAll_same sCE dZ4
        have hLE := sCE _ _ hLC
        have daE := dpAll_same sCE daC
        have hAE := sCE _ _ hAC
        have hME := sCE _ _ hMC
        have s9E := s9C.trans sCE
        clear sCE sV sE ht3D nR3 hR3 dR3 sh3 ev3 hG3 ht3 hZ3 dZ3 nvp s9C hLC daC hAC hMC
        have nd4 : (g4.map (·.1)).Nodup := by rw [keys4]; exact ordF_nodup ps
        have lt4 : ∀ q ∈ g4, q.1 < ps.length := fun q hq => ltO4 _ (by rw [← keys4]; exact List.mem_map_of_mem hq)
        have l4 : g4.length = ps.length := by
          have := congrArg List.length keys4
          rw [List.length_map, ordF_len] at this
          exact this
        simp only [tNext]
        refine seq_mid (fun σ Hx => ∃ (Tk : Addr) (vb : Option V), σ = [some (.ref a), some (.int (0 + (i : Int))), some (.ref b), some (.ref L), some (.ref t), some (.int (sl : Nat)), some (.ref A), some (.ref M), some (.ref t3), some (.ref t4), some (.ref Tk), vb] ∧ Same HE Hx ∧ Hx Tk = some (.lst ((somesF g4).map fun q => natV q.1))) (fun N hN => ?_) (fun σ HF h => ?_)
        · refine ⟨G4, _, hG4, trivial, fun od => ?_⟩
          have sZ : Sm [G4] HE (upd HE G4 (.frz od (.dK (gotK g4)))) := sm_wr (by simp)
          have hZf : upd HE G4 (.frz od (.dK (gotK g4))) G4 = some (.frz od (.dK (gotK g4))) := upd_same
          have tG : t4 ≠ G4 := fun z => by rw [z, hG4] at ht4; cases ht4
          have ht4z := sm_at sZ (by simp [tG]) ht4
          generalize upd HE G4 (.frz od (.dK (gotK g4))) = Hz at sZ hZf ht4z ⊢
          refine ⟨_, rfl, t4, _, 0, _, rfl, rfl, .inl (.inl ht4z), rfl, G4, od, rfl, .inl ⟨_, hZf, fun D nD => ?_⟩⟩
          refine lc_it (walk_keys (kvs := gotK g4)) (PvL Hz D fun j => (somesF (g4.take j)).map fun q => natV q.1) (pv_start nD rfl) (fun j Hx _ h => h.1 _ _ hZf) ?_ ?_
          · rintro j y Hx Hy hj pz ⟨rfl, key, v, gk, rfl⟩
            unfold gotK at gk hj
            rw [List.getElem?_map] at gk
            rw [List.length_map] at hj
            obtain ⟨⟨n, o⟩, gn, ek⟩ := Option.map_eq_some_iff.mp gk
            obtain ⟨rfl, rfl⟩ := Prod.mk.inj ek
            have mn := List.mem_of_getElem? gn
            have dg : DGet Hy G4 (.int (n : Nat)) (some (optN o)) := .inl ⟨gotK g4, .inl ((n : Nat) : Int), .inr ⟨od, pz.1 _ _ hZf⟩, rfl, (gotK_get nd4 mn).symm⟩
            have et : somesF (g4.take (j + 1)) = somesF (g4.take j) ++ somesF [(n, o)] := by rw [List.take_add_one, gn, somesF_app]; rfl
            have lf : ((somesF (g4.take j)).map fun q => natV q.1).length < sizeLine := by
              rw [List.length_map, sizeLine_eq]
              have h1 : (somesF (g4.take j)).length ≤ (g4.take j).length := List.length_filterMap_le _ _
              rw [List.length_take] at h1
              omega
            refine ⟨rfl, _, rfl, t4, _, 0, _, rfl, rfl, .inl (.inl (pz.1 _ _ ht4z)), rfl, _, rfl, G4, _, rfl, dg, rfl, _, rfl, ?_⟩
            cases o with
            | none =>
              refine iteF (pv_skip pz (Same.refl _) ?_)
              rw [et, show somesF [(n, none)] = [] from rfl, List.append_nil]
            | some x =>
              refine iteT ⟨_, rfl, pv_put nD pz (Same.refl _) ?_ lf⟩
              rw [et, List.map_append]
              rfl
          · intro Hx pz
            obtain ⟨s2, hD⟩ := pv_end pz (show _ = (somesF g4).map fun q => natV q.1 by unfold gotK; rw [List.length_map, List.take_length])
            have DG : D ≠ G4 := fun z => by rw [z, hZf] at nD; cases nD
            refine ⟨s2 _ _ hZf, hN _ _ ⟨D, _, rfl, fun c o e => ?_, (upd_ne DG).trans hD⟩⟩
            by_cases q : c = G4
            · rw [q, hG4] at e
              rw [q, ← Option.some.inj e]
              exact upd_same
            · rw [upd_ne q]
              exact s2 _ _ (sm_at sZ (by simp [q]) e)
        · obtain ⟨Tk, vb, rfl, sF, hTk⟩ := h
          have hAF := sF _ _ hAE
          have hMF := sF _ _ hME
          have ht4F := sF _ _ ht4
          have ndS4 : ((somesF g4).map (·.1)).Nodup := by
            have sub : ∀ l : List (Nat × Option Nat), ((somesF l).map (·.1)).Sublist (l.map (·.1)) := fun l => by
              induction l with
              | nil => exact .slnil
              | cons x l ih =>
                obtain ⟨n, o⟩ := x
                cases o with
                | none => exact .cons _ ih
                | some j => exact .cons₂ _ ih
            exact nd4.sublist (sub g4)
          have weak : ((somesF g4).map (·.1)).length ≤ bndF ps sl Hs := weakF ndS4 (fun x hx => by
            obtain ⟨q, hq, rfl⟩ := List.mem_map.mp hx
            exact lt4 _ (somes_key hq).2) (fun h => by
            rw [List.countP_map]
            have := fit4 h
            show (somesF g4).countP (fun q => innF ps h q.1) ≤ sl
            omega) Hs
          rw [List.length_map] at weak
          have lHs : Hs.length ≤ 1000 := lHs0
          have c1 : decide (((((NL.map natV).length : Nat) : Int)) < (((((somesF g4).map fun q => natV q.1).length : Nat) : Int))) = false := decide_eq_false (by
            rw [List.length_map, List.length_map]
            omega)
          refine ⟨_, rfl, _, _, rfl, .inl ⟨_, SqL.of hTk, rfl⟩, _, rfl, _, _, rfl, .inl ⟨_, SqL.of hAF, rfl⟩, _, _, rfl, rfl, _, rfl, ?_⟩
          rw [c1]
          refine iteF ⟨_, rfl, _, rfl, _, rfl, L, M, xs, ps, sl, Hs, rfl, SqL.of (sF _ _ hLE), dpAll_same sF daE, l60, SqL.of hMF, lHs, fun HG sG => ?_⟩
          have c2 : (!decide (V.int ((bndF ps sl Hs : Nat) : Int) = V.int (((NL.map natV).length : Nat) : Int))) = false := by
            rw [List.length_map, lNL, hkept, decide_eq_true rfl]; rfl
          refine ⟨_, rfl, _, _, rfl, .inl ⟨_, SqL.of (sG _ _ hAF), rfl⟩, rfl, _, rfl, ?_⟩
          rw [c2]
          refine iteF ?_
          have sEG := sF.trans sG
          have ht4G := sEG _ _ ht4
          refine ⟨_, rfl, t4, _, 1, _, rfl, rfl, .inl (.inl ht4G), rfl, _, rfl, _, rfl, t4, _, 0, _, rfl, rfl, .inl (.inl ht4G), rfl, L, G4, xs, ps, _, rfl, SqL.of (sEG _ _ hLE), dpAll_same sEG daE, ok, sEG _ _ hG4, nd4, lt4, fun HH R4 ws4 sH nR4 hR4 dR4 => ?_⟩
          obtain ⟨sh4, ev4⟩ := rows_sh (ps := ps) (l := outR ps (somesF g4)) fun q hq => by
            have := lt4 _ (somes_key ((outR_perm ps _).subset hq)).2
            have : q.1 < ps.length := this
            omega
          refine ⟨_, _, .lst (SqL.of ((sEG.trans sH) _ _ hZ4)) (dpAll_same (sEG.trans sH) dZ4), .lst (SqL.of hR4) dR4, sh4, sh4, _, rfl, ?_⟩
          rw [ev4]
          exact iteF ⟨_, _, _, _, _, _, _, _, _, _, _, rfl, x3.trans (x39.trans (.of (s9E.trans (sEG.trans sH)))), tb9.ext (s9E.trans (sEG.trans sH))⟩
    · rintro σ H2 ⟨v1, v2, v3, v4, v5, v6, v7, v8, v9, va, vb, rfl, _, _⟩
      exact q _

end
end Pot

namespace Pot
open PySem PySem.Spec PyProof.Rows L2
theorem oex_of {K : PySem.W.Frag} {C : Addr} {bmB : List Value} {newId : String} (q : PySem.W.excInitIn K C bmB newId = true) (hd : PySem.W.hasDictIn K C = true) :
    ∃ nm q N bs bm sn sub ab col dd k0 k1 k2 k3 k5, K.lookup C = some (excClassObj nm q C N bs bm true sn sub ab col dd k0 k1 k2 k3 k5 newId) ∧ PySem.W.excTail bmB bm = true := by
  obtain ⟨cd, hc, hdd⟩ := PySem.W.any_some hd
  unfold PySem.W.excInitIn at q
  unfold PySem.W.clsIn at hc
  cases look : K.lookup C with
  | none => rw [look] at q; cases q
  | some o =>
    rw [look] at q hc
    obtain ⟨cl, dd, da, sl⟩ := o
    cases da with
    | cls cd2 =>
      cases hc
      split at q
      · rename_i here
        cases here
        split at q
        · rename_i C' bm k0 k1 k2 k3 n k5 hm hs
          simp only [Bool.and_eq_true, beq_iff_eq, Bool.not_eq_true'] at q
          obtain ⟨⟨⟨rfl, rfl⟩, del⟩, tail⟩ := q
          obtain ⟨nm, bs, mro, ns, qn, hd3, sn, sub, ab, col, dl⟩ := cd
          dsimp only at hm del hdd
          subst hm del hdd
          obtain ⟨sl⟩ := sl
          dsimp only at hs
          subst hs
          exact ⟨nm, qn, ns, bs, bm, sn, sub, ab, col, _, k0, k1, k2, k3, k5, rfl, tail⟩
        · cases q
      · cases q
    | _ => cases hc
theorem kit_subc {K : PySem.W.Frag} {t : Value} {C : Addr} {b : Bool} (ne : (t == Value.ref C) = false) (hd : PySem.W.hasDictIn K C = true) (ht : PySem.W.typeIn K (.ref C) = some (.type "type")) (hs : PySem.W.subIn K t (.ref C) = some b) : PySem.W.kitOne K t (.ref C) = some b := by
  obtain ⟨cd, hc, _⟩ := PySem.W.any_some hd
  have e2 : ((PySem.W.clsIn K C).isSome && PySem.W.typeIn K (.ref C) == some (.type "type")) = true := by rw [hc, ht] <;> rfl
  show (if (t == Value.ref C) = true then some true else (if ((PySem.W.clsIn K C).isSome && PySem.W.typeIn K (.ref C) == some (.type "type")) = true then PySem.W.subIn K t (.ref C) else none)) = some b
  rw [if_neg (by rw [ne]; exact Bool.false_ne_true), if_pos e2]
  exact hs
theorem kit_tyb {K : PySem.W.Frag} {C : Addr} {n : String} {b : Bool} (hm : PySem.W.kitMeta n = true) (hs : PySem.W.subIn K (.ref C) (.type n) = some b) : PySem.W.kitOne K (.ref C) (.type n) = some b := by
  show (if (Value.ref C == Value.type n) = true then some true else (if PySem.W.kitMeta n = true then PySem.W.subIn K (.ref C) (.type n) else none)) = some b
  rw [if_neg (by show ¬ (false = true); exact Bool.false_ne_true), if_pos hm]
  exact hs
theorem kit_four {K : PySem.W.Frag} {t a b c d : Value} (h1 : PySem.W.kitOne K t a = some false) (h2 : PySem.W.kitOne K t b = some false) (h3 : PySem.W.kitOne K t c = some false) (h4 : PySem.W.kitOne K t d = some false) : PySem.W.kitAny K t [a, b, c, d] = some false := by
  unfold PySem.W.kitAny; rw [h1]
  unfold PySem.W.kitAny; rw [h2]
  unfold PySem.W.kitAny; rw [h3]
  unfold PySem.W.kitAny; rw [h4]
  rfl
theorem kit_self {K : PySem.W.Frag} {C : Addr} : PySem.W.kitOne K (.ref C) (.ref C) = some true := by
  show (if (Value.ref C == Value.ref C) = true then some true else _) = some true
  rw [if_pos (by simp)]
theorem super_he {K : PySem.W.Frag} {C cH : Addr} {cd cdH : ClassData} {v : Value} (h : PySem.W.clsIn K C = some cd) (m : cd.mro = .ref C :: .ref cH :: veTail) (hH : PySem.W.clsIn K cH = some cdH) (mH : cdH.mro = .ref cH :: veTail) (f : PySem.W.findIn K (.ref cH) "__init__" = some (some v)) : PySem.W.ks_superIn K C C "__init__" = some (some v) := by
  have e : PySem.W.alongIn K "__init__" (.ref cH :: veTail) = some (some v) := by
    rw [← mH, ← f]
    unfold PySem.W.clsIn at hH
    show _ = (match K.lookup cH with | some ⟨_, _, .cls cd, _⟩ => PySem.W.alongIn K "__init__" cd.mro | _ => none)
    cases look : K.lookup cH with
    | none => rw [look] at hH; cases hH
    | some o =>
      rw [look] at hH
      obtain ⟨cl, dd, da, sl⟩ := o
      cases da with
      | cls cd2 => cases hH; rfl
      | _ => cases hH
  unfold PySem.W.ks_superIn
  rw [h]
  show PySem.W.alongIn K "__init__" ((cd.mro.dropWhile (· != .ref C)).drop 1) = _
  rw [m]
  have e2 : ((Value.ref C :: Value.ref cH :: veTail).dropWhile (· != .ref C)).drop 1 = .ref cH :: veTail := by simp [List.dropWhile_cons]
  rw [e2]
  exact e
theorem kit_two {K : PySem.W.Frag} {t a b : Value} (h1 : PySem.W.kitOne K t a = some false) (h2 : PySem.W.kitOne K t b = some false) : PySem.W.kitAny K t [a, b] = some false := by
  unfold PySem.W.kitAny; rw [h1]
  unfold PySem.W.kitAny; rw [h2]
  rfl
theorem binds_fl {P : Program} {K : PySem.W.Frag} {f C : Addr} {fd : FuncData} (F : RSup.FunS P K "__init__" "Full.__init__" s_Full f C fd) : Binds K fd ["self", "slots"] [] := by
  obtain ⟨cda, cc, oc, od, kV, doc, pm, an, ct, osl, cl, cld, csl, ccl, cdd, ws, ccs, file, tf, rfl, _⟩ := F.ex
  exact .all fun us hl => match us, hl with | [_, _], _ => rfl
set_option maxHeartbeats 4000000 in
theorem all_mk {l : PySem.W.OpenLaw} {w : World} {K : PySem.W.Frag} {h : Heap} {mg : Str → Option Value} {fa : Addr} (X : K.In h) (G : h.Ns mainGlobals mg) (hfa : mg "law" = some (.ref fa))
    {f1 : Addr} {od1 an1 : Option Addr} {sl1 : Array (Option Value)} {oc1 kV1 dc1 pm1 cd1 ct1 : Value}
    {f2 : Addr} {od2 an2 : Option Addr} {sl2 : Array (Option Value)} {oc2 kV2 dc2 pm2 cd2 ct2 : Value}
    {f3 : Addr} {od3 an3 : Option Addr} {sl3 : Array (Option Value)} {oc3 kV3 dc3 pm3 cd3 ct3 : Value}
    {f4 : Addr} {od4 an4 : Option Addr} {sl4 : Array (Option Value)} {oc4 kV4 dc4 pm4 cd4 ct4 : Value}
    {f5 : Addr} {od5 an5 : Option Addr} {sl5 : Array (Option Value)} {oc5 kV5 dc5 pm5 cd5 ct5 : Value}
    {f6 cT6 pT6 : Addr} {od6 an6 oe6 : Option Addr} {sl6 sm6 : Array (Option Value)} {vT6 : Array Value} {oc6 kV6 dc6 pm6 ct6 of6 : Value}
    {f7 : Addr} {od7 an7 : Option Addr} {sl7 : Array (Option Value)} {oc7 kV7 dc7 pm7 cd7 ct7 : Value}
    {f8 : Addr} {od8 an8 : Option Addr} {sl8 : Array (Option Value)} {oc8 kV8 dc8 pm8 cd8 ct8 : Value}
    {f9 : Addr} {od9 an9 : Option Addr} {sl9 : Array (Option Value)} {oc9 kV9 dc9 pm9 cd9 ct9 : Value}
    {f10 cT10 pT10 : Addr} {od10 an10 oe10 : Option Addr} {sl10 sm10 : Array (Option Value)} {vT10 : Array Value} {oc10 kV10 dc10 pm10 ct10 of10 : Value}
    {f11 : Addr} {od11 an11 : Option Addr} {sl11 : Array (Option Value)} {oc11 kV11 dc11 pm11 cd11 ct11 : Value}
    {f12 : Addr} {od12 an12 : Option Addr} {sl12 : Array (Option Value)} {oc12 kV12 dc12 pm12 cd12 ct12 : Value}
    {f13 : Addr} {od13 an13 : Option Addr} {sl13 : Array (Option Value)} {oc13 kV13 dc13 pm13 cd13 ct13 : Value}
    {f14 : Addr} {od14 an14 : Option Addr} {sl14 : Array (Option Value)} {oc14 kV14 dc14 pm14 cd14 ct14 : Value}
    {f15 : Addr} {od15 an15 : Option Addr} {sl15 : Array (Option Value)} {oc15 kV15 dc15 pm15 cd15 ct15 : Value}
    {f16 : Addr} {od16 an16 : Option Addr} {sl16 : Array (Option Value)} {oc16 kV16 dc16 pm16 cd16 ct16 : Value}
    {f17 : Addr} {od17 an17 : Option Addr} {sl17 : Array (Option Value)} {oc17 kV17 dc17 pm17 cd17 ct17 : Value}
    {f18 : Addr} {od18 an18 : Option Addr} {sl18 : Array (Option Value)} {oc18 kV18 dc18 pm18 cd18 ct18 : Value}
    {f19 : Addr} {od19 an19 : Option Addr} {sl19 : Array (Option Value)} {oc19 kV19 dc19 pm19 cd19 ct19 : Value}
    {f20 : Addr} {od20 an20 : Option Addr} {sl20 : Array (Option Value)} {oc20 kV20 dc20 pm20 cd20 ct20 : Value}
    {f21 : Addr} {od21 an21 : Option Addr} {sl21 : Array (Option Value)} {oc21 kV21 dc21 pm21 cd21 ct21 : Value}
    {f22 : Addr} {od22 an22 : Option Addr} {sl22 : Array (Option Value)} {oc22 kV22 dc22 pm22 cd22 ct22 : Value}
    {CTn : Addr}
    {fni : Addr} {odni anni : Option Addr} {slni : Array (Option Value)} {ocni kVni dcni pmni cdni ctni : Value} {Tni : Addr} {ocTni : Value} {odTni : Option Addr} {slTni : Array (Option Value)} {nTni : Nat} {tkni_0 : Tok}
    {fne : Addr} {odne anne : Option Addr} {slne : Array (Option Value)} {ocne kVne dcne pmne cdne ctne : Value} {Tne : Addr} {ocTne : Value} {odTne : Option Addr} {slTne : Array (Option Value)} {nTne : Nat} {tkne_0 : Tok}
    {fnt : Addr} {odnt annt : Option Addr} {slnt : Array (Option Value)} {ocnt kVnt dcnt pmnt cdnt ctnt : Value} {Tnt : Addr} {ocTnt : Value} {odTnt : Option Addr} {slTnt : Array (Option Value)} {nTnt : Nat} {tknt_0 : Tok}
    {fnw : Addr} {odnw annw : Option Addr} {slnw : Array (Option Value)} {ocnw kVnw dcnw pmnw cdnw ctnw : Value}
    {fnl : Addr} {odnl annl : Option Addr} {slnl : Array (Option Value)} {ocnl kVnl dcnl pmnl cdnl ctnl : Value}
    {fns : Addr} {odns anns : Option Addr} {slns : Array (Option Value)} {ocns kVns dcns pmns cdns ctns : Value}
    {cH : Addr} {CF fIF cdaF ccF : Addr} {ocIF kVIF dcIF pmIF ctIF clcF cclF : Value} {odIF anIF cdcF cddF : Option Addr} {slIF slcF ccsF : Array (Option Value)} {wsF : Array Value} {fileF : Str} {tfF : Tok} {cdNF : ClassData}
    {cdH : ClassData}
    (a1 : PySem.W.nsIn K mainGlobals "in_at" = some (some (.ref f1))) (l1 : K.lookup f1 = some ⟨oc1, od1, .func (PySem.W.fnOf "in_at" "in_at" (defArgs s_in_at) (defBody s_in_at) (defScope s_in_at) .none kV1 dc1 pm1 an1 cd1 ct1), sl1⟩) (c1 : PySem.W.codeIn K cd1 "in_at" = true) (k1 : PySem.W.keepIn K (.ref f1) = true)
    (a2 : PySem.W.nsIn K mainGlobals "is_in" = some (some (.ref f2))) (l2 : K.lookup f2 = some ⟨oc2, od2, .func (PySem.W.fnOf "is_in" "is_in" (defArgs s_is_in) (defBody s_is_in) (defScope s_is_in) .none kV2 dc2 pm2 an2 cd2 ct2), sl2⟩) (c2 : PySem.W.codeIn K cd2 "is_in" = true) (k2 : PySem.W.keepIn K (.ref f2) = true)
    (a3 : PySem.W.nsIn K mainGlobals "out_at" = some (some (.ref f3))) (l3 : K.lookup f3 = some ⟨oc3, od3, .func (PySem.W.fnOf "out_at" "out_at" (defArgs s_out_at) (defBody s_out_at) (defScope s_out_at) .none kV3 dc3 pm3 an3 cd3 ct3), sl3⟩) (c3 : PySem.W.codeIn K cd3 "out_at" = true) (k3 : PySem.W.keepIn K (.ref f3) = true)
    (a4 : PySem.W.nsIn K mainGlobals "most_in" = some (some (.ref f4))) (l4 : K.lookup f4 = some ⟨oc4, od4, .func (PySem.W.fnOf "most_in" "most_in" (defArgs s_most_in) (defBody s_most_in) (defScope s_most_in) .none kV4 dc4 pm4 an4 cd4 ct4), sl4⟩) (c4 : PySem.W.codeIn K cd4 "most_in" = true) (k4 : PySem.W.keepIn K (.ref f4) = true)
    (a5 : PySem.W.nsIn K mainGlobals "hours_of_coming" = some (some (.ref f5))) (l5 : K.lookup f5 = some ⟨oc5, od5, .func (PySem.W.fnOf "hours_of_coming" "hours_of_coming" (defArgs s_hours_of_coming) (defBody s_hours_of_coming) (defScope s_hours_of_coming) .none kV5 dc5 pm5 an5 cd5 ct5), sl5⟩) (c5 : PySem.W.codeIn K cd5 "hours_of_coming" = true) (k5 : PySem.W.keepIn K (.ref f5) = true)
    (a6 : PySem.W.nsIn K mainGlobals "by_coming" = some (some (.ref f6))) (l6 : K.lookup f6 = some ⟨oc6, od6, .func (PySem.W.fnOf "by_coming" "by_coming" (defArgs s_by_coming) (defBody s_by_coming) (defScope s_by_coming) .none kV6 dc6 pm6 an6 (.ref cT6) ct6), sl6⟩) (c6 : PySem.W.codeIn K (.ref cT6) "by_coming" = true) (k6 : PySem.W.keepIn K (.ref f6) = true)
    (m6 : K.lookup cT6 = some ⟨of6, oe6, .fields vT6, sm6⟩) (u6 : vT6[11]? = some (.ref pT6)) (e6 : PySem.W.codeHdIn K cT6 pT6 = true) (n6 : K.lookup pT6 = none) (h6 : h.get? pT6 = some (PySem.W.tabObj #[]))
    (a7 : PySem.W.nsIn K mainGlobals "slotted" = some (some (.ref f7))) (l7 : K.lookup f7 = some ⟨oc7, od7, .func (PySem.W.fnOf "slotted" "slotted" (defArgs s_slotted) (defBody s_slotted) (defScope s_slotted) .none kV7 dc7 pm7 an7 cd7 ct7), sl7⟩) (c7 : PySem.W.codeIn K cd7 "slotted" = true) (k7 : PySem.W.keepIn K (.ref f7) = true)
    (a8 : PySem.W.nsIn K mainGlobals "least_free" = some (some (.ref f8))) (l8 : K.lookup f8 = some ⟨oc8, od8, .func (PySem.W.fnOf "least_free" "least_free" (defArgs s_least_free) (defBody s_least_free) (defScope s_least_free) .none kV8 dc8 pm8 an8 cd8 ct8), sl8⟩) (c8 : PySem.W.codeIn K cd8 "least_free" = true) (k8 : PySem.W.keepIn K (.ref f8) = true)
    (a9 : PySem.W.nsIn K mainGlobals "most_cooled" = some (some (.ref f9))) (l9 : K.lookup f9 = some ⟨oc9, od9, .func (PySem.W.fnOf "most_cooled" "most_cooled" (defArgs s_most_cooled) (defBody s_most_cooled) (defScope s_most_cooled) .none kV9 dc9 pm9 an9 cd9 ct9), sl9⟩) (c9 : PySem.W.codeIn K cd9 "most_cooled" = true) (k9 : PySem.W.keepIn K (.ref f9) = true)
    (a10 : PySem.W.nsIn K mainGlobals "kept_in" = some (some (.ref f10))) (l10 : K.lookup f10 = some ⟨oc10, od10, .func (PySem.W.fnOf "kept_in" "kept_in" (defArgs s_kept_in) (defBody s_kept_in) (defScope s_kept_in) .none kV10 dc10 pm10 an10 (.ref cT10) ct10), sl10⟩) (c10 : PySem.W.codeIn K (.ref cT10) "kept_in" = true) (k10 : PySem.W.keepIn K (.ref f10) = true)
    (m10 : K.lookup cT10 = some ⟨of10, oe10, .fields vT10, sm10⟩) (u10 : vT10[11]? = some (.ref pT10)) (e10 : PySem.W.codeHdIn K cT10 pT10 = true) (n10 : K.lookup pT10 = none) (h10 : h.get? pT10 = some (PySem.W.tabObj #[]))
    (a11 : PySem.W.nsIn K mainGlobals "scarce_hours" = some (some (.ref f11))) (l11 : K.lookup f11 = some ⟨oc11, od11, .func (PySem.W.fnOf "scarce_hours" "scarce_hours" (defArgs s_scarce_hours) (defBody s_scarce_hours) (defScope s_scarce_hours) .none kV11 dc11 pm11 an11 cd11 ct11), sl11⟩) (c11 : PySem.W.codeIn K cd11 "scarce_hours" = true) (k11 : PySem.W.keepIn K (.ref f11) = true)
    (a12 : PySem.W.nsIn K mainGlobals "missed" = some (some (.ref f12))) (l12 : K.lookup f12 = some ⟨oc12, od12, .func (PySem.W.fnOf "missed" "missed" (defArgs s_missed) (defBody s_missed) (defScope s_missed) .none kV12 dc12 pm12 an12 cd12 ct12), sl12⟩) (c12 : PySem.W.codeIn K cd12 "missed" = true) (k12 : PySem.W.keepIn K (.ref f12) = true)
    (a13 : PySem.W.nsIn K mainGlobals "bound_by" = some (some (.ref f13))) (l13 : K.lookup f13 = some ⟨oc13, od13, .func (PySem.W.fnOf "bound_by" "bound_by" (defArgs s_bound_by) (defBody s_bound_by) (defScope s_bound_by) .none kV13 dc13 pm13 an13 cd13 ct13), sl13⟩) (c13 : PySem.W.codeIn K cd13 "bound_by" = true) (k13 : PySem.W.keepIn K (.ref f13) = true)
    (a14 : PySem.W.nsIn K mainGlobals "_law_begin" = some (some (.ref f14))) (l14 : K.lookup f14 = some ⟨oc14, od14, .func (PySem.W.fnOf "_law_begin" "_law_begin" (defArgs s__law_begin) (defBody s__law_begin) (defScope s__law_begin) .none kV14 dc14 pm14 an14 cd14 ct14), sl14⟩) (c14 : PySem.W.codeIn K cd14 "_law_begin" = true) (k14 : PySem.W.keepIn K (.ref f14) = true)
    (a15 : PySem.W.nsIn K mainGlobals "_law_take" = some (some (.ref f15))) (l15 : K.lookup f15 = some ⟨oc15, od15, .func (PySem.W.fnOf "_law_take" "_law_take" (defArgs s__law_take) (defBody s__law_take) (defScope s__law_take) .none kV15 dc15 pm15 an15 cd15 ct15), sl15⟩) (c15 : PySem.W.codeIn K cd15 "_law_take" = true) (k15 : PySem.W.keepIn K (.ref f15) = true)
    (a16 : PySem.W.nsIn K mainGlobals "_law_pieces" = some (some (.ref f16))) (l16 : K.lookup f16 = some ⟨oc16, od16, .func (PySem.W.fnOf "_law_pieces" "_law_pieces" (defArgs s__law_pieces) (defBody s__law_pieces) (defScope s__law_pieces) .none kV16 dc16 pm16 an16 cd16 ct16), sl16⟩) (c16 : PySem.W.codeIn K cd16 "_law_pieces" = true) (k16 : PySem.W.keepIn K (.ref f16) = true)
    (a17 : PySem.W.nsIn K mainGlobals "_law_name" = some (some (.ref f17))) (l17 : K.lookup f17 = some ⟨oc17, od17, .func (PySem.W.fnOf "_law_name" "_law_name" (defArgs s__law_name) (defBody s__law_name) (defScope s__law_name) .none kV17 dc17 pm17 an17 cd17 ct17), sl17⟩) (c17 : PySem.W.codeIn K cd17 "_law_name" = true) (k17 : PySem.W.keepIn K (.ref f17) = true)
    (a18 : PySem.W.nsIn K mainGlobals "_law_entered" = some (some (.ref f18))) (l18 : K.lookup f18 = some ⟨oc18, od18, .func (PySem.W.fnOf "_law_entered" "_law_entered" (defArgs s__law_entered) (defBody s__law_entered) (defScope s__law_entered) .none kV18 dc18 pm18 an18 cd18 ct18), sl18⟩) (c18 : PySem.W.codeIn K cd18 "_law_entered" = true) (k18 : PySem.W.keepIn K (.ref f18) = true)
    (a19 : PySem.W.nsIn K mainGlobals "_law_through" = some (some (.ref f19))) (l19 : K.lookup f19 = some ⟨oc19, od19, .func (PySem.W.fnOf "_law_through" "_law_through" (defArgs s__law_through) (defBody s__law_through) (defScope s__law_through) .none kV19 dc19 pm19 an19 cd19 ct19), sl19⟩) (c19 : PySem.W.codeIn K cd19 "_law_through" = true) (k19 : PySem.W.keepIn K (.ref f19) = true)
    (a20 : PySem.W.nsIn K mainGlobals "_law_out" = some (some (.ref f20))) (l20 : K.lookup f20 = some ⟨oc20, od20, .func (PySem.W.fnOf "_law_out" "_law_out" (defArgs s__law_out) (defBody s__law_out) (defScope s__law_out) .none kV20 dc20 pm20 an20 cd20 ct20), sl20⟩) (c20 : PySem.W.codeIn K cd20 "_law_out" = true) (k20 : PySem.W.keepIn K (.ref f20) = true)
    (a21 : PySem.W.nsIn K mainGlobals "_law_all_right" = some (some (.ref f21))) (l21 : K.lookup f21 = some ⟨oc21, od21, .func (PySem.W.fnOf "_law_all_right" "_law_all_right" (defArgs s__law_all_right) (defBody s__law_all_right) (defScope s__law_all_right) .none kV21 dc21 pm21 an21 cd21 ct21), sl21⟩) (c21 : PySem.W.codeIn K cd21 "_law_all_right" = true) (k21 : PySem.W.keepIn K (.ref f21) = true)
    (a22 : PySem.W.nsIn K mainGlobals "law" = some (some (.ref f22))) (l22 : K.lookup f22 = some ⟨oc22, od22, .func (PySem.W.fnOf "law" "law" (defArgs s_law) (defBody s_law) (defScope s_law) .none kV22 dc22 pm22 an22 cd22 ct22), sl22⟩) (c22 : PySem.W.codeIn K cd22 "law" = true) (k22 : PySem.W.keepIn K (.ref f22) = true)
    (z1 : PySem.W.nsIn K mainGlobals "len" = some none)
    (z2 : PySem.W.nsIn K mainGlobals "divmod" = some none)
    (z3 : PySem.W.nsIn K mainGlobals "range" = some none)
    (z4 : PySem.W.nsIn K mainGlobals "sum" = some none)
    (z5 : PySem.W.nsIn K mainGlobals "all" = some none)
    (z6 : PySem.W.nsIn K mainGlobals "any" = some none)
    (z7 : PySem.W.nsIn K mainGlobals "isinstance" = some none)
    (z8 : PySem.W.nsIn K mainGlobals "str" = some none)
    (z9 : PySem.W.nsIn K mainGlobals "int" = some none)
    (z10 : PySem.W.nsIn K mainGlobals "list" = some none)
    (z11 : PySem.W.nsIn K mainGlobals "tuple" = some none)
    (z12 : PySem.W.nsIn K mainGlobals "bool" = some none)
    (z13 : PySem.W.nsIn K mainGlobals "zip" = some none)
    (z14 : PySem.W.nsIn K mainGlobals "set" = some none)
    (z15 : PySem.W.nsIn K mainGlobals "sorted" = some none)
    (z16 : PySem.W.nsIn K mainGlobals "enumerate" = some none)
    (z17 : PySem.W.nsIn K mainGlobals "repr" = some none)
    (z18 : PySem.W.nsIn K mainGlobals "min" = some none)
    (z19 : PySem.W.nsIn K mainGlobals "max" = some none)
    (z20 : PySem.W.nsIn K mainGlobals "abs" = some none)
    (hne0 : pT6 ≠ pT10)
    (zD : PySem.W.nsIn K mainGlobals "dict" = some none)
    (qaTn : PySem.W.nsIn K mainGlobals "Tunnel" = some (some (.ref CTn)))
    (ani : PySem.W.findIn K (.ref CTn) "__init__" = some (some (.ref fni)))
    (ini : PySem.W.isFn K (.ref fni) = true)
    (lni : K.lookup fni = some ⟨ocni, odni, .func (PySem.W.fnOf "__init__" "Tunnel.__init__" (defArgs s_ni) (defBody s_ni) (defScope s_ni) (.ref Tni) kVni dcni pmni anni cdni ctni), slni⟩)
    (cni : PySem.W.codeIn K cdni "Tunnel.__init__" = true)
    (kni : PySem.W.keepIn K (.ref fni) = true)
    (tni : K.lookup Tni = some ⟨ocTni, odTni, .seq #[.int 0 tkni_0] nTni, slTni⟩)
    (ane : PySem.W.findIn K (.ref CTn) "enter" = some (some (.ref fne)))
    (ine : PySem.W.isFn K (.ref fne) = true)
    (lne : K.lookup fne = some ⟨ocne, odne, .func (PySem.W.fnOf "enter" "Tunnel.enter" (defArgs s_ne) (defBody s_ne) (defScope s_ne) (.ref Tne) kVne dcne pmne anne cdne ctne), slne⟩)
    (cne : PySem.W.codeIn K cdne "Tunnel.enter" = true)
    (kne : PySem.W.keepIn K (.ref fne) = true)
    (tne : K.lookup Tne = some ⟨ocTne, odTne, .seq #[.int 8 tkne_0] nTne, slTne⟩)
    (ant : PySem.W.findIn K (.ref CTn) "tick" = some (some (.ref fnt)))
    (int : PySem.W.isFn K (.ref fnt) = true)
    (lnt : K.lookup fnt = some ⟨ocnt, odnt, .func (PySem.W.fnOf "tick" "Tunnel.tick" (defArgs s_nt) (defBody s_nt) (defScope s_nt) (.ref Tnt) kVnt dcnt pmnt annt cdnt ctnt), slnt⟩)
    (cnt : PySem.W.codeIn K cdnt "Tunnel.tick" = true)
    (knt : PySem.W.keepIn K (.ref fnt) = true)
    (tnt : K.lookup Tnt = some ⟨ocTnt, odTnt, .seq #[.int 1 tknt_0] nTnt, slTnt⟩)
    (anw : PySem.W.findIn K (.ref CTn) "now" = some (some (.ref fnw)))
    (inw : PySem.W.isFn K (.ref fnw) = true)
    (lnw : K.lookup fnw = some ⟨ocnw, odnw, .func (PySem.W.fnOf "now" "Tunnel.now" (defArgs s_nw) (defBody s_nw) (defScope s_nw) .none kVnw dcnw pmnw annw cdnw ctnw), slnw⟩)
    (cnw : PySem.W.codeIn K cdnw "Tunnel.now" = true)
    (knw : PySem.W.keepIn K (.ref fnw) = true)
    (anl : PySem.W.findIn K (.ref CTn) "__len__" = some (some (.ref fnl)))
    (inl : PySem.W.isFn K (.ref fnl) = true)
    (lnl : K.lookup fnl = some ⟨ocnl, odnl, .func (PySem.W.fnOf "__len__" "Tunnel.__len__" (defArgs s_nl) (defBody s_nl) (defScope s_nl) .none kVnl dcnl pmnl annl cdnl ctnl), slnl⟩)
    (cnl : PySem.W.codeIn K cdnl "Tunnel.__len__" = true)
    (knl : PySem.W.keepIn K (.ref fnl) = true)
    (ans : PySem.W.findIn K (.ref CTn) "inside" = some (some (.ref fns)))
    (ins : PySem.W.isFn K (.ref fns) = true)
    (lns : K.lookup fns = some ⟨ocns, odns, .func (PySem.W.fnOf "inside" "Tunnel.inside" (defArgs s_ns) (defBody s_ns) (defScope s_ns) .none kVns dcns pmns anns cdns ctns), slns⟩)
    (cns : PySem.W.codeIn K cdns "Tunnel.inside" = true)
    (kns : PySem.W.keepIn K (.ref fns) = true)
    (pgTn : PySem.W.plainGet K CTn Str.empty = true)
    (hdTn : PySem.W.hasDictIn K CTn = true)
    (poTn : PySem.W.plainOver K CTn = true)
    (saTn : PySem.W.findIn K (.ref CTn) "__setattr__" = some (some (.builtin "object.__setattr__")))
    (mkTn : PySem.W.makesIn K CTn = true)
    (kcTn : PySem.W.keepIn K (.ref CTn) = true)
    (nTn0 : PySem.W.findIn K (.ref CTn) "slots" = some none)
    (nTn1 : PySem.W.findIn K (.ref CTn) "hour" = some none)
    (nTn2 : PySem.W.findIn K (.ref CTn) "held" = some none)
    (icTn : PySem.W.findIn K (.ref CTn) "__class__" = some (some (.builtin "object.__class__")))
    (isTn : PySem.W.specialIn K (.builtin "object.__class__") "__get__" = some (some (.builtin "getset_descriptor.__get__")))
    (ikTn : PySem.W.takesIn K (.builtin "object.__class__") = some true)
    (imTn : PySem.W.mroIn K CTn (.type "object") = some true)
    (inTn : PySem.W.findIn K (.ref CTn) "__ne__" = some (some (.builtin "object.__ne__")))
    (s4 : PySem.W.nsIn K cStatics "thirdparty.any" = some none)
    (s5 : (l.prog.main.scope.names.lookup ("super" : Str)).isSome = false)
    (hS : PySem.W.nsIn K mainGlobals "super" = some none)
    (e6z : PySem.W.specialIn K (.builtin "object.__class__") "__get__" = some (some (.builtin "getset_descriptor.__get__")))
    (e7 : PySem.W.takesIn K (.builtin "object.__class__") = some true)
    (hCF : PySem.W.nsIn K mainGlobals "Full" = some (some (.ref CF)))
    (xIF : PySem.W.excInitIn K CF veTail "ValueError.__new__" = true)
    (x1F : PySem.W.findIn K (.ref CF) "__setattr__" = some (some (.builtin "object.__setattr__")))
    (bCF : PySem.W.subIn K (.ref CF) (.type "BaseException") = some true)
    (tCF : PySem.W.typeIn K (.ref CF) = some (.type "type"))
    (kCF : PySem.W.keepIn K (.ref CF) = true)
    (xcF : PySem.W.clsIn K CF = some cdNF)
    (xmF : cdNF.mro = .ref CF :: .ref cH :: veTail)
    (sBF : PySem.W.subIn K (.ref CF) (.type "ValueError") = some true)
    (s3F : PySem.W.mroIn K CF (.ref CF) = some true)
    (iNF : PySem.W.findIn K (.ref CF) "__init__" = some (some (.ref fIF)))
    (tIF : PySem.W.typeIn K (.ref fIF) = some (.type "function"))
    (f0F : PySem.W.findIn K (.ref CF) "slots" = some none)
    (lIF : K.lookup fIF = some ⟨ocIF, odIF, .func (PySem.W.ksFn "__init__" "Full.__init__" (defArgs s_Full) (defBody s_Full) (defScope s_Full) .none kVIF dcIF pmIF anIF (.ref cdaF) ctIF ccF), slIF⟩)
    (cIF : PySem.W.codeIn K (.ref cdaF) "Full.__init__" = true)
    (lcF : K.lookup ccF = some ⟨clcF, cdcF, .cell (some (.ref CF)), slcF⟩)
    (ldF : K.lookup cdaF = some ⟨cclF, cddF, .fields wsF, ccsF⟩)
    (w2F : wsF[2]? = some (.str fileF tfF))
    (flF : ((l.prog.main.file : Str) == fileF) = true)
    (e1F : PySem.W.findIn K (.ref CF) "__getattribute__" = some (some (.builtin "BaseException.__getattribute__")))
    (e2F : PySem.W.findIn K (.ref CF) "__getattr__" = some none)
    (e4F : PySem.W.hasDictIn K CF = true)
    (e5F : PySem.W.findIn K (.ref CF) "__class__" = some (some (.builtin "object.__class__")))
    (e8F : PySem.W.mroIn K CF (.type "object") = some true)
    (sCF : PySem.W.subIn K (.ref CF) (.ref CF) = some true)
    (xcH : PySem.W.clsIn K cH = some cdH)
    (xmH : cdH.mro = .ref cH :: veTail)
    (fiH : PySem.W.findIn K (.ref cH) "__init__" = some (some (.builtin "ValueError.__init__")))
    : ∃ (fd : FuncData) (cs : List (Addr × Addr)) (sp : Sp), (∀ p ∈ cs, h.get? p.2 = some (PySem.W.tabObj #[])) ∧ (∀ p ∈ cs, K.lookup p.2 = none) ∧ (∀ p ∈ cs, PySem.W.CodeHd h p.1 p.2) ∧ (∀ (s : Shared) (v : Value), BindsTo s fd ⟨[v], []⟩ [("_law_script", v)]) ∧
      (∀ (H : Hp) (a : Addr) (ns : List Int), ns.length ≤ 63 → (∀ p ∈ cs, H p.2 = some (.tbl #[])) → SqL K H a (ns.map V.int) → sp [.ref a] H (fun v _ => v = .bl true) E0) ∧
      ∀ base : Heap, K.In base → base.Ns mainGlobals mg → (∀ p ∈ cs, LamX.TabB base mg p.1 p.2) → FnG l.prog w K mg base 7 fa fd ["_law_script"] sp := by
  have e := hfa.symm.trans (PySem.W.mg_of X G a22)
  cases e
  have T : Txt mg := ⟨PySem.W.mg_none_of X G z1, PySem.W.mg_none_of X G z2, PySem.W.mg_none_of X G z3, PySem.W.mg_none_of X G z4, PySem.W.mg_none_of X G z5, PySem.W.mg_none_of X G z6, PySem.W.mg_none_of X G z7, PySem.W.mg_none_of X G z8, PySem.W.mg_none_of X G z9, PySem.W.mg_none_of X G z10, PySem.W.mg_none_of X G z11, PySem.W.mg_none_of X G z12, PySem.W.mg_none_of X G z13, PySem.W.mg_none_of X G z14, PySem.W.mg_none_of X G z15, PySem.W.mg_none_of X G z16, PySem.W.mg_none_of X G z17, PySem.W.mg_none_of X G z18, PySem.W.mg_none_of X G z19, PySem.W.mg_none_of X G z20⟩
  have F1 := fun_mk (st := s_in_at) l1 c1 k1
  have b1 := F1.binds (ps := ["pieces", "hour"]) fun _ _ _ _ _ _ us hl => match us, hl with | [_, _], _ => rfl
  have g1 := PySem.W.mg_of X G a1
  have F2 := fun_mk (st := s_is_in) l2 c2 k2
  have b2 := F2.binds (ps := ["piece", "hour"]) fun _ _ _ _ _ _ us hl => match us, hl with | [_, _], _ => rfl
  have g2 := PySem.W.mg_of X G a2
  have F3 := fun_mk (st := s_out_at) l3 c3 k3
  have b3 := F3.binds (ps := ["piece"]) fun _ _ _ _ _ _ us hl => match us, hl with | [_], _ => rfl
  have g3 := PySem.W.mg_of X G a3
  have F4 := fun_mk (st := s_most_in) l4 c4 k4
  have b4 := F4.binds (ps := ["pieces"]) fun _ _ _ _ _ _ us hl => match us, hl with | [_], _ => rfl
  have g4 := PySem.W.mg_of X G a4
  have F5 := fun_mk (st := s_hours_of_coming) l5 c5 k5
  have b5 := F5.binds (ps := ["pieces"]) fun _ _ _ _ _ _ us hl => match us, hl with | [_], _ => rfl
  have g5 := PySem.W.mg_of X G a5
  have F6 := fun_mk (st := s_by_coming) l6 c6 k6
  have b6 := F6.binds (ps := ["pieces"]) fun _ _ _ _ _ _ us hl => match us, hl with | [_], _ => rfl
  have g6 := PySem.W.mg_of X G a6
  have F7 := fun_mk (st := s_slotted) l7 c7 k7
  have b7 := F7.binds (ps := ["pieces"]) fun _ _ _ _ _ _ us hl => match us, hl with | [_], _ => rfl
  have g7 := PySem.W.mg_of X G a7
  have F8 := fun_mk (st := s_least_free) l8 c8 k8
  have b8 := F8.binds (ps := ["taken"]) fun _ _ _ _ _ _ us hl => match us, hl with | [_], _ => rfl
  have g8 := PySem.W.mg_of X G a8
  have F9 := fun_mk (st := s_most_cooled) l9 c9 k9
  have b9 := F9.binds (ps := ["pieces", "slots"]) fun _ _ _ _ _ _ us hl => match us, hl with | [_, _], _ => rfl
  have g9 := PySem.W.mg_of X G a9
  have F10 := fun_mk (st := s_kept_in) l10 c10 k10
  have b10 := F10.binds (ps := ["pieces", "slots"]) fun _ _ _ _ _ _ us hl => match us, hl with | [_, _], _ => rfl
  have g10 := PySem.W.mg_of X G a10
  have F11 := fun_mk (st := s_scarce_hours) l11 c11 k11
  have b11 := F11.binds (ps := ["pieces", "slots"]) fun _ _ _ _ _ _ us hl => match us, hl with | [_, _], _ => rfl
  have g11 := PySem.W.mg_of X G a11
  have F12 := fun_mk (st := s_missed) l12 c12 k12
  have b12 := F12.binds (ps := ["pieces", "ahead", "behind"]) fun _ _ _ _ _ _ us hl => match us, hl with | [_, _, _], _ => rfl
  have g12 := PySem.W.mg_of X G a12
  have F13 := fun_mk (st := s_bound_by) l13 c13 k13
  have b13 := F13.binds (ps := ["pieces", "slots", "hours"]) fun _ _ _ _ _ _ us hl => match us, hl with | [_, _, _], _ => rfl
  have g13 := PySem.W.mg_of X G a13
  have F14 := fun_mk (st := s__law_begin) l14 c14 k14
  have b14 := F14.binds (ps := ["_law_script", "_law_k"]) fun _ _ _ _ _ _ us hl => match us, hl with | [_, _], _ => rfl
  have g14 := PySem.W.mg_of X G a14
  have F15 := fun_mk (st := s__law_take) l15 c15 k15
  have b15 := F15.binds (ps := ["_law_state", "_law_many"]) fun _ _ _ _ _ _ us hl => match us, hl with | [_, _], _ => rfl
  have g15 := PySem.W.mg_of X G a15
  have F16 := fun_mk (st := s__law_pieces) l16 c16 k16
  have b16 := F16.binds (ps := ["_law_state", "_law_most"]) fun _ _ _ _ _ _ us hl => match us, hl with | [_, _], _ => rfl
  have g16 := PySem.W.mg_of X G a16
  have F17 := fun_mk (st := s__law_name) l17 c17 k17
  have b17 := F17.binds (ps := ["_law_number"]) fun _ _ _ _ _ _ us hl => match us, hl with | [_], _ => rfl
  have g17 := PySem.W.mg_of X G a17
  have F18 := fun_mk (st := s__law_entered) l18 c18 k18
  have b18 := F18.binds (ps := ["_law_tunnel", "_law_name_here", "_law_cool"]) fun _ _ _ _ _ _ us hl => match us, hl with | [_, _, _], _ => rfl
  have g18 := PySem.W.mg_of X G a18
  have F19 := fun_mk (st := s__law_through) l19 c19 k19
  have b19 := F19.binds (ps := ["_law_pieces_here", "_law_slots", "_law_numbers"]) fun _ _ _ _ _ _ us hl => match us, hl with | [_, _, _], _ => rfl
  have g19 := PySem.W.mg_of X G a19
  have F20 := fun_mk (st := s__law_out) l20 c20 k20
  have b20 := F20.binds (ps := ["_law_pieces_here", "_law_got"]) fun _ _ _ _ _ _ us hl => match us, hl with | [_, _], _ => rfl
  have g20 := PySem.W.mg_of X G a20
  have F21 := fun_mk (st := s__law_all_right) l21 c21 k21
  have b21 := F21.binds (ps := ["_law_pieces_here", "_law_most"]) fun _ _ _ _ _ _ us hl => match us, hl with | [_, _], _ => rfl
  have g21 := PySem.W.mg_of X G a21
  have F22 := fun_mk (st := s_law) l22 c22 k22
  refine ⟨PySem.W.fnOf "law" "law" (defArgs s_law) (defBody s_law) (defScope s_law) .none kV22 dc22 pm22 an22 cd22 ct22, [(cT6, pT6), (cT10, pT10)], spLaw K pT6 pT10, (fun p hp => by
    simp only [List.mem_cons, List.not_mem_nil, or_false] at hp
    rcases hp with rfl | rfl
    · exact h6
    · exact h10), (fun p hp => by
    simp only [List.mem_cons, List.not_mem_nil, or_false] at hp
    rcases hp with rfl | rfl
    · exact n6
    · exact n10), (fun p hp => by
    simp only [List.mem_cons, List.not_mem_nil, or_false] at hp
    rcases hp with rfl | rfl
    · exact PySem.W.codeHd_of_K X e6
    · exact PySem.W.codeHd_of_K X e10), fun s v => .of_eq rfl, (fun H a ns hl hT hS => ⟨a, ns, rfl, hS, hl, (fun p hp => by
    (try unfold TT at hp)
    simp only [List.mem_cons, List.not_mem_nil, or_false] at hp
    rcases hp with rfl | rfl
    · exact LamX.TabS.nil (hT (cT6, pT6) (by simp))
    · exact LamX.TabS.nil (hT (cT10, pT10) (by simp))), fun _ => rfl⟩), fun base _ _ hTB => ?_⟩
  have TB6 := hTB (cT6, pT6) (by simp)
  have TB10 := hTB (cT10, pT10) (by simp)
  have Fni : FunVQ K "__init__" "Tunnel.__init__" s_ni [.int 0] fni _ := ⟨⟨_, _, _, _, _, _, _, _, _, _, rfl, lni, cni, .inr ⟨(by intro z; cases z), Tni, _, [_], _, rfl, tni, rfl, .cons (⟨_, rfl⟩) (.nil)⟩, .inl rfl⟩, kni⟩
  obtain ⟨dsni_0, vni_0, bni_0⟩ := FunD.binds1 (ps := ["self", "slots", "hour"]) Fni 3 1 (by intro z; cases z) rfl (fun T kV doc pm an cdv ct us its hu hi => match us, hu, its, hi with | [_, _, _], _, [_], _ => ⟨_, rfl, rfl⟩)
  obtain ⟨dsni_1, vni_1, bni_1⟩ := FunD.binds1 (ps := ["self", "slots", "hour"]) Fni 2 0 (by intro z; cases z) rfl (fun T kV doc pm an cdv ct us its hu hi => match us, hu, its, hi with | [_, _], _, [_], _ => ⟨_, rfl, rfl⟩)
  have Fne : FunVQ K "enter" "Tunnel.enter" s_ne [.int 8] fne _ := ⟨⟨_, _, _, _, _, _, _, _, _, _, rfl, lne, cne, .inr ⟨(by intro z; cases z), Tne, _, [_], _, rfl, tne, rfl, .cons (⟨_, rfl⟩) (.nil)⟩, .inl rfl⟩, kne⟩
  obtain ⟨dsne_0, vne_0, bne_0⟩ := FunD.binds1 (ps := ["self", "name", "cool"]) Fne 3 1 (by intro z; cases z) rfl (fun T kV doc pm an cdv ct us its hu hi => match us, hu, its, hi with | [_, _, _], _, [_], _ => ⟨_, rfl, rfl⟩)
  obtain ⟨dsne_1, vne_1, bne_1⟩ := FunD.binds1 (ps := ["self", "name", "cool"]) Fne 2 0 (by intro z; cases z) rfl (fun T kV doc pm an cdv ct us its hu hi => match us, hu, its, hi with | [_, _], _, [_], _ => ⟨_, rfl, rfl⟩)
  have Fnt : FunVQ K "tick" "Tunnel.tick" s_nt [.int 1] fnt _ := ⟨⟨_, _, _, _, _, _, _, _, _, _, rfl, lnt, cnt, .inr ⟨(by intro z; cases z), Tnt, _, [_], _, rfl, tnt, rfl, .cons (⟨_, rfl⟩) (.nil)⟩, .inl rfl⟩, knt⟩
  obtain ⟨dsnt_0, vnt_0, bnt_0⟩ := FunD.binds1 (ps := ["self", "many"]) Fnt 2 1 (by intro z; cases z) rfl (fun T kV doc pm an cdv ct us its hu hi => match us, hu, its, hi with | [_, _], _, [_], _ => ⟨_, rfl, rfl⟩)
  obtain ⟨dsnt_1, vnt_1, bnt_1⟩ := FunD.binds1 (ps := ["self", "many"]) Fnt 1 0 (by intro z; cases z) rfl (fun T kV doc pm an cdv ct us its hu hi => match us, hu, its, hi with | [_], _, [_], _ => ⟨_, rfl, rfl⟩)
  have Fnw := fun_mk (st := s_nw) lnw cnw knw
  have bnw := Fnw.binds (ps := ["self"]) fun _ _ _ _ _ _ us hl => match us, hl with | [_], _ => rfl
  have Fnl := fun_mk (st := s_nl) lnl cnl knl
  have bnl := Fnl.binds (ps := ["self"]) fun _ _ _ _ _ _ us hl => match us, hl with | [_], _ => rfl
  have Fns := fun_mk (st := s_ns) lns cns kns
  have bns := Fns.binds (ps := ["self"]) fun _ _ _ _ _ _ us hl => match us, hl with | [_], _ => rfl
  have clTn : Cls K CTn := ⟨pgTn, hdTn, poTn, saTn⟩
  have meTn : PySem.W.kitOne K (.ref CTn) (.ref CTn) = some true := by
    show (if (Value.ref CTn == Value.ref CTn) = true then some true else _) = some true
    rw [if_pos (by simp)]
  have insTn : C8.InsC K CTn := ⟨clTn, icTn, isTn, ikTn, imTn, meTn⟩
  have TK : TnK K mg CTn := ⟨clTn, nTn0, nTn1, nTn2, PySem.W.mg_of X G qaTn⟩
  have FSF : RSup.FunS l.prog K "__init__" "Full.__init__" s_Full fIF CF _ := ⟨⟨_, _, _, _, _, _, _, _, _, _, _, _, _, _, _, _, _, _, _, rfl, lIF, cIF, lcF, ldF, w2F, flF⟩⟩
  have FLK : FlK l.prog K mg CF fIF := ⟨PySem.W.mg_of X G hCF, ⟨oex_of xIF e4F, x1F, bCF, tCF, kCF⟩, ⟨PySem.W.kxs_ValueError, super_he xcF xmF xcH xmH fiH, sBF, s3F, s4, PySem.W.mg_none_of X G hS, s5⟩, iNF, tIF, f0F⟩
  have c_Full : FlR l.prog w K mg base 1 CF := ⟨fIF, _, FLK, ok_fl (k := 0) FSF FLK, binds_fl FSF⟩
  have L_Dct : Dct mg := PySem.W.mg_none_of X G zD
  have c_least_free : Cl l.prog w K mg base 1 "least_free" ((spFree K)) := ⟨_, _, _, ok_free F8 T, g8, F8.kp, b8⟩
  have O : TunC l.prog w K mg base CTn CF := ⟨TK, ⟨_, _, _, _, ⟨mkTn, ani, ini, kcTn⟩, ok_ni (k := 0) Fni TK, PySem.W.mg_of X G qaTn, bni_0, vni_0⟩,
    ⟨_, _, _, _, clTn, ⟨ane, ine, kne⟩, ok_ne (k := 0) Fne TK c_Full c_least_free, bne_0, vne_0⟩,
    ⟨_, _, _, _, clTn, ⟨ant, int, knt⟩, ok_nt (k := 0) Fnt T TK, bnt_0, vnt_0⟩, ⟨_, _, _, _, clTn, ⟨ans, ins, kns⟩, ok_nsd (k := 0) Fns T TK, bns, .nil⟩, ⟨_, _, _, _, clTn, ⟨anw, inw, knw⟩, ok_nn (k := 0) Fnw TK, bnw, .nil⟩, own_of ⟨anl, inl, knl⟩ (ok_nl (k := 0) Fnl T TK) bnl, PySem.W.mg_of X G hCF, PySem.W.exm_ref bCF e4F tCF sCF⟩
  have c__law_take : Cl l.prog w K mg base 1 "_law_take" (spTake) := ⟨_, _, _, ok_take F15 T, g15, F15.kp, b15⟩
  have c__law_begin : Cl l.prog w K mg base 1 "_law_begin" ((spBegin K)) := ⟨_, _, _, ok_begin F14 T, g14, F14.kp, b14⟩
  have c__law_pieces : Cl l.prog w K mg base 2 "_law_pieces" ((spPieces K)) := ⟨_, _, _, ok_pieces F16 T c__law_take, g16, F16.kp, b16⟩
  have c_out_at : Cl l.prog w K mg base 1 "out_at" ((spOut K)) := ⟨_, _, _, ok_out F3, g3, F3.kp, b3⟩
  have c_is_in : Cl l.prog w K mg base 2 "is_in" ((spIn K)) := ⟨_, _, _, ok_in F2 c_out_at, g2, F2.kp, b2⟩
  have c_in_at : Cl l.prog w K mg base 3 "in_at" ((spAt K)) := ⟨_, _, _, ok_at F1 T c_is_in, g1, F1.kp, b1⟩
  have c_hours_of_coming : Cl l.prog w K mg base 1 "hours_of_coming" ((spHrs K)) := ⟨_, _, _, ok_hrs F5 T, g5, F5.kp, b5⟩
  have c_most_in : Cl l.prog w K mg base 4 "most_in" ((spMost K)) := ⟨_, _, _, ok_most F4 T c_in_at c_hours_of_coming, g4, F4.kp, b4⟩
  have c__law_name : Cl l.prog w K mg base 1 "_law_name" (spNm) := ⟨_, _, _, ok_nm F17 T, g17, F17.kp, b17⟩
  have c__law_entered : Cl l.prog w K mg base 4 "_law_entered" ((spEnt K CTn)) := ⟨_, _, _, ok_ent F18 T O, g18, F18.kp, b18⟩
  have c__law_through : Cl l.prog w K mg base 5 "_law_through" ((spThr K CTn)) := ⟨_, _, _, ok_thr F19 T O c__law_name c__law_entered, g19, F19.kp, b19⟩
  have c__law_out : Cl l.prog w K mg base 2 "_law_out" ((spLOut K)) := ⟨_, _, _, ok_lout F20 T c__law_name, g20, F20.kp, b20⟩
  have c_by_coming : Cl l.prog w K mg base 2 "by_coming" ((spBy K pT6 pT10)) := ⟨_, _, _, ok_by F6 rfl T TB6 hne0, g6, F6.kp, b6⟩
  have c_slotted : Cl l.prog w K mg base 3 "slotted" ((spSlot K pT6 pT10)) := ⟨_, _, _, ok_slot F7 T c_by_coming c_is_in c_least_free, g7, F7.kp, b7⟩
  have c__law_all_right : Cl l.prog w K mg base 6 "_law_all_right" ((spLR K pT6 pT10)) := ⟨_, _, _, ok_lr F21 T L_Dct c__law_name c__law_through c__law_out c_slotted c_in_at, g21, F21.kp, b21⟩
  have c_kept_in : Cl l.prog w K mg base 4 "kept_in" ((spKept K pT6 pT10)) := ⟨_, _, _, ok_kept F10 rfl T TB10 hne0 c_by_coming c_is_in c_out_at, g10, F10.kp, b10⟩
  have c_missed : Cl l.prog w K mg base 2 "missed" ((spMiss K)) := ⟨_, _, _, ok_miss F12 T c_out_at, g12, F12.kp, b12⟩
  have c_scarce_hours : Cl l.prog w K mg base 3 "scarce_hours" ((spSc K)) := ⟨_, _, _, ok_sc F11 T c_hours_of_coming c_missed, g11, F11.kp, b11⟩
  have c_most_cooled : Cl l.prog w K mg base 5 "most_cooled" ((spMC K pT6 pT10)) := ⟨_, _, _, ok_mc F9 c_kept_in c_scarce_hours, g9, F9.kp, b9⟩
  have c_bound_by : Cl l.prog w K mg base 3 "bound_by" ((spBnd K)) := ⟨_, _, _, ok_bnd F13 T c_is_in, g13, F13.kp, b13⟩
  exact ok_law F22 T c__law_take c__law_begin c__law_pieces c_most_in c__law_all_right c_most_cooled c__law_through c__law_out c_bound_by
end Pot
open PySem PySem.W PyProof.Rows
set_option maxRecDepth 100000 in
set_option maxHeartbeats 0 in
theorem PySem.Challenge.cw_potround_k85_whole_each_piece_through_th_holds : PySem.Challenge.rw_potround_k85_whole_each_piece_through_th.Holds := by
  w_on; o_law; k_head; (case hw => w_witness2)
  k_fill
  refine Pot.walkGT (l := PySem.Challenge.rw_potround_k85_whole_each_piece_through_th) (n := 63) (k := 7) (x := "_law_script") rfl (by decide) rfl ⟨rfl, by decide, by decide⟩ (fun w h Y => PySem.W.km_in_of Y) ?F
  case F =>
    intro w mg fa h Y KX G hmg
    refine' Pot.all_mk KX G hmg ?a1 ?l1 ?c1 ?k1 ?a2 ?l2 ?c2 ?k2 ?a3 ?l3 ?c3 ?k3 ?a4 ?l4 ?c4 ?k4 ?a5 ?l5 ?c5 ?k5 ?a6 ?l6 ?c6 ?k6 ?m6 ?u6 ?e6 ?n6 ?h6 ?a7 ?l7 ?c7 ?k7 ?a8 ?l8 ?c8 ?k8 ?a9 ?l9 ?c9 ?k9 ?a10 ?l10 ?c10 ?k10 ?m10 ?u10 ?e10 ?n10 ?h10 ?a11 ?l11 ?c11 ?k11 ?a12 ?l12 ?c12 ?k12 ?a13 ?l13 ?c13 ?k13 ?a14 ?l14 ?c14 ?k14 ?a15 ?l15 ?c15 ?k15 ?a16 ?l16 ?c16 ?k16 ?a17 ?l17 ?c17 ?k17 ?a18 ?l18 ?c18 ?k18 ?a19 ?l19 ?c19 ?k19 ?a20 ?l20 ?c20 ?k20 ?a21 ?l21 ?c21 ?k21 ?a22 ?l22 ?c22 ?k22 ?z1 ?z2 ?z3 ?z4 ?z5 ?z6 ?z7 ?z8 ?z9 ?z10 ?z11 ?z12 ?z13 ?z14 ?z15 ?z16 ?z17 ?z18 ?z19 ?z20 ?hne0 ?zD ?qaTn ?ani ?ini ?lni ?cni ?kni ?tni ?ane ?ine ?lne ?cne ?kne ?tne ?ant ?int ?lnt ?cnt ?knt ?tnt ?anw ?inw ?lnw ?cnw ?knw ?anl ?inl ?lnl ?cnl ?knl ?ans ?ins ?lns ?cns ?kns ?pgTn ?hdTn ?poTn ?saTn ?mkTn ?kcTn ?nTn0 ?nTn1 ?nTn2 ?icTn ?isTn ?ikTn ?imTn ?inTn ?s4 ?s5 ?hS ?e6z ?e7 ?hCF ?xIF ?x1F ?bCF ?tCF ?kCF ?xcF ?xmF ?sBF ?s3F ?iNF ?tIF ?f0F ?lIF ?cIF ?lcF ?ldF ?w2F ?flF ?e1F ?e2F ?e4F ?e5F ?e8F ?sCF ?xcH ?xmH ?fiH
    (case a1 => k_is)
    (case l1 => k_is)
    (case c1 => k_is)
    (case k1 => k_is)
    (case a2 => k_is)
    (case l2 => k_is)
    (case c2 => k_is)
    (case k2 => k_is)
    (case a3 => k_is)
    (case l3 => k_is)
    (case c3 => k_is)
    (case k3 => k_is)
    (case a4 => k_is)
    (case l4 => k_is)
    (case c4 => k_is)
    (case k4 => k_is)
    (case a5 => k_is)
    (case l5 => k_is)
    (case c5 => k_is)
    (case k5 => k_is)
    (case a6 => k_is)
    (case l6 => k_is)
    (case c6 => k_is)
    (case k6 => k_is)
    (case m6 => k_is)
    (case u6 => rfl)
    (case e6 => first | k_is | kernel_rfl | decide +kernel)
    (case n6 => first | k_is | kernel_rfl | rfl | decide +kernel)
    (case h6 => exact PySem.W.km_tabs_of Y _ (by first | k_mem | decide))
    (case a7 => k_is)
    (case l7 => k_is)
    (case c7 => k_is)
    (case k7 => k_is)
    (case a8 => k_is)
    (case l8 => k_is)
    (case c8 => k_is)
    (case k8 => k_is)
    (case a9 => k_is)
    (case l9 => k_is)
    (case c9 => k_is)
    (case k9 => k_is)
    (case a10 => k_is)
    (case l10 => k_is)
    (case c10 => k_is)
    (case k10 => k_is)
    (case m10 => k_is)
    (case u10 => rfl)
    (case e10 => first | k_is | kernel_rfl | decide +kernel)
    (case n10 => first | k_is | kernel_rfl | rfl | decide +kernel)
    (case h10 => exact PySem.W.km_tabs_of Y _ (by first | k_mem | decide))
    (case a11 => k_is)
    (case l11 => k_is)
    (case c11 => k_is)
    (case k11 => k_is)
    (case a12 => k_is)
    (case l12 => k_is)
    (case c12 => k_is)
    (case k12 => k_is)
    (case a13 => k_is)
    (case l13 => k_is)
    (case c13 => k_is)
    (case k13 => k_is)
    (case a14 => k_is)
    (case l14 => k_is)
    (case c14 => k_is)
    (case k14 => k_is)
    (case a15 => k_is)
    (case l15 => k_is)
    (case c15 => k_is)
    (case k15 => k_is)
    (case a16 => k_is)
    (case l16 => k_is)
    (case c16 => k_is)
    (case k16 => k_is)
    (case a17 => k_is)
    (case l17 => k_is)
    (case c17 => k_is)
    (case k17 => k_is)
    (case a18 => k_is)
    (case l18 => k_is)
    (case c18 => k_is)
    (case k18 => k_is)
    (case a19 => k_is)
    (case l19 => k_is)
    (case c19 => k_is)
    (case k19 => k_is)
    (case a20 => k_is)
    (case l20 => k_is)
    (case c20 => k_is)
    (case k20 => k_is)
    (case a21 => k_is)
    (case l21 => k_is)
    (case c21 => k_is)
    (case k21 => k_is)
    (case a22 => k_is)
    (case l22 => k_is)
    (case c22 => k_is)
    (case k22 => k_is)
    (case z1 => k_is)
    (case z2 => k_is)
    (case z3 => k_is)
    (case z4 => k_is)
    (case z5 => k_is)
    (case z6 => k_is)
    (case z7 => k_is)
    (case z8 => k_is)
    (case z9 => k_is)
    (case z10 => k_is)
    (case z11 => k_is)
    (case z12 => k_is)
    (case z13 => k_is)
    (case z14 => k_is)
    (case z15 => k_is)
    (case z16 => k_is)
    (case z17 => k_is)
    (case z18 => k_is)
    (case z19 => k_is)
    (case z20 => k_is)
    (case hne0 => decide)
    (case zD => k_is)
    (case qaTn => k_is)
    (case ani => k_is)
    (case ini => k_is)
    (case lni => k_is)
    (case cni => k_is)
    (case kni => k_is)
    (case tni => k_is)
    (case ane => k_is)
    (case ine => k_is)
    (case lne => k_is)
    (case cne => k_is)
    (case kne => k_is)
    (case tne => k_is)
    (case ant => k_is)
    (case int => k_is)
    (case lnt => k_is)
    (case cnt => k_is)
    (case knt => k_is)
    (case tnt => k_is)
    (case anw => k_is)
    (case inw => k_is)
    (case lnw => k_is)
    (case cnw => k_is)
    (case knw => k_is)
    (case anl => k_is)
    (case inl => k_is)
    (case lnl => k_is)
    (case cnl => k_is)
    (case knl => k_is)
    (case ans => k_is)
    (case ins => k_is)
    (case lns => k_is)
    (case cns => k_is)
    (case kns => k_is)
    (case pgTn => k_is)
    (case hdTn => k_is)
    (case poTn => k_is)
    (case saTn => k_is)
    (case mkTn => k_is)
    (case kcTn => k_is)
    (case nTn0 => k_is)
    (case nTn1 => k_is)
    (case nTn2 => k_is)
    (case icTn => k_is)
    (case isTn => k_is)
    (case ikTn => k_is)
    (case imTn => k_is)
    (case inTn => k_is)
    (case s4 => k_is)
    (case s5 => first | rfl | decide +kernel | k_is)
    (case hS => k_is)
    (case e6z => k_is)
    (case e7 => k_is)
    (case hCF => k_is)
    (case xIF => first | k_is | k_exc | kx_is)
    (case x1F => k_is)
    (case bCF => k_is)
    (case tCF => k_is)
    (case kCF => k_is)
    (case xcF => k_is)
    (case xmF => first | rfl | k_is)
    (case sBF => k_is)
    (case s3F => k_is)
    (case iNF => k_is)
    (case tIF => k_is)
    (case f0F => k_is)
    (case lIF => k_is)
    (case cIF => k_is)
    (case lcF => k_is)
    (case ldF => k_is)
    (case w2F => first | rfl | k_is)
    (case flF => first | rfl | decide +kernel | k_is)
    (case e1F => k_is)
    (case e2F => k_is)
    (case e4F => k_is)
    (case e5F => k_is)
    (case e8F => k_is)
    (case sCF => k_is)
    (case xcH => k_is)
    (case xmH => first | rfl | k_is)
    (case fiH => k_is)
